import PyProof.Rows.All
import Wide.All
import OpenK.AllK
import PySem.Challenge.RW_setsays_k43_whole_tree_holds_plain
set_option compiler.extract_closed false
set_option bootstrap.genMatcherCode false
set_option genSizeOf false
set_option genSizeOfSpec false
set_option maxHeartbeats 4000000
noncomputable section
local macro_rules|`(tactic|omega)=>`(tactic|first|assumption|exact Nat.le_refl _|exact Nat.le_add_left _ _|exact Nat.le_add_right _ _|exact Nat.le_of_lt (by assumption)|exact Nat.le_of_succ_le_succ (by assumption)|exact Nat.lt_of_succ_lt (by assumption)|exact Nat.le_of_succ_le (by assumption)|exact Nat.lt_of_succ_lt_succ (by assumption)|exact Nat.le_trans (by assumption) (by decide)|exact Nat.lt_of_le_of_lt (by assumption) (by decide)|exact Nat.min_le_left _ _|decide|lia|omega+splitDisjunctions)
local macro_rules|`(tactic|let $d:letDecl)=>do
 match d with
 |`(letDecl|$p:term:=$e)=>
  let rec go:Nat->Lean.Syntax->Lean.MacroM (Lean.TSyntax `rcasesPat)
   |0,_=>Lean.Macro.throwUnsupported
   |n+1,s=>do match (⟨s⟩:Lean.Term) with
    |`(($a,$b,*))=>do
     let x<-(#[a]++b.getElems).mapM λx=>go n x.raw
     let x<-x.mapM λx=>`(Lean.Parser.Tactic.rcasesPatMed|$x:rcasesPat)
     let x:Array (Lean.TSyntax `Lean.Parser.Tactic.rcasesPatLo)<-x.mapM λx=>`(Lean.Parser.Tactic.rcasesPatLo|$x:rcasesPatMed)
     `(rcasesPat|⟨$x,*⟩)
    |`(_)=>`(rcasesPat|_)
    |`($i:ident)=>`(rcasesPat|$i:ident)
    |_=>Lean.Macro.throwUnsupported
  let q<-go 9 p
  `(tactic|obtain $q:rcasesPat:=$e)
 |_=>`(tactic|have $d:letDecl)
local macro_rules|`(tactic|show $e:term)=>`(tactic|exact $e)
local macro_rules|`(tactic|apply $e:term)=>`(tactic|refine $e)
local macro_rules|`(($a,$b,*))=>`(⟨$a,$b,*⟩)
set_option hygiene false
local macro_rules|`(tactic|nofun)=>`(tactic|first|(cases h;subst_vars;rfl)|(rcases h with ⟨_,rfl,_⟩;rfl)|(rcases h with ⟨_,_,rfl,_⟩;rfl)|(rcases h with ⟨_,_,_,rfl,_⟩;rfl)|(rcases h with ⟨_,_,_,_,rfl,_⟩;rfl)|(rcases h with ⟨_,_,_,_,_,rfl,_⟩;rfl)|(rcases h with ⟨_,_,_,_,_,_,rfl,_⟩;rfl)|(rcases h with ⟨_,_,_,_,_,_,_,rfl,_⟩;rfl)|(rcases h with ⟨_,_,_,_,_,_,_,_,rfl,_⟩;rfl))
set_option hygiene true
universe u v
theorem R{d:Sort u}{a:d}:a=a:=rfl
theorem Xp{c:Prop}{h:Decidable c}(n:¬c){d:Sort u}{t e:d}:ite c t e=e:=if_neg n
theorem Xq{c:Prop}{h:Decidable c}(n:c){d:Sort u}{t e:d}:ite c t e=t:=if_pos n
theorem Xa{a b:Prop}(h:a)(n:¬a):b:=absurd h n
theorem Xf{p:Prop}[i:Decidable p](h:¬p):decide p=false:=decide_eq_false h
theorem Xg{p:Prop}[i:Decidable p](h:p):decide p=true:=decide_eq_true h
open PySem renaming Addr → Ad,Value → Va
open Option renaming some → G,none → B
open Bool renaming true → N,false → Fa
set_option Elab.async false
set_option linter.all false
set_option maxRecDepth 100000
open List renaming length_map → y00, length_append → y02, mem_singleton → y03, mem_cons_self → y04, mem_cons → y06, mem_cons_of_mem → y08, getElem?_eq_some_iff → y09, size_toArray → y0a, length_cons → y0b, mem_of_getElem? → y0d, getElem?_eq_getElem → y0e, mem_map → y0g, length_singleton → y0i, getD_eq_getElem?_getD → y0j, not_mem_nil → y0l, getElem?_append_right → y0n, mem_append → y0o, map_cons → y0p, getElem?_append_left → y0q, getElem?_map → y0r, mem_append_right → y0s, map_append → y0t, all_eq_true → y0u, take_of_length_le → y0v, map_map → y0w, idxOf_lt_length_iff → y0x, mem_range → y11, lookup_cons → y13, length_nil → y14, getElem_mem → y16, length_take → y19, mem_filter → y1a, take_add_one → y1d, mem_append_left → y1f, getElem?_cons_succ → y1j, append_nil → y1k, length_filter_le → y1m, filter_append → y1o, any_cons → y1p, range_succ_eq_map → y1r, nodup_cons → y1t, getElem?_eq_none → y1u, find?_cons → y1v, prefix_append → y1x, all_cons → y1z, length_range → y20, filterMap_cons → y21, idxOf_cons_self → y26, append_assoc → y27, map_congr_left → y29, prefix_refl → y2a, nodup_nil → y2b, range_succ → y2d, forIn_cons → y2e, filter_congr → y2g, length_drop → y2m, cons_append → y2n, getElem_of_mem → y2o, all_map → y2p, filter_cons_of_pos → y2r, filter_cons_of_neg → y2s, drop_eq_nil_of_le → y2v, getElem?_inj → y2y, mem_iff_getElem? → y2z, length_replicate → y30, idxOf_cons → y36, map_nil → y39, getElem_idxOf → y3a, forIn_nil → y3b, sum_cons → y3e, getElem?_replicate → y3f, of_mem_zip → y3m, filter_map → y3n, length_dropLast → y3r, length_pos_iff → y3u, pairwise_cons → y3x, nodup_append → y3y, eraseIdx_eq_take_drop_succ → y3z, filter_cons → y45, any_eq_true → y46, nil_append → y47, map_id → y48, length_eraseIdx_of_lt → y4a, pairwise_iff_getElem → y4c, getElem?_take_of_lt → y4d, append_cancel_left → y4e, pairwise_lt_range → y4f, length_eq_one_iff → y4g, getElem_cons_drop → y4h, getElem?_set_self → y4i, filter_eq_nil_iff → y4j, take_append_drop → y4k
open PySem.Heap renaming get?_push_of_some → y01, get?_push_size → y0c, lt_size → y0h, size_push → y12, get?_update_other → y22, get?_update_self → y24
open Nat renaming le_refl → y05, lt_of_lt_of_le → y0k, ne_of_lt → y0m, le_trans → y0z, zero_le → y1g, not_lt_zero → y1h, lt_irrefl → y1n, pow_le_pow_right → y1q, le_of_lt → y1s, mul_le_mul_right → y1y, lt_succ_self → y23, add_le_add_right → y25, ne_of_gt → y28, lt_trans → y2c, succ_le_succ → y2l, mul_add → y2w, lt_succ_of_lt → y2x, pow_pos → y32, one_mul → y33, mul_le_mul_left → y34, add_mul → y35, lt_of_le_of_lt → y38, le_of_not_lt → y3h, le_of_succ_le_succ → y3i, pow_succ → y3k, min_eq_left → y3l, not_succ_le_zero → y3q, mul_le_mul → y3s, le_succ → y3t, add_sub_cancel → y3v, add_assoc → y3w, zero_add → y41, succ_pos → y42, sub_self → y43, le_of_eq → y44
open Bool renaming and_eq_true → y07, false_ne_true → y0f, false_and → y15, true_and → y17, false_eq_true → y1b, eq_false_iff → y1e, eq_iff_iff → y1w, or_false → y2h, and_false → y2j, not_true → y2t, and_true → y31, false_or → y3g, or_eq_true → y3p, or_true → y4l
open Int renaming toNat_natCast → y0y, emod_lt_of_pos → y10, emod_nonneg → y1c, zero_add → y3o, one_mul → y49, fdiv_eq_ediv_of_nonneg → y4b
open Option renaming map_eq_some_iff → y18, getD_some → y2k, map_some → y2q, toList_some → y37, isSome_map → y3c, isSome_iff_exists → y3d
open Array renaming length_toList → y1i, getElem?_eq_getElem → y1l, getElem?_toList → y2f, getElem?_eq_some_iff → y2i, forIn_toList → y2u, getElem?_eq_none → y3j, toList_push → y40
open PySem renaming wpAny_bind → ie, wpAny_pure → ig, Shared → ii, sizeLine → ij, Program → ik, starEach → il, compareOp → im, Paired → io, Around → iq, boot_len → ir, mainGlobals → iu, wpAny_call_entry → iw, cellsFrom → ix, wpAny_truthy_bool → iy, wpAny_newObj_type → iz, wpAny_field → i4, wpAny_mono → i5, rawInt → i6, wpAny_setField → i7, FuncData → i8, wpAny_callSpecial?_slot → i9, wpAny_holding → iA, sysModules → iC, wpAny_seqItems → iD, binaryOp → iE, wpAny_Call_Name_kw → iF, wpAny_setField_rec → iG, wpAny_setState_of → iH, wpAny_specialOf → iI, scanBound → iJ, wpAny_passesOwn → iK, letOwnedTupleGo → iL, codeAny_mono → iM, Arguments → iN, wpAny_isInstance → iO, wpAny_askSetting → iP, bootBuiltins → iQ, backTo → iR, wpAny_execs_nil → iS, codeAny_builtin → iT, wpAny_pyIter_list → iU, builtinsNs → iV, NameKind → iW, wpAny_rule → iX, SetTable → iY, codeAny → iZ, assignEach → jc, swapsWith → jd, sliceBounds → je, foldedSetIterable → jf, codeAmong → jh, wpAny_execs_cons → ji, bindArgs → jl, wpAny_setEntries_of → jn, GenState → jp, wpAny_call → jq, tupleKind_room_in1 → jr, firstArgMember → js, wpAny_fieldsOf → jt, InCallC → jv, getItem → jw, wpAny_pyIter_slot → jy, pyNext → jz, behindInMarks → j3, wpAny_standAt → j4, plainId_quiet → j5, wpAny_attempt → j6, intKind → j7, call_meets → j8, IsPair → j9, wpAny_updateSeq → jA, pyIter → jB, subscripted → jC, ZipApart → jD, wpAny_newTuple → jE, relayAll → jF, isSubtype_type → jG, tupleKind → jH, storeName → jI, callerA → jJ, valueAt → jK, wpAny_onRaise → jL, findBy → jM, IsPart → jO, typeLookup → jP, setsByText → jQ, BindsTo → jR, FuncBody → jS
open PyProof.Rows renaming boot_isinstance → iB, envOfC → jg, kindOf → jj, boot_all → jm, AllBare → jo, boot_tuple → ju, IntsAre → jx
open PySem PySem.Spec PyProof.Rows
open PySem.W (Frag)
abbrev Y0:=Va->ii->Prop
abbrev Y1:=Str->Option Va
abbrev Y2:=List<|Ad×Obj
abbrev Y3:=List<|Pos×Str
abbrev Y4:=List<|Str×Ad
abbrev Y6:=List<|Nat×Str
abbrev Y8:=Array<|Option Va
abbrev Y9:=Option Va->ii->Prop
set_option hygiene false in
local macro_rules
| `(tactic|infer_instance) => `(tactic|refine lz (by assumption) ?_;trivial;intros)
set_option hygiene false
local macro_rules|`(21)=>`(λvs H Q E h=>?_)
local macro_rules|`(22)=>`(λf cdv A outer s H vs Q E hr h=>?_)
local macro_rules|`(04)=>`(Cal P w K mg base)
local macro_rules|`(03)=>`(Inv X pins σ)
local macro_rules|`(00)=>`(by omega)
local macro_rules|`(01)=>`(by rfl)
local macro_rules|`(02)=>`(by decide)
local macro_rules|`(41)=>`(model X.prog X.w)
local macro_rules|`(06)=>`(by simp)
local macro_rules|`(08)=>`(nomark _)
local macro_rules|`(43)=>`(by decide+kernel)
local macro_rules|`(17)=>`(Or.inl rfl)
local macro_rules|`(19)=>`(p++[false])
local macro_rules|`(013)=>`(pa_c (pv 0) zaa)
local macro_rules|`(026)=>`(s.heap.objs.size+1)
local macro_rules|`(34)=>`(p++[true])
local macro_rules|`(033)=>`(pa_c (pv 2) zaa)
local macro_rules|`(07)=>`(zag K)
local macro_rules|`(44)=>`(coreS tl s)
local macro_rules|`(066)=>`(s2.heap.push {cls:=.type "list",data:=.seq ([]:List Value).toArray})
local macro_rules|`(87)=>`(model prog w)
local macro_rules|`(016)=>`(pa_c (pv 1) zaa)
local macro_rules|`(85)=>`(.inl rfl)
local macro_rules|`(09)=>`(.ref a)
local macro_rules|`(017)=>`(x==("__debug__":Str))
local macro_rules|`(96)=>`(defScope st)
local macro_rules|`(88)=>`(rds t [])
local macro_rules|`(046)=>`(.Call (.Name x p) (e::es) [] pos)
local macro_rules|`(082)=>`(k==NameKind.free&&env.scope.kind ==.function&&env.kindOf n==some .cell)
local macro_rules|`(047)=>`(pa_c (pv 3) (pa_c (pv 4) zaa))
local macro_rules|`(99)=>`(Same.refl H)
local macro_rules|`(010)=>`(.node l a b)
local macro_rules|`(105)=>`(zad (zbf (zb7 K PySem.F.plainAttrs_list PySem.F.slot_list_append PySem.F.type_list_append zbc (pv 3) (pa_c (zaq (pa_c zal (pa_c (pv 4) (pa_c (pv 5) zaa)))) zaa))))
local macro_rules|`(020)=>`(coreS (tl++[n]) s)
local macro_rules|`(37)=>`(y05 _)
local macro_rules|`(034)=>`(.ref s.heap.objs.size)
local macro_rules|`(82)=>`(.lst ys)
local macro_rules|`(084)=>`(s.heap.push {cls:=.type "set",dict:=none,data:=.set #[] 0 (.fresh 0 0 led)})
local macro_rules|`(039)=>`(pa_c (pv 3) zaa)
local macro_rules|`(45)=>`(.ref f)
local macro_rules|`(018)=>`(tl.map V.str)
local macro_rules|`(83)=>`(.of ea)
local macro_rules|`(011)=>`(model P w)
local macro_rules|`(012)=>`(A.put i S)
local macro_rules|`(053)=>`(pa_c zal (pa_c zal zaa))
local macro_rules|`(027)=>`(zaj (j:=1) rfl)
local macro_rules|`(84)=>`(.ref C)
local macro_rules|`(064)=>`(cxB X scope tn cp cl C s H fp)
local macro_rules|`(067)=>`((["","1","12","5","305"]:List Str))
local macro_rules|`(91)=>`(.ref p)
local macro_rules|`(014)=>`(CompOk.of rfl 01 01)
local macro_rules|`(86)=>`(Or.inl 01)
local macro_rules|`(059)=>`(za2 (zas K) 01 T.b_len ir 013)
local macro_rules|`(085)=>`(PySem.W.fnOf x x (defArgs st) (defBody st) 96 .none kV doc pm an cdv ct)
local macro_rules|`(028)=>`(rds_node.mpr 85)
local macro_rules|`(021)=>`(zbn (pv 0) 01)
local macro_rules|`(065)=>`(za2 (zas K) 01 T.b_len ir 016)
local macro_rules|`(030)=>`(za4 01 T.g_YES)
local macro_rules|`(019)=>`(zba I q 06)
local macro_rules|`(112)=>`(zbd (za2 zbh 01 T.b_isinstance iB (pa_c (pv 0) (pa_c (zcd (v:=.ty "tuple") 01 T.b_tuple ju 01) zaa))))
local macro_rules|`(054)=>`(ha pins s σ H _ I h)
local macro_rules|`(038)=>`(za4 01 T.g_NO)
local macro_rules|`(092)=>`((∀c o,c∉[z,ti,ro,j1,j2]->s.heap.get? c=some o->h'.get? c=some o))
local macro_rules|`(086)=>`((∀σ' H',Nq σ' H'->∃m',m'<m/\W (i+1) m' σ' H'))
local macro_rules|`(093)=>`((∀b o,b<s.heap.objs.size->s.heap.get? b=some o->h'.get? b=some o))
local macro_rules|`(070)=>`(za2 (zas K) 01 T.b_len ir 033)
local macro_rules|`(048)=>`(pa_c (pv 1) 033)
local macro_rules|`(055)=>`(upd H1 D (.lst []))
local macro_rules|`(98)=>`(.lst xs)
local macro_rules|`(040)=>`(.frz o (.own c))
local macro_rules|`(115)=>`(zae Kg hr 00 01 (pa_c (pv 0) (pa_c (pv 1) (pa_c (zav zc6 (pv 2) zac) 039))))
local macro_rules|`(094)=>`(cloFd name qual params (.stmts body) scope cl ct (.ref c') pm)
local macro_rules|`(031)=>`(List.range i)
local macro_rules|`(087)=>`(.ListComp elt [⟨tg,iter,ifs,0⟩] scope pos)
local macro_rules|`(116)=>`(zae Vs hr 00 01 (pa_c (pv 0) (pa_c (pv 1) (pa_c (zav zc6 (pv 2) zac) zaa))))
local macro_rules|`(062)=>`(List.range xs.length)
local macro_rules|`(060)=>`((false,eval e X.env))
local macro_rules|`(061)=>`(([3,3,4,2]:List Nat))
local macro_rules|`(94)=>`(.ref b)
local macro_rules|`(041)=>`(zaj (j:=2) rfl)
local macro_rules|`(035)=>`(ns.map V.int)
local macro_rules|`(95)=>`(.ref D)
local macro_rules|`(095)=>`(A.under (.builtin "type.__call__" ⟨.ref C::us,kw⟩))
local macro_rules|`(042)=>`(zad (zai zd0))
local macro_rules|`(049)=>`(mixKind prog w)
local macro_rules|`(071)=>`(ix 026 scope.names []++cl)
local macro_rules|`(050)=>`(EP X pins σ Q)
local macro_rules|`(117)=>`(s.heap.push {cls:=.type "range",data:=.fields #[.int lo t,.int hi u,.int 1 v]})
local macro_rules|`(056)=>`((88).getD x [])
local macro_rules|`(096)=>`(putF "forms" (V.ref pf) (putF "parts" (V.ref pp) []))
local macro_rules|`(118)=>`(PySem.W.fnOf x qual (defArgs st) (defBody st) 96 .none kV doc pm an cdv ct)
local macro_rules|`(022)=>`(A.put b S)
local macro_rules|`(023)=>`(.ref LA.p)
local macro_rules|`(097)=>`(zax (pa_c zac (pa_c zac (pa_c zac (pa_c zac zaa)))))
local macro_rules|`(036)=>`(mixKind P w)
local macro_rules|`(098)=>`(HT.sIx xs.length xs.length hi-HT.sIx xs.length 0 lo)
local macro_rules|`(93)=>`(zau K)
local macro_rules|`(124)=>`(za8 K (zbi (zcx K) (zae Tp hr 00 01 (pa_c (zbi (zcx K) (pv 0) (zbg zac) (zbg zac)) (pa_c zac (pa_c zac zaa)))) (zbg (zpd zhp zac)) zdg))
local macro_rules|`(083)=>`(.lst (ls.map V.int++[V.int z]))
local macro_rules|`(072)=>`((∀b,InCl cl b->H2 b=none))
local macro_rules|`(073)=>`(upd H4 D (.lst (ys++[y])))
local macro_rules|`(051)=>`(stB tn cp σ0)
local macro_rules|`(015)=>`(.tup xs)
local macro_rules|`(099)=>`(sIx items.size items.size hi-sIx items.size 0 lo)
local macro_rules|`(074)=>`(ha pos pins s σ H _ I h)
local macro_rules|`(125)=>`(⟨ok.mod,ok.kind,ok.glob,ok.blt,ok.above,ok.inj,ok.has,ok.cab,ok.hd,ok.frames,ok.stk,ok.exf,ok.bs,ok.bsz,ok.noex,ok.exfs,ok.funs,ok.frf⟩)
local macro_rules|`(029)=>`(nm _ 02)
local macro_rules|`(088)=>`(jg qual scope s.heap.objs.size f cd)
local macro_rules|`(037)=>`(I.ok.hd hc)
local macro_rules|`(063)=>`(A.put b (oneR x))
local macro_rules|`(068)=>`(iR pos (il es X.env))
local macro_rules|`(075)=>`(zaf za6 (pv 0) zal 08)
local macro_rules|`(076)=>`(ix 026 scope.names [])
local macro_rules|`(119)=>`(s.heap.push {cls:=.type "list",data:=.seq ([]:List Value).toArray})
local macro_rules|`(089)=>`(za2 (zas K) 01 T.b_len ir 039)
local macro_rules|`(077)=>`(SetTable.grown fs.size)
local macro_rules|`(120)=>`(HT.sIx xs.length 0 lo=0/\HT.sIx xs.length xs.length hi=xs.length)
local macro_rules|`(101)=>`(!decide ([d]<(Str.ofString "a").cps.toList))
local macro_rules|`(126)=>`(.Try [.Expr (.Call (.Name f np) (e::es) [] cpos) apos] [.ExceptHandler (some (.Name c cp)) none (b₀::suite) hpos] [] [] pos)
local macro_rules|`(102)=>`(.Call (.Attribute o m apos) (e::es) [] pos)
local macro_rules|`(057)=>`(.ins C dx fs)
local macro_rules|`(103)=>`((∀x c,X.env.cells.lookup x=some c->c≠b))
local macro_rules|`(043)=>`(defBody st)
local macro_rules|`(121)=>`(pa_c (zcd (v:=.ty "bool") 01 T.b_bool boot_bool 01) zaa)
local macro_rules|`(078)=>`(za4 01 T.g_WAITING)
local macro_rules|`(024)=>`(tl++[n])
local macro_rules|`(079)=>`(he pins s σ H _ I h)
local macro_rules|`(104)=>`(Builtin.SmallTypes.nextOf (.ref j1)>>=_)
local macro_rules|`(025)=>`(.ref it)
local macro_rules|`(090)=>`(rds_node.mpr (.inr (.inl hq)))
local macro_rules|`(069)=>`(I.hok.fresh 37)
local macro_rules|`(127)=>`(zav zbe (zav zkl (zi8 K PySem.F.plainAttrs_list PySem.F.slot_list_pop PySem.F.type_list_pop zr4 (pv 0)) zac) zac)
local macro_rules|`(058)=>`(.builtin id)
local macro_rules|`(080)=>`(upd H' l (.lst xs0))
local macro_rules|`(052)=>`(tl.idxOf n)
local macro_rules|`(122)=>`(nds a (k:Int) "l" (k+1)++nds b (k:Int) "r" (k+1+a.size))
local macro_rules|`(081)=>`(.Tuple elts x1 tpos)
local macro_rules|`(091)=>`(!t.plain&&decide (es.size>1))
local macro_rules|`(123)=>`(cxOf CX P w K mg base Nq qual scope f cdv A outer s H E)
local macro_rules|`(044)=>`(⟨us,[]⟩)
local macro_rules|`(032)=>`(PySem.W.mg_none_of KX Gq (by k_is))
local macro_rules|`(42)=>`(by exact_mod_cast 0)
local macro_rules|`(05)=>`(by k_is)
local macro_rules|`(045)=>`(.cons ⟨_,rfl⟩ (.nil))
set_option hygiene true
namespace L2
theorem ex5{d q:Type}{A Bq C:d->q->Prop}{Gq:Prop}(h:∃x y,A x y/\Bq x y/\C x y)(k:∀x y,A x y->Bq x y->C x y->Gq):Gq:=let(x,y,a,b,c):=h;k x y a b c
abbrev Key:=Sum Int Str
noncomputable def blI(b:Bool):Int:=if b=N then 1 else 0
def isBl(k:Int):Va->Bool
 |.bool b=>k==blI b
 |_=>Fa
def keyIs:Key->Va->Bool
 |.inl k,v=>Va.isInt k v||isBl k v
 |.inr x,v=>Va.isStrOf x v
noncomputable def keyH(w:World):Key->Int
 |.inl k=>hashInt k
 |.inr x=>hashStr w x
theorem zpt:∀{v:Va},isBl k v=N->∃b,k=blI b/\v=Va.bool b:=by
 intro v h;cases v
 case bool b=>show(b,eq_of_beq h,R)
 all_goals show Xa h y0f
theorem za3:∀{k:Key} {v:Va},keyIs k v=N->(∃i t,k=Sum.inl i/\v=Va.int i t)\/(∃x t,k=Sum.inr x/\v=Va.str x t)\/∃b,k=Sum.inl (blI b)/\v=Va.bool b
 |.inl i,v,h=>by
  rcases(y3p _ _).mp (show(Va.isInt i v||isBl i v)=N from h)with h|h
  .let(t,e):=Va.isInt_shape (k:=i) (v:=v) h;show .inl (i,t,R,e)
  .let(b,e,D):=zpt h;show .inr<|.inr (b,by rw[e],D)
 |.inr x,v,h=>by
  let(t,e):=Va.isStrOf_shape (x:=x) (v:=v) h;show .inr<|.inl (x,t,R,e)
theorem zsj(i:Int)(t:Tok):keyIs (.inl i) (.int i t)=N:=by simp[keyIs,Va.isInt]
theorem zv0(b:Bool):keyIs (.inl<|blI b) (.bool b)=N:=by simp[keyIs,isBl]
theorem hash_bl(h:Q (hashInt<|blI b) {s with toks:=s.toks+1}):wpAny (model prog w) A (pyHash<|.bool b) Q E s:=by
 let hT:s.TypeIs (.bool b) "bool":=rfl;let g:=rawHash_range<|blI b;unfold pyHash;apply ie ?_;rw[cRoomFor,Xp<|show¬[Va.bool b].any Va.onHeap=N from y0f];apply ig<|ie (iI hT PySem.F.slot_bool_hash.lookup ?_);change wpAny _ _ (if(G (Va.builtin "int.__hash__")==G Va.none)=N then _ else _) Q E s;rw[Xp<|show¬(G (Va.builtin "int.__hash__")==G Va.none)=N from y0f];apply ie<|iI hT PySem.F.slot_bool_hash.lookup ?_;change wpAny _ _ (callSpecialIfBoundUnlessNone? (.bool b) "__hash__" _>>=_) Q E s;apply ie<|wpAny_callSpecialIfBoundUnlessNone?_slot hT PySem.F.slot_bool_hash (iw PySem.F.slot_bool_hash hT PySem.F.entry_int_hash ?_<|PySem.F.args_int_hash_1 _);apply(show wpAny _ _ (do ret<|←mkInt (rawHash<|blI b)) _ _ s from wpAny_ret_mkInt ?_);change wpAny _ _ (if(decide (-(2:Int)^63<=rawHash (blI b))&&decide (rawHash (blI b)<2^63))=N then _ else _) Q E _;rw[Xq<|by rw[Xg g.1,Xg g.2];rfl];show ig h
theorem zsi(x:Str)(t:Tok):keyIs (.inr x) (.str x t)=N:=by simp[keyIs,Va.isStrOf]
theorem zod(a b:Int):decide ((Sum.inl a:Key)=Sum.inl b)=(a==b):=by
 by_cases e:a=b
 .subst e;simp
 .let h:¬(Sum.inl a:Key)=Sum.inl b:=λq=>e<|Sum.inl.inj q;rw[Xf h];show(beq_eq_false_iff_ne.mpr e).symm
theorem key_rr(a b:Str):decide ((Sum.inr a:Key)=Sum.inr b)=decide (a=b):=by
 by_cases e:a=b
 .subst e;simp
 .let h:¬(Sum.inr a:Key)=Sum.inr b:=λq=>e<|Sum.inr.inj q;rw[Xf h,Xf e]
theorem zxb(a:Int)(b:Str):decide ((Sum.inl a:Key)=Sum.inr b)=Fa:=Xf λq=>nomatch q
theorem zxa(a:Str)(b:Int):decide ((Sum.inr a:Key)=Sum.inl b)=Fa:=Xf λq=>nomatch q
def mixKind(prog:ik)(w:World):PySem.KeyKind prog w Key where
 is:=keyIs
 hash:=keyH w
 inj:=λv a b L Y=>by
  rcases za3 L with⟨i,t,rfl,rfl⟩|⟨x,t,rfl,rfl⟩|⟨c,rfl,rfl⟩
  .rcases za3 Y with⟨j,u,rfl,e⟩|⟨y,u,rfl,e⟩|⟨d,rfl,e⟩
   .injection e with e1 _;rw[e1]
   .exact nomatch e
   .exact nomatch e
  .rcases za3 Y with⟨j,u,rfl,e⟩|⟨y,u,rfl,e⟩|⟨d,rfl,e⟩
   .exact nomatch e
   .injection e with e1 _;rw[e1]
   .exact nomatch e
  .rcases za3 Y with⟨j,u,rfl,e⟩|⟨y,u,rfl,e⟩|⟨d,rfl,e⟩
   .exact nomatch e
   .exact nomatch e
   .injection e with e1;rw[e1]
 byValue:=λk v h=>by
  rcases za3 h with⟨i,t,rfl,rfl⟩|⟨x,t,rfl,rfl⟩|⟨c,rfl,rfl⟩<;>rfl
 pyHash:=λD h=>by
  rcases za3 D with⟨i,t,rfl,rfl⟩|⟨x,t,rfl,rfl⟩|⟨c,rfl,rfl⟩
  .exact wpAny_pyHash_int h
  .exact wpAny_pyHash_str h
  .exact hash_bl h
 eqBool:=λg D h=>by
  rcases za3 g with⟨i,t,rfl,rfl⟩|⟨x,t,rfl,rfl⟩|⟨c,rfl,rfl⟩
  .rcases za3 D with⟨j,u,rfl,rfl⟩|⟨y,u,rfl,rfl⟩|⟨d,rfl,rfl⟩
   .rw[zod]at h;show wpAny_eqBool_int h
   .rw[zxb]at h;show SeqAt.EqAt.int_str i t y u _ _ _ _ h
   .rw[zod]at h;show SeqAt.EqAt.int_bool i t d _ _ _ _ h
  .rcases za3 D with⟨j,u,rfl,rfl⟩|⟨y,u,rfl,rfl⟩|⟨d,rfl,rfl⟩
   .rw[zxa]at h;show SeqAt.EqAt.str_int x t j u _ _ _ _ h
   .rw[key_rr]at h;show wpAny_eqBool_str h
   .rw[zxa]at h;show SeqAt.EqAt.str_bool x t d _ _ _ _ h
  .rcases za3 D with⟨j,u,rfl,rfl⟩|⟨y,u,rfl,rfl⟩|⟨d,rfl,rfl⟩
   .rw[zod]at h;show SeqAt.EqAt.bool_int c j u _ _ _ _ h
   .rw[zxb]at h;show SeqAt.EqAt.bool_str c y u _ _ _ _ h
   .rw[zod,show(blI c==blI d)=(c==d) by cases c<;>cases d<;>rfl]at h;show SeqAt.EqAt.bool_bool c d _ _ _ _ h
 «strs»:=λk x t v h=>by
  rcases za3 h with⟨i,u,rfl,e⟩|⟨y,u,rfl,e⟩|⟨d,rfl,e⟩
  .exact nomatch e
  .injection e with e1 _
   subst e1;cases v<;>rfl
  .exact nomatch e
theorem zms(prog:ik)(w:World)(i:Int)(t:Tok):(049).is (.inl i) (.int i t)=N:=zsj i t
theorem zmr(prog:ik)(w:World)(x:Str)(t:Tok):(049).is (.inr x) (.str x t)=N:=zsi x t
inductive V where
 |non|bl (b:Bool)|int (i:Int)|str (x:Str)|byt (b:Array UInt8)|flt (b:UInt64)|ref (a:Ad)|ty (n:String)
 deriving DecidableEq
def RelV:V->Va->Prop
 |.non,u=>u=Va.none
 |.bl b,u=>u=Va.bool b
 |.int i,u=>∃t,u=Va.int i t
 |.str x,u=>∃t,u=Va.str x t
 |.byt b,u=>∃t,u=Va.bytes b t
 |.flt b,u=>∃t,u=Va.float b t
 |.ref a,u=>u=Va.ref a
 |.ty n,u=>u=Va.type n
abbrev Vals:List V->List Va->Prop:=io RelV
theorem Vals.length(r:Vals xs us):xs.length=us.length:=Paired.length r
theorem Vals.get:∀{xs:List V} {us:List Va} {i:Nat} {x:V},Vals xs us->xs[i]?=G x->∃u,us[i]?=G u/\RelV x u
 |_,_,_,_,.nil,e=>by simp at e
 |_,_,0,_,.cons r _,e=>by simp at e;subst e;show(_,R,r)
 |_,_,i+1,x,.cons _ t,e=>by
  let(u,M,J):=Vals.get (i:=i) (x:=x) t (by simpa using e);show(u,by simpa using M,J)
theorem Vals.append:∀{xs ys:List V} {us l:List Va},Vals xs us->Vals ys l->Vals (xs++ys) (us++l)
 |_,_,_,_,.nil,s=>s
 |_,_,_,_,.cons r t,s=>.cons r<|Vals.append t s
theorem Vals.take:∀{xs:List V} {us:List Va} (n:Nat),Vals xs us->Vals (xs.take n) (us.take n)
 |_,_,0,_=>.nil
 |_,_,_+1,.nil=>.nil
 |_,_,n+1,.cons r t=>.cons r<|Vals.take n t
theorem Vals.drop:∀{xs:List V} {us:List Va} (n:Nat),Vals xs us->Vals (xs.drop n) (us.drop n)
 |_,_,0,r=>r
 |_,_,_+1,.nil=>.nil
 |_,_,n+1,.cons _ t=>Vals.drop n t
def RelO:Option V->Option Va->Prop
 |some v,G u=>RelV v u
 |none,B=>True
 |_,_=>False
def KV{d:Type}:List (d×V)->List (d×Va)->Prop:=io λ(p:d×V) (q:d×Va)=>p.1=q.1/\RelV p.2 q.2
noncomputable def kV:Key->V
 |.inl i=>.int i
 |.inr x=>.str x
inductive HO where
  |lst (xs:List V)
  |tup (xs:List V)
  |dK (kvs:List<|Key×V)|dT (kvs:List<|List Key×V)
  |set (S:Int->Bool) (n:Nat)
  |ins (C dx:Ad) (fs:List<|Str×V)
  |own (x:Ad)
  |xd (fs:List<|Str×V)
  |met (f x:Ad)
  |rng (lo hi:Int)
  |frz (o:Obj) (u:HO)
  |tbl (qs:Y3) (ps:Array Va)
  |ext (φ:Heap->Prop)
abbrev Hp:=Ad->Option HO
noncomputable def upd(H:Hp)(a:Ad)(o:HO):Hp:=λb=>if b=a then G o else H b
theorem zao:upd H a o a=G o:=by unfold upd;rw[Xq rfl]
theorem zan(h:b≠a):upd H a o b=H b:=by unfold upd;rw[Xp h]
theorem zcq{H:Hp}{a b:Ad}{o u:HO}(h:H a=G o)(h':H b=G u)(d:o≠u):a≠b:=by
 intro e;subst e;rw[h]at h';show d<|Option.some.inj h'
theorem zap{H:Hp}{a b:Ad}{o:HO}(h:H a=G o)(h':H b=B):a≠b:=by
 intro e;subst e;rw[h]at h';cases h'
section
variable (P:ik)(w:World)
def CodeObj(o:Obj)(q:Str):Prop:=∃vs t,o.data=.fields vs/\vs[1]?=G (.str q t)
def ObjOk(H:Hp)(h:Heap)(a:Ad):HO->Prop
 |.lst xs=>xs.length<=ij/\∃(its:List Va) (n:Nat),Vals xs its/\h.get? a=G {cls:=.type "list",data:=.seq its.toArray n}
 |.tup xs=>xs.length<=ij/\∃its:List Va,Vals xs its/\IsTup h a its.toArray
 |.dK L=>L.length<=ij/\(a==iC)=Fa/\∃vs,KV L vs/\h.DictOf 036 a vs
 |.dT L=>L.length<=ij/\(a==iC)=Fa/\∃xs:List<|List Key×Ad×Va,
   io (λ(p:List Key×V) (q:List Key×Ad×Va)=>p.1=q.1/\H q.2.1=G (.tup<|p.1.map kV)/\RelV p.2 q.2.2) L xs/\
   ∃o es ep,h.get? a=G o/\o.ExactDict/\o.data=.dict es ep/\es.toList=xs.map (entryOfKey<|jH 036)/\(xs.map (·.1)).Nodup
 |.set S n=>h.SetOf (j7 P w) a S n
 |.ins C dx fs=>H dx=G (.own a)/\fs.length<=1000/\dx≠a/\h.get? a=G (PySem.W.instObj C dx)/\
   ∃i,h.Ns1 dx i/\(∀f,RelO (fs.lookup f)<|i f)/\PySem.Within i (fs.map (·.1))
 |.own _=>∃o,h.get? a=G o
 |.xd fs=>∃i,h.Ns1 a i/\∀f,RelO (fs.lookup f)<|i f
 |.rng lo hi=>∃t u v,h.get? a=G {cls:=.type "range",data:=.fields #[.int lo t,.int hi u,.int 1 v]}
 |.frz o u=>h.get? a=G o/\ObjOk H h a u
 |.tbl qs ps=>∃more:Array Va,h.get? a=G {cls:=.none,data:=.fields (ps++more)}/\TriplesOk (ps++more).toList/\∀p∈qs,∀v,jh p.1 (ps++more).toList=G v->∃c o,v=.ref c/\H c=G 040/\CodeObj o p.2
 |.met f x=>h.get? a=G (PySem.W.methodObj 45<|.ref x)
 |.ext A=>A h/\(∃o,h.get? a=G o)/\∀M J:Heap,A M->(∀o,M.get? a=G o->J.get? a=G o)->A J
def HOk(H:Hp)(h:Heap):Prop:=∀a o,H a=G o->ObjOk P w H h a o
end
section
variable {P:ik}{w:World}{H H':Hp}{h h':Heap}{a:Ad}{o:HO}
theorem ObjOk.lt(x:ObjOk P w H h a o):a<h.objs.size:=by
 cases o with
 |lst xs=>let(_,_,_,_,e):=x;show y0h e
 |tup xs=>let(_,_,_,p):=x;show p.lt
 |dK L=>let(_,_,_,_,o,_,_,e,_):=x;show y0h e
 |dT L=>let(_,_,_,_,o,_,_,e,_):=x;show y0h e
 |set S n=>let(o,_,_,_,e,_):=x;show y0h e
 |ins C dx fs=>let(_,_,_,e,_):=x;show y0h e
 |own y=>let(_,e):=x;show y0h e
 |xd fs=>let(_,(_,_,_,e,_),_):=x;show y0h e
 |rng lo hi=>let(_,_,_,e):=x;show y0h e
 |frz ob u=>let(e,_):=x;show y0h e
 |tbl qs ps=>let(_,e,_):=x;show y0h e
 |met f y=>show y0h<|show h.get? a=G _ from x
 |ext A=>let(_,(_,e),_):=x;show y0h e
theorem Paired.mapP:∀{c:List d} {e:List q},io F c e->(∀a b,F a b->Gq a b)->io Gq c e
 |_,_,.nil,_=>.nil
 |_,_,.cons r t,f=>.cons (f _ _ r)<|Paired.mapP t f
theorem ObjOk.stay(x:ObjOk P w H h a o)(k:∀b u,(b=a\/H b=G (.own a))->h.get? b=G u->h'.get? b=G u)
  (T:∀b,H b=G (.own a)->H' b=G (.own a)) (U:∀b o u q,CodeObj o q->H b=G (.frz o u)->H' b=G (.frz o u)) (ht:∀b xs,H b=G 015->H' b=G 015):ObjOk P w H' h' a o:=by
 induction o with
 |lst xs=>let(z,its,n,r,e):=x;show(z,its,n,r,k _ _ 85 e)
 |tup xs=>let(z,its,r,ob,e,c):=x;show(z,its,r,ob,k _ _ 85 e,c)
 |dK L=>let(z,y,vs,r,ob,es,ep,e,c):=x;show(z,y,vs,r,ob,es,ep,k _ _ 85 e,c)
 |dT L =>
  let(z,y,xs,r,ob,es,ep,e,c):=x;show(z,y,xs,Paired.mapP r λp q z=>(z.1,ht _ _ z.2.1,z.2.2),ob,es,ep,k _ _ 85 e,c)
 |set S n=>let(ob,es,ep,t,e,c):=x;show(ob,es,ep,t,k _ _ 85 e,c)
 |ins C dx fs =>
  let(d,z,ne,e,i,(M,es,ep,O,c),r):=x;show(T _ d,z,ne,k _ _ 85 e,i,(M,es,ep,k _ _ (.inr d) O,c),r)
 |own y=>let(ob,e):=x;show(ob,k _ _ 85 e)
 |xd fs=>let(i,(M,es,ep,e,c),r):=x;show(i,(M,es,ep,k _ _ 85 e,c),r)
 |rng lo hi=>let(t,u,v,e):=x;show(t,u,v,k _ _ 85 e)
 |frz ob u E=>let(e,q):=x;show(k _ _ 85 e,E q)
 |tbl qs ps=>let(more,e,t,c):=x;show(more,k _ _ 85 e,t,λp l v q=>let(g,o,r,z,co):=c p l v q;(g,o,r,U _ _ _ _ co z,co))
 |met f y =>
  let e:h.get? a=G (PySem.W.methodObj 45<|.ref y):=x;change h'.get? a=G (PySem.W.methodObj 45<|.ref y);show k a _ 85 e
 |ext A=>let(p,(o,e),st):=x;show(st _ _ p λo q=>k _ _ 85 q,(o,k _ _ 85 e),st)
theorem HOk.lt(x:HOk P w H h)(e:H a=G o):a<h.objs.size:=(x a o e).lt
theorem HOk.fresh(x:HOk P w H h)(e:h.objs.size<=a):H a=B:=by
 cases q:H a with
 |none=>rfl
 |some u=>show Xa (y0k (x.lt q) e)<|y1n _
theorem HOk.kept(x:HOk P w H h)(k:∀b u,h.get? b=G u->h'.get? b=G u):HOk P w H h':=λa o e =>
 (x a o e).stay (λb u _ q=>k b u q) (λ_ q=>q) (λ_ _ _ _ _ q=>q) λ_ _ q=>q
theorem HOk.laid(x:HOk P w H h)(k:∀b u,h.get? b=G u->h'.get? b=G u)(l:h.objs.size<=a)(new:ObjOk P w (upd H a o) h' a o):HOk P w (upd H a o) h':=λb u e=>by
 let Q:=x.fresh l;by_cases Y:b=a
 .subst Y;rw[zao]at e;cases e;show new
 .rw[zan Y]at e;show(x b u e).stay (λc v _ q=>k c v q) (λc q=>by rw[zan<|zap q Q];show q) (λc _ _ _ _ q=>by rw[zan<|zap q Q];show q) λc xs q=>by rw[zan<|zap q Q];show q
end
def Rd(H:Hp)(a:Ad)(u:HO):Prop:=H a=G u\/∃o,H a=G (.frz o u)
theorem Rd.ok(r:Rd H a u)(x:HOk P w H h):ObjOk P w H h a u:=by
 rcases r with r|⟨o,r⟩
 .exact x a u r
 .let(_,q):=x a _ r;show q
def Mut:Option HO->Prop
 |some (.lst _)=>True
 |some (.dK _)=>True
 |some (.dT _)=>True
 |some (.set _ _)=>True
 |some (.ins _ _ _)=>True
 |some (.ext _)=>True
 |_=>False
section
variable {P:ik}{w:World}{H:Hp}{h h':Heap}{x e:Ad}{o':HO}
theorem HOk.write(ok:HOk P w H h)(f:Mut<|H x)(d:e=x\/H e=G (.own x))(k:∀b u,b≠e->h.get? b=G u->h'.get? b=G u)(j:∃u,h'.get? e=G u)
  (new:ObjOk P w (upd H x o') h' x o'):HOk P w (upd H x o') h':=λb u q=>by
 let a:∀c y,H c=G (.own y)->c≠x:=λc y r z=>by subst z;rw[r]at f;show f
 let l:∀c xs,H c=G 015->c≠x:=λc xs r z=>by subst z;rw[r]at f;show f
 let p:∀c o y,H c=G (.frz o y)->c≠x:=λc o y r z=>by subst z;rw[r]at f;show f
 by_cases Y:b=x
 .subst Y;rw[zao]at q;cases q;show new
 .rw[zan Y]at q;by_cases i:b=e
  .let q':H b=G (.own x):=by
    rcases d with z|z
    .exact Xa (i.trans z) Y
    .rw[i];show z
   rw[q]at q';cases q';let(v,D):=j;show(v,by rw[i];show D)
  .refine(ok b u q).stay (λc v g r=>k c v ?_ r) (λc r=>by rw[zan<|a c b r];show r) (λc o y _ _ r=>by rw[zan<|p c o y r];show r) λc xs r=>by rw[zan<|l c xs r];show r
   rcases g with rfl|g
   .exact i
   .rintro rfl;rcases d with z|z
    .exact a c b g z
    .rw[g]at z;cases z;show Y R
end
structure Un(fs ex:List Ad)(H H':Hp)(h h':Heap):Prop where
 keep:∀b o,h.get? b=G o->H b=B->b∉fs->b∉ex->h'.get? b=G o
 slot:∀b o,h.get? b=G o->H b=B->b∈fs->b∉ex->∃sl,h'.get? b=G {o with slots:=sl}
 free:∀b o,h.get? b=G o->H b=B->b∉ex->H' b=B
 there:∀b o,h.get? b=G o->b∉ex->∃o',h'.get? b=G o'
 tups:∀b xs,H b=G 015->H' b=G 015
 frzs:∀b o u,H b=G (.frz o u)->H' b=G (.frz o u)
 tbls:∀b qs ps,H b=G (.tbl qs ps)->H' b=G (.tbl qs ps)
section
variable {fs fs' ex ex':List Ad}{H H1 H2:Hp}{h h1 h2 h':Heap}{a x e:Ad}{o:HO}
theorem Un.any(u:Un fs ex H H1 h h1)(q:h.get? b=G ob)(n:H b=B)(O:b∉ex):∃f,h1.get? b=G {ob with slots:=f}:=by
 by_cases Y:b∈fs
 .exact u.slot b ob q n Y O
 .exact(ob.slots,u.keep b ob q n Y O)
theorem Un.kept(k:∀b u,h.get? b=G u->h'.get? b=G u):Un fs ex H H h h' :=
 (λb ob q _ _ _=>k b ob q,λb ob q _ _ _=>(ob.slots,k b ob q),λ_ _ _ n _=>n,λb ob q _=>(ob,k b ob q),λ_ _ q=>q,λ_ _ _ q=>q,λ_ _ _ q=>q)
theorem Un.refl:Un fs ex H H h h:=Un.kept λ_ _ q=>q
theorem Un.laid(k:∀b u,h.get? b=G u->h'.get? b=G u)(l:h.objs.size<=a)(Q:H a=B):Un fs ex H (upd H a o) h h' where
 keep:=λb u q _ _ _=>k b u q
 slot:=λb u q _ _ _=>(u.slots,k b u q)
 free:=λb u q n _=>by rw[zan<|y0m (y0k (y0h q) l)];show n
 there:=λb u q _=>(u,k b u q)
 tups:=λb xs q=>by rw[zan<|zap q Q];show q
 frzs:=λb u xs q=>by rw[zan<|zap q Q];show q
 tbls:=λb qs ps q=>by rw[zan<|zap q Q];show q
theorem Un.write(f:Mut<|H x)(d:e=x\/H e=G (.own x))(k:∀b u,b≠e->h.get? b=G u->h'.get? b=G u)(j:∃u,h'.get? e=G u):Un fs ex H (upd H x o) h h':=by
 let O:∀b,H b=B->b≠x:=λb n z=>by subst z;rw[n]at f;show f
 let Y:∀b,H b=B->b≠e:=λb n z=>by
  subst z;rcases d with r|r
  .exact O b n r
  .rw[n]at r;cases r
 let l:∀b u,H b=G u->¬Mut (G u)->b≠x:=λb u q nm z=>by subst z;rw[q]at f;show nm f
 apply⟨λb u q n _ _=>k b u (Y b n) q,λb u q n _ _=>(u.slots,k b u (Y b n) q),λb u q n _=>by rw[zan<|O b n];show n,λb u q _=>?_,
  λb xs q=>by rw[zan<|l b _ q λz=>z];show q,λb u xs q=>by rw[zan<|l b _ q λz=>z];show q,λb qs ps q=>by rw[zan<|l b _ q λz=>z];show q⟩
 by_cases i:b=e
 .subst i;show j
 .exact(u,k b u i q)
end
noncomputable def trk(h:Heap)(H:Hp):List Ad:=(List.range h.objs.size).filter λa=>(H a).isSome
def hidT(h:Heap)(H:Hp):Heap:=PySem.W.hideAll h<|trk h H
theorem zss(h:Heap)(H:Hp):(hidT h H).objs.size=h.objs.size:=PySem.W.hideAll_size _ _
theorem zv5(e:h.get? b=G o)(n:H b=B):(hidT h H).get? b=G o :=
 PySem.W.hideAll_get _ e λl=>by
  let q:(H b).isSome=N:=(y1a.mp l).2;rw[n]at q;simp at q
theorem zzc(e:(hidT h H).get? b=G o):h.get? b=G o/\H b=B:=by
 let D:h.get? b=G o:=PySem.W.of_hideAll (trk h H) e;apply(D,?_);cases q:H b with
 |none=>rfl
 |some x =>
  let l:b∈trk h H:=y1a.mpr (y11.mpr<|y0h D,by simp[q]);let z:(hidT h H).get? b=B:=PySem.W.hideAll_none (trk h H) l;rw[z]at e;cases e
noncomputable def allNews(g h:Heap)(L:Ad):List (Ad×Obj):=(List.range h.objs.size).filterMap λa=>if a=L\/(g.get? a).isSome=N then B else(h.get? a).map λo=>(a,o)
def rest(g h:Heap)(L d:Ad):List (Ad×Obj):=(allNews g h L).filter λp=>decide (p.1≠d)
structure Mod(K:Frag)(mg:Y1)(base:Heap):Prop where
 kin:K.In base
 glob:base.Ns iu mg
 blt:∃mb,base.Ns iV mb/\∀x:Str,x≠"__name__"->mb x=iQ x
 nolimit:base.NoLimit
structure Cx where
 prog:ik
 w:World
 K:Frag
 mg:Str->Option Va
 base:Heap
 A:iq
 Nq:List Str
 s₀:ii
 H₀:Hp
 env:Env
 outer:List Env
 stack:List Env
 ex:List Ad
 fn:Str->Bool
 calm:Bool
 pn:List<|Ad×Obj
 xe:Va->ii->Prop
noncomputable def frs(l:List Env):List Ad:=l.filterMap (·.frame)
abbrev Cx.fs(X:Cx):List Ad:=frs X.outer
def Vis(a:Scope)(x:Str):Prop:=a.names.lookup x=G .local\/a.names.lookup x=G .cell\/a.names.lookup x=G .free
def Loc(a:Scope)(x:Str):Prop:=a.names.lookup x=G .local\/a.names.lookup x=G .cell
def Look(env:Env)(h:Heap)(m:Y1)(x:Str)(u:Va):Prop :=
 (env.kindOf x=G .local/\m x=G u)\/((env.kindOf x=G .cell\/env.kindOf x=G .free)/\∃c,env.cells.lookup x=G c/\h.IsCell c (G u))
structure Cx.Ok(X:Cx):Prop where
 mod:Mod X.K X.mg X.base
 kind:X.env.scope.kind=.function
 glob:X.env.globals=iu
 blt:X.env.builtins=iV
 above:X.s₀.heap.objs.size<=X.env.locals
 inj:∀x y c,X.env.cells.lookup x=G c->X.env.cells.lookup y=G c->x=y
 has:∀x,(X.env.kindOf x=G .cell\/X.env.kindOf x=G .free)->∃c,X.env.cells.lookup x=G c
 cab:∀x c,X.fn x=N->X.env.cells.lookup x=G c->X.s₀.heap.objs.size<=c
 hd:X.calm=N->X.A.handled=B
 frames:X.A.frames=G X.stack
 stk:X.stack=X.outer\/(X.stack=X.env::X.outer/\X.env.frame=G X.env.locals)
 exf:∀b∈X.ex,b≠X.env.locals/\∀x c,X.env.cells.lookup x=G c->c≠b
 bs:∀b o,X.base.get? b=G o->X.s₀.heap.get? b=G o/\X.H₀ b=B
 bsz:X.base.objs.size<=X.s₀.heap.objs.size
 noex:∀b o,X.base.get? b=G o->b∉X.ex
 exfs:∀b∈X.ex,b∉X.fs
 funs:X.s₀.heap.FunFrames X.base X.outer
 frf:∀b∈X.fs,X.H₀ b=B
structure Inv(X:Cx)(pins:Y2)(σ:List<|Option V)(H:Hp)(s:ii):Prop where
 ok:X.Ok
 os:s.os=X.s₀.os
 bare:jo s.gens
 base:Un X.fs X.ex X.H₀ H X.s₀.heap s.heap
 loc:∃m,s.heap.Ns X.env.locals m/\∀(i:Nat) (x:Str) (v:V),X.Nq[i]?=G x->σ[i]?=G (G v)->Vis X.env.scope x->∃u,RelV v u/\Look X.env s.heap m x u
 cell:∀x c,X.env.cells.lookup x=G c->∃v,s.heap.IsCell c v
 free:H X.env.locals=B
 freeC:∀x c,X.env.cells.lookup x=G c->H c=B
 pin:∀p∈X.pn++pins,s.heap.get? p.1=G p.2/\H p.1=B/\p.1≠X.env.locals/\p.1∉X.fs/\∀v,p.2.data ≠ .cell v
 hok:HOk X.prog X.w H s.heap
 len:σ.length=X.Nq.length
section
variable {X:Cx}{pins:Y2}{σ:List (Option V)}{H H':Hp}{s:ii}{h':Heap}
theorem Cx.Ok.nofr(ok:X.Ok)(e:X.base.get? b=G o):b∉X.fs:=λY=>by
 let:=(ok.funs.mem Y).1;rw[e]at this;cases this
theorem Inv.bs(I:03 H s):∀b o,X.base.get? b=G o->s.heap.get? b=G o/\H b=B:=λb o e =>
 (I.base.keep b o (I.ok.bs b o e).1 (I.ok.bs b o e).2 (I.ok.nofr e)<|I.ok.noex b o e,I.base.free b o (I.ok.bs b o e).1 (I.ok.bs b o e).2<|I.ok.noex b o e)
theorem Inv.bk(I:03 H s):∀b o,X.base.get? b=G o->s.heap.get? b=G o:=λb o e=>(I.bs b o e).1
theorem Inv.mod(I:03 H s):Mod X.K X.mg X.base:=I.ok.mod
theorem Inv.kIn(I:03 H s):X.K.In s.heap:=I.ok.mod.kin.keeps I.bk
theorem Inv.lt(I:03 H s):X.env.locals<s.heap.objs.size:=let(_,o,_):=I.loc;o.lt
theorem Inv.sz(I:03 H s):X.s₀.heap.objs.size<=s.heap.objs.size:=y0z I.ok.above<|y1s I.lt
theorem Inv.nofs(I:03 H s){a:Ad}(h:s.heap.objs.size<=a):a∉X.fs:=λY=>by
 let(_,o,T,_):=I.ok.funs.mem Y;show Xa (y0k (y0h T)<|y0z I.sz h)<|y1n _
theorem Inv.cne(I:03 H s):∀x c,X.env.cells.lookup x=G c->c≠X.env.locals:=λx c e z=>by
 let(v,o,T,hd):=I.cell x c e;let(m,(y,es,ep,q,i,_),_):=I.loc;rw[z,q]at T;cases T;rw[i]at hd;cases hd
theorem Inv.funs(I:03 H s):s.heap.FunFrames X.base X.outer:=by
 let all:∀(l:List Env),(∀b∈frs l,b∈X.fs)->X.s₀.heap.FunFrames X.base l->s.heap.FunFrames X.base l:=by
  intro l
  induction l with
  |nil=>intro _ _;trivial
  |cons env r E =>
   intro hs j;let(C,(L,o,U,Q,T,hd),g):=j;let d:L∈X.fs:=hs L (by unfold frs;rw[y21,U];show y04);let(f,e):=I.base.slot L o T (I.ok.frf L d) d λz=>I.ok.exfs L z d;show(C,(L,_,U,Q,e,hd),E (λb Y=>hs b<|by unfold frs;rw[y21,U];show y08 _ Y) g)
 show all X.outer (λ_ Y=>Y) I.ok.funs
theorem Inv.stack(I:03 H s):s.heap.FunFrames X.base X.stack:=by
 rcases I.ok.stk with e|⟨e,U⟩
 .rw[e];show I.funs
 .rw[e];let(m,o,_):=I.loc;apply .cons (by rw[I.ok.kind];decide) U o ?_ I.funs;show Heap.get?_none_of_le<|y0z I.ok.bsz I.ok.above
theorem Inv.stkSub(I:03 H s):∀b∈frs X.stack,b∈X.env.locals::X.fs:=λb Y=>by
 rcases I.ok.stk with e|⟨e,U⟩
 .rw[e]at Y;show y08 _ Y
 .rw[e]at Y;unfold frs at Y;rw[y21,U]at Y;show Y
theorem Inv.stkFree(I:03 H s):∀b∈frs X.stack,H b=B:=λb Y=>by
 rcases y06.mp (I.stkSub b Y)with e|Y
 .rw[e];show I.free
 .let(_,o,T,_):=I.ok.funs.mem Y;show I.base.free b o T (I.ok.frf b Y) λz=>I.ok.exfs b z Y
theorem Inv.step{g':Array jp}{t':Nat}{d':Drawn}{ch:List Ad}(I:03 H s)
  (a:∀b∈ch,(b∈X.ex\/X.s₀.heap.objs.size<=b)/\b≠X.env.locals/\103/\∀p∈X.pn++pins,p.1≠b)
  (keep:∀b o,b≠X.env.locals->b∉X.fs->b∉ch->s.heap.get? b=G o->H b=B->h'.get? b=G o)
  (slot:∀b o,b≠X.env.locals->b∈X.fs->b∉ch->s.heap.get? b=G o->H b=B->∃f,h'.get? b=G {o with slots:=f}) (free:∀b o,b∉ch->s.heap.get? b=G o->H b=B->H' b=B)
  (there:∀b o,b∉ch->s.heap.get? b=G o->∃y,h'.get? b=G y)
  (tups:∀b xs,H b=G 015->H' b=G 015) (frzs:∀b o u,H b=G (.frz o u)->H' b=G (.frz o u)) (tbls:∀b qs ps,H b=G (.tbl qs ps)->H' b=G (.tbl qs ps))
  (ns:∀m,s.heap.Ns X.env.locals m->h'.Ns X.env.locals m) (hok:HOk X.prog X.w H' h') (hg:jo g') :
  03 H' {s with heap:=h',gens:=g',drawn:=d',toks:=t'}:=by
 let E:∀b o,X.s₀.heap.get? b=G o->b≠X.env.locals:=λb o e=>y0m<|y0k (y0h e) I.ok.above;let C:∀b o,X.s₀.heap.get? b=G o->b∉X.ex->b∉ch:=λb o e O Y=>by
  rcases(a b Y).1 with z|z
  .exact O z
  .exact Xa (y0k (y0h e) z)<|y1n _
 let J:∀x c,X.env.cells.lookup x=G c->∀v,s.heap.IsCell c v->h'.IsCell c v:=λx c e v (o,T,hd)=>by
  let A:c∉ch:=λz=>(a c z).2.2.1 x c e rfl;by_cases g:c∈X.fs
  .let(f,q):=slot c o (I.cne x c e) g A T<|I.freeC x c e;show(_,q,hd)
  .exact(o,keep c o (I.cne x c e) g A T<|I.freeC x c e,hd)
 apply(I.ok,I.os,hg,(λb o e n Y O=>?_,λb o e n Y O=>?_,λb o e n O=>?_,λb o e O=>?_,λb xs e=>tups b xs<|I.base.tups b xs e,λb o xs e=>frzs b o xs<|I.base.frzs b o xs e,λb qs ps e=>tbls b qs ps<|I.base.tbls b qs ps e),?_,λx c e=>?_,?_,λx c e=>?_,λp U=>?_,hok,I.len)
 .exact keep b o (E b o e) Y (C b o e O) (I.base.keep b o e n Y O)<|I.base.free b o e n O
 .let(f,e1):=I.base.slot b o e n Y O;let(D,L):=slot b _ (E b o e) Y (C b o e O) e1<|I.base.free b o e n O;show(D,L)
 .let(y,e1):=I.base.there b o e O;show free b y (C b o e O) e1<|I.base.free b o e n O
 .let(y,e1):=I.base.there b o e O;show there b y (C b o e O) e1
 .let(m,Q,j):=I.loc;apply(m,ns m Q,λi x v e1 L M=>?_);let(u,r,l):=j i x v e1 L M;apply(u,r,?_);rcases l with l|⟨k,c,e,z⟩
  .exact .inl l
  .exact .inr (k,c,e,J x c e _ z)
 .let(v,z):=I.cell x c e;show(v,J x c e v z)
 .let(m,(o,_,_,T,_),_):=I.loc;show free _ o (λz=>(a _ z).2.1 R) T I.free
 .let(v,o,T,hd):=I.cell x c e;show free c o (λz=>(a c z).2.2.1 x c e R) T<|I.freeC x c e
 .let(e,n,ne,nf,d):=I.pin p U;let A:p.1∉ch:=λz=>(a p.1 z).2.2.2 p U rfl;show(keep p.1 p.2 ne nf A e n,free p.1 p.2 A e n,ne,nf,d)
theorem Inv.un{t':Nat}(I:03 H s)(u:Un X.fs [] H H' s.heap h')(hok:HOk X.prog X.w H' h'):03 H' {s with heap:=h',toks:=t'}:=by
 let(m,(o,es,ep,T,r),_):=id I.loc;let(f,d):=u.any T I.free 06;show I.step (g':=s.gens) (d':=s.drawn) (ch:=[]) (λ_ z=>nomatch z) (λb o _ Y _ e n=>u.keep b o e n Y 06) (λb o _ Y _ e n=>u.slot b o e n Y 06) (λb o _ e n=>u.free b o e n 06) (λb o _ e=>u.there b o e 06) u.tups u.frzs u.tbls (λm' l=>by
  let(y,j,v,q,r'):=l;rw[T]at q;cases q;show(_,j,v,d,r')) hok I.bare
theorem Inv.call{g':Array jp}{t':Nat}{d':Drawn}{ch:List Ad}(I:03 H s)(u:Un (frs X.stack) ch H H' s.heap h')(hok:HOk X.prog X.w H' h')(hg:jo g')
  (a:∀b∈ch,(b∈X.ex\/X.s₀.heap.objs.size<=b)/\b≠X.env.locals/\103/\∀p∈X.pn++pins,p.1≠b) :
  03 H' {s with heap:=h',gens:=g',drawn:=d',toks:=t'}:=by
 let(m,(o,es,ep,T,r),_):=id I.loc;let(f,d):=u.any T I.free λz=>(a _ z).2.1 rfl;show I.step (ch:=ch) a (λb o d Y g e n=>u.keep b o e n (λz=>(y06.mp<|I.stkSub b z).elim d Y) g) (λb o _ _ g e n=>u.any e n g) (λb o g e n=>u.free b o e n g) (λb o g e=>u.there b o e g) u.tups u.frzs u.tbls (λm' l=>by
  let(y,j,v,q,r'):=l;rw[T]at q;cases q;show(_,j,v,d,r')) hok hg
theorem Inv.turned{t':Nat}{it:Ad}(I:03 H s)(k:∀b o,b≠it->s.heap.get? b=G o->h'.get? b=G o)(Q:H it=B)(d:it≠X.env.locals)
  (M:it∈X.ex\/X.s₀.heap.objs.size<=it) (J:∀x c,X.env.cells.lookup x=G c->c≠it) (U:∀p∈X.pn++pins,p.1≠it):03 H {s with heap:=h',toks:=t'}:=by
 let a:∀b u,H b=G u->b≠it:=λb u e z=>by rw[z,Q]at e;cases e
 apply I.step (g':=s.gens) (d':=s.drawn) (ch:=[it]) (λb Y=>?_) (λb o _ _ g e _=>k b o (λz=>g<|by simp[z]) e) (λb o _ _ g e _=>(o.slots,k b o (λz=>g<|by simp[z]) e)) (λ_ _ _ _ n=>n)
  (λb o g e=>(o,k b o (λz=>g<|by simp[z]) e)) (λ_ _ e=>e) (λ_ _ _ e=>e) (λ_ _ _ e=>e) (λm l=>?_) (λb u e=>?_) I.bare
 .let e:b=it:=by simpa using Y
  subst e;show(M,d,J,U)
 .let(o,es,ep,T,r):=l;show(o,es,ep,k _ o (Ne.symm d) T,r)
 .refine(I.hok b u e).stay (λc v g q=>k c v ?_ q) (λ_ q=>q) (λ_ _ _ _ _ q=>q) λ_ _ q=>q;rcases g with z|z
  .rw[z];show a b u e
  .exact a c _ z
theorem Inv.tok(I:03 H s)(t:Nat):03 H {s with toks:=t}:=I.un (h':=s.heap) (t':=t) Un.refl I.hok
theorem Inv.kept(I:03 H s)(k:∀b u,s.heap.get? b=G u->h'.get? b=G u):03 H {s with heap:=h',toks:=t'}:=I.un (Un.kept k)<|I.hok.kept k
theorem Inv.laid{a:Ad}{o:HO}{t':Nat}(I:03 H s)(k:∀b u,s.heap.get? b=G u->h'.get? b=G u)(l:s.heap.objs.size<=a)(new:ObjOk X.prog X.w (upd H a o) h' a o):
  03 (upd H a o) {s with heap:=h',toks:=t'}:=I.un (Un.laid k l<|I.hok.fresh l)<|I.hok.laid k l new
theorem Inv.write(I:03 H s)(f:Mut<|H x)(d:e=x\/H e=G (.own x))(k:∀b u,b≠e->s.heap.get? b=G u->h'.get? b=G u)(j:∃u,h'.get? e=G u)
  (new:ObjOk X.prog X.w (upd H x o) h' x o):03 (upd H x o) {s with heap:=h',toks:=t'}:=I.un (Un.write f d k j)<|I.hok.write f d k j new
theorem Inv.pins_of(I:03 H s)(h:∀p∈a,s.heap.get? p.1=G p.2/\H p.1=B/\p.1≠X.env.locals/\p.1∉X.fs/\∀v,p.2.data ≠ .cell v):Inv X a σ H s :=
 (I.ok,I.os,I.bare,I.base,I.loc,I.cell,I.free,I.freeC,λp l=>(y0o.mp l).elim (λz=>I.pin p<|y1f _ z)<|h p,I.hok,I.len)
theorem zn8{Nq:List Str}(T:Nq.Nodup){i j:Nat}{x:Str}(a:Nq[i]?=G x)(b:Nq[j]?=G x):i=j:=by
 let(M,e1):=y09.mp a;let(J,L):=y09.mp b;show(List.getElem_inj T).mp<|e1.trans L.symm
theorem zj2(I:03 H s)(T:X.Nq.Nodup)(hi:X.Nq[i]?=G x)(O:Loc X.env.scope x)(r:RelV v u)
  (h:∀s',Inv X pins (σ.set i<|G v) H s'->(∃a,Heap.SameBut a s.heap s'.heap/\(a=X.env.locals\/X.env.cells.lookup x=G a))->Q () s') (U:X.fn x=N\/X.env.scope.names.lookup x=G .local:=by first|show .inl rfl|show .inr rfl|assumption):wpAny M A (jI X.env x u) Q E s:=by
 let(m,hn,hl):=id I.loc;let hcls:(X.env.scope.kind ==.class||(X.env.scope.kind ==.module&&X.env.locals !=X.env.globals))=Fa:=by rw[I.ok.kind];rfl
 let o7:i<σ.length:=by rw[I.len];show(y09.mp hi).1
 let cne:=I.cne;let D:∀{a:Ad} {h':Heap},(∃o,s.heap.get? a=G o/\H a=B)->Heap.SameBut a s.heap h'->HOk X.prog X.w H h':=λ{a h'} ha hs b ob e=>by
  let(_,_,ku):=ha;apply(I.hok b ob e).stay (λc w' g q=>(hs.2 c ?_).trans q) (λ_ q=>q) (λ_ _ _ _ _ q=>q) λ_ _ q=>q;rintro rfl;rcases g with rfl|g
  .rw[ku]at e;cases e
  .rw[ku]at g;cases g
 rcases O with C|C
 .refine wpAny_storeName_local C hn (λh' hn' hs=>?_) hcls;let(oL,_,_,hoL,_):=id hn;apply h _ (I.ok,I.os,I.bare,(λb o e n Y O=>?_,λb o e n Y O=>?_,I.base.free,λb o e O=>?_,I.base.tups,I.base.frzs,I.base.tbls),(_,hn',λj y v' e1 L e3=>?_),λy c e=>?_,I.free,I.freeC,λp l=>?_,D (oL,hoL,I.free) hs,by simpa using I.len) (_,hs,.inl R)
  .exact(hs.2 b<|y0m (y0k (y0h e) I.ok.above)).trans<|I.base.keep b o e n Y O
  .let(sl,e1):=I.base.slot b o e n Y O;show(sl,(hs.2 b<|y0m (y0k (y0h e) I.ok.above)).trans e1)
  .let(o',e1):=I.base.there b o e O;show(o',(hs.2 b<|y0m (y0k (y0h e) I.ok.above)).trans e1)
  .by_cases f:j=i
   .subst f;rw[hi]at e1;cases e1;rw[y4i o7]at L;cases L;show(u,r,.inl (C,by simp))
   .rw[List.getElem?_set_ne (Ne.symm f)]at L;let(u',r',q):=hl j y v' e1 L e3;apply(u',r',?_);rcases q with⟨k,e⟩|⟨k,c,e,z⟩
    .refine .inl (k,?_);let:y≠x:=λe=>f<|zn8 T e1 (e▸hi);simp[this,e]
    .exact .inr (k,c,e,z.sameBut hs<|cne y c e)
  .let(w',z):=I.cell y c e;show(w',z.sameBut hs<|cne y c e)
  .let(e,n,ne,nf,d):=I.pin p l;show((hs.2 p.1 ne).trans e,n,ne,nf,d)
 .let cu:X.fn x=N:=by
   rcases U with z|z
   .exact z
   .rw[z]at C;cases C
  let(c,g):=I.ok.has x<|.inl C;let(w',z):=I.cell x c g;apply wpAny_storeName_cell I.ok.kind C g z λh' J hs=>?_;let(oc,hoc,hocd):=id z;apply h {s with heap:=h'} (I.ok,I.os,I.bare,(λb o e n Y O=>?_,λb o e n Y O=>?_,I.base.free,λb o e O=>?_,I.base.tups,I.base.frzs,I.base.tbls),(m,hn.sameBut hs<|Ne.symm (cne x c g),λj y v' e1 L e3=>?_),λy c' e=>?_,I.free,I.freeC,λp l=>?_,D (oc,hoc,I.freeC x c g) hs,by simpa using I.len) (c,hs,.inr g)
  .exact(hs.2 b<|y0m (y0k (y0h e)<|I.ok.cab x c cu g)).trans<|I.base.keep b o e n Y O
  .let(sl,e1):=I.base.slot b o e n Y O;show(sl,(hs.2 b<|y0m (y0k (y0h e)<|I.ok.cab x c cu g)).trans e1)
  .let(o',e1):=I.base.there b o e O;show(o',(hs.2 b<|y0m (y0k (y0h e)<|I.ok.cab x c cu g)).trans e1)
  .by_cases f:j=i
   .subst f;rw[hi]at e1;cases e1;rw[y4i o7]at L;cases L;show(u,r,.inr (.inl C,c,g,J))
   .rw[List.getElem?_set_ne (Ne.symm f)]at L;let(u',r',q):=hl j y v' e1 L e3;apply(u',r',?_);rcases q with q|⟨k,c',e,z'⟩
    .exact .inl q
    .refine .inr (k,c',e,z'.sameBut hs ?_);rintro rfl;show f<|zn8 T e1 (I.ok.inj _ _ _ e g▸hi)
  .by_cases hcc:c'=c
   .subst hcc;show(_,J)
   .let(w2,z2):=I.cell y c' e;show(w2,z2.sameBut hs hcc)
  .let(e,n,ne,nf,d):=I.pin p l;apply((hs.2 p.1 ?_).trans e,n,ne,nf,d);intro q;rw[q,hoc]at e;let q':oc=p.2:=Option.some.inj e;show d w' (by rw[←q'];show hocd)
theorem zif(I:03 H s)(T:X.Nq.Nodup)(hi:X.Nq[i]?=G x)(O:Loc X.env.scope x)(r:RelV v u)
  (h:∀s',Inv X pins (σ.set i<|G v) H s'->Q () s') (U:X.fn x=N\/X.env.scope.names.lookup x=G .local:=by first|show .inl rfl|show .inr rfl|assumption):wpAny M A (jI X.env x u) Q E s :=
 zj2 I T hi O r (λs' a _=>h s' a) U
theorem Inv.call'{ch:List Ad}(I:03 H s)(T:s'.os=s.os)(u:Un (frs X.stack) ch H H' s.heap s'.heap)(hok:HOk X.prog X.w H' s'.heap)(hg:jo s'.gens)
  (a:∀b∈ch,(b∈X.ex\/X.s₀.heap.objs.size<=b)/\b≠X.env.locals/\103/\∀p∈X.pn++pins,p.1≠b):03 H' s':=by
 let(h',g',d',t',y):=s';let e:y=s.os:=T;subst e;show I.call (g':=g') (t':=t') (d':=d') u hok hg a
end
abbrev XK:=Va->Option Ad->Hp->Prop
abbrev St:=List<|Option V
abbrev VK:=V->Hp->Prop
abbrev TE:=St->Hp->VK->Prop
abbrev TT:=St->Hp->(Bool->Hp->Prop)->Prop
abbrev TA:=St->Hp->(List V->Hp->Prop)->Prop
structure Ends where
 nx:St->Hp->Prop
 rt:VK
 bk:St->Hp->Prop:=λ_ _=>False
 ct:St->Hp->Prop:=λ_ _=>False
abbrev TS:=Ends->St->Hp->Prop
def EP(X:Cx)(pins:Y2)(σ:St)(Q:VK)(u:Va)(s':ii):Prop:=∃v H',03 H' s'/\RelV v u/\Q v H'
def TP(X:Cx)(pins:Y2)(σ:St)(Q:Bool->Hp->Prop)(b:Bool)(s':ii):Prop:=∃H',03 H' s'/\Q b H'
def AP(X:Cx)(pins:Y2)(σ:St)(Q:List V->Hp->Prop)(us:List Va)(s':ii):Prop:=∃vs H',03 H' s'/\Vals vs us/\Q vs H'
def SP(X:Cx)(Y:Y2)(D:Ends)(f:Flow)(s':ii):Prop :=
 match f with
 |.next=>∃O H',Inv X Y O H' s'/\D.nx O H'
 |.brk=>∃O H',Inv X Y O H' s'/\D.bk O H'
 |.cont=>∃O H',Inv X Y O H' s'/\D.ct O H'
 |.ret u=>∃v O H',Inv X Y O H' s'/\RelV v u/\D.rt v H'
def PE(X:Cx)(e:Expr)(t:TE):Prop :=
 ∀(pins:Y2) (s:ii) (σ:St) (H:Hp) (Q:VK),03 H s->t σ H Q->wpAny 41 X.A (eval e X.env) 050 X.xe s
def PT(X:Cx)(e:Expr)(t:TT):Prop :=
 ∀(pins:Y2) (s:ii) (σ:St) (H:Hp) (Q:Bool->Hp->Prop),03 H s->t σ H Q->wpAny 41 X.A (isTrue e X.env<|eval e X.env) (TP X pins σ Q) X.xe s
def PW(X:Cx)(e:Expr)(t:TT):Prop :=
 ∀(f:Sem Va) (pins:Y2) (s:ii) (σ:St) (H:Hp) (Q:Bool->Hp->Prop),03 H s->t σ H Q->wpAny 41 X.A (isTrue e X.env f) (TP X pins σ Q) X.xe s
theorem PW.pt(h:PW X e t):PT X e t:=h _
def PA(X:Cx)(es:List Expr)(t:TA):Prop :=
 ∀(pos:Pos) (pins:Y2) (s:ii) (σ:St) (H:Hp) (Q:List V->Hp->Prop),03 H s->t σ H Q->wpAny 41 X.A (spliced 068) (AP X pins σ Q) X.xe s
def PS(X:Cx)(st:Stmt)(t:TS):Prop :=
 ∀(pins:Y2) (s:ii) (σ:St) (H:Hp) (D:Ends),03 H s->t D σ H->wpAny 41 X.A (exec st X.env) (SP X pins D) X.xe s
def PSs(X:Cx)(st:List Stmt)(t:TS):Prop :=
 ∀(pins:Y2) (s:ii) (σ:St) (H:Hp) (D:Ends),03 H s->t D σ H->wpAny 41 X.A (execs st X.env) (SP X pins D) X.xe s
theorem thn{d:Type}{t:Sem d}{Q g:d->ii->Prop}{M:Model}{A:iq}{E:Y0}{s:ii}(h:wpAny M A t Q E s)(c:∀a s,Q a s->g a s):wpAny M A t g E s:=i5 h c λ_ _ x=>x
section
variable {X:Cx}
def tVar(i:Nat):TE:=λU H Q=>match U[i]? with
 |some (G v)=>Q v H
 |_=>False
theorem zxz(h:tVar i U H Q):∃v,U[i]?=G (G v)/\Q v H:=by
 unfold tVar at h;split at h
 .rename_i e;show(_,e,h)
 .exact h.elim
theorem zxy(e:U[i]?=G (G v))(h:Q v H):tVar i U H Q:=by
 unfold tVar;rw[e];show h
def tC(v:V):TE:=λ_ H Q=>Q v H
theorem zwy{i:Nat}{x:Str}{pos:Pos}(T:X.Nq[i]?=G x)(D:Vis X.env.scope x)(hd:017=Fa:=by decide)(O:(x==("__classdict__":Str))=Fa:=by decide):PE X (.Name x pos) (tVar i):=by
 intro Y s U H Q I h;let(v,e,h):=zxz h;let(m,o,j):=I.loc;let(u,r,l):=j i x v T e D;let fin:EP X Y U Q u s:=(v,H,I,r,h);rcases l with⟨C,J⟩|⟨C,c,g,a⟩
 .exact wpAny_Name (wpAny_loadName_local I.ok.kind C o J fin) hd
 .rcases C with C|C
  .exact wpAny_Name (wpAny_loadName_cell I.ok.kind C g a fin) hd
  .exact wpAny_Name (wpAny_loadName_free I.ok.kind C g a fin O) hd
theorem zac:PE X (.Constant (.int i) j pos) (tC<|.int i):=λ_ _ _ H _ I h=>wpAny_Constant_int (.int i,H,I.tok _,(_,R),h)
theorem zd0:PE X (.Constant (.bool b) j pos) (tC<|.bl b):=λ_ _ _ H _ I h=>Constant_bool (.bl b,H,I,R,h)
theorem zd1:PE X (.Constant .none j pos) (tC .non):=λ_ _ _ H _ I h=>Constant_none (.non,H,I,R,h)
theorem zal:PE X (.Constant (.str x) j pos) (tC<|.str x):=λ_ _ _ H _ I h=>Calls.Constant_str (.str x,H,I.tok _,(_,R),h)
def Gl(X:Cx)(x:Str):Prop:=X.env.kindOf x=G .globalImplicit
theorem zfa{E:Y0}{pins:Y2}{s:ii}{σ:St}{H:Hp}{x:Str}{u:Va}{pos:Pos}{Q:Y0}(I:03 H s)(hg:Gl X x)(l:X.mg x=G u)(h:Q u s)
  (hd:017=Fa:=by decide):wpAny 41 X.A (eval (.Name x pos) X.env) Q E s :=
 Calls.Name_function_global I.ok.kind hg (Calls.loadGlobal_global (by rw[I.ok.glob];show I.mod.glob.keeps I.bk) l h) hd
theorem zh8{E:Y0}{pins:Y2}{s:ii}{σ:St}{H:Hp}{x:Str}{u:Va}{pos:Pos}{Q:Y0}(I:03 H s)(hg:Gl X x)(l:X.mg x=B)(D:iQ x=G u)(h:Q u s)
  (o:x≠"__name__":=by decide) (hd:017=Fa:=by decide):wpAny 41 X.A (eval (.Name x pos) X.env) Q E s:=by
 let(mb,M,J):=I.mod.blt;show Calls.Name_function_global I.ok.kind hg (Calls.loadGlobal_builtin (by rw[I.ok.glob];show I.mod.glob.keeps I.bk) l (by rw[I.ok.blt];show M.keeps I.bk) ((J x o).trans D) h) hd
theorem zrc(hg:Gl X x)(l:X.mg x=G u)(r:RelV v u)(hd:017=Fa:=by decide):PE X (.Name x pos) (tC v) :=
 λ_ _ _ H _ I h=>zfa I hg l (v,H,I,r,h) hd
theorem zcd{x:Str}{v:V}{u:Va}{pos:Pos}(hg:Gl X x)(l:X.mg x=B)(D:iQ x=G u)(r:RelV v u)(o:x≠"__name__":=by decide)(hd:017=Fa:=by decide):PE X (.Name x pos) (tC v) :=
 λ_ _ _ H _ I h=>zh8 I hg l D (v,H,I,r,h) o hd
variable {a b:Expr}{ta tb:TE}{pos:Pos}
def asI(x:V)(k:Int->Prop):Prop:=match x with
 |.int i=>k i
 |_=>False
theorem zd3(h:asI x k):∃i,x=.int i/\k i:=by
 cases x<;>first|show(_,R,h)|show False.elim h
theorem asI_l:asI (.int i) k=k i:=rfl
def asR(x:V)(k:Ad->Prop):Prop:=match x with
 |.ref i=>k i
 |_=>False
theorem zck(h:asR x k):∃i,x=.ref i/\k i:=by
 cases x<;>first|show(_,R,h)|show False.elim h
theorem asR_l:asR (.ref i) k=k i:=rfl
def asS(x:V)(k:Str->Prop):Prop:=match x with
 |.str i=>k i
 |_=>False
theorem zts(h:asS x k):∃i,x=.str i/\k i:=by
 cases x<;>first|show(_,R,h)|show False.elim h
theorem asS_l:asS (.str i) k=k i:=rfl
def asB(x:V)(k:Bool->Prop):Prop:=match x with
 |.bl i=>k i
 |_=>False
theorem zld(h:asB x k):∃i,x=.bl i/\k i:=by
 cases x<;>first|show(_,R,h)|show False.elim h
theorem asB_l:asB (.bl i) k=k i:=rfl
def tB(t:TE):TT:=λU H Q=>t U H λx H1=>asB x λc=>Q c H1
theorem zbd(h:PE X e t)(D:∀f,isTrue e X.env f=(do let v ←f;standAt e.pos;holding [v] (truthy v)):=by intro _;rfl):PT X e (tB t):=by
 intro Y s U H Q I C;apply isTrue_plain (thn (h Y s U H _ I C) λv s1 E=>ex5 E λx H1 A r1 J=>?_)<|D _;let(d,rfl,q):=zld J;cases r1;show iy (H1,A,q)
variable {tA tB':TT}{rest:List Expr}
def tAnd(t u:TT):TT:=λU H Q=>t U H λc H1=>if c=N then u U H1 Q else Q Fa H1
def tOr(t u:TT):TT:=λU H Q=>t U H λc H1=>if c=N then Q N H1 else u U H1 Q
def tNot(t:TT):TT:=λU H Q=>t U H λc H1=>Q (!c) H1
theorem zb4(L:PT X a tA):PW X (.BoolOp .And [a] pos) tA:=by
 intro d Y s U H Q I h;apply isTrue_and<|thn (L Y s U H Q I h) λc s1 e=>?_;cases c with
 |true=>show isTrue_and_nil e
 |false=>show e
theorem zb5(L:PT X a tA):PW X (.BoolOp .Or [a] pos) tA:=by
 intro d Y s U H Q I h;apply isTrue_or<|thn (L Y s U H Q I h) λc s1 e=>?_;cases c with
 |false=>show isTrue_or_nil e
 |true=>show e
theorem zc5(ha:PT X a tA)(Y:PW X (.BoolOp .And (b::rest) pos) tB'):PW X (.BoolOp .And (a::b::rest) pos) (tAnd tA tB'):=by
 intro d pins s σ H Q I h;apply isTrue_and<|thn 054 λc s1 (H1,A,J)=>?_;cases c with
 |true=>show Y d pins s1 σ H1 Q A J
 |false=>show(H1,A,J)
theorem zcc(ha:PT X a tA)(Y:PW X (.BoolOp .Or (b::rest) pos) tB'):PW X (.BoolOp .Or (a::b::rest) pos) (tOr tA tB'):=by
 intro d pins s σ H Q I h;apply isTrue_or<|thn 054 λc s1 (H1,A,J)=>?_;cases c with
 |true=>show(H1,A,J)
 |false=>show Y d pins s1 σ H1 Q A J
theorem zb6(L:PT X a tA):PT X (.UnaryOp .Not a pos) (tNot tA):=by
 intro Y s U H Q I h;show isTrue_not<|L Y s U H (λc H1=>Q (!c) H1) I h
def tAndV(ta tb:TE):TE:=λU H Q=>ta U H λx H1=>∃c,x=.bl c/\if c=N then tb U H1 Q else Q (.bl Fa) H1
def tOrV(ta tb:TE):TE:=λU H Q=>ta U H λx H1=>∃c,x=.bl c/\if c=N then Q (.bl N) H1 else tb U H1 Q
def tNotV(ta:TE):TE:=λU H Q=>ta U H λx H1=>∃c,x=.bl c/\Q (.bl<|!c) H1
theorem zby(h:PE X a t):PE X (.BoolOp op [a] pos) t:=λY s U H Q I C=>BoolOp_one<|h Y s U H Q I C
theorem zce(ha:PE X a ta)(Y:PE X (.BoolOp .And (b::rest) pos) tb):PE X (.BoolOp .And (a::b::rest) pos) (tAndV ta tb):=by
 intro pins s σ H Q I h;apply BoolOp_and<|thn 054 λv s1 E=>ex5 E λx H1 A r1 J=>?_;let(c,rfl,J):=J;cases r1;apply iy ?_;cases c with
 |true=>show Y pins s1 σ H1 Q A J
 |false=>show(.bl Fa,H1,A,R,J)
theorem zuw(ha:PE X a ta)(Y:PE X (.BoolOp .Or (b::rest) pos) tb):PE X (.BoolOp .Or (a::b::rest) pos) (tOrV ta tb):=by
 intro pins s σ H Q I h;apply BoolOp_or<|thn 054 λv s1 E=>ex5 E λx H1 A r1 J=>?_;let(c,rfl,J):=J;cases r1;apply iy ?_;cases c with
 |false=>show Y pins s1 σ H1 Q A J
 |true=>show(.bl N,H1,A,R,J)
theorem zrb(ha:PE X a ta):PE X (.UnaryOp .Not a pos) (tNotV ta):=by
 intro pins s σ H Q I h;apply UnaryOp_<|thn 054 λv s1 E=>ex5 E λx H1 A r1 J=>?_;let(c,rfl,J):=J;cases r1;show not_of<|iy (.bl<|!c,H1,A,R,J)
def tIf(t:TT)(ta tb:TE):TE:=λU H Q=>t U H λc H1=>if c=N then ta U H1 Q else tb U H1 Q
theorem zci(g:PT X c tA)(L:PE X a ta)(E:PE X b tb):PE X (.IfExp c a b pos) (tIf tA ta tb):=by
 intro Y s U H Q I h;apply wpAny_IfExp<|thn (g Y s U H _ I h) λd s1 (H1,A,J)=>?_;cases d with
 |true=>show L Y s1 U H1 Q A J
 |false=>show E Y s1 U H1 Q A J
end
def SqL(K:Frag)(H:Hp)(a:Ad)(xs:List V):Prop :=
 Rd H a 98\/
  ∃(o:Obj) (its:Array Va) (n:Nat),K.lookup a=G o/\o.cls=.type "list"/\o.dict=B/\o.data=.seq its n/\its.size<=ij/\Vals xs its.toList
def SqT(K:Frag)(H:Hp)(a:Ad)(xs:List V):Prop :=
 Rd H a 015\/
  ∃(o:Obj) (its:Array Va) (n:Nat),K.lookup a=G o/\o.cls=.type "tuple"/\o.data=.seq its n/\its.size<=ij/\Vals xs its.toList
noncomputable def absV:Va->Option V
 |.none=>G .non
 |.bool b=>G<|.bl b
 |.int i _=>G<|.int i
 |.str x _=>G<|.str x
 |.bytes b _=>G<|.byt b
 |.float b _=>G<|.flt b
 |.ref a=>G 09
 |.type n=>G<|.ty n
 |_=>B
theorem RelV.abs(r:RelV x u):absV u=G x:=by
 cases x with
 |non=>cases r;rfl
 |bl _=>cases r;rfl
 |int _=>let(t,rfl):=r;rfl
 |str _=>let(t,rfl):=r;rfl
 |byt _=>let(t,rfl):=r;rfl
 |flt _=>let(t,rfl):=r;rfl
 |ref _=>cases r;rfl
 |ty _=>cases r;rfl
theorem RelV.inj(r:RelV x u)(q:RelV y u):x=y:=Option.some.inj<|r.abs.symm.trans q.abs
theorem Vals.inj:∀{xs ys:List V} {us:List Va},Vals xs us->Vals ys us->xs=ys
 |_,_,_,.nil,.nil=>rfl
 |_,_,_,.cons r t,.cons r' t'=>by rw[r.inj r',Vals.inj t t']
section
variable {X:Cx}{pins:Y2}{σ:St}{H:Hp}{s:ii}{a:Ad}{xs ys:List V}
theorem SqL.of{K:Frag}(h:H a=G 98):SqL K H a xs:=.inl<|.inl h
theorem SqT.of{K:Frag}(h:H a=G 015):SqT K H a xs:=.inl<|.inl h
theorem Inv.list(I:03 H s)(h:SqL X.K H a xs):∃its:List Va,Vals xs its/\PlainL s.heap a its.toArray/\xs.length<=ij:=by
 rcases h with h|⟨o,its,n,C,g,hd,hs,hz,r⟩
 .let(z,its,n,r,e):=h.ok I.hok;show(its,r,(_,n,e,R,R,R),z)
 .refine(its.toList,r,(o,n,I.kIn a o C,g,hd,by simpa using hs),?_);let e:=r.length;simp only[y1i]at e;omega
theorem Inv.tuple(I:03 H s)(h:SqT X.K H a xs):∃its:List Va,Vals xs its/\IsTup s.heap a its.toArray/\xs.length<=ij:=by
 rcases h with h|⟨o,its,n,C,g,hs,hz,r⟩
 .let(z,its,r,p):=h.ok I.hok;show(its,r,p,z)
 .refine(its.toList,r,(o,I.kIn a o C,g,n,by simpa using hs),?_);let e:=r.length;simp only[y1i]at e;omega
theorem Inv.list_inj(I:03 H s)(h:SqL X.K H a xs)(h':SqL X.K H a ys):xs=ys:=by
 let(its,r,(o,n,e,_,_,d),_):=I.list h;let(its',r',(y,n',D,_,_,d'),_):=I.list h';rw[e]at D;cases D;rw[d]at d';injection d' with p _
 let:its=its':=by simpa using congrArg Array.toList p
 subst this;show r.inj r'
theorem Inv.tuple_inj(I:03 H s)(h:SqT X.K H a xs)(h':SqT X.K H a ys):xs=ys:=by
 let(its,r,(o,e,_,n,d),_):=I.tuple h;let(its',r',(y,D,_,n',d'),_):=I.tuple h';rw[e]at D;cases D;rw[d]at d';injection d' with p _
 let:its=its':=by simpa using congrArg Array.toList p
 subst this;show r.inj r'
end
noncomputable abbrev Cx.wish(X:Cx)(E:Y0):Cx:={X with xe:=E}
noncomputable abbrev Cx.nox(X:Cx):Cx:=X.wish λ_ _=>False
theorem Cx.Ok.wish{X:Cx}(ok:X.Ok)(E:Y0):(X.wish E).Ok :=
 125
theorem Cx.Ok.unwish{X:Cx}(ok:(X.wish E).Ok):X.Ok :=
 125
section
variable {X:Cx}{pins:Y2}{σ:St}{H:Hp}{s:ii}{E:Y0}
theorem Inv.wish(I:03 H s)(E:Y0):Inv (X.wish E) pins σ H s:=(I.ok.wish E,I.os,I.bare,I.base,I.loc,I.cell,I.free,I.freeC,I.pin,I.hok,I.len)
theorem Inv.unwish(I:Inv (X.wish E) pins σ H s):03 H s:=(I.ok.unwish,I.os,I.bare,I.base,I.loc,I.cell,I.free,I.freeC,I.pin,I.hok,I.len)
theorem SP.unwish(h:SP (X.wish E) pins D f s'):SP X pins D f s':=by
 cases f with
 |next=>let(O,H',I,q):=h;show(O,H',I.unwish,q)
 |brk=>let(O,H',I,q):=h;show(O,H',I.unwish,q)
 |cont=>let(O,H',I,q):=h;show(O,H',I.unwish,q)
 |ret u=>let(v,O,H',I,r,q):=h;show(v,O,H',I.unwish,r,q)
theorem PSs.nox{st:List Stmt}{t:TS}(h:PSs X.nox st t):PSs X st t:=λpins s σ H D I C =>
 i5 (h pins s σ H D (I.wish _) C) (λ_ _ q=>q.unwish) λ_ _ z=>False.elim z
end
section
variable {X:Cx}{st:Stmt}{rest:List Stmt}{t u:TS}{e:Expr}{te:TE}{pos:Pos}
def tNext:TS:=λD U H=>D.nx U H
def tSeq(t u:TS):TS:=λD U H=>t {D with nx:=u D} U H
theorem zak:PSs X [] tNext:=λ_ _ U H _ I h=>iS (U,H,I,h)
theorem zab(M:PS X st t)(J:PSs X rest u):PSs X (st::rest) (tSeq t u):=by
 intro Y s U H D I h;apply ji<|thn (M Y s U H {D with nx:=u D} I h) λf s1 q=>?_;cases f with
 |next =>
  let(O,H',i,q):=q;show J Y s1 O H' D i q
 |ret v=>show q
 |brk=>show q
 |cont=>show q
theorem zad(M:PS X st t):PSs X [st] t:=by
 intro Y s U H D I h;apply ji<|thn (M Y s U H D I h) λf s1 q=>?_;cases f with
 |next=>show iS q
 |ret v=>show q
 |brk=>show q
 |cont=>show q
def tBreak:TS:=λD U H=>D.bk U H
def tCont:TS:=λD U H=>D.ct U H
theorem Inv.quiet{pins:Y2}{σ:St}{H:Hp}{s:ii}(I:03 H s):interactive X.env=Fa:=by simp[interactive,I.ok.kind]
def tDrop(te:TE):TS:=λD U H=>te U H λ_ H1=>D.nx U H1
theorem zbf(he:PE X e te)(hs:jd e B pos.line X.env=pure Fa:=by rfl):PS X (.Expr e pos) (tDrop te):=by
 intro pins s σ H D I h;show wpAny_Expr_any (thn 079 λv s1 E=>ex5 E λx H1 A r1 J=>(σ,H1,A,J)) I.quiet hs
def tRet(te:TE):TS:=λD U H=>te U H D.rt
theorem zai(he:PE X e te):PS X (.Return (G e) pos) (tRet te):=by
 intro pins s σ H D I h;show wpAny_Return_some<|thn 079 λv s1 E=>ex5 E λx H1 A r1 J=>(x,σ,H1,A,r1,J)
def tRetN:TS:=λD _ H=>D.rt .non H
def tIfS(c:TT)(t u:TS):TS:=λD U H=>c U H λb H1=>if b=N then t D U H1 else u D U H1
theorem zaz(g:PT X c r)(L:PSs X a t)(E:PSs X b u):PS X (.If c a b pos) (tIfS r t u):=by
 intro Y s U H D I h;apply wpAny_If<|thn (g Y s U H _ I h) λd s1 (H1,A,J)=>?_;cases d with
 |true=>show L Y s1 U H1 D A J
 |false=>show E Y s1 U H1 D A J
def tNever:TS:=λ_ _ _=>False
theorem zf8:PS X st tNever:=λ_ _ _ _ _ _ h=>h.elim
end
abbrev TG:=V->St->Hp->(St->Hp->Prop)->Prop
abbrev TGs:=List V->St->Hp->(St->Hp->Prop)->Prop
def PG(X:Cx)(d:Expr)(t:TG):Prop :=
 ∀(pins:Y2) (s:ii) (σ:St) (H:Hp) (v:V) (u:Va) (Q:St->Hp->Prop),03 H s->RelV v u->t v σ H Q->
  wpAny 41 X.A (assign d X.env u) (λ_ s'=>∃O H',Inv X pins O H' s'/\Q O H') X.xe s
def PGs(X:Cx)(ts:List Expr)(t:TGs):Prop :=
 ∀(pins:Y2) (s:ii) (σ:St) (H:Hp) (vs:List V) (us:List Va) (Q:St->Hp->Prop),03 H s->Vals vs us->t vs σ H Q->
  wpAny 41 X.A (assignInOrder ((jc ts X.env).map (·.2)) us) (λ_ s'=>∃O H',Inv X pins O H' s'/\Q O H') X.xe s
abbrev TSet:=V->V->V->Hp->(Hp->Prop)->Prop
abbrev TIp:=V->V->Hp->VK->Prop
section
variable {X:Cx}{pos:Pos}
def gName(i:Nat):TG:=λv U H Q=>Q (U.set i<|G v) H
theorem zaw(T:X.Nq.Nodup)(hi:X.Nq[i]?=G x)(O:Loc X.env.scope x)(C:X.fn x=N\/X.env.scope.names.lookup x=G .local:=by first|show .inl rfl|show .inr rfl|assumption):PG X (.Name x pos) (gName i):=by
 intro Y s U H v u Q I r h;show wpAny_assign_Name<|zif I T hi O r (λs' a=>(_,H,a,h)) C
def gNil:TGs:=λvs U H Q=>vs=[]/\Q U H
def gCons(t:TG)(u:TGs):TGs:=λvs U H Q=>∃v r,vs=v::r/\t v U H λO H'=>u r O H' Q
theorem zmg:PGs X [] gNil:=by
 intro Y s U H vs us Q I r h;let(e,h):=h;subst e;cases r;show assignInOrder_nil (U,H,I,h)
theorem zcz(M:PG X e t)(J:PGs X es u)
  (hs:(jc (e::es) X.env).map (·.2)=assign e X.env::(jc es X.env).map (·.2):=by rfl):PGs X (e::es) (gCons t u):=by
 intro Y s U H vs us Q I r h;let(v,a,e1,h):=h;subst e1;cases r with
 |cons r c =>
  rw[hs];apply assignInOrder_cons<|thn (M Y s U H _ _ _ I r h) λ_ s1 (d,H1,A,L)=>?_;show J Y s1 d H1 _ _ Q A c L
def gTup(K:Frag)(n:Nat)(t:TGs):TG:=λv U H Q=>∃a xs,v=.ref a/\SqT K H a xs/\xs.length=n/\t xs U H Q
theorem pg_tup{es:List Expr}{k:Nat}{t:TGs}{n:Nat}(hc:X.calm=N)(h:PGs X es t)
  (y:(jc es X.env).length=n:=by rfl) (c:(jc es X.env).findIdx? (·.1)=B:=by rfl):PG X (.Tuple es k pos) (gTup X.K n t):=by
 intro pins s σ H v u Q I r C;let(a,xs,e1,D,j,C):=C;subst e1;cases r;let(its,f,ht,hz):=I.tuple D;apply assign_Tuple_tuple 037 ht (by simp[y,←j,f.length]) c λh' O=>?_;let A:03 H {s with heap:=h'}:=I.kept (t':=s.toks) λb o e=>O b o (y0m<|y0h e) e;show h pins _ σ H xs _ Q A (by simpa using f) C
def gSub(f ti:TE)(t:TSet):TG:=λv U H Q=>f U H λo H1=>ti U H1 λi H2=>t o i v H2 λH3=>Q U H3
def tAsg(te:TE)(g:TG):TS:=λD U H=>te U H λx H1=>g x U H1 D.nx
theorem ps_asg(he:PE X e te)(hg:PG X T g)(hs:swapsWithSole [T] e pos.line X.env=pure Fa:=by rfl)(C:swappedStores [T] e X.env=pure B:=by rfl)
  (M:(jc [T] X.env).map (·.2)=[assign T X.env]:=by rfl):PS X (.Assign [T] e pos) (tAsg te g):=by
 intro pins s σ H D I h;apply wpAny_Assign_stores (thn 079 λv s1 E=>ex5 E λx H1 A r1 J=>?_) hs C;rw[M];show thn (hg pins s1 σ H1 x v _ A r1 J) λ_ s2 q=>q
theorem zar(T:X.Nq.Nodup)(hi:X.Nq[i]?=G x)(O:Loc X.env.scope x)(he:PE X e te)(hs:jd e (G<|.Name x c) pos.line X.env=pure Fa:=by rfl)(U:X.fn x=N\/X.env.scope.names.lookup x=G .local:=by first|show .inl rfl|show .inr rfl|assumption):
  PS X (.Assign [.Name x c] e pos) (tAsg te<|gName i):=by
 intro pins s σ H D I h;apply wpAny_Assign_Name (thn 079 λv s1 E=>ex5 E λy H1 A r1 J=>?_) hs;show zif A T hi O r1 (λs2 j=>(_,H1,j,J)) U
def tPar(i j:Nat)(e:TA):TS:=λD U H=>e U H λvs H1=>∃v w,vs=[v,w]/\D.nx ((U.set i<|G v).set j<|G w) H1
def tAug(i:Nat)(te:TE)(ti:TIp):TS:=λD U H=>∃x,U[i]?=G (G x)/\te U H λy H1=>ti x y H1 λz H2=>D.nx (U.set i<|G z) H2
def ipI(f:Int->Int->Int):TIp:=λx y H Q=>∃i j,x=.int i/\y=.int j/\Q (.int<|f i j) H
end
section
variable {X:Cx}{pos:Pos}
def tWhile(c:TT)(o:TS):TS:=λD U H=>∃W:Nat->St->Hp->Prop,(∃m,W m U H)/\∀m U H,W m U H->
 c U H λb H1=>if b=N then∃Nq:St->Hp->Prop,(∀O H',Nq O H'->∃m',m'<m/\W m' O H')/\o {D with nx:=Nq,ct:=Nq,bk:=D.nx} U H1 else D.nx U H1
theorem znt(l:PassesOwn 41 X.A X.env X.xe)(g:PT X c r)(x:PSs X body o):PS X (.While c body [] pos) (tWhile r o):=by
 intro Y s U H D I h;let(W,(E,q),Q):=h;apply wpAny_While<|codeAny_whileLoop (λn s'=>∃O H',Inv X Y O H' s'/\W n O H') ?_ E (U,H,I,q);rintro n s1 ⟨d,H1,A,w1⟩;apply iK l<|thn (g Y s1 d H1 _ A<|Q n d H1 w1) λb s2 (H2,j,i)=>?_;cases b with
 |true =>
  let(Nq,T,i):=i;rw[Xq rfl];apply iK l<|thn (x Y s2 d H2 _ j i) λf p C=>?_;cases f with
  |next =>
   let(a,H3,L,u):=C;let(m',J,e):=T a H3 u;show(m',J,a,H3,L,e)
  |cont =>
   let(a,H3,L,u):=C;let(m',J,e):=T a H3 u;show(m',J,a,H3,L,e)
  |brk=>show C
  |ret v=>show C
 |false =>
  rw[Xp y0f];show iS (d,H2,j,i)
end
structure It where
 go:Nat->Hp->Prop
 yld:Nat->Hp->V->Hp->Prop
 stop:Nat->Hp->Prop
def FpOk(X:Cx)(Y:Y2)(H:Hp)(b:Ad):Prop :=
 H b=B/\b≠X.env.locals/\b∉X.fs/\(b∈X.ex\/X.s₀.heap.objs.size<=b)/\103/\∀p∈X.pn++Y,p.1≠b
theorem Inv.fpOk{X:Cx}{pins:Y2}{σ:St}{H H':Hp}{s:ii}{b:Ad}(I:03 H s)(Y:s.heap.objs.size<=b)(o:H' b=B):FpOk X pins H' b:=by
 apply(o,y28<|y0k I.lt Y,I.nofs Y,.inr<|y0z I.sz Y,λx c e z=>?_,λp l z=>?_)
 .let(v,q):=I.cell x c e;show Xa (y0k q.lt<|by rw[z];show Y)<|y1n _
 .exact Xa (y0k (y0h (I.pin p l).1)<|by rw[z];show Y)<|y1n _
structure Turn(P:ik)(w:World)(K:Frag)(tg:Expr)(J:It)(fp:List Ad)(it:Ad)(tn:Nat->Heap->Prop):Prop where
 mem:it∈fp
 obj:∀i h,tn i h->∀b∈fp,∃o,h.get? b=G o/\∀v,o.data ≠ .cell v
 keep:∀i h h',tn i h->(∀b∈fp,∀o,h.get? b=G o->h'.get? b=G o)->tn i h'
 item:∀(X:Cx),X.prog=P->X.w=w->X.K=K->X.calm=N->∀(i:Nat) (pins:Y2) (s:ii) (σ:St) (H:Hp) (E:Y0),03 H s->(∀b∈fp,FpOk X pins H b)->tn i s.heap->J.go i H->
  wpAny 011 X.A (jz 025) (λr s1=>∃u,r=G u/\
   wpAny 011 X.A (iL tg 025 u) (λ_ s2=>∃x H',03 H' s2/\RelV x u/\J.yld i H x H'/\tn (i+1) s2.heap/\∀b∈fp,H' b=B) E s1) E s
 done:∀(X:Cx),X.prog=P->X.w=w->X.K=K->X.calm=N->∀(i:Nat) (pins:Y2) (s:ii) (σ:St) (H:Hp) (E:Y0),03 H s->(∀b∈fp,FpOk X pins H b)->tn i s.heap->J.stop i H->
  wpAny 011 X.A (jz 025) (λr s1=>r=B/\03 H s1) E s
 self:∀(A:iq) (i:Nat) (s:ii) (Q:Y0) (E:Y0),tn i s.heap->Q 025 s->wpAny 011 A (jB 025) Q E s
abbrev TI:=St->Hp->(It->Hp->Prop)->Prop
def PIE(X:Cx)(pins:Y2)(σ:St)(T:Expr)(Rq:It->Hp->Prop)(a:Va)(s2:ii):Prop :=
 ∃(it:Ad) (fp:List Ad) (tn:Nat->Heap->Prop) (J:It) (H':Hp),a=.ref it/\03 H' s2/\Turn X.prog X.w X.K T J fp it tn/\tn 0 s2.heap/\(∀b∈fp,FpOk X pins H' b)/\Rq J H'
def PI(X:Cx)(T iter:Expr)(p:TI):Prop :=
 ∀(pins:Y2) (s:ii) (σ:St) (H:Hp) (Rq:It->Hp->Prop),03 H s->p σ H Rq->
  wpAny 41 X.A (eval iter X.env) (λv s1=>wpAny 41 X.A (jB v) (PIE X pins σ T Rq) X.xe s1) X.xe s
theorem zv6(T:s.heap.get? it=G o)(g:o.cls=.type n)(hd:o.data=.fields vs)
  (y:["enumerate","zip","dict_itemiterator","dict_reverseitemiterator","odict_iterator","itertools.zip_longest","itertools.pairwise"].contains n=Fa) (c:Q () s):wpAny M A (iL a 025 u) Q E s:=by
 unfold iL;cases a<;>first
  |show ig c
  |(cases u<;>first
    |show ig c
    |(apply ie (wpAny_load T ?_)
      rw[g,hd];change wpAny M A (if(["enumerate","zip","dict_itemiterator","dict_reverseitemiterator","odict_iterator","itertools.zip_longest","itertools.pairwise"].contains n&&vs[0]? ==G (i6 _))=N then _ else _) Q E s;rw[Xp<|by intro h;rw[y,y15]at h;cases h];show ig c))
noncomputable def Itl(K:Frag)(a:Ad):It :=
 (λi H=>∃xs x,SqL K H a xs/\xs[i]?=G x,λi H x H'=>H'=H/\∀xs,SqL K H a xs->xs[i]?=G x,λi H=>∃xs,SqL K H a xs/\xs.length<=i)
noncomputable def Itt(K:Frag)(a:Ad):It :=
 (λi H=>∃xs x,SqT K H a xs/\xs[i]?=G x,λi H x H'=>H'=H/\∀xs,SqT K H a xs->xs[i]?=G x,λi H=>∃xs,SqT K H a xs/\xs.length<=i)
noncomputable def Itr(lo:Int)(n:Nat):It:=(λi _=>i<n,λi H x H'=>H'=H/\x=.int (lo+i),λi _=>n<=i)
theorem zqa{P:ik}{w:World}{K:Frag}{T:Expr}(a it:Ad):Turn P w K T (Itl K a) [it] it (λi h=>h.IsListIter it a i) where
 mem:=by simp
 obj:=λi h st b Y=>by
  let e:b=it:=by simpa using Y
  subst e;let(o,e,c,d):=st;show(o,e,λv z=>by rw[d]at z;cases z)
 keep:=λi h h' st k=>st.at λo e=>k it 06 o e
 item:=by
  intro X M C L hc i pins s σ H E I U st hg;subst M C L;let(xs,x,D,O):=hg;let(its,f,p,hz):=I.list D;let(u,g,r):=f.get O;let(J,f1,y,f3,Q,l):=U it 06;apply wpAny_pyNext_list_item st p.isList (x:=u) (by simpa using g) λh' q sb=>?_;let A:03 H {s with heap:=h'}:=I.turned (t':=s.toks) (λb o Y e=>(sb.2 b Y).trans e) J f1 f3 Q l;let(o,e,c,d):=id q;show(u,R,zv6 (s:={s with heap:=h'}) e c d (by decide) (x,H,A,r,(R,λys hy=>by rw[I.list_inj hy D];show O),q,λb Y=>(U b Y).1))
 done:=by
  intro X M C L hc i pins s σ H E I U st hg;subst M C L;let(xs,D,O):=hg;let(its,f,p,hz):=I.list D;let(J,f1,y,f3,Q,l):=U it 06;let j:=f.length;show wpAny_pyNext_list_end 037 st p.isList (by simp;omega) λh' eb=>(R,I.turned (t':=s.toks) (λb o Y e=>eb b o Y e) J f1 f3 Q l)
 self:=λ_ _ _ _ _ st h=>wpAny_pyIter_listiter st h
theorem zoy{P:ik}{w:World}{K:Frag}{T:Expr}(a it:Ad):Turn P w K T (Itt K a) [it] it (λi h=>h.IsTupleIter it a i) where
 mem:=by simp
 obj:=λi h st b Y=>by
  let e:b=it:=by simpa using Y
  subst e;let(o,e,c,d):=st;show(o,e,λv z=>by rw[d]at z;cases z)
 keep:=λi h h' st k=>st.at λo e=>k it 06 o e
 item:=by
  intro X M C L hc i pins s σ H E I U st hg;subst M C L;let(xs,x,D,O):=hg;let(its,f,p,hz):=I.tuple D;let(u,g,r):=f.get O;let(J,f1,y,f3,Q,l):=U it 06;apply wpAny_pyNext_tuple_item st (show s.heap.IsTuple a its.toArray from p) (x:=u) (by simpa using g) λh' q sb=>?_;let A:03 H {s with heap:=h'}:=I.turned (t':=s.toks) (λb o Y e=>(sb.2 b Y).trans e) J f1 f3 Q l;let(o,e,c,d):=id q;show(u,R,zv6 (s:={s with heap:=h'}) e c d (by decide) (x,H,A,r,(R,λys hy=>by rw[I.tuple_inj hy D];show O),q,λb Y=>(U b Y).1))
 done:=by
  intro X M C L hc i pins s σ H E I U st hg;subst M C L;let(xs,D,O):=hg;let(its,f,p,hz):=I.tuple D;let(J,f1,y,f3,Q,l):=U it 06;let j:=f.length;show wpAny_pyNext_tuple_end 037 st (show s.heap.IsTuple a its.toArray from p) (by simp;omega) λh' eb=>(R,I.turned (t':=s.toks) (λb o Y e=>eb b o Y e) J f1 f3 Q l)
 self:=λ_ _ _ _ _ st h=>wpAny_pyIter_tupleiter st h
theorem zoz{P:ik}{w:World}{K:Frag}{T:Expr}(it:Ad)(lo:Int)(n:Nat):Turn P w K T (Itr lo n) [it] it (λi h=>IsRangeIter h it (lo+(i:Nat)*1) ((n:Int)-(i:Nat)) 1) where
 mem:=by simp
 obj:=λi h st b Y=>by
  let e:b=it:=by simpa using Y
  subst e;show⟨_,st,λv z=>by
   let O:Data.fields _=Data.cell v:=z;cases O⟩
 keep:=λi h h' st k=>k it 06 _ st
 item:=by
  intro X M C L hc i pins s σ H E I U st hg;subst M C L;let(J,f1,y,a,Q,l):=U it 06;let W:=Walks.range (prog:=X.prog) (w:=X.w) 037 it lo 1 n;apply W.item i s _ _ hg st λv h' tk D q f=>?_;let(t,rfl):=D;let A:03 H {s with heap:=h',toks:=tk}:=I.turned (λb o Y e=>f b o (by simpa using Y) e) J f1 a Q l;apply(_,R,zv6 (s:={s with heap:=h',toks:=tk}) (n:="range_iterator") q R R (by decide) (.int<|lo+i,H,A,(t,?_),(R,R),q,λb Y=>(U b Y).1));rw[Int.mul_one]
 done:=by
  intro X M C L hc i pins s σ H E I U st hg;subst M C L;let(J,f1,y,a,Q,l):=U it 06;show wpAny_pyNext_range_end 037 st (by have:n<=i:=hg;omega) λh' eb=>(R,I.turned (t':=s.toks) (λb o Y e=>eb b o Y e) J f1 a Q l)
 self:=λ_ _ _ _ _ st h=>wpAny_pyIter_rangeiter st h
section
variable {X:Cx}{tg:Expr}
def iList(K:Frag)(tl:TE):TI:=λU H Rq=>tl U H λx H1=>asR x λa=>(∃xs,SqL K H1 a xs)/\Rq (Itl K a) H1
def iTup(K:Frag)(tl:TE):TI:=λU H Rq=>tl U H λx H1=>asR x λa=>(∃xs,SqT K H1 a xs)/\Rq (Itt K a) H1
theorem zyk{l:Expr}{tl:TE}(j:PE X l tl):PI X tg l (iList X.K tl):=by
 intro Y s U H Rq I h;apply thn (j Y s U H _ I h) λv s1 E=>ex5 E λx H1 A r1 J=>?_;let(a,e,(xs,D),q):=zck J;subst e;cases r1;let(its,f,p,hz):=A.list D;apply iU p.isList ?_;apply(s1.heap.objs.size,[s1.heap.objs.size],_,_,H1,R,A.kept (t':=s1.toks) λb o e=>y01 _ e,zqa a _,(_,y0c _ R,R,R),λb r=>?_,q);let e:b=s1.heap.objs.size:=by simpa using r
 subst e;show A.fpOk 37<|A.hok.fresh 37
theorem pi_tup{l:Expr}{tl:TE}(j:PE X l tl):PI X tg l (iTup X.K tl):=by
 intro Y s U H Rq I h;apply thn (j Y s U H _ I h) λv s1 E=>ex5 E λx H1 A r1 J=>?_;let(a,e,(xs,D),q):=zck J;subst e;cases r1;let(its,f,p,hz):=A.tuple D;apply wpAny_pyIter_tuple (show s1.heap.IsTuple a its.toArray from p) ?_;apply(s1.heap.objs.size,[s1.heap.objs.size],_,_,H1,R,A.kept (t':=s1.toks) λb o e=>y01 _ e,zoy a _,(_,y0c _ R,R,R),λb r=>?_,q);let e:b=s1.heap.objs.size:=by simpa using r
 subst e;show A.fpOk 37<|A.hok.fresh 37
theorem zuo{pins:Y2}{σ:St}{H:Hp}{s:ii}{Rq:It->Hp->Prop}{E:Y0}{lo hi:Int}{t u v:Tok}{tk:Nat}(I:03 H s)(M:-(2^62)<=lo)(J:lo<2^62)(U:-(2^62)<=hi)(C:hi<2^62)
  (q:Rq (Itr lo (hi-lo).toNat) H):wpAny 41 X.A (jB 034) (PIE X pins σ tg Rq) E {s with heap:=s.heap.push {cls:=.type "range",data:=.fields #[.int lo t,.int hi u,.int 1 v]},toks:=tk}:=by
 apply wpAny_pyIter_range (IsRange.new ..) (small_one M J U C) ?_;let A:03 H {s with heap:=s.heap.push {cls:=.type "range",data:=.fields #[.int lo t,.int hi u,.int 1 v]},toks:=tk}:=I.kept λb o e=>y01 _ e;apply⟨(117).objs.size,[(117).objs.size],_,_,H,R,
  A.kept (t':=tk) λb o e=>y01 _ e,zoz _ lo (hi-lo).toNat,?_,λb Y=>?_,q⟩
 .let e1:lo+((0:Nat):Int)*1=lo:=by simp
  let L:(((hi-lo).toNat:Nat):Int)-((0:Nat):Int)=Builtin.Range.rangeSize lo hi 1:=by rw[rangeSize_one];split<;>omega
  change IsRangeIter _ _ (lo+((0:Nat):Int)*1) ((((hi-lo).toNat:Nat):Int)-((0:Nat):Int)) 1;rw[e1,L];show y0c _ R
 .let e:b=(117).objs.size:=by simpa using Y
  subst e;show A.fpOk 37<|A.hok.fresh 37
def iRng1(e:TA):TI:=λU H Rq=>e U H λvs H1=>∃j:Int,vs=[.int j]/\-(2^62)<=j/\j<2^62/\Rq (Itr 0 j.toNat) H1
def iRng2(e:TA):TI:=λU H Rq=>e U H λvs H1=>∃i j:Int,vs=[.int i,.int j]/\(-(2^62)<=i/\i<2^62/\-(2^62)<=j/\j<2^62)/\Rq (Itr i (j-i).toNat) H1
theorem zdh{a:Expr}{U:TA}{p pos:Pos}(hg:Gl X "range")(l:X.mg "range"=B)(ha:PA X [a] U)(hs:il [a] X.env=[(Fa,eval a X.env)]:=by rfl):PI X tg (.Call (.Name "range" p) [a] [] pos) (iRng1 U):=by
 intro pins s σ H Rq I h;apply Call_<|zh8 I hg l boot_range (PyProof.Rows.callWith_type1 (thn 074 λus s1 E=>ex5 E λvs H1 A r1 J=>?_) hs R);let(j,e,J,i,q):=J;subst e;cases r1 with
 |cons r c =>
  cases c;let(t,rfl):=r;show call_range_1<|zuo A 00 00 J i (by simpa using q)
def tFor(p:TI)(g:TG)(o:TS):TS:=λD U H=>p U H λJ H1=>∃W:Nat->Nat->St->Hp->Prop,(∃m,W 0 m U H1)/\∀i m U H,W i m U H->
 (J.stop i H/\D.nx U H)\/(J.go i H/\∃Nq:St->Hp->Prop,086/\∀x H',J.yld i H x H'->g x U H' λd H2=>o {D with nx:=Nq,ct:=Nq,bk:=D.nx} d H2)
noncomputable def pinsAt(fp:List Ad)(h:Heap):List (Ad×Obj):=fp.filterMap λb=>(h.get? b).map λo=>(b,o)
theorem zdw(Y:b∈fp)(e:h.get? b=G o):(b,o)∈pinsAt fp h:=List.mem_filterMap.mpr (b,Y,by rw[e];rfl)
theorem zry(l:p∈pinsAt fp h):p.1∈fp/\h.get? p.1=G p.2:=by
 let(b,Y,e):=List.mem_filterMap.mp l;cases q:h.get? b with
 |none=>rw[q]at e;cases e
 |some o =>
  rw[q]at e;let D:(b,o)=p:=Option.some.inj e;subst D;show(Y,q)
theorem Inv.pinned{pins:Y2}{σ:St}{H:Hp}{s:ii}{fp:List Ad}(I:03 H s)(U:∀b∈fp,FpOk X pins H b)(T:∀b∈fp,∃o,s.heap.get? b=G o/\∀v,o.data ≠ .cell v):Inv X (pins++pinsAt fp s.heap) σ H s :=
 I.pins_of λp l=>(y0o.mp l).elim (λz=>I.pin p<|y0s _ z) λz=>by
  let(Y,e):=zry z;let(J,f1,y,_):=U p.1 Y;let(o,D,d):=T p.1 Y;rw[e]at D;cases D;show(e,J,f1,y,d)
theorem Inv.unpinned{pins pl:Y2}{σ:St}{H:Hp}{s:ii}(I:Inv X (pins++pl) σ H s):03 H s:=I.pins_of λp l=>I.pin p<|y0s _ (y1f _ l)
theorem zdf(l:PassesOwn 41 X.A X.env X.xe)(hc:X.calm=N)(hi:PI X tg iter wi)(hg:PG X tg g)(hb:PSs X body tb)
  (hs:∀x,jf iter X.env x=pure x:=by intro _;rfl):PS X (.For tg iter body [] pos) (tFor wi g tb):=by
 intro Y s U H D I h;apply wpAny_For (thn (hi Y s U H _ I h) λv s1 M=>thn M λitv s2 h2=>?_) hs;let(it,fp,tn,J,H2,e,j,T,st2,y,W,(m0,w0),Q):=h2;subst e;let kz:∀{H':Hp},(∀b∈fp,H' b=B)->∀b∈fp,FpOk X Y H' b:=λhn b hb=>(hn b hb,(y b hb).2);apply codeAny_forLoop_any (λn s'=>∃i O H',Inv X Y O H' s'/\tn i s'.heap/\(∀b∈fp,H' b=B)/\W i n O H') ?_ m0 (0,U,H2,j,st2,λb hb=>(y b hb).1,w0);rintro n p ⟨i,cy,H3,L,l0,fr3,w3⟩;rcases Q i n cy H3 w3 with⟨stop,qn⟩|⟨go,Nq,hN,step⟩
 .refine iK l<|thn (T.done X R R R hc i Y p cy H3 X.xe L (kz fr3) l0 stop) λr s4 (hr,I4)=>?_;subst hr;show iS (cy,H3,I4,qn)
 .refine iK l<|thn (T.item X R R R hc i Y p cy H3 X.xe L (kz fr3) l0 go) λr s4 (u,hr,C)=>?_;subst hr;apply iK l<|thn C λ_ s5 E=>ex5 E λx H5 I5 r5 zq=>?_;let(y5,st5,fr5):=zq;let I5':=I5.pinned (kz fr5)<|T.obj _ _ st5;apply iK l<|thn (hg _ s5 cy H5 x u _ I5' r5<|step x H5 y5) λ_ A (σ6,H6,I6,q6)=>?_;apply iK l<|thn (hb _ A σ6 H6 _ I6 q6) λf s7 q7=>?_;let again:∀{q:St} {H7:Hp},Inv X (Y++pinsAt fp s5.heap) q H7 s7->Nq q H7->∃m,m<n/\∃i O H',Inv X Y O H' s7/\tn i s7.heap/\(∀b∈fp,H' b=B)/\W i m O H':=λ{q H7} c a=>by
   let(m',hm,w7):=hN q H7 a;apply(m',hm,i+1,q,H7,c.unpinned,T.keep _ _ _ st5 λb hb o e=>(c.pin (b,o)<|y0s _ (y0s _<|zdw hb e)).1,λb hb=>?_,w7);let(o,e,d):=T.obj _ _ st5 b hb;show(c.pin (b,o)<|y0s _ (y0s _<|zdw hb e)).2.1
  cases f with
  |next=>let(q,H7,c,a):=q7;show again c a
  |cont=>let(q,H7,c,a):=q7;show again c a
  |brk=>let(q,H7,c,q7):=q7;show(q,H7,c.unpinned,q7)
  |ret v=>let(x7,q,H7,c,r7,q7):=q7;show(x7,q,H7,c.unpinned,r7,q7)
end
theorem zwa{K:Frag}{a:Ad}{xs:List V}{g:TG}{o:TS}{D:Ends}{U:St}{H:Hp}(Pv:Nat->St->Hp->Prop)(Y:Pv 0 U H)(j:∀i U H,i<=xs.length->Pv i U H->SqL K H a xs)
  (hs:∀i x U H,xs[i]?=G x->Pv i U H->g x U H λd H2=>o {D with nx:=Pv<|i+1,ct:=Pv<|i+1,bk:=D.nx} d H2) (hd:∀U H,Pv xs.length U H->D.nx U H) :
  ∃W:Nat->Nat->St->Hp->Prop,(∃m,W 0 m U H)/\∀i m U H,W i m U H->
   ((Itl K a).stop i H/\D.nx U H)\/((Itl K a).go i H/\∃Nq:St->Hp->Prop,086/\∀x H',(Itl K a).yld i H x H'->g x U H' λd H2=>o {D with nx:=Nq,ct:=Nq,bk:=D.nx} d H2):=by
 apply(λi m U H=>m=xs.length-i/\i<=xs.length/\Pv i U H,(xs.length,by simp,y1g _,Y),?_);rintro i m U H ⟨rfl,hi,p⟩;let q:=j i U H hi p;by_cases r:i<xs.length
 .refine .inr ((xs,xs[i],q,by simp[r]),Pv<|i+1,λσ' H' p'=>(xs.length-(i+1),by omega,R,r,p'),λx H' y=>?_);let(e,y):=y;subst e;show hs i x U _ (y xs q) p
 .let e:i=xs.length:=by omega
  subst e;show .inl ((xs,q,y05 _),hd U H p)
theorem for_tup{K:Frag}{a:Ad}{xs:List V}{g:TG}{o:TS}{D:Ends}{U:St}{H:Hp}(Pv:Nat->St->Hp->Prop)(Y:Pv 0 U H)(j:∀i U H,i<=xs.length->Pv i U H->SqT K H a xs)
  (hs:∀i x U H,xs[i]?=G x->Pv i U H->g x U H λd H2=>o {D with nx:=Pv<|i+1,ct:=Pv<|i+1,bk:=D.nx} d H2) (hd:∀U H,Pv xs.length U H->D.nx U H) :
  ∃W:Nat->Nat->St->Hp->Prop,(∃m,W 0 m U H)/\∀i m U H,W i m U H->
   ((Itt K a).stop i H/\D.nx U H)\/((Itt K a).go i H/\∃Nq:St->Hp->Prop,086/\∀x H',(Itt K a).yld i H x H'->g x U H' λd H2=>o {D with nx:=Nq,ct:=Nq,bk:=D.nx} d H2):=by
 apply(λi m U H=>m=xs.length-i/\i<=xs.length/\Pv i U H,(xs.length,by simp,y1g _,Y),?_);rintro i m U H ⟨rfl,hi,p⟩;let q:=j i U H hi p;by_cases r:i<xs.length
 .refine .inr ((xs,xs[i],q,by simp[r]),Pv<|i+1,λσ' H' p'=>(xs.length-(i+1),by omega,R,r,p'),λx H' y=>?_);let(e,y):=y;subst e;show hs i x U _ (y xs q) p
 .let e:i=xs.length:=by omega
  subst e;show .inl ((xs,q,y05 _),hd U H p)
theorem zs0{lo:Int}{n:Nat}{g:TG}{o:TS}{D:Ends}{U:St}{H:Hp}(Pv:Nat->St->Hp->Prop)(Y:Pv 0 U H)
  (hs:∀i U H,i<n->Pv i U H->g (.int<|lo+i) U H λd H2=>o {D with nx:=Pv<|i+1,ct:=Pv<|i+1,bk:=D.nx} d H2) (hd:∀U H,Pv n U H->D.nx U H) :
  ∃W:Nat->Nat->St->Hp->Prop,(∃m,W 0 m U H)/\∀i m U H,W i m U H->
   ((Itr lo n).stop i H/\D.nx U H)\/((Itr lo n).go i H/\∃Nq:St->Hp->Prop,086/\∀x H',(Itr lo n).yld i H x H'->g x U H' λd H2=>o {D with nx:=Nq,ct:=Nq,bk:=D.nx} d H2):=by
 apply(λi m U H=>m=n-i/\i<=n/\Pv i U H,(n,by simp,y1g _,Y),?_);rintro i m U H ⟨rfl,hi,p⟩;by_cases r:i<n
 .refine .inr (r,Pv<|i+1,λσ' H' p'=>(n-(i+1),by omega,R,r,p'),λx H' y=>?_);let(e,y):=y;subst e y;show hs i U _ r p
 .let e:i=n:=by omega
  subst e;show .inl (y05 _,hd U H p)
abbrev R2:=V->V->Hp->VK->Prop
def OpR(X:Cx)(f:Va->Va->Sem Va)(r:R2):Prop :=
 ∀(pins:Y2) (s:ii) (σ:St) (H:Hp) (x y:V) (v u:Va) (Q:VK),03 H s->RelV x v->RelV y u->r x y H Q->
  wpAny 41 X.A (f v u) 050 X.xe s
def UnR(X:Cx)(f:Va->Sem Va)(r:V->Hp->VK->Prop):Prop :=
 ∀(pins:Y2) (s:ii) (σ:St) (H:Hp) (x:V) (v:Va) (Q:VK),03 H s->RelV x v->r x H Q->
  wpAny 41 X.A (f v) 050 X.xe s
def CallR(X:Cx)(f:Va)(r:List V->Hp->VK->Prop):Prop :=
 ∀(pins:Y2) (s:ii) (σ:St) (H:Hp) (xs:List V) (us:List Va) (Q:VK),03 H s->Vals xs us->r xs H Q->
  wpAny 41 X.A (call f us) 050 X.xe s
def TruR(X:Cx)(r:V->Hp->(Bool->Hp->Prop)->Prop):Prop :=
 ∀(pins:Y2) (s:ii) (σ:St) (H:Hp) (x:V) (v:Va) (Q:Bool->Hp->Prop),03 H s->RelV x v->r x H Q->
  wpAny 41 X.A (truthy v) (TP X pins σ Q) X.xe s
def tOp(r:R2)(e o:TE):TE:=λU H Q=>e U H λx H1=>o U H1 λy H2=>r x y H2 Q
def tUn(r:V->Hp->VK->Prop)(e:TE):TE:=λU H Q=>e U H λx H1=>r x H1 Q
def rI(C:Int->Int->Prop)(g:Int->Int->V):R2:=λx y H Q=>asI x λi=>asI y λj=>C i j/\Q (g i j) H
def rI0(g:Int->Int->V):R2:=λx y H Q=>asI x λi=>asI y λj=>Q (g i j) H
def rU(g:Int->V):V->Hp->VK->Prop:=λx H Q=>asI x λi=>Q (g i) H
section
variable {X:Cx}{a b c:Expr}{ta tb tc:TE}{pos:Pos}
theorem binT(ha:PE X a ta)(Y:PE X b tb){pins:Y2}{s:ii}{σ:St}{H:Hp}{Rq:V->V->Hp->Prop}(I:03 H s)
  (h:ta σ H λx H1=>tb σ H1 λy H2=>Rq x y H2) {Q:Y0} {f:Va->Va->Sem Va}
  (U:∀v u s2 x y H2,03 H2 s2->RelV x v->RelV y u->Rq x y H2->wpAny 41 X.A (f v u) Q X.xe s2) :
  wpAny 41 X.A (eval a X.env) (λv s₁=>wpAny 41 X.A (eval b X.env) (λu s₂=>wpAny 41 X.A (f v u) Q X.xe s₂) X.xe s₁) X.xe s:=by
 apply thn 054 λv s1 E=>ex5 E λx H1 A r1 J=>?_;apply thn (Y pins s1 σ H1 _ A J) λu s2 E=>ex5 E λy H2 j r2 i=>?_;show U v u s2 x y H2 j r1 r2 i
theorem zav(T:OpR X (iE op) r)(L:PE X a ta)(E:PE X b tb):PE X (.BinOp a op b pos) (tOp r ta tb):=by
 intro Y s U H Q I h;show wpAny_BinOp<|binT L E I h λv u s2 x y H2 j d O q=>T Y s2 U H2 x y v u Q j d O q
theorem zpd(T:UnR X (unaryOp op) r)(ha:PE X a ta):PE X (.UnaryOp op a pos) (tUn r ta):=by
 intro pins s σ H Q I h;show UnaryOp_<|thn 054 λv s1 E=>ex5 E λx H1 A r1 J=>T pins s1 σ H1 x v Q A r1 J
theorem opI{f:Va->Va->Sem Va}{C:Int->Int->Prop}{g:Int->Int->Int}
  (rule:∀(i j:Int) (t u:Tok) (s:ii) (Q:Y0) (E:Y0),C i j->Q (.int (g i j) s.toks) {s with toks:=s.toks+1}->wpAny (model X.prog X.w) X.A (f (.int i t)<|.int j u) Q E s) :
  OpR X f (rI C λi j=>.int<|g i j):=by
 intro Y s U H x y v u Q I d O h;let(i,rfl,h'):=zd3 h;let(j,rfl,A,q):=zd3 h';let(t,rfl):=d;let(t',rfl):=O;show rule i j t t' s _ _ A (.int<|g i j,H,I.tok _,(_,R),q)
theorem opI0{f:Va->Va->Sem Va}{g:Int->Int->Int}
  (rule:∀(i j:Int) (t u:Tok) (s:ii) (Q:Y0) (E:Y0),Q (.int (g i j) s.toks) {s with toks:=s.toks+1}->wpAny (model X.prog X.w) X.A (f (.int i t)<|.int j u) Q E s) :
  OpR X f (rI0 λi j=>.int<|g i j):=by
 intro Y s U H x y v u Q I d O h;let(i,rfl,h'):=zd3 h;let(j,rfl,q):=zd3 h';let(t,rfl):=d;let(t',rfl):=O;show rule i j t t' s _ _ (.int<|g i j,H,I.tok _,(_,R),q)
theorem opB0{f:Va->Va->Sem Va}{g:Int->Int->Bool}
  (rule:∀(i j:Int) (t u:Tok) (s:ii) (Q:Y0) (E:Y0),Q (.bool<|g i j) s->wpAny 41 X.A (f (.int i t)<|.int j u) Q E s) :
  OpR X f (rI0 λi j=>.bl<|g i j):=by
 intro Y s U H x y v u Q I d O h;let(i,rfl,h'):=zd3 h;let(j,rfl,q):=zd3 h';let(t,rfl):=d;let(t',rfl):=O;show rule i j t t' s _ _ (.bl<|g i j,H,I,R,q)
def CDiv(i j:Int):Prop:=0<j/\j<1073741824
def CPow(i j:Int):Prop:=0<=j/\j<=1000000/\i.natAbs<2^64
def CMul(i j:Int):Prop:=(-(2^64)<i/\i<2^64)\/(-(2^64)<j/\j<2^64)
theorem CMul.ok(h:CMul i j):IntMulOk i j:=by
 rcases h with⟨M,J⟩|⟨M,J⟩
 .exact .of_left<|intBits_le_64 M J
 .exact .of_right<|intBits_le_64 M J
theorem zox(k:Nat):(0:Int)<=2^k:=by
 rw[two_pow_cast];show Int.natCast_nonneg _
theorem zes:OpR X (iE .Add) (rI0 λi j=>.int<|i+j):=opI0 λ_ _ _ _ _ _ _ q=>add_int q
theorem zc6:OpR X (iE .Sub) (rI0 λi j=>.int<|i-j):=opI0 λ_ _ _ _ _ _ _ q=>sub_int q
theorem zkl:OpR X (iE .Mult) (rI CMul λi j=>.int<|i*j):=opI λ_ _ _ _ _ _ _ g q=>mul_int q g.ok
theorem zbt:OpR X (iE .FloorDiv) (rI CDiv λi j=>.int<|i/j):=opI λi j _ _ _ _ _ g q=>by
 let M:(0:Int)<j:=g.1;let J:j<1073741824:=g.2;show floordiv_int 00 (by rw[y4b i 00];show q)<|.inl (PyProof.noPylong_small 00)
theorem zbe:OpR X (iE .Mod) (rI (λ_ j=>0<j) λi j=>.int<|i%j):=opI λi j _ _ _ _ _ g q=>by
 let M:(0:Int)<j:=g;show mod_int' 00 (by rw[Int.fmod_eq_emod_of_nonneg i 00];show q)
theorem zrh:OpR X (iE .Pow) (rI CPow λi j=>.int<|i^j.toNat):=opI λ_ _ _ _ _ _ _ g q=>pow_int_small g.1 g.2.1 g.2.2 q
theorem zki:OpR X (iE .LShift) (rI CPow λi j=>.int<|i*2^j.toNat):=opI λ_ _ _ _ _ _ _ g q=>lshift_int_small g.1 g.2.1 g.2.2 q
theorem zwz:OpR X (iE .RShift) (rI (λ_ j=>0<=j) λi j=>.int<|i/2^j.toNat):=opI λi j _ _ _ _ _ g q =>
 rshift_int g (by rw[y4b i<|zox _];show q)
theorem zny:OpR X (iE .BitAnd) (rI0 λi j=>.int<|Builtin.bitAnd i j):=opI0 λ_ _ _ _ _ _ _ q=>and_int q
theorem op_or:OpR X (iE .BitOr) (rI0 λi j=>.int<|Builtin.bitOr i j):=opI0 λ_ _ _ _ _ _ _ q=>or_int q
theorem unI{f:Va->Sem Va}{g:Int->Int}
  (rule:∀(i:Int) (t:Tok) (s:ii) (Q:Y0) (E:Y0),Q (.int (g i) s.toks) {s with toks:=s.toks+1}->wpAny (model X.prog X.w) X.A (f<|.int i t) Q E s) :
  UnR X f (rU λi=>.int<|g i):=by
 intro Y s U H x v Q I d h;let(i,rfl,q):=zd3 h;let(t,rfl):=d;show rule i t s _ _ (.int<|g i,H,I.tok _,(_,R),q)
theorem zhp:UnR X (unaryOp .USub) (rU λi=>.int<|-i):=unI λ_ _ _ _ _ q=>neg_int q
end
noncomputable def scal:V->V->Bool
 |.non,.non=>N|.non,.int _=>N|.int _,.non=>N|.non,.bl _=>N|.bl _,.non=>N|.non,.str _=>N|.str _,.non=>N
 |.int _,.int _=>N|.bl _,.bl _=>N|.str _,.str _=>N|.byt _,.byt _=>N
 |.int _,.str _=>N|.str _,.int _=>N|.bl _,.str _=>N|.str _,.bl _=>N
 |_,_=>Fa
def rEq:R2:=λx y H Q=>scal x y=N/\Q (.bl<|decide (x=y)) H
def rNe:R2:=λx y H Q=>scal x y=N/\Q (.bl<|!decide (x=y)) H
theorem zs7:decide (V.int i=V.int j)=(i==j):=by
 rw[y1w];simp
theorem zxl:decide (V.bl i=V.bl j)=(i==j):=by
 rw[y1w];simp
theorem zs6:decide (V.str i=V.str j)=(i==j):=by
 rw[y1w];simp
theorem zs8:decide (V.byt i=V.byt j)=(i.toList==j.toList):=by
 rw[y1w];cases i;cases j;simp
section
variable {X:Cx}{a b c:Expr}{ta tb tc:TE}{pos:Pos}
theorem zba{pins:Y2}{σ:St}{H:Hp}{s:ii}{Q:VK}{k k':Bool}(I:03 H s)(q:Q (.bl k) H)(e:k=k'):EP X pins σ Q (.bool k') s:=by
 subst e;show(.bl k,H,I,R,q)
theorem op_eq:OpR X (im .Eq) rEq:=by
 intro Y s U H x y v u Q I d O h;let(hs,q):=h;cases x with
 |non =>
  cases d;cases y with
  |non=>cases O;show PySem.EqNone.eq_none_none 019
  |bl j=>cases O;show PySem.EqNone.eq_none_bool 019
  |int j=>let(t',rfl):=O;show PySem.EqNone.eq_none_int 019
  |str j=>let(t',rfl):=O;show PySem.EqNone.eq_none_str 019
  |_=>show Xa (show Fa=N from hs) y0f
 |bl i =>
  cases d;cases y with
  |non=>cases O;show PySem.EqNone.eq_bool_none 019
  |bl j=>cases O;show eq_bool<|zba I q zxl
  |str j=>let(t',rfl):=O;show PySem.EqMixed.eq_bool_str 019
  |_=>show Xa (show Fa=N from hs) y0f
 |int i =>
  let(t,rfl):=d;cases y with
  |non=>cases O;show PySem.EqNone.eq_int_none 019
  |int j=>let(t',rfl):=O;show eq_int<|zba I q zs7
  |str j=>let(t',rfl):=O;show PySem.EqMixed.eq_int_str 019
  |_=>show Xa (show Fa=N from hs) y0f
 |str i =>
  let(t,rfl):=d;cases y with
  |non=>cases O;show PySem.EqNone.eq_str_none 019
  |bl j=>cases O;show PySem.EqMixed.eq_str_bool 019
  |int j=>let(t',rfl):=O;show PySem.EqMixed.eq_str_int 019
  |str j=>let(t',rfl):=O;show eq_str<|zba I q zs6
  |_=>show Xa (show Fa=N from hs) y0f
 |byt i =>
  let(t,rfl):=d;cases y with
  |byt j=>let(t',rfl):=O;show PySem.W.eq_bytes<|zba I q zs8
  |_=>show Xa (show Fa=N from hs) y0f
 |_=>cases y<;>show Xa (show Fa=N from hs) y0f
theorem op_ne:OpR X (im .NotEq) rNe:=by
 intro Y s U H x y v u Q I d O h;let(hs,q):=h;cases x with
 |non =>
  cases d;cases y with
  |non=>cases O;show PySem.EqNone.ne_none_none 019
  |bl j=>cases O;show PySem.EqNone.ne_none_bool 019
  |int j=>let(t',rfl):=O;show PySem.EqNone.ne_none_int 019
  |str j=>let(t',rfl):=O;show PySem.EqNone.ne_none_str 019
  |_=>show Xa (show Fa=N from hs) y0f
 |bl i =>
  cases d;cases y with
  |non=>cases O;show PySem.EqNone.ne_bool_none 019
  |bl j=>cases O;show ne_bool<|zba I q (congrArg not zxl)
  |str j=>let(t',rfl):=O;show PySem.EqMixed.ne_bool_str 019
  |_=>show Xa (show Fa=N from hs) y0f
 |int i =>
  let(t,rfl):=d;cases y with
  |non=>cases O;show PySem.EqNone.ne_int_none 019
  |int j=>let(t',rfl):=O;show ne_int<|zba I q (congrArg not zs7)
  |str j=>let(t',rfl):=O;show PySem.EqMixed.ne_int_str 019
  |_=>show Xa (show Fa=N from hs) y0f
 |str i =>
  let(t,rfl):=d;cases y with
  |non=>cases O;show PySem.EqNone.ne_str_none 019
  |bl j=>cases O;show PySem.EqMixed.ne_str_bool 019
  |int j=>let(t',rfl):=O;show PySem.EqMixed.ne_str_int 019
  |str j=>let(t',rfl):=O;show ne_str<|zba I q (congrArg not zs6)
  |_=>show Xa (show Fa=N from hs) y0f
 |byt i =>
  let(t,rfl):=d;cases y with
  |byt j=>let(t',rfl):=O;show PySem.W.ne_bytes<|zba I q (congrArg not zs8)
  |_=>show Xa (show Fa=N from hs) y0f
 |_=>cases y<;>show Xa (show Fa=N from hs) y0f
theorem zmk:OpR X (im .Lt) (rI0 λi j=>.bl<|decide (i<j)):=opB0 λ_ _ _ _ _ _ _ q=>lt_int q
theorem op_le:OpR X (im .LtE) (rI0 λi j=>.bl<|decide (i<=j)):=opB0 λ_ _ _ _ _ _ _ q=>le_int q
theorem zhi:OpR X (im .Gt) (rI0 λi j=>.bl<|decide (j<i)):=opB0 λ_ _ _ _ _ _ _ q=>gt_int q
theorem op_ge:OpR X (im .GtE) (rI0 λi j=>.bl<|decide (j<=i)):=opB0 λ_ _ _ _ _ _ _ q=>ge_int q
theorem zkm:OpR X (im .In) (λx y H Q=>∃i j,x=.str i/\y=.str j/\Q (.bl<|!(Builtin.Str.occurrences j i 0 j.length 1).isEmpty) H):=by
 intro Y s U H x y v u Q I d O h;let(i,j,rfl,rfl,q):=h;let(t,rfl):=d;let(t',rfl):=O;show in_str<|zba I q R
theorem zw0:OpR X (im .Is) (λx y H Q=>y=.non/\Q (.bl<|decide (x=.non)) H):=by
 intro Y s U H x y v u Q I d O h;let(rfl,q):=h;cases O;apply is_none_gen<|zba I q ?_;cases x<;>first
  |(cases d;rfl)
  |(let(t,rfl):=d;rfl)
theorem zrj:OpR X (im .IsNot) (λx y H Q=>y=.non/\Q (.bl<|!decide (x=.non)) H):=by
 intro Y s U H x y v u Q I d O h;let(rfl,q):=h;cases O;apply isnot_none_gen<|zba I q ?_;cases x<;>first
  |(cases d;rfl)
  |(let(t,rfl):=d;rfl)
theorem nomark(b:Expr)(h:op ≠ .In:=by decide)(J:op ≠ .NotIn:=by decide):j3 op b=Fa:=by
 let e1:(op==CmpOp.In)=Fa:=by cases op<;>first|rfl|show Xa R h
 let L:(op==CmpOp.NotIn)=Fa:=by cases op<;>first|rfl|show Xa R J
 cases b<;>simp[j3,e1,L]
theorem za5(T:OpR X (im op) r)(L:PE X a ta)(E:PE X b tb)(l:j3 op b=Fa):PE X (.Compare a [op] [b] pos) (tOp r ta tb):=by
 intro Y s U H Q I h;show wpAny_Compare1 (binT L E I h λv u s2 x y H2 j d O q=>T Y s2 U H2 x y v u Q j d O q) l
def tTest(t:TE):TT:=λU H Q=>t U H λx H'=>asB x λk=>Q k H'
theorem zaf(T:OpR X (im op) r)(ha:PE X a ta)(Y:PE X b tb)(l:j3 op b=Fa):PT X (.Compare a [op] [b] pos) (tTest<|tOp r ta tb):=by
 intro pins s σ H Q I h;apply wpAny_isTrue_Compare1 (thn 054 λv s1 E=>ex5 E λx H1 A r1 J=>thn (Y pins s1 σ H1 _ A J) λu s2 E=>ex5 E λy H2 j r2 i =>
  thn (T pins s2 σ H2 x y v u _ j r1 r2 i) λc p E=>ex5 E λz H3 L o C=>?_) l
 let(k,e,C):=zld C;subst e;cases o;show iy (H3,L,C)
def tChain(r r':R2)(ta tb tc:TE):TE:=λU H Q=>ta U H λx H1=>tb U H1 λy H2=>r x y H2 λz H3=>asB z λk =>
 (if k=N then tc U H3 λw' H4=>r' y w' H4 Q else Q (.bl Fa) H3)
theorem znw(T:OpR X (im op) r)(q:OpR X (im U) r')(ha:PE X a ta)(Y:PE X b tb)(g:PE X c tc)
  (l:lastMarks [op,U] [b,c]=Fa:=by with_unfolding_all rfl):PE X (.Compare a [op,U] [b,c] pos) (tChain r r' ta tb tc):=by
 intro pins s σ H Q I h;apply Compare_chain (thn 054 λv s1 E=>ex5 E λx H1 A r1 J=>chain_link (thn (Y pins s1 σ H1 _ A J) λu s2 E=>ex5 E λy H2 j r2 i =>
  thn (T pins s2 σ H2 x y v u _ j r1 r2 i) λd p E=>ex5 E λz H3 L o C=>?_)) l
 let(k,e,C):=zld C;subst e;cases o;apply iy ?_;cases k with
 |false=>show ite_ff (.bl Fa,H3,L,R,C)
 |true=>show ite_tt<|chain_last (thn (g pins p σ H3 _ L C) λw' D E=>ex5 E λO H4 M f q4=>q pins D σ H4 y O u w' Q M r2 f q4)
theorem zi5(T:OpR X (im op) r)(q:OpR X (im U) r')(ha:PE X a ta)(Y:PE X b tb)(g:PE X c tc)
  (l:lastMarks [op,U] [b,c]=Fa:=by with_unfolding_all rfl):PT X (.Compare a [op,U] [b,c] pos) (tTest<|tChain r r' ta tb tc):=by
 intro pins s σ H Q I h;apply isTrue_chain (thn 054 λv s1 E=>ex5 E λx H1 A r1 J=>test_link (thn (Y pins s1 σ H1 _ A J) λu s2 E=>ex5 E λy H2 j r2 i =>
  thn (T pins s2 σ H2 x y v u _ j r1 r2 i) λd p E=>ex5 E λz H3 I3 o C=>?_)) l
 let(k,e,C):=zld C;subst e;cases o;apply iy ?_;cases k with
 |false =>
  show ite_ff (H3,I3,C)
 |true =>
  apply ite_tt<|test_last (thn (g pins p σ H3 _ I3 C) λw' D E=>ex5 E λO H4 M r4 q4=>thn (q pins D σ H4 y O u w' _ M r2 r4 q4) λd' s5 E=>ex5 E λz2 H5 I5 f q5=>?_);let(k2,L,q5):=zld q5;subst L;cases f;show iy (H5,I5,q5)
def TruV(K:Frag)(x:V)(H:Hp)(k:Bool):Prop :=
 match x with
 |.non=>k=Fa
 |.bl b=>k=b
 |.int i=>k=(i !=0)
 |.str y=>y.length<=ij/\k=((y.length:Int) !=0)
 |.byt y=>y.size<=ij/\k=((y.size:Int) !=0)
 |.ref p=>(∃xs,SqL K H p xs/\k=!xs.isEmpty)\/(∃xs,SqT K H p xs/\k=!xs.isEmpty)\/∃L,H p=G (.dK L)/\k=!L.isEmpty
 |_=>False
theorem zps{d:Type}{L:List (d×V)}{vs:List (d×Va)}(r:KV L vs):(!vs.isEmpty)=!L.isEmpty:=by
 cases r<;>rfl
theorem zia(r:Vals xs its):(!its.toArray.isEmpty)=!xs.isEmpty:=by
 cases r<;>simp
theorem line63:(ij:Nat)<2^63:=by rw[sizeLine_eq];decide
theorem tru_ok:TruR X (λx H Q=>∃k,TruV X.K x H k/\Q k H):=by
 intro Y s U H x v Q I d h;let(k,e,q):=h;let j:=line63;let hs:ij=16777216:=sizeLine_eq;cases x with
 |non =>
  cases d;let D:k=Fa:=e;subst D;show truthy_none (H,I,q)
 |bl b =>
  cases d;let D:k=b:=e;subst D;show iy (H,I,q)
 |int i =>
  let(t,rfl):=d;let D:k=(i !=0):=e;subst D;show PySem.P.truthy_int (H,I,q)
 |str y =>
  let(t,rfl):=d;obtain⟨o,D⟩:y.length<=ij/\k=((y.length:Int) !=0):=e;subst D;show PySem.P.truthy_str 00 (H,I.tok _,q)
 |byt y =>
  let(t,rfl):=d;obtain⟨o,D⟩:y.size<=ij/\k=((y.size:Int) !=0):=e;subst D;show PySem.W.truthy_bytes 00 (H,I.tok _,q)
 |ref p =>
  cases d;let D:(∃xs,SqL X.K H p xs/\k=!xs.isEmpty)\/(∃xs,SqT X.K H p xs/\k=!xs.isEmpty)\/∃L,H p=G (.dK L)/\k=!L.isEmpty:=e;rcases D with⟨xs,O,D⟩|⟨xs,O,D⟩|⟨L,O,D⟩
  .subst D;let(its,r,pl,hz):=I.list O;let M:=r.length;show wpAny_truthy_list pl.isList (by simp only[y0a];omega) (H,I.tok _,by rw[zia r];show q)
  .subst D;let(its,r,pl,hz):=I.tuple O;let M:=r.length;show truthy_tuple pl (by simp only[y0a];omega) (H,I.tok _,by rw[zia r];show q)
  .subst D;obtain⟨hz,J,vs,r,m⟩:L.length<=ij/\(p==iC)=Fa/\∃vs,KV L vs/\s.heap.DictOf (mixKind X.prog X.w) p vs:=I.hok p _ O;let M:L.length=vs.length:=Paired.length r;show wpAny_truthy_dict J m 00 (H,I.tok _,by rw[zps r];show q)
 |_=>show(show False from e).elim
theorem zi4(ha:PE X a ta)(d:∀f,isTrue a X.env f=(do let v ←f;standAt a.pos;holding [v] (truthy v))):
  PT X a (λσ H Q=>ta σ H λx H'=>∃k,TruV X.K x H' k/\Q k H'):=by
 intro pins s σ H Q I h;show isTrue_plain (thn 054 λv s1 E=>ex5 E λx H1 A r1 J=>tru_ok pins s1 σ H1 x v Q A r1 J)<|d _
theorem zh1:OpR X (iE .Add) (λx y H Q=>∃i j,x=.str i/\y=.str j/\i.length+j.length<=ij/\Q (.str<|i++j) H):=by
 intro Y s U H x y v u Q I d O h;let(i,j,rfl,rfl,hz,q):=h;let(t,rfl):=d;let(t',rfl):=O;show add_str (λt' tk=>(.str<|i++j,H,I.tok _,(_,R),q)) hz
theorem vals1(r:Vals [x] us):∃u,us=[u]/\RelV x u:=by
 cases r with
 |cons r1 r2=>cases r2;show(_,R,r1)
theorem vals2(r:Vals [x,y] us):∃u w',us=[u,w']/\RelV x u/\RelV y w':=by
 cases r with
 |cons r1 r2 =>
  cases r2 with
  |cons o f=>cases f;show(_,_,R,r1,o)
theorem ztn:CallR X (.type "int") (λxs H Q=>(∃i,xs=[.int i]/\Q (.int i) H)\/∃k,xs=[.bl k]/\Q (.int<|if k then 1 else 0) H):=by
 intro Y s U H xs us Q I r h;rcases h with⟨i,rfl,q⟩|⟨k,rfl,q⟩
 .let(u,rfl,t,rfl):=vals1 r;show call_int_int (.int i,H,I,(_,R),q)
 .let(u,rfl,r1):=vals1 r;cases r1;show call_int_bool (.int<|if k then 1 else 0,H,I.tok _,(_,R),q)
end
structure ObjM(h:Heap)(x dx C:Ad)(mA:Y1):Prop where
 obj:h.get? x=G (PySem.W.instObj C dx)
 ns:h.Ns1 dx mA
 ne:dx≠x
theorem zsa{h:Heap}(n:h.Ns1 dx i):∃M,h.get? dx=G M/\∀name,PySem.W.lookIn name M=G (i name):=by
 let(o,es,ep,T,hd,C,_,l):=n;apply(o,T,λname=>?_);let e:=l name;unfold nsFind jM at e;rw[←Array.find?_toList]at e;unfold PySem.W.lookIn;rw[hd];dsimp only;split
 .rename_i y q;rw[q]at e;show congrArg G e
 .rename_i q;rw[q]at e;let a:es.toList.any (·.refKey)=Fa:=by
   rw[List.any_eq_false];intro y I;let(z,t,c):=C y<|Array.mem_toList_iff.mp I;simp[DictEntry.refKey,c]
  let g:¬es.toList.any (·.refKey)=N:=by rw[a];show y0f
  rw[Xp g];show congrArg G e
theorem ObjM.look(I:ObjM h x dx C i):∃M,PySem.W.InstAt h x (PySem.W.instObj C dx) C (G M)/\∀name,PySem.W.lookIn name M=G (i name) :=
 let(M,T,j):=zsa I.ns
 (M,(I.obj,R,R,T),j)
section
variable {prog:ik}{w:World}{A:iq}{E:Y0}{s:ii}{K:Frag}{x dx C f:Ad}{mA:Y1}{name:Str}{v:Va}
theorem get_map(X:K.In s.heap)(I:ObjM s.heap x dx C mA)(hg:PySem.W.plainGet K C name=N)(hh:PySem.W.hasDictIn K C=N)
  (L:PySem.W.findIn K 84 name=G B) (D:mA name=G v) (a:PySem.W.handedIn v=N) (h:Q v {s with toks:=s.toks+1}) :
  wpAny 87 A (getAttr (.ref x) name expr) Q E s:=by
 let(M,J,j):=I.look;show PySem.W.get_value X J (PySem.W.plainGet_of hg).1 (PySem.W.findObj_own hh L R<|by rw[j,D]) a h
theorem zv7(X:K.In s.heap)(I:ObjM s.heap x dx C mA)(hg:PySem.W.plainGet K C name=N)
  (U:PySem.W.findIn K 84 name=G (G 45)) (ht:PySem.W.isFn K 45=N) (D:mA name=B) (h:Q (.ref f,[.ref x]) s) :
  wpAny 87 A (getMethod (.ref x) name pl) Q E s:=by
 let(M,J,j):=I.look;show PySem.W.method_fn X J (PySem.W.plainGet_of hg).1 (PySem.W.plainGet_of hg).2 U (beq_iff_eq.mp ht) (by change(PySem.W.lookIn name M).map (·.isSome)=G Fa;rw[j,D];rfl) h
theorem zx6(X:K.In s.heap)(I:ObjM s.heap x dx C mA)
  (hs:PySem.W.findIn K 84 "__setattr__"=G (G<|.builtin "object.__setattr__")) (l:PySem.W.plainOver K C=N) (ht:PySem.W.takerIn K C name=G B) (hh:PySem.W.hasDictIn K C=N)
  (T:PySem.Within mA ns) (hsz:ns.length<=ij)
  (h:∀h',ObjM h' x dx C (λy=>if y=name then G v else mA y)->Heap.SameBut dx s.heap h'->Q () {s with heap:=h',toks:=s.toks+2}) :
  wpAny 87 A (setAttr (.ref x) name v) Q E s:=by
 let(M,J,j):=I.look;apply PySem.W.set_plain X J hs<|PySem.W.osa_open (s:={s with toks:=s.toks+1}) (r:=B) X J l ht λb=>?_;let(cd,g,i):=PySem.W.any_some hh;let O:s.heap.get? x=G (.ref C,G dx,.plain,#[]):=I.obj;apply ie<|ig (ie<|ie (wpAny_loadPart O<|ie (PySem.W.Looks.here (s:={s with toks:=s.toks+1}) (PySem.W.looks_clsIn X g) ?_)));rw[i];apply ig (a:=G dx)<|ie (ig<|ie ?_);apply wpAny_nsSet1 (s:={s with toks:=s.toks+1}) I.ns λh' D d=>?_;let(u,p,q,o,c,e):=D.count<|PySem.Within.cons name v T;apply ie<|wpAny_lookBehind o (by rw[c];show pastItsLine_dict<|y0z e (by rw[y0b];omega)) ?_;show ig<|h _ ((d.2 _<|Ne.symm I.ne).trans I.obj,D,I.ne) d
theorem zvv(X:K.In s.heap)(l:PySem.W.makesIn K C=N)
  (hi:PySem.W.findIn K 84 "__init__"=G (G 45)) (U:PySem.W.typeIn K 45=G (.type "function"))
  (h:iZ 87 (A.under<|.builtin "type.__call__" (.ref C::vs,a)) (.call 45 (.ref 026::vs,a)) (PySem.W.InitBack 026 Rq)
   {s with heap:=(s.heap.push PySem.W.emptyDict).push (PySem.W.instObj C s.heap.objs.size)}) :
  iZ 87 A (.call 84 (vs,a)) Rq s:=by
 let(hh,g,d,t,os):=s;show PySem.W.make_core (PySem.W.makes_of X l) (PySem.W.looks_findIn X hi) (λself=>PySem.W.bind_fn X self U) 85 h
end
noncomputable def putF(f:Str)(v:V):List (Str×V)->List (Str×V)
 |[]=>[(f,v)]
 |(g,x)::r=>if g=f then(g,v)::r else(g,x)::putF f v r
theorem zgx(f g:Str)(v:V):∀fs:List<|Str×V,(putF f v fs).lookup g=if g=f then G v else fs.lookup g
 |[]=>by
  change List.lookup g [(f,v)]=_;by_cases h:g=f
  .let Y:(g==f)=N:=beq_iff_eq.mpr h;simp only[List.lookup,Y,Xq h]
  .let Y:(g==f)=Fa:=beq_eq_false_iff_ne.mpr h;simp only[List.lookup,Y,Xp h]
 |(k,x)::r=>by
  let E:=zgx f g v r;rw[show putF f v ((k,x)::r)=(if k=f then(k,v)::r else(k,x)::putF f v r)from rfl];by_cases C:k=f
  .rw[Xq C];by_cases h:g=k
   .let Y:(g==k)=N:=beq_iff_eq.mpr h;simp only[List.lookup,Y,Xq<|h.trans C]
   .let Y:(g==k)=Fa:=beq_eq_false_iff_ne.mpr h;simp only[List.lookup,Y,Xp λe:g=f=>h<|e.trans C.symm]
  .rw[Xp C];by_cases h:g=k
   .let Y:(g==k)=N:=beq_iff_eq.mpr h;simp only[List.lookup,Y,Xp λe:g=f=>C<|h.symm.trans e]
   .let Y:(g==k)=Fa:=beq_eq_false_iff_ne.mpr h;simp only[List.lookup,Y];show E
theorem zgz(f:Str)(v:V):∀fs:List<|Str×V,f∈(putF f v fs).map (·.1)/\∀g,g∈fs.map (·.1)->g∈(putF f v fs).map (·.1)
 |[]=>(by simp[putF],λg h=>by simp at h)
 |(k,x)::r=>by
  let(H,Y):=zgz f v r;rw[show putF f v ((k,x)::r)=(if k=f then(k,v)::r else(k,x)::putF f v r)from rfl];by_cases C:k=f
  .rw[Xq C];subst C;show(by simp,λg h=>by simpa using h)
  .rw[Xp C];apply(?_,λg h=>?_)
   .rw[y0p];show y08 _ H
   .rw[y0p]at h ⊢;rcases y06.mp h with e|e
    .exact y06.mpr<|.inl e
    .exact y08 _<|Y g e
theorem zcg(f:Str)(v:V):∀fs:List<|Str×V,(putF f v fs).length<=fs.length+1
 |[]=>by simp[putF]
 |(k,x)::r=>by
  let E:=zcg f v r;rw[show putF f v ((k,x)::r)=(if k=f then(k,v)::r else(k,x)::putF f v r)from rfl];by_cases C:k=f
  .rw[Xq C,y0b,y0b];omega
  .rw[Xp C,y0b,y0b];omega
theorem RelO.some_of(r:RelO (G v) o):∃u,o=G u/\RelV v u:=by
 cases o with
 |none=>show(show False from r).elim
 |some u=>show(u,R,r)
theorem RelO.none_of(r:RelO B o):o=B:=by
 cases o with
 |none=>rfl
 |some u=>show(show False from r).elim
theorem zsw(r:RelV v u):PySem.W.handedIn u=N:=by
 cases v with
 |non=>cases(show u=Va.none from r);rfl
 |bl b=>cases(show u=Va.bool b from r);rfl
 |int i=>let(t,e):=(show∃t,u=Va.int i t from r);cases e;rfl
 |str x=>let(t,e):=(show∃t,u=Va.str x t from r);cases e;rfl
 |byt b=>let(t,e):=(show∃t,u=Va.bytes b t from r);cases e;rfl
 |flt b=>let(t,e):=(show∃t,u=Va.float b t from r);cases e;rfl
 |ref a=>cases(show u=Va.ref a from r);rfl
 |ty n=>cases(show u=Va.type n from r);rfl
section
variable {P:ik}{w:World}{H H':Hp}{h h':Heap}{a C dx:Ad}{fs fs':List (Str×V)}
theorem zjh(hok:HOk P w H h)(e:H a=G 057):∃i,ObjM h a dx C i/\(∀f,RelO (fs.lookup f)<|i f)/\PySem.Within i (fs.map (·.1))/\fs.length<=1000/\H dx=G (.own a):=by
 let(d,z,ne,ob,i,n,r,q):=(show ObjOk P w H h a (057)from hok a _ e);show(i,(ob,n,ne),r,q,z,d)
end
structure Cls(K:Frag)(C:Ad):Prop where
 pg:PySem.W.plainGet K C Str.empty=N
 hd:PySem.W.hasDictIn K C=N
 po:PySem.W.plainOver K C=N
 sa:PySem.W.findIn K 84 "__setattr__"=G (G<|.builtin "object.__setattr__")
theorem Cls.get{K:Frag}{C:Ad}(c:Cls K C)(f:Str):PySem.W.plainGet K C f=N:=c.pg
def NoAttr(K:Frag)(C:Ad)(f:Str):Prop:=PySem.W.findIn K 84 f=G B
theorem NoAttr.taker{K:Frag}{C:Ad}{f:Str}(n:NoAttr K C f):PySem.W.takerIn K C f=G B:=by
 unfold PySem.W.takerIn;rw[show PySem.W.findIn K 84 f=G B from n];rfl
structure Meth(K:Frag)(C:Ad)(m:Str)(f:Ad):Prop where
 at_:PySem.W.findIn K 84 m=G (G 45)
 fn:PySem.W.isFn K 45=N
 kp:PySem.W.keepIn K 45=N
section
variable {X:Cx}{pins:Y2}{σ:St}{H:Hp}{s:ii}{a C dx:Ad}{fs:List (Str×V)}{f:Str}{v:V}{A:iq}{E:Y0}
theorem zpw(I:03 H s)(e:H a=G 057)(c:Cls X.K C)(n:NoAttr X.K C f)(l:fs.lookup f=G v)
  (h:∀u s',03 H s'->RelV v u->Q u s'):wpAny 41 A (getAttr 09 f b) Q E s:=by
 let(i,O,r,_,_,_):=zjh I.hok e;let(u,g,D):=RelO.some_of (v:=v) (o:=i f) (by rw[←l];show r f);show get_map I.kIn O (c.get f) c.hd n g (zsw D)<|h u _ (I.tok _) D
theorem zpv(I:03 H s)(e:H a=G 057)(c:Cls X.K C)(k:Meth X.K C m g)(l:fs.lookup m=B)
  (h:Q (.ref g,[.ref a]) s):wpAny 41 A (getMethod 09 m pl) Q E s:=by
 let(i,O,r,_,_,_):=zjh I.hok e;let o:i m=B:=RelO.none_of (by rw[←l];show r m);show zv7 I.kIn O (c.get m) k.at_ k.fn o h
theorem zo2(I:03 H s)(e:H a=G 057)(c:Cls X.K C)(n:NoAttr X.K C f)(j:fs.length<1000)(l:RelV y u)
  (h:∀s',03 (upd H a<|.ins C dx (putF f y fs)) s'->Q () s'):wpAny 41 A (setAttr 09 f u) Q E s:=by
 let(i,O,r,p,_,T):=zjh I.hok e;let hz:(fs.map (·.1)).length<=ij:=by rw[y00,sizeLine_eq];omega
 apply zx6 I.kIn O c.sa c.po n.taker c.hd p hz λh' d J=>h _ ?_;let hd:∃o,h'.get? dx=G o:=let(o,_,_,D,_):=d.ns;(o,D);apply I.write (x:=a) (e:=dx) (by rw[e];show True.intro) (.inr T) (λb q Y z=>(J.2 b Y).trans z) hd ?_;apply(by rw[zan O.ne];show T,?_,O.ne,d.obj,_,d.ns,λg=>?_,λg hg=>?_)
 .let:=zcg f y fs;omega
 .change RelO ((putF f y fs).lookup g) (if g=f then G u else i g);rw[zgx];by_cases q:g=f
  .rw[Xq q,Xq q];show l
  .rw[Xp q,Xp q];show r g
 .by_cases q:g=f
  .rw[q];show(zgz f y fs).1
  .refine(zgz f y fs).2 g<|p g λz=>hg ?_;change(if g=f then G u else i g)=B;rw[Xp q];show z
theorem Inv.made(I:03 H s):03 (upd (upd H s.heap.objs.size<|.own 026) 026<|.ins C s.heap.objs.size [])
  {s with heap:=(s.heap.push PySem.W.emptyDict).push (PySem.W.instObj C s.heap.objs.size)}:=by
 let e1:(s.heap.push PySem.W.emptyDict).get? s.heap.objs.size=G PySem.W.emptyDict:=y0c s.heap rfl;let L:((s.heap.push PySem.W.emptyDict).push<|PySem.W.instObj C s.heap.objs.size).get? 026=G (PySem.W.instObj C s.heap.objs.size):=by
  let:=y0c (s.heap.push PySem.W.emptyDict) (o:=PySem.W.instObj C s.heap.objs.size) rfl;rwa[y12]at this
 let r:(s.heap.push PySem.W.emptyDict).Ns s.heap.objs.size (λ_=>B):=(PySem.W.emptyDict,#[],_,e1,R,(λe d=>Xa d 06),λ_=>rfl);let j:=I.laid (a:=s.heap.objs.size) (o:=.own 026) (h':=s.heap.push PySem.W.emptyDict) (t':=s.toks) (λb u q=>y01 _ q) 37 (_,e1);apply j.laid (a:=s.heap.objs.size+1) (o:=.ins C s.heap.objs.size []) (t':=s.toks) (λb u q=>y01 _ q) (y44<|y12 _ _) ?_;let ne:s.heap.objs.size≠s.heap.objs.size+1:=y0m<|y23 _;apply(by rw[zan ne,zao],y1g _,ne,L,λ_=>B,(Heap.Ns1.of_empty r).at λo q=>y01 _ q,λ_=>True.intro,λy i=>Xa R i)
theorem attr_of(Y:attributeBase e f env (eval e env)=eval e env)
  (h:wpAny 87 A (eval e env) (λo s₁=>wpAny 87 A (getAttr o f N) Q E s₁) E s):wpAny 87 A (eval (.Attribute e f pos) env) Q E s :=
 Attribute_any_ h (by rw[arm_eval_Attribute,Y])
end
def tFld(K:Frag)(e:TE)(f:Str):TE:=λU H Q=>e U H λx H1=>asR x λa=>∃C dx fs,H1 a=G 057/\Cls K C/\NoAttr K C f/\∃v,fs.lookup f=G v/\Q v H1
def sFld(K:Frag)(e tv:TE)(f:Str):TS:=λD U H=>tv U H λy H1=>e U H1 λx H2=>∃a C dx fs,x=.ref a/\H2 a=G 057/\Cls K C/\NoAttr K C f/\fs.length<1000/\
 D.nx U (upd H2 a<|.ins C dx (putF f y fs))
section
variable {X:Cx}{o e value:Expr}{f:Str}{pos pos' tpos:Pos}{ta tv:TE}
theorem zbn(he:PE X e ta)(Y:attributeBase e f X.env (eval e X.env)=eval e X.env):PE X (.Attribute e f pos) (tFld X.K ta f):=by
 intro pins s σ H Q I h;apply attr_of Y<|thn 079 λu s1 E=>ex5 E λx H1 A d q'=>?_;let(a,ex,C,dx,fs,r,c,n,v,l,q):=zck q';subst ex;obtain rfl:u=Va.ref a:=d;show zpw A r c n l λL s2 j D=>(v,H1,j,D,q)
theorem znu(L:PE X o ta)(M:PE X value tv)(hs:jd value (G<|.Attribute o f pos') pos.line X.env=pure Fa):PS X (.Assign [.Attribute o f pos'] value pos) (sFld X.K ta tv f):=by
 intro Y s U H D I h;apply plainObj_wpAny_Assign_Attribute (thn (M Y s U H _ I h) λu s1 E=>ex5 E λy H1 A O q=>thn (L Y s1 U H1 _ A q) λv s2 (x,H2,j,d,a,C,dx,fs,ex,r,c,n,l,i)=>?_) hs;subst ex;obtain rfl:v=Va.ref a:=d;show zo2 j r c n l O λp g=>(U,_,g,i)
end
section
variable {X:Cx}{pins:Y2}{σ:St}{H:Hp}{s:ii}{A:iq}{E:Y0}{Q:Y0}{c:Va}{b:Bool}
inductive TyOf(K:Frag)(H:Hp):V->Va->Prop where
 |non:TyOf K H .non<|.type "NoneType"
 |bl (x:Bool):TyOf K H (.bl x)<|.type "bool"
 |int (i:Int):TyOf K H (.int i)<|.type "int"
 |str (x:Str):TyOf K H (.str x)<|.type "str"
 |flt (x:UInt64):TyOf K H (.flt x)<|.type "float"
 |lst {a:Ad} {xs:List V} (e:H a=G (.lst xs)):TyOf K H (.ref a)<|.type "list"
 |frz {a:Ad} {o:Obj} {xs:List V} (e:H a=G (.frz o<|.lst xs)):TyOf K H (.ref a)<|.type "list"
 |tup {a:Ad} {xs:List V} (e:H a=G (.tup xs)):TyOf K H (.ref a)<|.type "tuple"
 |dK {a:Ad} {kvs:List (Key×V)} (e:H a=G (.dK kvs)):TyOf K H (.ref a)<|.type "dict"
 |dT {a:Ad} {kvs:List (List Key×V)} (e:H a=G (.dT kvs)):TyOf K H (.ref a)<|.type "dict"
 |ins {a C dx:Ad} {fs:List (Str×V)} (e:H a=G (.ins C dx fs)) (cl:Cls K C) (ha:PySem.W.findIn K (.ref C) "__class__"=G (G<|.builtin "object.__class__"))
   (hn:PySem.W.specialIn K (.builtin "object.__class__") "__get__"=G (G<|.builtin "getset_descriptor.__get__")) (htk:PySem.W.takesIn K (.builtin "object.__class__")=G N)
   (hm:PySem.W.mroIn K C (.type "object")=G N):TyOf K H 09 84
theorem zso(I:03 H s)(d:RelV x u)(ty:TyOf X.K H x t)(e:PySem.W.kitOne X.K t c=G b)(h:∀tk,Q (.bool b) {s with toks:=tk}):
  wpAny 41 A (call (.builtin "isinstance") [u,c]) Q E s:=by
 cases ty with
 |non=>cases(show u=Va.none from d);show PySem.W.kia_one PySem.W.kitx_none I.kIn True.intro e (λz=>nomatch z) h
 |bl y=>cases(show u=Va.bool y from d);show PySem.W.kia_one PySem.W.kitx_bool I.kIn True.intro e (λz=>nomatch z) h
 |int i=>let(t,q):=(show∃t,u=Va.int i t from d);cases q;show PySem.W.kia_one PySem.W.kitx_int I.kIn True.intro e (λz=>nomatch z) h
 |str y=>let(t,q):=(show∃t,u=Va.str y t from d);cases q;show PySem.W.kia_one PySem.W.kitx_str I.kIn True.intro e (λz=>nomatch z) h
 |flt y=>let(t,q):=(show∃t,u=Va.float y t from d);cases q;show PySem.W.kia_one PySem.W.kitx_float I.kIn True.intro e (λz=>nomatch z) h
 |@lst a xs r =>
  cases(show u=Va.ref a from d);let(_,_,n,_,M):=(show ObjOk X.prog X.w H s.heap a (98)from I.hok a _ r);show PySem.W.kia_one PySem.W.kitx_list I.kIn (_,M,R) e (λz=>nomatch z) h
 |@frz a ob xs r =>
  cases(show u=Va.ref a from d);let(_,_,_,n,_,M):=(show ObjOk X.prog X.w H s.heap a (.frz ob 98)from I.hok a _ r);show PySem.W.kia_one PySem.W.kitx_list I.kIn (_,M,R) e (λz=>nomatch z) h
 |@tup a xs r =>
  cases(show u=Va.ref a from d);let(_,_,_,p):=(show ObjOk X.prog X.w H s.heap a (015)from I.hok a _ r);let(o,M,j,_):=p;show PySem.W.kia_one PySem.W.kitx_tuple I.kIn (o,M,j) e (λz=>nomatch z) h
 |@dK a L r =>
  cases(show u=Va.ref a from d);let(_,_,vs,_,p):=(show ObjOk X.prog X.w H s.heap a (.dK L)from I.hok a _ r);let(o,es,ep,M,j,_):=p;show PySem.W.kia_one PySem.W.kitx_dict I.kIn (o,M,j.1) e (λz=>nomatch z) h
 |@dT a L r =>
  cases(show u=Va.ref a from d);let(_,_,xs,_,o,es,ep,M,j,_):=(show ObjOk X.prog X.w H s.heap a (.dT L)from I.hok a _ r);show PySem.W.kia_one PySem.W.kitx_dict I.kIn (o,M,j.1) e (λz=>nomatch z) h
 |@ins a C dx fs r cl g T f l =>
  cases(show u=Va.ref a from d);let(D,O,_):=zjh I.hok r;let(v,J,_):=O.look;show PySem.W.kia_one (PySem.W.kitx_own (cl.get _) cl.hd g T f l) I.kIn J e (λz=>nomatch z) h
end
structure Room(k:Nat)(A:iq):Prop where
 hd:A.handled=B
 dp:A.depth+3*k+5<recursionLimit
 un:A.units+16*k+200<cLine
theorem Room.mono(r:Room k A)(h:j<=k):Room j A:=(r.hd,by have:=r.dp;omega,by have:=r.un;omega)
theorem Room.deeper(r:Room (k+1) A)(env:Env):Room k (A.deeper env) :=
 (r.hd,by have:=r.dp;change A.depth+1+3*k+5<_;omega,by have:=r.un;change A.units+3+16*k+200<_;omega)
theorem zpo{A:iq}:(095).depth=A.depth+1:=by
 first|rfl|simp[Around.under,Code.weight,Code.isCreation,Code.isGuard,Code.isCaller,Code.frames,Code.isFrame,guardIds]
theorem zpn{A:iq}:(095).units=A.units+1:=by
 first|rfl|simp[Around.under,Code.cUnits,Code.frames,Code.isFrame]
theorem Room.make(r:Room (k+1) A)(C:Ad)(us:List Va)(kw:List<|Str×Va):Room k 095 :=
 (r.hd,by have:=r.dp;rw[zpo];omega,by have:=r.un;rw[zpn];omega)
theorem Room.depth(r:Room k A):A.depth<recursionLimit:=by have:=r.dp;omega
theorem Room.units(r:Room k A):A.units+64<cLine:=by have:=r.un;omega
def tNil:TA:=λ_ H Q=>Q [] H
def tCons(e:TE)(g:TA):TA:=λU H Q=>e U H λx H1=>g U H1 λxs H2=>Q (x::xs) H2
section
variable {X:Cx}{e:Expr}{es:List Expr}{te:TE}{t:TA}{pos:Pos}
theorem zaa:PA X [] tNil:=λ_ _ _ _ H Q I h=>Calls.spliced_nil ([],H,I,.nil,h)
theorem zyo(ha:PE X e te)(g:PA X es t)(hs:il (e::es) X.env=060::il es X.env:=by rfl):PA X (e::es) (tCons te t):=by
 intro pos pins s σ H Q I h;rw[hs];change wpAny _ _ (spliced (060::iR pos (il es X.env))) _ _ s;apply Calls.spliced_cons<|thn 054 λu s1 E=>ex5 E λx H1 A r1 J=>?_;show thn (g pos pins s1 σ H1 _ A J) λus s2 E=>ex5 E λxs H2 j r2 i=>(x::xs,H2,j,.cons r1 r2,i)
def tTup(t:TA):TE:=λU H Q=>t U H λxs H1=>xs.length<=ij/\∀p,H1 p=B->Q 91 (upd H1 p 015)
def tLst(t:TA):TE:=λU H Q=>t U H λxs H1=>xs.length<=ij/\∀p,H1 p=B->Q 91 (upd H1 p 98)
end
abbrev Sp:=List V->Hp->VK->XK->Prop
abbrev CXT:=List Env->Hp->ii->XK->Va->ii->Prop
structure Env0(P:ik)(w:World)(K:Frag)(mg:Y1)(base:Heap)(A:iq)(outer:List Env)(s:ii)(H:Hp):Prop where
 frames:A.frames=G outer
 mod:Mod K mg base
 bs:∀b o,base.get? b=G o->s.heap.get? b=G o/\H b=B
 bsz:base.objs.size<=s.heap.objs.size
 funs:s.heap.FunFrames base outer
 frf:∀b∈frs outer,H b=B
 hok:HOk P w H s.heap
 bare:jo s.gens
def CE(outer:List Env)(P:ik)(w:World)(H:Hp)(s:ii)(Q:VK)(u:Va)(s':ii):Prop :=
 ∃v H',s'.os=s.os/\jo s'.gens/\Un (frs outer) [] H H' s.heap s'.heap/\HOk P w H' s'.heap/\RelV v u/\Q v H'
def CR(CX:CXT)(outer:List Env)(P:ik)(w:World)(H:Hp)(s:ii)(Q:VK)(E:XK)(r:Result)(s':ii):Prop :=
 match r with
 |.ok (.ret u)=>CE outer P w H s Q u s'
 |.ok _=>False
 |.error e=>CX outer H s E e s'
structure FnOk(P:ik)(w:World)(K:Frag)(mg:Y1)(base:Heap)(CX:CXT)(k:Nat)(f:Ad)(fd:i8)(ps:List Str)(sp:Sp):Prop where
 len:∀vs H Q E,sp vs H Q E->vs.length=ps.length
 run:∀(A:iq) (outer:List Env) (s:ii) (H:Hp) (args:Args) (us:List Va) (vs:List V) (Q:VK) (E:XK),Room k A->Env0 P w K mg base A outer s H->jR s fd args (ps.zip us)->Vals vs us->sp vs H Q E->
  iZ 011 A (.call 45 args) (CR CX outer P w H s Q E) s
theorem FnOk.mono{P:ik}{w:World}{K:Frag}{mg:Y1}{base:Heap}{CX:CXT}{j k:Nat}{f:Ad}{fd:i8}{ps:List Str}{sp:Sp}(F:FnOk P w K mg base CX j f fd ps sp)(h:j<=k):
  FnOk P w K mg base CX k f fd ps sp:=(F.len,λA outer s H args us vs Q E g=>F.run A outer s H args us vs Q E<|g.mono h)
theorem Env0.make{P:ik}{w:World}{K:Frag}{mg:Y1}{base:Heap}{A:iq}{outer:List Env}{s:ii}{H:Hp}(e:Env0 P w K mg base A outer s H)(C:Ad)(us:List Va)(kw:List<|Str×Va):
  Env0 P w K mg base 095 outer s H:=(by first|show e.frames|(simpa[Around.under,Code.envs,Code.isFrame,pushEnvs]using e.frames),e.mod,e.bs,e.bsz,e.funs,e.frf,e.hok,e.bare)
section
variable {X:Cx}{pins:Y2}{σ:St}{H:Hp}{s s':ii}
theorem Inv.env0(I:03 H s):Env0 X.prog X.w X.K X.mg X.base X.A X.stack s H :=
 (I.ok.frames,I.ok.mod,I.bs,y0z I.ok.bsz I.sz,I.stack,I.stkFree,I.hok,I.bare)
theorem Inv.after(I:03 H s)(h:CE X.stack X.prog X.w H s Q u s'):EP X pins σ Q u s':=by
 let(v,H',os,bare,un,hok,r,q):=h;let(hh,g,d,t,a):=s';obtain rfl:a=s.os:=os;show(v,H',I.call (h':=hh) (g':=g) (d':=d) (t':=t) (ch:=[]) un hok bare λb z=>Xa z 06,r,q)
end
def tCall(sp:Sp)(c:List V)(E:XK)(t:TA):TE:=λU H Q=>t U H λvs H1=>sp (vs++c) H1 Q E
def tMeth(C:Ad)(m:Str)(sp:Sp)(c:List V)(E:XK)(e:TE)(t:TA):TE:=λU H Q=>e U H λx H1=>asR x λa=>∃dx fs,H1 a=G 057/\fs.lookup m=B/\
 t U H1 λvs H2=>sp (x::(vs++c)) H2 Q E
def tMake(C:Ad)(sp:Sp)(c:List V)(E:XK)(t:TA):TE:=λU H Q=>t U H λvs H1=>∀x dx,H1 x=B->H1 dx=B->dx≠x->
 sp (.ref x::(vs++c)) (upd (upd H1 dx<|.own x) x<|.ins C dx []) (λv H2=>v=.non/\Q (.ref x) H2) E
def Binds(K:Frag)(fd:i8)(ps:List Str)(ds:List Va):Prop :=
 ∀(s:ii) (us:List Va),K.In s.heap->(us++ds).length=ps.length->jR s fd 044 (ps.zip<|us++ds)
theorem Binds.all{K:Frag}{fd:i8}{ps:List Str}(h:∀us:List Va,us.length=ps.length->jl fd 044=pure (ps.zip us)):Binds K fd ps []:=λs us _ j=>by
 rw[y1k]at j ⊢;show .of_eq<|h us j
def Passes(CX:CXT)(X:Cx)(E:XK):Prop:=∀(pins:Y2) (σ:St) (H:Hp) (s:ii) (e:Va) (s':ii),03 H s->CX X.stack H s E e s'->X.xe e s'
section
variable {X:Cx}{CX:CXT}{k:Nat}{f C:Ad}{fd:i8}{ps:List Str}{sp:Sp}{dvs:List V}{ds:List Va}{E:XK}{x m:Str}{p pos apos:Pos}{e o:Expr}{es:List Expr}{ta:TE}{t:TA}
theorem zwu{pins:Y2}{σ:St}{H:Hp}{s:ii}{Q:VK}{us:List Va}{vs:List V}(F:FnOk X.prog X.w X.K X.mg X.base CX k f fd ps sp)(g:Room k X.A)(Y:Binds X.K fd ps ds)(hd:Vals dvs ds)(O:Passes CX X E)
  (I:03 H s) (r:Vals vs us) (h:sp (vs++dvs) H Q E):wpAny 41 X.A (call 45 us) 050 X.xe s:=by
 let r2:Vals (vs++dvs) (us++ds):=r.append hd;let j:(us++ds).length=ps.length:=by rw[←r2.length];show F.len _ _ _ _ h
 apply jq<|iM (F.run X.A X.stack s H 044 (us++ds) (vs++dvs) Q E g I.env0 (Y s us I.kIn j) r2 h) λr s' D=>?_;cases r with
 |error e=>show O pins σ H s e s' I D
 |ok fl =>
  cases fl with
  |ret u=>show I.after D
  |next=>show False.elim D
  |brk=>show False.elim D
  |cont=>show False.elim D
theorem zmi(F:FnOk X.prog X.w X.K X.mg X.base CX k f fd ps sp)(g:Room k X.A)(hg:Gl X x)(l:X.mg x=G 45)(u:PySem.W.keepIn X.K 45=N)(Y:Binds X.K fd ps ds)(hd:Vals dvs ds)(O:Passes CX X E)
  (ha:PA X (e::es) t) (i:017=Fa:=by decide) (d:il (e::es) X.env=060::il es X.env:=by rfl) (y:(068).any (·.1)=Fa:=by rfl) :
  PE X 046 (tCall sp dvs E t):=by
 intro pins s σ H Q I h;apply iF<|zfa I hg l ?_ i;apply PySem.W.callWith_K (h₀:=X.base) I.ok.mod.kin u (thn 074 λus s1 D=>ex5 D λvs H1 A r q=>(A.kIn,?_)) d y;show zwu F g Y hd O A r q
theorem zym{pl:Sem Bool}(he:PE X o ta)(c:Cls X.K C)(J:Meth X.K C m f)(F:FnOk X.prog X.w X.K X.mg X.base CX k f fd ps sp)(g:Room k X.A)(Y:Binds X.K fd ps ds)(hd:Vals dvs ds)(O:Passes CX X E)(L:PA X (e::es) t)
  (U:il (e::es) X.env=060::il es X.env:=by rfl) (y:(068).any (·.1)=Fa:=by rfl)
  (ht:eval 102 X.env=(do
   let v ←eval o X.env
   standAt apos.atName
   let(f,first) ←holding [v] (getMethod v m pl)
   callWith pos f first (iR pos<|il (e::es) X.env) (backToKw pos<|keywordEach [] X.env)):=by rfl) :
  PE X 102 (tMeth C m sp dvs E ta t):=by
 intro pins s σ H Q I h;apply PySem.W.methodCall_KW (pl:=pl) (thn 079 λu s1 D=>ex5 D λx H1 A d q'=>?_) ht;let(a,ex,dx,fs,M,l,q):=zck q';subst ex;obtain rfl:u=Va.ref a:=d;apply zpv A M c J l ?_;apply PySem.W.callWith_K (first:=[.ref a]) (h₀:=X.base) I.ok.mod.kin J.kp (thn (L pos pins s1 σ H1 _ A q) λus s2 D=>ex5 D λvs H2 j r i=>(j.kIn,?_)) U y;show zwu (us:=.ref a::us) (vs:=.ref a::vs) F g Y hd O j (.cons R r) i
structure Mk(K:Frag)(C f:Ad):Prop where
 makes:PySem.W.makesIn K C=N
 init:PySem.W.findIn K 84 "__init__"=G (G 45)
 fn:PySem.W.isFn K 45=N
 kp:PySem.W.keepIn K 84=N
theorem zum{pins:Y2}{σ:St}{H:Hp}{s:ii}{Q:VK}{us:List Va}{vs:List V}(M:Mk X.K C f)(F:FnOk X.prog X.w X.K X.mg X.base CX k f fd ps sp)(g:Room (k+1) X.A)(Y:Binds X.K fd ps ds)(hd:Vals dvs ds)
  (O:Passes CX X E) (I:03 H s) (r:Vals vs us)
  (h:∀x dx,H x=B->H dx=B->dx≠x->sp (.ref x::(vs++dvs)) (upd (upd H dx<|.own x) x<|.ins C dx []) (λv H2=>v=.non/\Q (.ref x) H2) E) :
  wpAny 41 X.A (call 84 us) 050 X.xe s:=by
 let D:=h 026 s.heap.objs.size (I.hok.fresh<|y3t _) 069<|y0m (y23 _);let q:=Inv.made (C:=C) I;let r2:Vals (V.ref 026::(vs++dvs)) (Va.ref 026::(us++ds)):=.cons R<|r.append hd;let j:(Va.ref 026::us++ds).length=ps.length:=by
  let e:=r2.length;rw[F.len _ _ _ _ D]at e;show e.symm
 apply jq (zvv (f:=f) I.kIn M.makes M.init (beq_iff_eq.mp M.fn) (iM (F.run _ X.stack _ _ (Va.ref 026::us,[]) (Va.ref 026::(us++ds)) _ _ E (g.make C us [])
  (q.env0.make C us []) (Y _ (Va.ref 026::us) q.kIn j) r2 D) λr s' c=>?_))
 cases r with
 |error e=>show O pins σ _ _ e s' q c
 |ok fl =>
  cases fl with
  |ret u =>
   let(v,H',L,U,J,l):=q.after c;subst J;show(U,(V.ref 026,H',L,R,l))
  |next=>show False.elim c
  |brk=>show False.elim c
  |cont=>show False.elim c
theorem zuy(M:Mk X.K C f)(F:FnOk X.prog X.w X.K X.mg X.base CX k f fd ps sp)(g:Room (k+1) X.A)(hg:Gl X x)(l:X.mg x=G 84)(r:Binds X.K fd ps ds)(hd:Vals dvs ds)(O:Passes CX X E)
  (i:017=Fa:=by decide):PE X (.Call (.Name x p) [] [] pos) (tMake C sp dvs E tNil):=by
 intro Y s U H Q I h;apply iF<|zfa I hg l ?_ i;show PySem.W.callWith_K0 I.kIn M.kp<|zum (us:=[]) M F g r hd O I .nil h
end
structure FnScope(Nq P:List Str)(sc:Scope):Prop where
 kind:sc.kind=.function:=by rfl
 co:sc.isCoroutine=Fa:=by rfl
 gen:sc.isGenerator=Fa:=by rfl
 nd:Nq.Nodup:=by decide+kernel
 pre:Nq.take P.length=P:=by rfl
 par:∀x∈P,sc.names.lookup x=G .local\/sc.names.lookup x=G .cell:=by decide+kernel
 nofree:∀y∈sc.names,y.2 ≠ .free:=by decide+kernel
theorem zlb{jj:Str->Option iW}{x:Str}:∀{binds:List (Str×Va)} {m:Y1},(∀v,(x,v)∉binds)->bindL jj binds m x=m x
 |[],_,_=>rfl
 |(n,v)::r,m,h=>by
  unfold bindL;rw[zlb λw C=>h w<|y08 _ C];split
  .let:x≠n:=by rintro rfl;show h v y04
   simp[this]
  .rfl
theorem zlc{jj:Str->Option iW}{x:Str}:∀{binds:List (Str×Va)} {m:Y1},(∀v,(x,v)∉binds)->bindC jj binds m x=m x
 |[],_,_=>rfl
 |(n,v)::r,m,h=>by
  unfold bindC;rw[zlc λw C=>h w<|y08 _ C];split
  .rfl
  .let:x≠n:=by rintro rfl;show h v y04
   simp[this]
theorem zg9{jj:Str->Option iW}{x:Str}{v:Va}:∀{P:List Str} {vs:List Va} {i:Nat} {m:Y1},P.Nodup->P[i]?=G x->vs[i]?=G v->jj x=G .local->
  bindL jj (P.zip vs) m x=G v
 |[],_,_,_,_,h,_,_=>by simp at h
 |_::_,[],_,_,_,_,h,_=>by simp at h
 |p::P,w::vs,0,m,nd,M,J,C=>by
  simp at M J;subst M;subst J;change bindL jj ((p,w)::P.zip vs) m p=_;unfold bindL;rw[zlb λv D=>(y1t.mp nd).1 (y3m D).1,Xq C];simp
 |p::P,w::vs,i+1,m,nd,M,J,C=>by
  change bindL jj ((p,w)::P.zip vs) m x=_;unfold bindL;show zg9 (i:=i) (y1t.mp nd).2 (by simpa using M) (by simpa using J) C
theorem zha{jj:Str->Option iW}{x:Str}{v:Va}:∀{P:List Str} {vs:List Va} {i:Nat} {m:Y1},P.Nodup->P[i]?=G x->vs[i]?=G v->jj x≠G .local->
  bindC jj (P.zip vs) m x=G v
 |[],_,_,_,_,h,_,_=>by simp at h
 |_::_,[],_,_,_,_,h,_=>by simp at h
 |p::P,w::vs,0,m,nd,M,J,C=>by
  simp at M J;subst M;subst J;change bindC jj ((p,w)::P.zip vs) m p=_;unfold bindC;rw[zlc λv D=>(y1t.mp nd).1 (y3m D).1,Xp C];simp
 |p::P,w::vs,i+1,m,nd,M,J,C=>by
  change bindC jj ((p,w)::P.zip vs) m x=_;unfold bindC;show zha (i:=i) (y1t.mp nd).2 (by simpa using M) (by simpa using J) C
noncomputable def start(Nq:List Str)(vs:List V):St:=vs.map G++List.replicate (Nq.length-vs.length) B
noncomputable def cxOf(CX:CXT)(P:ik)(w:World)(K:Frag)(mg:Y1)(base:Heap)(Nq:List Str)(qual:Str)(scope:Scope)(f:Ad)(cd:Va)(A:iq)(outer:List Env)(s:ii)(H:Hp)(E:XK):Cx where
 prog:=P
 w:=w
 K:=K
 mg:=mg
 base:=base
 A:=A.deeper 088
 Nq:=Nq
 s₀:=s
 H₀:=H
 env:=jg qual scope s.heap.objs.size f cd
 outer:=outer
 stack:=jg qual scope s.heap.objs.size f cd::outer
 ex:=[]
 calm:=N
 fn:=λ_=>N
 pn:=[]
 xe:=λe s'=>wpAny 011 (A.deeper 088) (leaving 088 e) (λ_ g=>CX outer H s E e g) (λD g=>CX outer H s E D g) s'
theorem zdz{a:Scope}(h:a.names.lookup x=G .cell):∃c,(ix n a.names []).lookup x=G c:=by
 let q:=PySem.W.cellsFrom_some a.names n []<|.inl h;show y3d.mp q
theorem zsp{CX:CXT}{P:ik}{w:World}{K:Frag}{mg:Y1}{base:Heap}{Nq ps:List Str}{qual:Str}{scope:Scope}{f:Ad}{cd:Va}{A:iq}{outer:List Env}{s s1:ii}{H:Hp}{E:XK}{us:List Va}{vs:List V}
  (S:FnScope Nq ps scope) (hd:A.handled=B) (D:Env0 P w K mg base A outer s H) (j:vs.length=ps.length) (r:Vals vs us)
  (x:jv s s.heap.objs.size (bindL (088).kindOf (ps.zip us) λ_=>B) 076 (bindC (088).kindOf (ps.zip us) λ_=>B) s1) :
  Inv (cxOf CX P w K mg base Nq qual scope f cd A outer s H E) [] (start Nq vs) H s1:=by
 let O:ps.length<=Nq.length:=by have:=congrArg List.length S.pre;rw[y19]at this;omega
 let(M,tk,rfl,C):=x.done;let d:∀b:Ad,b∉(cxOf CX P w K mg base Nq qual scope f cd A outer s H E).ex:=λb z=>Xa (show b∈([]:List Ad)from z) 06;apply⟨(D.mod,S.kind,R,R,y05 _,λy z c M J=>?_,λy I=>?_,λy c _ h=>?_,λ_=>hd,Around.frames_deeper D.frames,.inr (R,R),λb z=>Xa z<|d b,D.bs,D.bsz,λb _ _=>d b,λb z=>Xa z<|d b,D.funs,D.frf),
  rfl,D.bare,Un.kept C,(_,x.toInCall.ns,λi y v M J U=>?_),λy c h=>(_,x.cell y c h),D.hok.fresh 37,λy c h=>?_,λp l=>Xa (show p∈([]:Y2)from l) 06,D.hok.kept C,?_⟩
 .exact name_of_addr x.apart (PySem.mem_of_lookup M)<|PySem.mem_of_lookup J
 .let I:scope.names.lookup y=G .cell\/scope.names.lookup y=G .free:=I;rcases I with I|I
  .exact zdz I
  .exact Xa R<|S.nofree _ (PySem.mem_of_lookup I)
 .exact y1s<|x.above y c (PySem.mem_of_lookup h)
 .let hi:i<vs.length:=by
   unfold start at J;by_cases hi:i<vs.length
   .exact hi
   .rw[y0n<|by simpa using hi]at J;rw[y3f]at J;split at J<;>cases J
  let L:vs[i]?=G v:=by
   unfold start at J;rw[y0q (by simpa using hi),y0r]at J;cases e:vs[i]? with
   |none=>rw[e]at J;cases J
   |some a=>rw[e]at J;cases J;rfl
  let(u,g,Q):=r.get L;let l:ps[i]?=G y:=by
   rw[←S.pre,y4d 00];show M
  let o:ps.Nodup:=by rw[←S.pre];show S.nd.sublist<|List.take_sublist _ _
  apply(u,Q,?_);rcases S.par y (y0d l)with k|k
  .exact .inl (k,zg9 o l g k)
  .let(c,e):=zdz (n:=s.heap.objs.size+1) k;apply .inr (.inl k,c,e,?_);let q:=x.cell y c e;rw[zha o l g<|by change scope.names.lookup y≠_;rw[k];decide]at q;show q
 .exact D.hok.fresh<|y1s (x.above y c<|PySem.mem_of_lookup h)
 .unfold start;change _=Nq.length;rw[y02,y00,y30];omega
theorem fn_of{CX:CXT}{P:ik}{w:World}{K:Frag}{mg:Y1}{base:Heap}{k:Nat}{f:Ad}{name qual:Str}{params:iN}{body:List Stmt}{scope:Scope}{T kV doc pm cdv ct oc:Va}{L od:Option Ad}
  {p:Y8} {Nq ps:List Str} {sp:Sp} (lk:K.lookup f=G (oc,od,.func<|PySem.W.fnOf name qual params body scope T kV doc pm L cdv ct,p)) (hcd:PySem.W.codeIn K cdv qual=N) (S:FnScope Nq ps scope)
  (len:∀vs H Q E,sp vs H Q E->vs.length=ps.length)
  (a:∀(A:iq) (outer:List Env) (s:ii) (H:Hp) (vs:List V) (Q:VK) (E:XK),Room k (A.deeper<|jg qual scope s.heap.objs.size f cdv)->sp vs H Q E->
   ∃t,PSs 123 body t/\t {nx:=λ_ H'=>Q .non H',rt:=Q} (start Nq vs) H) :
  FnOk P w K mg base CX (k+1) f (PySem.W.fnOf name qual params body scope T kV doc pm L cdv ct) ps sp:=by
 apply(len,λA outer s H args us vs Q E g M Y r i=>?_);let j:=len _ _ _ _ i;let C:K.In s.heap:=M.mod.kin.keeps λb o e=>(M.bs b o e).1;let c:s.heap.NoLimit:=M.mod.nolimit.keeps λb o e=>(M.bs b o e).1;let l:∀y∈ps.zip us,scope.names.lookup y.1=G .local\/(scope.names.lookup y.1=G .cell/\((076).lookup y.1).isSome=N):=λ(n,v) hy=>by
  rcases S.par n (y3m hy).1 with q|q
  .exact .inl q
  .exact .inr (q,PySem.W.cellsFrom_some _ _ _<|.inl q)
 apply codeAny_call_function g.depth (C _ _ lk) R S.co S.gen R (PySem.W.codeRec_of C hcd)<|Y _ _ _ _ ?_;apply wpAny_newFunctionEnv_cells S.kind l λenv d s1 x=>?_;subst d;apply(c.keeps x.toInCall.keep,codeAny_func ?_);let(t,ht,D):=a A outer s H vs Q E (g.deeper _) i;let I:Inv 123 [] (start Nq vs) H s1:=zsp S g.hd M j r x;apply i5 (ht [] s1 (start Nq vs) H _ I D) (λfl s' hs=>?_) λe s' hs=>hs;let fin:∀{O:St} {H':Hp} {v:V} {u:Va},Inv 123 [] O H' s'->RelV v u->Q v H'->CE outer P w H s Q u s' :=
  λ{O H' v u} J U q=>(v,H',J.os,J.bare,J.base,J.hok,U,q)
 cases fl with
 |ret u =>
  let(v,O,H',J,U,q):=hs;show fin J U q
 |next =>
  let(O,H',J,q):=hs;show fin (v:=V.non) (u:=Va.none) J R q
 |brk =>
  let(_,_,_,q):=hs;show False.elim q
 |cont =>
  let(_,_,_,q):=hs;show False.elim q
section
variable {X:Cx}{x:Str}{p pos:Pos}{e:Expr}{es:List Expr}{t:TA}{id T:String}{r:List V->Hp->VK->Prop}
def tCB(r:List V->Hp->VK->Prop)(t:TA):TE:=λU H Q=>t U H λvs H1=>r vs H1 Q
theorem zu6(g:CallR X 058 r)(hg:Gl X x)(l:X.mg x=B)(D:iQ x=G 058)(ha:PA X (e::es) t)(o:x≠"__name__":=by decide)(i:017=Fa:=by decide)
  (d:il (e::es) X.env=060::il es X.env:=by rfl) (y:(068).any (·.1)=Fa:=by rfl):PE X 046 (tCB r t):=by
 intro pins s σ H Q I h;apply iF<|zh8 I hg l D ?_ o i;show PyProof.Rows.callWith_builtin1 (thn 074 λus s1 E=>ex5 E λvs H1 A r1 J=>g pins s1 σ H1 vs us Q A r1 J) d y
theorem zrf(g:CallR X (.type T) r)(hg:Gl X x)(l:X.mg x=B)(D:iQ x=G (.type T))(ha:PA X (e::es) t)(o:x≠"__name__":=by decide)(i:017=Fa:=by decide)
  (d:il (e::es) X.env=060::il es X.env:=by rfl) (y:(068).any (·.1)=Fa:=by rfl):PE X 046 (tCB r t):=by
 intro pins s σ H Q I h;apply iF<|zh8 I hg l D ?_ o i;show PyProof.Rows.callWith_type1 (thn 074 λus s1 E=>ex5 E λvs H1 A r1 J=>g pins s1 σ H1 vs us Q A r1 J) d y
end
end L2
namespace HT
open PySem PyProof.Rows
section
open PySem.SeqAt
open PySem.AutoSeq1 (wpAny_loadPart')
open PySem.MeetsSeq PySem.MeetsSeq2 PySem.MeetsSeq3
end
section
variable {prog:ik}{w:World}{A:iq}{E:Y0}{s:ii}
theorem cat_tup(ht:IsTup s.heap t vs.toArray)(Y:IsTup s.heap b l.toArray)(D:vs≠[])
  (M:l=[]->Q (.ref t) s) (J:l≠[]->Q 034 {s with heap:=s.heap.push {cls:=.type "tuple",data:=.seq (vs++l).toArray} })
  (hsz:vs.length+l.length<=ij):wpAny 87 A (iE .Add (.ref t) 94) Q E s:=by
 let((cls,dd,data,f),T,g,n,hd):=id ht;let((d,i,data2,y),a,p,n2,c):=id Y;simp only at g hd p c;subst g hd p c;let e:vs.toArray++l.toArray=(vs++l).toArray:=by simp
 by_cases C:l=[]
 .exact concat_meets (_,T,R) (_,a,R) noFill_tuple_add seq_tuple_add PySem.F.slot_tuple_add PySem.F.entry_tuple_add (PySem.F.args_tuple_add_2 _ _)
   (tuple_addW1 t b vs.toArray l.toArray n n2 dd i f y (by simpa using D)<|by simp[C]) (T,a,M C)
 .refine concat_meets (_,T,R) (_,a,R) noFill_tuple_add seq_tuple_add PySem.F.slot_tuple_add PySem.F.entry_tuple_add (PySem.F.args_tuple_add_2 _ _)
   (tuple_addW2 t b vs.toArray l.toArray n n2 dd i f y (by simpa using D) (by simpa using C)<|by rw[y0a,y0a];show hsz) (T,a,?_)
  rw[e];show J C
noncomputable def sIx(n d:Nat):Option Int->Nat
 |none=>d
 |some v=>if v<0 then(v+(n:Int)).toNat else min v.toNat n
theorem sIx_none(n d:Nat):sIx n d B=d:=rfl
theorem sIx_nat(n d k:Nat):sIx n d (G (k:Int))=min k n:=by
 change(if(k:Int)<0 then((k:Int)+(n:Int)).toNat else min (k:Int).toNat n)=min k n;rw[Xp 00,y0y]
theorem sIx_le(n d:Nat)(hd:d<=n)(o:Option Int):sIx n d o<=n:=by
 cases o with
 |none=>show hd
 |some v =>
  change(if v<0 then(v+(n:Int)).toNat else min v.toNat n)<=n;by_cases D:v<0
  .rw[Xq D];omega
  .rw[Xp D];show Nat.min_le_right _ _
theorem clip_eq(v:Int)(n d:Nat):(if v<0 then max (v+(n:Int)) 0 else min v (n:Int))=((sIx n d (G v):Nat):Int):=by
 change(if v<0 then max (v+(n:Int)) 0 else min v (n:Int))=(((if v<0 then(v+(n:Int)).toNat else min v.toNat n):Nat):Int);by_cases D:v<0
 .simp only[Xq D];omega
 .simp only[Xp D];omega
theorem zp7(lo hi:Option Int)(n:Nat):Builtin.Slice.sliceAdjust lo hi 1 (n:Int)=(((sIx n 0 lo:Nat):Int),((sIx n n hi:Nat):Int)):=by
 let M:¬((1:Int)<0):=by omega
 unfold Builtin.Slice.sliceAdjust;simp only[M,if_false];apply Prod.ext ?_ ?_
 .cases lo with
  |none=>rfl
  |some v=>show clip_eq v n 0
 .cases hi with
  |none=>rfl
  |some v=>show clip_eq v n n
theorem zpc(i j:Nat):Builtin.Slice.slicePlaces (i:Int) (j:Int) 1=j-i:=by
 unfold Builtin.Slice.slicePlaces;let M:(1:Int)>0:=by omega
 simp only[M,if_true,Int.ediv_one];split<;>omega
theorem zhq(p:jO v o)(h:Q o s):wpAny 87 A (Builtin.Slice.slicePartIndex v) Q E s:=by
 cases p with
 |none=>show slicePart_none h
 |int i t=>show slicePart_int h
theorem zft{f:Ad}{c vu:Va}{lo hi:Option Int}{n:Nat}{Q:Int×Int×Nat->ii->Prop}(hs:s.heap.IsSliceOf f c vu .none)(pl:jO c lo)(y:jO vu hi)
  (h:Q (((sIx n 0 lo:Nat):Int),1,sIx n n hi-sIx n 0 lo) s):wpAny 87 A (Builtin.Slice.sliceApplied (.ref f)<|pure (n:Int)) Q E s:=by
 let(os,d,l,e):=id hs;unfold Builtin.Slice.sliceApplied Builtin.Slice.sliceFields;apply ie<|ie (i4 d e (x:=c) R<|ie (i4 d e (x:=vu) R<|ie (i4 d e (x:=.none) R<|ig ?_)));apply ie<|slicePart_none ?_;change wpAny _ _ (if((1:Int)==0)=N then _ else _) _ _ s;rw[Xp 02];apply ie<|zhq pl (ie<|zhq y (ie<|ig ?_));change wpAny _ _ (match Builtin.Slice.sliceAdjust lo hi 1 (n:Int)with|(lo,hi)=>pure<|Prod.mk (lo) (Prod.mk ((1:Int))<|Builtin.Slice.slicePlaces lo hi 1)) _ _ s;rw[zp7 lo hi n];change wpAny _ _ (pure<|Prod.mk (((sIx n 0 lo:Nat):Int)) (Prod.mk ((1:Int))<|Builtin.Slice.slicePlaces ((sIx n 0 lo:Nat):Int) ((sIx n n hi:Nat):Int) 1)) _ _ s;rw[zpc];show ig h
theorem zuu(xs:Array Va)(i k:Nat):((List.range k).filterMap λ(m:Nat)=>xs[((i:Int)+(m:Int)*1).toNat]?).toArray=((xs.toList.drop i).take k).toArray:=by
 let e:(λ(m:Nat)=>xs[((i:Int)+(m:Int)*1).toNat]?)=λm=>xs[i+m]?:=by
  funext m;let:((i:Int)+(m:Int)*1).toNat=i+m:=by omega
  rw[this]
 rw[e];let:=pick_run xs i k;rw[List.filterMap_map]at this;let L:((λx=>xs[x]?)∘λx=>i+x)=λm=>xs[i+m]?:=rfl;rw[L]at this;rw[this]
theorem getItem_tuple_cut{t L:Ad}{items:Array Va}{c vu:Va}{lo hi:Option Int}{Q:Y0}(ht:IsTup s.heap t items)(hs:s.heap.IsSliceOf L c vu .none)(pl:jO c lo)(y:jO vu hi)
  (C:¬(sIx items.size 0 lo=0/\sIx items.size items.size hi=items.size))
  (h:Q 034 {s with heap:=s.heap.push {cls:=.type "tuple",data:=.seq ((items.toList.drop<|sIx items.size 0 lo).take<|sIx items.size items.size hi-sIx items.size 0 lo).toArray} })
  (hsz:items.size<=ij):wpAny 87 A (jw (.ref t)<|.ref L) Q E s:=by
 let a:sizeOk (.seq ((items.toList.drop<|sIx items.size 0 lo).take 099).toArray):=by
  change((items.toList.drop<|sIx items.size 0 lo).take 099).toArray.size<=ij;rw[y0a,y19,y2m,y1i];omega
 let f:sIx items.size items.size hi<=items.size:=sIx_le _ _ 37 hi;let(os,d,l,e):=id hs;let g:s.TypeIs (.ref L) "slice":=(os,d,l);unfold jw
 try with_reducible apply iA ?_
 first|apply ie (ig ?_)|skip
 apply ie<|wpAny_sequenceKey ht.typeIs 02 ?_;apply ie (i9 (name:=Str.ofString "__getitem__") ht.typeIs PyProof.Rows.slot_tuple_getitem
  (iw PyProof.Rows.slot_tuple_getitem ht.typeIs entry_tuple_getitem ?_<|args_tuple_getitem _ _))
 change wpAny _ _ (Builtin.Tuple.tupleItemsOf (.ref t)>>=_) _ _ s;apply ie<|tupleItemsOf_ ht ?_;apply ie<|wpAny_typeOf g ?_;rw[Xq 02];apply ie<|zft hs pl y ?_;let j:¬((((sIx items.size 0 lo:Nat):Int)==0&&(1:Int)==1&&099==items.size)=N):=by
  intro q;rw[y07,y07]at q;let J:((sIx items.size 0 lo:Nat):Int)=0:=eq_of_beq q.1.1;let i:sIx items.size items.size hi-sIx items.size 0 lo=items.size:=eq_of_beq q.2;show C (by omega,by omega)
 change wpAny _ _ (if(((sIx items.size 0 lo:Nat):Int)==0&&(1:Int)==1&&099==items.size)=N then _ else _) _ _ s;rw[Xp j,zuu]
 first
  |show ie (m:=Builtin.Tuple.tupleExact _) (iz (ig (_,rfl,ig h)) a)
  |show ie (m:=Builtin.Tuple.tupleExact _) (iz (ie<|ig (ig (_,rfl,ig h))) a)
  |show ie (ie (m:=Builtin.Tuple.tupleExact _)<|iz (ig<|ig (_,rfl,ig h)) a)
  |show ie (ie (m:=Builtin.Tuple.tupleExact _)<|iz (ig (_,rfl,ig h)) a)
end
end HT
namespace L2
abbrev TO:=St->Hp->(Option Int->Hp->Prop)->Prop
def PO(X:Cx)(e:Option Expr)(t:TO):Prop :=
 ∀(pins:Y2) (s:ii) (σ:St) (H:Hp) (Q:Option Int->Hp->Prop),03 H s->t σ H Q->
  wpAny 41 X.A (evalPart e X.env) (λu s'=>∃o H',03 H' s'/\jO u o/\Q o H') X.xe s
def tNoPart:TO:=λ_ H Q=>Q B H
def tPart(t:TE):TO:=λU H Q=>t U H λx H1=>∃i,x=.int i/\Q (G i) H1
theorem zpu:∀{us:List Va},Vals 035 us->jx us ns:=by
 induction ns with
 |nil=>intro us r;rw[y39]at r;cases r;show .nil
 |cons n ns E =>
  intro us r;rw[y0p]at r;cases r with
  |cons r1 r2 =>
   let(t,e):=r1;subst e;show .cons n t<|E r2
section
variable {X:Cx}{e:Expr}{te:TE}{lo hi:Option Expr}{tl th:TO}{pos p2:Pos}
theorem zdg:PO X B tNoPart:=by
 intro Y s U H Q I h;rw[evalPart_none];show ig (B,H,I,.none,h)
theorem zbg(h:PE X e te):PO X (G e) (tPart te):=by
 intro Y s U H Q I C;rw[evalPart_some];apply thn (h Y s U H _ I C) λu s1 E=>ex5 E λx H1 A r1 J=>?_;let(i,rfl,q):=J;let(t,rfl):=r1;show(G i,H1,A,.int i t,q)
def SlR(X:Cx)(r:V->Option Int->Option Int->Hp->VK->Prop):Prop :=
 ∀(pins:Y2) (s:ii) (σ:St) (H:Hp) (x:V) (v c vu:Va) (lo hi:Option Int) (f:Ad) (Q:VK),03 H s->RelV x v->s.heap.IsSliceOf f c vu .none->jO c lo->jO vu hi->r x lo hi H Q->
  ∃T id,jP (.type T) "__getitem__"=pure (G 058)/\s.TypeIs v T/\wpAny 41 X.A (jw v<|.ref f) 050 X.xe s
def tSl(r:V->Option Int->Option Int->Hp->VK->Prop)(te:TE)(tl th:TO):TE:=λU H Q=>te U H λx H1=>tl U H1 λl H2=>th U H2 λu H3=>r x l u H3 Q
theorem zbi(g:SlR X r)(he:PE X e te)(j:PO X lo tl)(D:PO X hi th):PE X (.Subscript e (.Slice lo hi B p2) pos) (tSl r te tl th):=by
 intro pins s σ H Q I h;apply Subscript_<|thn 079 λv s1 E=>ex5 E λx H1 A r1 J=>?_;apply wpAny_Slice<|thn (j pins s1 σ H1 _ A J) λc s2 E=>ex5 E λl H2 Y pl i=>thn (D pins s2 σ H2 _ Y i) λvu p E=>ex5 E λu H3 L y C=>?_;rw[evalPart_none];apply ig ?_;let M:03 H3 {p with heap:=p.heap.push {cls:=.type "slice",data:=.fields #[c,vu,.none]} }:=L.kept (t':=p.toks) λb ob q=>y01 _ q;let(T,id,hT,ht,hg):=g pins {p with heap:=p.heap.push {cls:=.type "slice",data:=.fields #[c,vu,.none]} } σ H3 x v c vu l u p.heap.objs.size Q M r1 (Heap.IsSliceOf.new ..) pl y C;change wpAny 41 X.A (subscriptTail e (.Slice lo hi B p2) v<|.ref p.heap.objs.size) 050 X.xe {p with heap:=p.heap.push {cls:=.type "slice",data:=.fields #[c,vu,.none]} };show tail_any (ops:=[.ref p.heap.objs.size,v]) ht hT hg (by with_unfolding_all rfl)
noncomputable def cutV(xs:List V)(lo hi:Option Int):List V:=(xs.drop<|HT.sIx xs.length 0 lo).take 098
theorem zg4(xs:List V)(lo hi:Option Int):(cutV xs lo hi).length<=xs.length:=by
 unfold cutV;rw[y19,y2m];omega
def rSlT(K:Frag):V->Option Int->Option Int->Hp->VK->Prop:=λx lo hi H Q=>∃a xs,x=.ref a/\SqT K H a xs/\
 ¬120/\∀p,H p=B->Q 91 (upd H p<|.tup (cutV xs lo hi))
theorem sl_tup:SlR X (rSlT X.K):=by
 intro Y s U H x v c vu lo hi f Q I d hs pl y h;let(a,xs,rfl,O,C,q):=h;cases d;let(its,r,ht,hz):=I.tuple O;let M:its.toArray.size=xs.length:=by rw[y0a];show r.length.symm
 apply("tuple",_,PyProof.Rows.slot_tuple_getitem.lookup,ht.typeIs,?_);apply HT.getItem_tuple_cut ht hs pl y (by rw[M];show C) ?_ (by rw[M];show hz);rw[M];apply(.ref s.heap.objs.size,_,I.laid (t':=s.toks) (o:=.tup<|cutV xs lo hi) (λb ob q=>y01 _ q) 37 ?_,R,q _ 069);show(y0z (zg4 xs lo hi) hz,_,(r.drop<|HT.sIx xs.length 0 lo).take 098,IsTup.new _ _)
def rCatT(K:Frag):R2:=λx y H Q=>∃a b xs ys,x=.ref a/\y=.ref b/\SqT K H a xs/\SqT K H b ys/\xs≠[]/\xs.length+ys.length<=ij/\
 (ys=[]->Q 09 H)/\(ys≠[]->∀p,H p=B->Q 91 (upd H p<|.tup (xs++ys)))
theorem Vals.nil_iff(r:Vals xs us):us=[]↔xs=[]:=by
 cases r with
 |nil=>simp
 |cons _ _=>simp
theorem zyr:OpR X (iE .Add) (rCatT X.K):=by
 intro Y s U H x y v u Q I d l h;let(a,b,xs,ys,rfl,rfl,L,E,O,hz,J,i):=h;cases d;cases l;let(its,r1,M,_):=I.tuple L;let(T,r2,p2,_):=I.tuple E;apply HT.cat_tup M p2 (λz=>O<|r1.nil_iff.mp z) (λz=>(.ref a,H,I,R,J<|r2.nil_iff.mp z)) (λz=>?_) (by rw[←r1.length,←r2.length];show hz);apply(.ref s.heap.objs.size,_,I.laid (t':=s.toks) (o:=.tup<|xs++ys) (λb ob q=>y01 _ q) 37 ?_,R,i (λw=>z<|r2.nil_iff.mpr w) _ 069);show(by rw[y02];show hz,_,r1.append r2,IsTup.new _ _)
end
noncomputable def ixN(n:Nat)(i:Int):Option Nat:=if 0<=i then(if i<n then G i.toNat else B)else if -(n:Int)<=i then G (i+n).toNat else B
def atI{d:Type}(xs:List d)(i:Int):Option d:=(ixN xs.length i).bind λj=>xs[j]?
theorem ixN_seq(h:ixN n i=G j):seqIndex? i n=G j/\j<n/\-(n:Int)<=i/\i<n:=by
 unfold ixN at h;by_cases Y:0<=i
 .rw[Xq Y]at h;by_cases M:i<n
  .rw[Xq M]at h;let e:i.toNat=j:=Option.some.inj h;show(by rw[seqIndex_of Y M,e],by omega,by omega,M)
  .rw[Xp M]at h;cases h
 .rw[Xp Y]at h;by_cases M:-(n:Int)<=i
  .rw[Xq M]at h;let e:(i+n).toNat=j:=Option.some.inj h;show(by rw[seqIndex_neg 00 M,e],by omega,M,by omega)
  .rw[Xp M]at h;cases h
theorem zna{d:Type}{xs:List d}{i:Int}{v:d}(h:atI xs i=G v):∃j,seqIndex? i xs.length=G j/\xs[j]?=G v/\j<xs.length/\-(xs.length:Int)<=i/\i<xs.length:=by
 unfold atI at h;cases e:ixN xs.length i with
 |none=>rw[e]at h;cases h
 |some j =>
  rw[e]at h;let(M,J,U,C):=ixN_seq e;show(j,M,h,J,U,C)
theorem zaj{d:Type}{xs:List d}{j:Nat}{v:d}(h:xs[j]?=G v):atI xs (j:Int)=G v:=by
 let f:j<xs.length:=(y09.mp h).1;let e:ixN xs.length (j:Int)=G j:=by
  unfold ixN;rw[Xq 00,Xq 00];simp
 unfold atI;rw[e];show h
theorem zwo(xs:List d)(v:d):atI (xs++[v]) (-1)=G v:=by
 let j:(xs++[v]).length=xs.length+1:=by simp
 let e:ixN (xs++[v]).length (-1)=G xs.length:=by
  unfold ixN;rw[j,Xp 02,Xq 00];congr 1;omega
 unfold atI;rw[e];change(xs++[v])[xs.length]?=G v;simp
def PlainIx(b:Expr):Prop:=∀o i,jC b Fa o i=operate [o,i] (jw o i)
def IxR(X:Cx)(r:R2):Prop :=
 ∀(l e:Expr) (pins:Y2) (s:ii) (σ:St) (H:Hp) (x y:V) (v u:Va) (Q:VK),03 H s->RelV x v->RelV y u->r x y H Q->
  jC e Fa v u=operate [v,u] (jw v u)->wpAny 41 X.A (subscriptTail l e v u) 050 X.xe s
def MtR(X:Cx)(id:String)(r:V->List V->Hp->VK->Prop):Prop :=
 ∀(pins:Y2) (s:ii) (σ:St) (H:Hp) (x:V) (xs:List V) (v:Va) (us:List Va) (Q:VK),03 H s->RelV x v->Vals xs us->r x xs H Q->
  wpAny 41 X.A (call 058 (v::us)) 050 X.xe s
section
variable {X:Cx}{a b:Expr}{ta tb:TE}{pos:Pos}
theorem zam(g:IxR X r)(L:PE X a ta)(E:PE X b tb)(hs:PlainIx b):PE X (.Subscript a b pos) (tOp r ta tb):=by
 intro Y s U H Q I h;show Subscript_<|binT L E I h λv u s2 x y H2 j d O q=>g a b Y s2 U H2 x y v u Q j d O q<|hs _ _
def rIxL(K:Frag):R2:=λx y H Q=>asR x λp=>∃xs,asI y λi=>SqL K H p xs/\∃v,atI xs i=G v/\Q v H
def rIxT(K:Frag):R2:=λx y H Q=>asR x λp=>∃xs,asI y λi=>SqT K H p xs/\∃v,atI xs i=G v/\Q v H
def rIxS:R2:=λx y H Q=>asS x λz=>asI y λi=>z.length<=ij/\∃c,atI z.cps.toList i=G c/\Q (.str ⟨#[c]⟩) H
theorem ix_list:IxR X (rIxL X.K):=by
 intro l e Y s U H x y v u Q I d O h hs;let(p,rfl,xs,h'):=zck h;let(i,rfl,D,z,he,q):=zd3 h';cases d;let(t,rfl):=O;let(its,r,pl,hz):=I.list D;let(j,M,J,A,C,g):=zna he;let(w,T,c):=r.get J;let E:=r.length;let o:=line63;let fin:EP X Y U Q w s:=(z,H,I,c,q);by_cases L:0<=i
 .let f:i.toNat=j:=by
   rw[seqIndex_of L g]at M;show Option.some.inj M
  show item_listR pl.isList L 00 (by rw[f];simpa using T) fin hs
 .let f:(i+(its.toArray.size:Int)).toNat=j:=by
   rw[seqIndex_neg 00 C]at M;rw[y0a,←E];show Option.some.inj M
  show subscriptTail_builtinR (x:=w) pl.isList.typeIs slot_list_getitem.lookup
   (wpAny_getItem_list_neg (Q:=λr s'=>r=w/\EP X Y U Q r s') pl.isList 00 (by rw[y0a]<;>omega) 00 (by rw[f];simpa using T) (R,fin)) hs
theorem ix_tup:IxR X (rIxT X.K):=by
 intro l e Y s U H x y v u Q I d O h hs;let(p,rfl,xs,h'):=zck h;let(i,rfl,D,z,f,q):=zd3 h';cases d;let(t,rfl):=O;let(its,r,pl,hz):=I.tuple D;let(j,M,J,A,C,g):=zna f;let(w,T,c):=r.get J;let E:=r.length;let o:=line63;let fin:EP X Y U Q w s:=(z,H,I,c,q);show subscriptTail_builtinR (x:=w) pl.typeIs slot_tuple_getitem.lookup
  (getItem_tuple (j:=j) (Q:=λr s'=>r=w/\EP X Y U Q r s') pl 00 00 (by rw[y0a,←E];show M) (by simpa using T) (R,fin)) hs
theorem zfq:IxR X rIxS:=by
 intro l e Y s U H x y v u Q I d O h hs;let(z,rfl,h'):=zts h;let(i,rfl,hz,c,D,q):=zd3 h';let(t,rfl):=d;let(t',rfl):=O;let(j,M,J,A,C,g):=zna D;let E:z.cps.toList.length=z.length:=by simp[Str.length]
 rw[E]at M C g;let o:=line63;show tail_any (typeIs_str s z t) slot_str_getitem.lookup (getItem_str (c:=c) (by
  let e1:decide (i < -(2^63:Int))=Fa:=Xf 00;let L:decide (i>=2^63)=Fa:=Xf 00;rw[e1,L,y2h]) (by rw[M];simpa using J) (.str ⟨#[c]⟩,H,I.tok _,(_,R),q)) hs
def rSetL:V->V->V->Hp->(Hp->Prop)->Prop:=λo i v H Q=>∃p xs k j,o=.ref p/\i=.int k/\H p=G 98/\ixN xs.length k=G j/\Q (upd H p<|.lst (xs.set j v))
theorem zj8(lo hi:Option Int)(n:Nat):(je lo hi B n).1=((HT.sIx n 0 lo:Nat):Int)/\(je lo hi B n).2.1=((HT.sIx n n hi:Nat):Int)/\(je lo hi B n).2.2=1:=by
 apply(?_,?_,R)
 .cases lo with
  |none=>simp[je,HT.sIx]
  |some i =>
   simp only[je,HT.sIx,Option.getD_none,show(1:Int)>0 by decide,if_true];by_cases h:i<0
   .simp only[h,if_true]<;>omega
   .simp only[h,if_false]<;>omega
 .cases hi with
  |none=>simp[je,HT.sIx]
  |some i =>
   simp only[je,HT.sIx,Option.getD_none,show(1:Int)>0 by decide,if_true];by_cases h:i<0
   .simp only[h,if_true]<;>omega
   .simp only[h,if_false]<;>omega
theorem ziw(its:List Va)(lo hi:Option Int):slicePick its.toArray lo hi B=((its.drop<|HT.sIx its.length 0 lo).take<|HT.sIx its.length its.length hi-HT.sIx its.length 0 lo).toArray:=by
 let(M,J,U):=zj8 lo hi its.toArray.size;unfold slicePick;rw[M,J,U];simp only[sliceRange_one,pick_run,y0a]<;>rfl
def rSlL(K:Frag):V->Option Int->Option Int->Hp->VK->Prop:=λx lo hi H Q=>∃a xs,x=.ref a/\SqL K H a xs/\∀p,H p=B->Q 91 (upd H p<|.lst (cutV xs lo hi))
theorem zx3:SlR X (rSlL X.K):=by
 intro Y s U H x v c vu lo hi f Q I d hs pl y h;let(a,xs,rfl,O,q):=h;cases d;let(its,r,ht,hz):=I.list O;let M:=r.length;apply("list",_,slot_list_getitem.lookup,ht.isList.typeIs,?_);apply wpAny_getItem_list_slice ht.isList hs pl y .none 06 ?_ (by rw[y0a]<;>omega);rw[ziw,←M];apply(.ref s.heap.objs.size,_,I.laid (t':=s.toks) (o:=.lst<|cutV xs lo hi) (λb ob q=>y01 _ q) 37 ?_,R,q _ 069);show(y0z (zg4 xs lo hi) hz,_,0,(r.drop<|HT.sIx xs.length 0 lo).take 098,y0c _ R)
noncomputable def flatV:V->Bool
 |.non=>N
 |.bl _=>N
 |.int _=>N
 |.str _=>N
 |_=>Fa
noncomputable def eqV:V->V->Bool
 |.non,.non=>N
 |.bl a,.bl b=>a==b
 |.bl a,.int b=>(if a then 1 else 0)==b
 |.int a,.bl b=>a==(if b then 1 else 0)
 |.int a,.int b=>a==b
 |.str a,.str b=>a==b
 |_,_=>Fa
theorem zs4(O:RelV y u)(d:RelV x v)(e:flatV y=N)(c:flatV x=N):SeqAt.EqAt A s u v (eqV y x):=by
 cases y with
 |non =>
  cases O;cases x with
  |non=>cases d;show SeqAt.EqAt.same _
  |bl b=>cases d;show SeqAt.EqAt.none_bool b
  |int b=>let(t,rfl):=d;show SeqAt.EqAt.none_int b t
  |str b=>let(t,rfl):=d;show SeqAt.EqAt.none_str b t
  |_=>show Xa (show Fa=N from c) y0f
 |bl a =>
  cases O;cases x with
  |non=>cases d;show SeqAt.EqAt.bool_none a
  |bl b=>cases d;show SeqAt.EqAt.bool_bool a b
  |int b=>let(t,rfl):=d;show SeqAt.EqAt.bool_int a b t
  |str b=>let(t,rfl):=d;show SeqAt.EqAt.bool_str a b t
  |_=>show Xa (show Fa=N from c) y0f
 |int a =>
  let(t',rfl):=O;cases x with
  |non=>cases d;show SeqAt.EqAt.int_none a t'
  |bl b=>cases d;show SeqAt.EqAt.int_bool a t' b
  |int b=>let(t,rfl):=d;show SeqAt.EqAt.int_int a t' b t
  |str b=>let(t,rfl):=d;show SeqAt.EqAt.int_str a t' b t
  |_=>show Xa (show Fa=N from c) y0f
 |str a =>
  let(t',rfl):=O;cases x with
  |non=>cases d;show SeqAt.EqAt.str_none a t'
  |bl b=>cases d;show SeqAt.EqAt.str_bool a t' b
  |int b=>let(t,rfl):=d;show SeqAt.EqAt.str_int a t' b t
  |str b=>let(t,rfl):=d;show SeqAt.EqAt.str_str a t' b t
  |_=>show Xa (show Fa=N from c) y0f
 |_=>show Xa (show Fa=N from e) y0f
def eqU(x:V)(u:Va):Bool:=match u with
 |.none=>eqV .non x
 |.bool b=>eqV (.bl b) x
 |.int i _=>eqV (.int i) x
 |.str z _=>eqV (.str z) x
 |_=>Fa
theorem zxh(r:RelV y u)(f:flatV y=N):eqU x u=eqV y x:=by
 cases y with
 |non=>cases r;rfl
 |bl b=>cases r;rfl
 |int i=>let(t,rfl):=r;rfl
 |str z=>let(t,rfl):=r;rfl
 |_=>show Xa (show Fa=N from f) y0f
theorem zhc:∀{xs:List V} {us:List Va},Vals xs us->xs.all flatV=N->us.any (eqU x)=xs.any λy=>eqV y x
 |_,_,.nil,_=>rfl
 |y::xs,u::us,.cons r t,f=>by
  rw[y1z,y07]at f;rw[y1p,y1p,zxh r f.1,zhc t f.2]
theorem zeu(d:RelV x v)(c:flatV x=N):∀{xs:List V} {us:List Va},Vals xs us->xs.all flatV=N->∀u∈us,SeqAt.EqAt A s u v (eqU x u)
 |_,_,.nil,_=>λu g=>by cases g
 |y::xs,u::us,.cons r t,f=>λL g=>by
  rw[y1z,y07]at f;rcases y06.mp g with rfl|g
  .rw[zxh r f.1];show zs4 r d f.1 c
  .exact zeu d c t f.2 L g
def inV(x:V)(xs:List V):Bool:=xs.any λy=>eqV y x
def rIn(K:Frag)(neg:Bool):R2:=λx y H Q=>∃p xs,y=.ref p/\(SqL K H p xs\/SqT K H p xs)/\flatV x=N/\xs.all flatV=N/\Q (.bl<|if neg then !inV x xs else inV x xs) H
theorem zrk:OpR X (im .In) (rIn X.K Fa):=by
 intro Y s U H x y v u Q I d O h;let(p,xs,rfl,D,c,fs,q):=h;cases O;rcases D with D|D
 .let(its,r,pl,hz):=I.list D;apply SeqAt.in_listAt (eqU x) pl.isList (λw C=>zeu d c r fs w<|by simpa using C) (.bl _,H,I,R,?_);rw[show its.toArray.any (eqU x)=its.any (eqU x) by simp,zhc r fs];show q
 .let(its,r,pl,hz):=I.tuple D;apply SeqAt.in_tupleAt (eqU x) pl (λw C=>zeu d c r fs w<|by simpa using C) (.bl _,H,I,R,?_);rw[show its.toArray.any (eqU x)=its.any (eqU x) by simp,zhc r fs];show q
theorem zkk:OpR X (im .NotIn) (rIn X.K N):=by
 intro Y s U H x y v u Q I d O h;let(p,xs,rfl,D,c,fs,q):=h;cases O;rcases D with D|D
 .let(its,r,pl,hz):=I.list D;apply SeqAt.notIn_listAt (eqU x) pl.isList (λw C=>zeu d c r fs w<|by simpa using C) (.bl _,H,I,R,?_);rw[show its.toArray.any (eqU x)=its.any (eqU x) by simp,zhc r fs];show q
 .let(its,r,pl,hz):=I.tuple D;apply SeqAt.notIn_tupleAt (eqU x) pl (λw C=>zeu d c r fs w<|by simpa using C) (.bl _,H,I,R,?_);rw[show its.toArray.any (eqU x)=its.any (eqU x) by simp,zhc r fs];show q
theorem zk6:CallR X (.builtin "len") (λxs H Q=>∃p ys,xs=[.ref p]/\(SqL X.K H p ys\/SqT X.K H p ys)/\Q (.int ys.length) H):=by
 intro Y s U H xs us Q I r h;let(p,ys,rfl,D,q):=h;let(u,rfl,d):=vals1 r;cases d;let o:=line63;rcases D with D|D
 .let(its,r',pl,hz):=I.list D;let M:=r'.length;show Calls.call_len_list pl.isList (by simp only[y0a]<;>omega) (.int ys.length,H,I.tok _,(s.toks+1,by rw[y0a,M]),q)
 .let(its,r',pl,hz):=I.tuple D;let M:=r'.length;show len_tuple pl (by simp only[y0a]<;>omega) (.int ys.length,H,I.tok _,(s.toks+1,by rw[y0a,M]),q)
theorem zk5:CallR X (.builtin "len") (λxs H Q=>∃z,xs=[.str z]/\z.length<=ij/\Q (.int z.length) H):=by
 intro Y s U H xs us Q I r h;let(z,rfl,hz,q):=h;let(u,rfl,t,rfl):=vals1 r;let o:=line63;show len_str 00 (.int z.length,H,I.tok _,(_,R),q)
theorem zk4:CallR X (.type "list") (λxs H Q=>∃p ys,xs=[.ref p]/\(SqL X.K H p ys\/SqT X.K H p ys)/\∀l,H l=B->Q (.ref l) (upd H l 82)):=by
 intro Y s U H xs us Q I r h;let(p,ys,rfl,D,q):=h;let(u,rfl,d):=vals1 r;cases d;let fin:∀(its:List Va),Vals ys its->ys.length<=ij->∀(h':Heap) (c':Nat),(∀b y,s.heap.get? b=G y->h'.get? b=G y)->
   h'.get? s.heap.objs.size=G {cls:=.type "list",dict:=B,data:=.seq its.toArray c',slots:=#[]}->EP X Y U Q 034 {s with heap:=h'}:=λits r' hz h' c' kp e =>
  (.ref s.heap.objs.size,_,I.laid (t':=s.toks) kp 37<|show ObjOk X.prog X.w _ h' _ (82)from(hz,its,c',r',e),R,q _ 069)
 rcases D with D|D
 .let(its,r',pl,hz):=I.list D;let M:=r'.length;let(o,T,g,n,hd):=pl.isList;show call_list_seq p 85 T g hd (λh' c' kp e=>fin its r' hz h' c' kp e) (by simp only[y0a]<;>omega)
 .let(its,r',pl,hz):=I.tuple D;let M:=r'.length;let(o,T,g,n,hd):=pl;show call_list_seq p (.inr R) T g hd (λh' c' kp e=>fin its r' hz h' c' kp e) (by simp only[y0a]<;>omega)
theorem zjo:CallR X (.type "tuple") (λxs H Q=>∃p ys,xs=[.ref p]/\((SqL X.K H p ys/\∀l,H l=B->Q (.ref l) (upd H l<|.tup ys))\/(SqT X.K H p ys/\Q 91 H))):=by
 intro pins s σ H xs us Q I r h;let(p,ys,rfl,h):=h;let(u,rfl,d):=vals1 r;cases d;rcases h with⟨D,q⟩|⟨D,q⟩
 .let(its,r',pl,hz):=I.list D;let M:=r'.length;apply call_tuple_list pl.isList (λh' kp=>?_) (by simp only[y0a]<;>omega);let A:03 H {s with heap:=h'}:=I.kept (t':=s.toks) kp;let j:03 (upd H h'.objs.size<|.tup ys) {s with heap:=h'.push {cls:=.type "tuple",data:=.seq its.toArray} } :=
   A.laid (t':=s.toks) (λb o e=>y01 _ e) 37 (show ObjOk X.prog X.w _ _ _ (.tup ys)from(hz,its,r',IsTup.new _ _))
  show(.ref h'.objs.size,_,j,R,q _<|A.hok.fresh 37)
 .let(its,r',pl,hz):=I.tuple D;show call_tuple_same pl (.ref p,H,I,R,q)
def tyV(K:Frag)(T:String)(x:V)(H:Hp):Prop:=match x with
 |.str _=>T="str"
 |.int _=>T="int"
 |.ref p=>(T="list"/\∃xs,SqL K H p xs)\/(T="tuple"/\∃o,K.lookup p=G o/\o.cls=.type "tuple"/\o.dict=B)\/
   (T="dict"/\((∃L,H p=G (.dK L))\/∃L,H p=G (.dT L)))\/(T="set"/\∃S n,H p=G (.set S n))
 |_=>False
theorem zwp{pins:Y2}{σ:St}{H:Hp}{s:ii}{T:String}{x:V}{v:Va}(I:03 H s)(r:RelV x v)(ty:tyV X.K T x H):
  s.TypeIs v T/\∀a,v=.ref a->∃ob,s.heap.get? a=G ob/\ob.dict=B:=by
 cases x with
 |str z =>
  let(t,rfl):=r;cases(show T="str" from ty);show(typeIs_str s z t,λ_ e=>nomatch e)
 |int i =>
  let(t,rfl):=r;cases(show T="int" from ty);show(typeIs_int s i t,λ_ e=>nomatch e)
 |ref p =>
  cases r;rcases ty with⟨rfl,xs,D⟩|⟨rfl,o,C,g,hd⟩|⟨rfl,C⟩|⟨rfl,S,n,C⟩
  .let(its,_,pl,_):=I.list D;apply(pl.isList.typeIs,λa e=>?_);cases e;let(o,n,e,c,hd,_):=pl;show(o,e,hd)
  .refine((o,I.kIn p o C,g),λa e=>?_);cases e;show(o,I.kIn _ o C,hd)
  .let z:∃o,s.heap.get? p=G o/\o.ExactDict:=by
    rcases C with⟨L,C⟩|⟨L,C⟩
    .let(_,_,_,_,o,_,_,e,ex,_):=I.hok p _ C;show(o,e,ex)
    .let(_,_,_,_,o,_,_,e,ex,_):=I.hok p _ C;show(o,e,ex)
   let(o,e,ex):=z;apply((o,e,ex.1),λa O=>?_);cases O;show(o,e,ex.2.1)
  .let(o,_,_,_,e,ex,_):=I.hok p _ C;apply((o,e,ex.1),λa O=>?_);cases O;show(o,e,ex.2.1)
 |_=>show False.elim ty
def tBM0(K:Frag)(T:String)(r:V->List V->Hp->VK->Prop)(f:TE):TE:=λU H Q=>f U H λx H1=>tyV K T x H1/\r x [] H1 Q
def tBM(K:Frag)(T:String)(r:V->List V->Hp->VK->Prop)(f:TE)(t:TA):TE:=λU H Q=>f U H λx H1=>tyV K T x H1/\t U H1 λxs H2=>r x xs H2 Q
variable {o e:Expr}{es:List Expr}{to:TE}{t:TA}{name:Str}{apos cpos:Pos}{T id:String}{r:V->List V->Hp->VK->Prop}
theorem pe_bm0(y:PlainAttrs T)(slot:Slot T name id)(f:typeOf 058=pure (.type "method_descriptor"))(l:MtR X id r)(D:PE X o to)
  (c:attributeBase o name X.env (eval o X.env)=eval o X.env:=by rfl) (d:(apos.endLine==cpos.line)=N:=by rfl):PE X (.Call (.Attribute o name apos) [] [] cpos) (tBM0 X.K T r to):=by
 intro Y s U H Q I h;apply wpAny_Call_method0_late c d<|thn (D Y s U H _ I h) λv s1 E=>ex5 E λx H1 A r1 C=>?_;let(ty,L):=C;let(M,J):=zwp A r1 ty;show(T,id,y,slot,f,M,J,Calls.callWith_builtin R<|PySem.evalArgs_none (l Y s1 U H1 x [] v [] Q A r1 .nil L))
theorem pe_bm(y:PlainAttrs T)(slot:Slot T name id)(f:typeOf 058=pure (.type "method_descriptor"))(l:MtR X id r)(D:PE X o to)(L:PA X (e::es) t)
  (c:attributeBase o name X.env (eval o X.env)=eval o X.env:=by rfl)
  (g:((iR cpos<|il (e::es) X.env).all (λx=>!x.1)&&(backToKw cpos<|keywordEach [] X.env).all (λx=>x.1.isSome)
   && decide ((e::es).length+([]:List Keyword).length+(if([]:List Keyword).isEmpty then 0 else 1)<30))=N:=by rfl)
  (d:(apos.endLine==cpos.line)=N:=by rfl) (hs:il (e::es) X.env=060::il es X.env:=by rfl) (p:(iR cpos<|il es X.env).any (·.1)=Fa:=by rfl) :
  PE X (.Call (.Attribute o name apos) (e::es) [] cpos) (tBM X.K T r to t):=by
 intro Y s U H Q I h;apply wpAny_Call_method_late c g d R<|thn (D Y s U H _ I h) λv s1 E=>ex5 E λx H1 A r1 C=>?_;let(ty,u):=C;let(M,J):=zwp A r1 ty;apply(T,id,y,slot,f,M,J,?_);let q:=L cpos Y s1 U H1 _ A u;rw[hs]at q ⊢;apply Calls.callWith_builtin (by change(Fa||(iR cpos<|il es X.env).any (·.1))=Fa;rw[p]<;>rfl)<|Calls.evalArgs_plain ?_;show thn q λus s2 E=>ex5 E λvs H2 j r2 i=>l Y s2 U H2 x vs v us Q j r1 r2 i
end
def MtM(X:Cx)(id:String)(r:V->List V->Hp->VK->Prop):Prop :=
 ∀(pins:Y2) (s:ii) (σ:St) (H:Hp) (x:V) (xs:List V) (v:Va) (us:List Va) (Q:VK),03 H s->RelV x v->Vals xs us->r x xs H Q->
  wpAny 41 X.A (call 058 (v::us)) 050 X.xe s
theorem Vals.one:∀{x:V} {us:List Va},Vals [x] us->∃u,us=[u]/\RelV x u:=λh=>vals1 h
theorem Vals.zero:∀{us:List Va},Vals [] us->us=[]
 |_,.nil=>rfl
theorem Vals.dropLast(h:Vals xs us):Vals xs.dropLast us.dropLast:=by
 induction h with
 |nil=>show .nil
 |cons r t E =>
  cases t with
  |nil=>show .nil
  |cons q t'=>show .cons r E
theorem zp2{d:Type}(l:List d):l.eraseIdx (l.length-1)=l.dropLast:=by
 induction l with
 |nil=>rfl
 |cons a r E =>
  cases r with
  |nil=>rfl
  |cons b r =>
   let e:(a::b::r).length-1=((b::r).length-1)+1:=by
    let M:(a::b::r).length=r.length+2:=rfl;let J:(b::r).length=r.length+1:=rfl;omega
   rw[e,List.eraseIdx_cons_succ,E]
   all_goals rfl
section
variable {X:Cx}{pins:Y2}{σ:St}{H:Hp}{s:ii}{l b:Ad}{xs ys zs:List V}
theorem Inv.lset{its its':List Va}(I:03 H s)(J:H l=G 98)
  (e:s.heap.get? l=G {cls:=.type "list",data:=.seq its.toArray n}) (U:f its.toArray=its'.toArray) (D:Vals ys its') (hz:ys.length<=ij) :
  03 (upd H l 82) {s with heap:=s.heap.update l<|Obj.mapSeq f,toks:=t'}:=by
 let q:=PySem.IsL.update e f;rw[U]at q;apply I.write (x:=l) (e:=l) (by rw[J];show trivial) 85 (λT u Y g=>(y22 s.heap (Obj.mapSeq f)<|Ne.symm Y).trans g) (_,q) ?_;show(hz,its',_,D,q)
theorem Inv.lnew(I:03 H s)(D:Vals ys its)(hz:ys.length<=ij):
  03 (upd H s.heap.objs.size 82) {s with heap:=s.heap.push {cls:=.type "list",data:=.seq its.toArray},toks:=t'} :=
 I.laid (λ_ _ q=>y01 _ q) 37 (hz,its,0,D,y0c _ R)
theorem Inv.fresh(I:03 H s):H s.heap.objs.size=B:=I.hok.fresh 37
theorem Inv.lstM(I:03 H s)(J:H l=G 98):xs.length<=ij/\∃(its:List Va) (n:Nat),Vals xs its/\xs.length=its.length/\s.heap.get? l=G {cls:=.type "list",data:=.seq its.toArray n}:=by
 let(z,its,n,r,e):=I.hok l _ J;show(z,its,n,r,r.length,e)
theorem notLongL(h:n<=ij):Builtin.List.listTooLong n=Fa:=by
 unfold Builtin.List.listTooLong;show Xf 00
end
section
variable {X:Cx}
def rAppend:V->List V->Hp->VK->Prop:=λx vs H Q=>∃l xs y,x=.ref l/\vs=[y]/\H l=G 98/\xs.length<ij/\Q .non (upd H l<|.lst (xs++[y]))
theorem zkq:MtM X "list.append" rAppend:=by
 intro Y s U H x vs v us Q I d f h;let(l,xs,y,rfl,rfl,J,hz,q):=h;cases d;let(u,rfl,D):=f.one;let(z,its,n,r,j,e):=I.lstM J;apply j8 F.slot_list_append (_,e,R) F.entry_list_append (F.args_list_append_2 _ _) (PySem.list_append l its.toArray n u<|by rw[y0a];omega) (e,?_);apply(.non,_,I.lset (its':=its++[u]) J e 06 (r.append<|.cons D .nil) ?_,R,q);rw[y02,y0i];omega
def rExtend:V->List V->Hp->VK->Prop:=λx vs H Q=>∃l b xs zs,x=.ref l/\vs=[.ref b]/\H l=G 98/\H b=G (.lst zs)/\xs.length+zs.length<=ij/\Q .non (upd H l<|.lst (xs++zs))
theorem zr6:MtM X "list.extend" rExtend:=by
 intro Y s U H x vs v us Q I d f h;let(l,b,xs,zs,rfl,rfl,J,o,hz,q):=h;cases d;let(u,rfl,D):=f.one;cases D;let(z,its,n,r,j,e):=I.lstM J;let(E,T,n2,r2,a,L):=I.lstM o;let hsz:its.toArray.size+T.toArray.size<=ij:=by rw[y0a,y0a];omega
 let g:¬(!its.toArray.isEmpty&&Builtin.List.listTooLong (its.toArray.size+T.toArray.size))=N:=by
  rw[notLongL hsz,y2j];show y0f
 apply j8 F.slot_list_extend (_,e,R) F.entry_list_extend (F.args_list_extend_2 _ _)
  (AutoSeq1.list_extend_list_list_0 l its.toArray n b T.toArray n2 g (by rw[y0a];omega) 00) (e,L,?_)
 apply(.non,_,I.lset (its':=its++T) J e 06 (r.append r2) ?_,R,q);rw[y02];omega
def rPop:V->List V->Hp->VK->Prop:=λx vs H Q=>∃l xs y,x=.ref l/\vs=[]/\H l=G 98/\xs[xs.length-1]?=G y/\Q y (upd H l<|.lst xs.dropLast)
theorem zr4:MtM X "list.pop" rPop:=by
 intro Y s U H x vs v us Q I d f h;let(l,xs,y,rfl,rfl,J,o,q):=h;cases d;let a:=f.zero;subst a;let(z,its,n,r,j,e):=I.lstM J;let(u,g,D):=r.get o;let c:its.toArray[its.toArray.size-1]?=G u:=by
  change its.toArray[its.length-1]?=G u;rw[←y2f,←j];show g
 apply j8 F.slot_list_pop (_,e,R) F.entry_list_pop (F.args_list_pop_1 _) (MeetsSeq.list_pop_last l its.toArray n u c<|by rw[y0a];omega) (e,?_);apply(y,_,I.lset (its':=its.dropLast) J e ?_ r.dropLast ?_,D,q)
 .change its.toArray.eraseIdxIfInBounds (its.toArray.size-1)=its.dropLast.toArray;rw[y0a,List.eraseIdxIfInBounds_toArray,zp2]
 .rw[y3r];omega
def rPopAt:V->List V->Hp->VK->Prop:=λx vs H Q=>∃l xs i k y,x=.ref l/\vs=[.int i]/\H l=G 98/\-(2^63)<=i/\i<2^63/\seqIndex? i xs.length=G k/\xs[k]?=G y/\Q y (upd H l<|.lst (xs.eraseIdx k))
def rCat:R2:=λx y H Q=>∃l b xs zs,x=.ref l/\y=.ref b/\H l=G 98/\H b=G (.lst zs)/\xs.length+zs.length<=ij/\∀p,H p=B->Q 91 (upd H p<|.lst (xs++zs))
theorem op_cat:OpR X (iE .Add) rCat:=by
 intro Y s U H x y v u Q I d O h;let(l,b,xs,zs,rfl,rfl,J,o,hz,q):=h;cases d;cases O;let(z,its,n,r,j,e):=I.lstM J;let(E,T,n2,r2,a,L):=I.lstM o;apply PySem.P.add_list e L ?_ (by rw[y0a,y0a];omega);let c:its.toArray++T.toArray=(its++T).toArray:=by simp
 rw[c];show(.ref _,_,I.lnew (t':=s.toks) (r.append r2) (by rw[y02];omega),R,q _ I.fresh)
end
end L2
namespace Att
open PySem PySem.W PySem.Calls PyProof.Rows
theorem zg0:∀(ns:List Int) (vs:List Va),WellAll P h vs (ns.map WData.int)->jx vs ns:=by
 intro ns
 induction ns with
 |nil =>
  intro vs w;rw[y39]at w;cases w;show .nil
 |cons n ns E =>
  intro vs w;rw[y0p]at w;cases w with
  |cons a b =>
   cases a;show .cons _ _<|E _ b
theorem zqv{l:OpenLaw}(hn:l.most=G n){h:Heap}
  (hpre:l.row.toRowW.claim.pre args=N) (hwl:WellAll P h vals args) :
  ∃a vs ns,vals=[Va.ref a]/\args=[WData.list<|ns.map WData.int]/\h.get? a=G {cls:=.type "list",data:=.seq vs.toArray}/\jx vs ns/\ns.length<=n:=by
 let hsh:WShape.hasAll [] args [.list .int]=N:=(pre_splitW hpre).1;let hc:l.pre.holds [] {args:=args}=N:=(pre_splitW hpre).2;let(d,r,rfl,h1,h2):=hasAllW_cons hsh;obtain rfl:=hasAllW_nil h2;let(xs,rfl,h3):=hasW_list h1;let(ns,rfl):=items_int h3;let hlen:ns.length<=n:=by
  unfold OpenLaw.pre at hc;let h4:(WTm.not<|.lt (.lit<|.int (n:Int)) (.len<|.arg 0)).holds [] {args:=[.list<|ns.map .int]}=N:=by
   let h4:=(holds_andW hc).1;rw[hn]at h4;show h4
  let h5:=condW_of h4<|w_not (w_lt w_lit<|w_len_list (w_arg R));rw[y00]at h5;apply y3h λq=>?_;let q':(n:Int)<((ns.length:Nat):Int):=by omega
  first
   |(rw[Xg q']at h5;show Xa h5<|by decide)
   |(simp at h5;omega)
 cases hwl with
 |cons w1 w2 =>
  cases w2;cases w1 with
  |list ho hall=>show(_,_,ns,R,R,ho,zg0 ns _ hall,hlen)
theorem zq7(l:OpenLaw)(args:List WData):l.row.toRowW.claim.post args (.bool N) args=N :=
 postW_of (r:=l.row.toRowW) (X:=(N==N))
  (show WShape.has [] (.bool N) .bool=N by first|rfl|decide|simp[WShape.has,WShape.arms,WShape.armsAll])
  (show(WTm.eq .res<|.lit (.bool N)).value [] {args:=args,res:=G<|.bool N,after:=args}=G (.bool<|N==N)from w_eq_bool (w_res R) w_lit) R
theorem attach_call{l:OpenLaw}{d:DefRec}
  (Q:l.most=G n) (L:d.params.defaults=[])
  (call:∀(w:World) (s₀ s₁:ii) (mg mb:Y1) (A:Ad) (o:Obj) (H cd doc:Va) (a:Ad) (vs:List Va) (ns:List Int),
   Ground q c [] i w s₀ mg mb s₁.heap->YP w s₁.heap->
   s₁.heap.get? A=G o->o.data=.func (docDef d.name d.params d.body d.scope H cd doc)->s₁.heap.CodeRec cd d.name->mg d.name=G (.ref A)->
   s₁.heap.get? a=G {cls:=.type "list",data:=.seq vs.toArray}->jx vs ns->ns.length<=n->s₁.gens=#[]->
   iZ (model l.prog w) jJ (.call (.ref A) ([.ref a],[])) (λr s'=>r=.ok (.ret<|.bool N)/\OldK s₁.heap s'.heap/\s'.os=s₁.os/\jo s'.gens) s₁) :
  WalkO q c i YP l.row.toRowW d [] (λf vs=>PySem.call f vs):=by
 intro w s₀ s₁ mg mb Gq Y A o H cd doc dV kV T hd O u E hg args s j e v x g I;obtain rfl:dV=.none:=Dflts.none u L;obtain rfl:kV=.none:=Dflts.noKw u;let(a,vs,ns,rfl,rfl,y,p,M):=zqv Q e g;apply enter_call<|iM (call w s₀ s₁ mg mb A o H cd doc a vs ns Gq Y T (fd_plain hd) O E y p M hg) λr s' D=>?_;let(rfl,J,U,C):=D;show(.inl (.bool N,.bool N,[],R,λ_=>rfl,.bool N,zq7 l _,λ_=>(List.Pairwise.nil,λ_ hm=>(nomatch hm))),J,U,C)
end Att
namespace L2
theorem zjw:∀{vs:List Va} {ns:List Int},jx vs ns->Vals 035 vs
 |_,_,.nil=>.nil
 |_,_,.cons n t h=>.cons (t,R)<|zjw h
noncomputable abbrev KOf{K:Frag}{h:Heap}(_:K.In h):Frag:=K
noncomputable def inClass(s:Stmt)(j:Nat):Stmt:=match s with
 |.ClassDef _ _ _ body _ _ _ _ _ _ _=>body.getD j<|.Pass (0,0,0,0)
 |_=>.Pass (0,0,0,0)
noncomputable def defArgs(s:Stmt):iN:=match s with
 |.FunctionDef _ a _ _ _ _ _ _ _ _=>a
 |_=>{posonlyargs:=[],args:=[],vararg:=B,kwonlyargs:=[],kw_defaults:=[],kwarg:=B,defaults:=[]}
noncomputable def defBody(s:Stmt):List Stmt:=match s with
 |.FunctionDef _ _ b _ _ _ _ _ _ _=>b
 |_=>[]
noncomputable def defScope(s:Stmt):Scope:=match s with
 |.FunctionDef _ _ _ _ _ _ a _ _ _=>a
 |_=>{kind:=.function,names:=[],isGenerator:=Fa,isCoroutine:=Fa}
abbrev CX0:CXT:=λ_ _ _ _ _ _=>False
abbrev E0:XK:=λ_ _ _=>False
theorem pass0:Passes CX0 X E0:=λ_ _ _ _ _ _ _ h=>h.elim
structure Fun(K:Frag)(x qual:Str)(st:Stmt)(f:Ad)(fd:i8):Prop where
 ex:∃(oc:Va) (od:Option Ad) (kV doc pm:Va) (an:Option Ad) (cdv ct:Va) (osl:Y8),
  fd=PySem.W.fnOf x qual (defArgs st) 043 96 .none kV doc pm an cdv ct/\K.lookup f=G (oc,od,.func fd,osl)/\PySem.W.codeIn K cdv qual=N
 kp:PySem.W.keepIn K 45=N
section
variable {P:ik}{w:World}{K:Frag}{mg:Y1}{base:Heap}
theorem Fun.ok{x qual:Str}{st:Stmt}{f:Ad}{fd:i8}{Nq ps:List Str}{k:Nat}{sp:Sp}(F:Fun K x qual st f fd)(S:FnScope Nq ps 96)(len:∀vs H Q E,sp vs H Q E->vs.length=ps.length)
  (a:∀(j:Va) (A:iq) (outer:List Env) (s:ii) (H:Hp) (vs:List V) (Q:VK) (E:XK),Room k (A.deeper<|jg qual 96 s.heap.objs.size f j)->sp vs H Q E->
   ∃t,PSs (cxOf CX0 P w K mg base Nq qual 96 f j A outer s H E).nox 043 t/\t {nx:=λ_ H'=>Q .non H',rt:=Q} (start Nq vs) H):FnOk P w K mg base CX0 (k+1) f fd ps sp:=by
 let(oc,M,kV,doc,J,L,j,ct,p,rfl,lk,O):=F.ex;apply fn_of lk O S len λA outer s H vs Q E g i=>?_;let(t,h,q):=a j A outer s H vs Q E g i;show(t,h.nox,q)
theorem Fun.binds{x qual:Str}{st:Stmt}{f:Ad}{fd:i8}{ps:List Str}(F:Fun K x qual st f fd)
  (h:∀(kV doc pm:Va) (an:Option Ad) (cdv ct:Va) (us:List Va),us.length=ps.length->jl 118 044=pure (ps.zip us)):Binds K fd ps []:=by
 let(oc,M,kV,doc,pm,an,cdv,ct,p,rfl,lk,O):=F.ex;show .all<|h kV doc pm an cdv ct
theorem zfr{x qual:Str}{st:Stmt}{f:Ad}{oc:Va}{M an:Option Ad}{p:Y8}{kV doc pm cdv ct:Va}(l:K.lookup f=G (oc,M,.func 118,p))
  (c:PySem.W.codeIn K cdv qual=N) (k:PySem.W.keepIn K 45=N):Fun K x qual st f 118:=((oc,M,kV,doc,pm,an,cdv,ct,p,R,l,c),k)
end
theorem small1000(h:n<=1000):n<ij:=y38 h 02
section
variable {X:Cx}
theorem pv(i:Nat){x:Str}{pos:Pos}(T:X.Nq[i]?=G x:=by rfl)(D:Vis X.env.scope x:=by first|show Or.inl rfl|show Or.inr (Or.inl R)|show Or.inr (Or.inr R))(hd:(x==("__debug__":Str))=Fa:=by decide)
  (O:(x==("__classdict__":Str))=Fa:=by decide):PE X (.Name x pos) (tVar i):=zwy T D hd O
end
theorem iteF{A Bq:Prop}(h:Bq):if Fa=N then A else Bq:=by
 rw[Xp y0f];show h
theorem iteT{A Bq:Prop}(h:A):if N=N then A else Bq:=by
 rw[Xq rfl];show h
theorem itT{c A Bq:Prop}[Decidable c](e:c)(h:A):if decide c=N then A else Bq:=by
 rw[Xg e];show iteT h
theorem itF{c A Bq:Prop}[Decidable c](e:¬c)(h:Bq):if decide c=N then A else Bq:=by
 rw[Xf e];show iteF h
theorem ite2{c A Bq:Prop}[Decidable c](M:c->A)(J:¬c->Bq):if c then A else Bq:=by
 by_cases h:c
 .rw[Xq h];show M h
 .rw[Xp h];show J h
def Same(H H':Hp):Prop:=∀b o,H b=G o->H' b=G o
theorem Same.refl(H:Hp):Same H H:=λ_ _ h=>h
theorem Same.trans(a:Same H H1)(b:Same H1 H2):Same H H2:=λc o h=>b c o<|a c o h
theorem Same.free(e:Same H H')(h:H' l=Option.none):H l=Option.none:=by
 cases q:H l with
 |none=>rfl
 |some o =>
  rw[e l o q]at h;cases h
theorem Same.seq{K:Frag}{H H':Hp}{a:Ad}{xs:List V}(e:Same H H')(h:SqL K H a xs):SqL K H' a xs:=by
 rcases h with(h|⟨o,h⟩)|h
 .exact .inl<|.inl (e _ _ h)
 .exact .inl<|.inr (o,e _ _ h)
 .exact .inr h
theorem ixm{a:Ad}{S:Ad->List V->Prop}{xs:List V}{i:Int}{v:V}{Rq:V->Prop}(e:S a xs)(h:atI xs i=G v)(r:Rq v):asR 09 λp=>∃xs,S p xs/\∃v,atI xs i=G v/\Rq v:=(xs,e,v,h,r)
theorem fdm{H:Hp}{a C dx:Ad}{fs:List (Str×V)}{K:Frag}{f:Str}{v:V}{Rq:V->Prop}(e:H a=G 057)(c:Cls K C)(n:NoAttr K C f)(l:fs.lookup f=G v)(r:Rq v):∃C dx fs,H a=G 057/\Cls K C/\NoAttr K C f/\∃v,fs.lookup f=G v/\Rq v:=(C,dx,fs,e,c,n,v,l,r)
theorem mtm{H:Hp}{a C dx:Ad}{fs:List (Str×V)}{m:Str}{Rq:Prop}(e:H a=G 057)(l:fs.lookup m=B)(r:Rq):∃dx fs,H a=G 057/\fs.lookup m=B/\Rq:=(dx,fs,e,l,r)
theorem mkT{n:Nat}{Rq:Prop}(k:Rq)(h:Nat.ble n ij=N:=by rfl):n<=ij/\Rq:=(Nat.le_of_ble_eq_true h,k)
theorem atom{A:Prop}(h:∀Gq:Prop,(A->Gq)->Gq):A:=h A id
theorem zff(env:Env):∀(names:List<|Str×iW) (cs:Y4),
  (∀p∈names,p.2=.free->∃c,env.cells.lookup p.1=G c)->(∀x c,cs.lookup x=G c->env.cells.lookup x=G c)->
  ∃cl:List<|Str×Ad,(forIn names cs λ(p:Str×iW) (r:Y4)=>(if(p.2==NameKind.free)=N then(do let c ←cellOf env p.1;pure (ForInStep.yield ((p.1,c)::r)))else pure (ForInStep.yield r):Sem<|ForInStep (List<|Str×Ad)))=(pure cl:Sem<|List (Str×Ad))/\
   (∀x c,cl.lookup x=G c->env.cells.lookup x=G c)/\(∀x,(cs.lookup x).isSome=N->(cl.lookup x).isSome=N)/\(∀p∈names,p.2=.free->(cl.lookup p.1).isSome=N)
 |[],cs,_,J=>(cs,R,J,λ_ h=>h,λ_ h=>nomatch h)
 |(n,k)::r,cs,M,J=>by
  let a:∀p∈r,p.2=.free->∃c,env.cells.lookup p.1=G c:=λp l=>M p<|y08 _ l;by_cases C:(k==NameKind.free)=N
  .let i:k=.free:=by simpa using C
   let(c,g):=M (n,k) y04 i;let H:∀x c',((n,c)::cs).lookup x=G c'->env.cells.lookup x=G c':=λx c' e=>by
    rw[y13]at e;cases O:x==n with
    |true =>
     rw[O]at e;let e1:x=n:=by simpa using O
     rw[e1,g];show e
    |false=>rw[O]at e;show J x c' e
   let(cl,e1,L,f,j):=zff env r ((n,c)::cs) a H;let o:(((n,c)::cs).lookup n).isSome=N:=by rw[y13,beq_self_eq_true];rfl
   apply(cl,?_,L,λx O=>f x ?_,λp l U=>?_)
   .rw[y2e];let q:cellOf env n=pure c:=by unfold cellOf;rw[g]
    simp only[C,if_true,q];show e1
   .rw[y13];cases x==n with
    |true=>rfl
    |false=>show O
   .rcases y06.mp l with e|l
    .rw[e];show f n o
    .exact j p l U
  .let(cl,e1,L,f,j):=zff env r cs a J;apply(cl,?_,L,f,λp l U=>?_)
   .rw[y2e];let d:(k==NameKind.free)=Fa:=by simpa using C
    simp only[d,y1b,if_false];show e1
   .rcases y06.mp l with e|l
    .rw[e]at U;show Xa (by simpa using U) C
    .exact j p l U
theorem zib(h:∀p∈scope.names,p.2=.free->∃c,env.cells.lookup p.1=G c):
  ∃cl,closureFor scope env=pure cl/\(∀x c,cl.lookup x=G c->env.cells.lookup x=G c)/\(∀p∈scope.names,p.2=.free->∃c,cl.lookup p.1=G c):=by
 let(cl,e1,L,_,j):=zff env scope.names [] h (λx c e=>by simp at e);apply(cl,?_,L,λp l U=>y3d.mp<|j p l U);let q:closureFor scope env=(forIn scope.names [] λ(p:Str×iW) (r:Y4)=>(if(p.2==NameKind.free)=N then(do let c ←cellOf env p.1;pure (ForInStep.yield ((p.1,c)::r)))else pure (ForInStep.yield r):Sem<|ForInStep (List<|Str×Ad)))>>=pure:=by
  unfold closureFor;rfl
 rw[q,e1];rfl
theorem zfn{env:Env}:∀{names:List (Str×iW)} {x:Str},(∀y∈names,y.2 ≠ .cell)->
  ((names.map λ(n,k)=>if(082)then(n,NameKind.cell)else(n,k)).lookup x=G .cell\/
   (names.map λ(n,k)=>if(082)then(n,NameKind.cell)else(n,k)).lookup x=G .free)->(x,NameKind.free)∈names
 |[],_,_,h=>by simp at h
 |(n,k)::r,x,g,h=>by
  let E:=@zfn env r x λy I=>g y<|y08 _ I;simp only[y0p]at h;cases O:x==n with
  |true =>
   let e:x=n:=by simpa using O
   subst e;by_cases hh:(k==NameKind.free&&env.scope.kind ==.function&&env.kindOf x==G .cell)=N
   .let:k=.free:=by
     simp only[y07]at hh;simpa using hh.1.1
    subst this;show y04
   .rw[Xp hh]at h;simp only[y13,O]at h;rcases h with h|h
    .let:k=.cell:=Option.some.inj h;show Xa this<|g (x,k) y04
    .let:k=.free:=Option.some.inj h;subst this;show y04
  |false =>
   apply y08 _<|E ?_;by_cases hh:082=N
   .rw[Xq hh]at h;simpa only[y13,O]using h
   .rw[Xp hh]at h;simpa only[y13,O]using h
theorem zfm{env:Env}:∀{names:List (Str×iW)} {x:Str},names.lookup x=G .free->
  ((names.map λ(n,k)=>if(082)then(n,NameKind.cell)else(n,k)).lookup x=G .cell\/
   (names.map λ(n,k)=>if(082)then(n,NameKind.cell)else(n,k)).lookup x=G .free)
 |[],_,h=>by simp at h
 |(n,k)::r,x,h=>by
  let E:=@zfm env r x;simp only[y0p];cases O:x==n with
  |true =>
   simp only[y13,O]at h;let e:k=.free:=Option.some.inj h;subst e;by_cases hh:(NameKind.free==NameKind.free&&env.scope.kind ==.function&&env.kindOf n==G .cell)=N
   .rw[Xq hh];left;simp only[y13,O]
   .rw[Xp hh];right;simp only[y13,O]
  |false =>
   simp only[y13,O]at h;by_cases hh:082=N
   .rw[Xq hh];simpa only[y13,O]using E h
   .rw[Xp hh];simpa only[y13,O]using E h
def cxB(X:Cx)(scope:Scope)(tn:List Str)(cp:Y6)(cl:Y4)(C:Ad)(s:ii)(H:Hp)(fp:List Ad):Cx :=
 {X with Nq:=tn++cp.map (·.2),s₀:=s,H₀:=H,env:=compEnvC scope cl C X.env,outer:=X.stack,ex:=fp,fn:=λ_=>Fa,pn:=[],xe:=λ_ _=>False}
noncomputable def stB(tn:List Str)(cp:Y6)(U:St):St:=List.replicate tn.length B++cp.map λp=>(U[p.1]?).getD B
structure CompOk(X:Cx)(scope:Scope)(cp:Y6):Prop where
 kind:scope.kind=.function
 nocell:∀y∈scope.names,y.2 ≠ .cell
 names:∀y∈scope.names,y.2=.local->scope.names.lookup y.1=G .local
 free:∀y∈scope.names,y.2=.free->X.env.kindOf y.1=G .cell\/X.env.kindOf y.1=G .free
 cap:∀p∈cp,X.Nq[p.1]?=G p.2/\scope.names.lookup p.2=G .free
section
variable {X:Cx}{pins:Y2}{σ:St}{H:Hp}{s:ii}{scope:Scope}{tn:List Str}{cp:Y6}{cl:Y4}{fp:List Ad}
theorem mem_of_lookup'{d:Type}:∀{l:List (Str×d)} {x:Str} {v:d},l.lookup x=G v->(x,v)∈l
 |[],_,_,h=>by simp at h
 |(n,k)::r,x,v,h=>by
  rw[y13]at h;cases O:x==n with
  |true =>
   rw[O]at h;let e:x=n:=by simpa using O
   let L:k=v:=Option.some.inj h;subst e L;show y04
  |false=>rw[O]at h;show y08 _<|mem_of_lookup' h
theorem zm9(I:03 H s)(O:CompOk X scope cp)(A:∀x c,cl.lookup x=G c->X.env.cells.lookup x=G c)(M:∀p∈scope.names,p.2=.free->∃c,cl.lookup p.1=G c)
  (U:∀b∈fp,FpOk X pins H b/\b<s.heap.objs.size) (dw:h₁.Ns s.heap.objs.size E) (C:∀b o,s.heap.get? b=G o->h₁.get? b=G o) :
  Inv (cxB X scope tn cp cl s.heap.objs.size s H fp) [] (stB tn cp σ) H {s with heap:=h₁,toks:=t'}:=by
 let ok:(cxB X scope tn cp cl s.heap.objs.size s H fp).Ok:=by
  apply⟨I.ok.mod,O.kind,I.ok.glob,I.ok.blt,y05 _,λx y c e1 L=>I.ok.inj x y c (A x c e1)<|A y c L,λx hx=>?_,λx c hx=>(by cases hx),I.ok.hd,I.ok.frames,.inl R,λb Y=>(y0m (U b Y).2,λx c e=>?_),
   λb o e=>I.bs b o e,y0z I.ok.bsz I.sz,λb o e Y=>?_,λb Y D=>?_,I.stack,I.stkFree⟩
  .exact M (x,.free) (zfn O.nocell hx) R
  .exact(U b Y).1.2.2.2.2.1 x c<|A x c e
  .rcases(U b Y).1.2.2.2.1 with z|z
   .exact I.ok.noex b o e z
   .exact Xa (y0k (y0h e)<|y0z I.ok.bsz z)<|y1n _
  .rcases y06.mp (I.stkSub b D)with z|z
   .exact(U b Y).1.2.1 z
   .exact(U b Y).1.2.2.1 z
 apply(ok,R,I.bare,Un.kept C,(E,dw,λi x v e1 L e3=>?_),λx c e=>?_,I.hok.fresh 37,λx c e=>I.freeC x c<|A x c e,λp hp=>by simp[cxB]at hp,I.hok.kept C,?_)
 ·-- a qa name
  let J:(tn++cp.map (·.2))[i]?=G x:=e1;let d:(List.replicate tn.length B++cp.map λp=>(σ[p.1]?).getD B)[i]?=G (G v):=L;by_cases hi:i<tn.length
  .rw[y0q<|by simpa using hi]at d;rw[y3f,Xq hi]at d;cases d
  .rw[y0n (by simpa using y3h hi),y30,y0r]at d;rw[y0n<|y3h hi,y0r]at J;cases hp:cp[i-tn.length]? with
   |none=>rw[hp]at J;cases J
   |some p =>
    rw[hp]at J d;let e1'':p.2=x:=Option.some.inj J;let kf:(σ[p.1]?).getD B=G v:=Option.some.inj d;let(f,Q):=O.cap p<|y0d hp;rw[e1'']at f Q;let hs:σ[p.1]?=G (G v):=by
     cases q:σ[p.1]? with
     |none=>rw[q]at kf;cases kf
     |some z=>rw[q]at kf;show congrArg G kf
    let hk':=O.free (x,.free) (mem_of_lookup' Q) rfl;let hvis:Vis X.env.scope x:=by
     rcases hk' with z|z
     .exact .inr<|.inl z
     .exact .inr<|.inr z
    let(m,hn,j):=I.loc;let(u,r,l):=j p.1 x v f hs hvis;apply(u,r,.inr ?_);rcases l with⟨z,_⟩|⟨_,c,g,o,T,hd⟩
    .rcases hk' with y|y<;>(rw[z]at y;cases y)
    .let(c',br):=M (x,.free) (mem_of_lookup' Q) rfl;let:c'=c:=Option.some.inj<|(A x c' br).symm.trans g;subst this;show(zfm Q,c',br,o,C c' o T,hd)
 .let(v,o,T,hd):=I.cell x c<|A x c e;show(v,o,C c o T,hd)
 .change(stB tn cp σ).length=(tn++cp.map (·.2)).length;unfold stB;simp
theorem zto{O:St}{H':Hp}{s':ii}{h':Heap}{d:Y2}(I:03 H s)(C:∀b∈fp,FpOk X pins H b)
  (J:Inv (cxB X scope tn cp cl s.heap.objs.size s H fp) d O H' s') (hs:Heap.SameBut s.heap.objs.size s'.heap h'):03 H' {s' with heap:=h'}:=by
 let ne:∀b o,s.heap.get? b=G o->b≠s.heap.objs.size:=λb o e=>y0m<|y0h e;let U:Un (frs X.stack) fp H H' s.heap h':=by
  let u:Un (frs X.stack) fp H H' s.heap s'.heap:=J.base;apply(λb o e n M j=>(hs.2 b<|ne b o e).trans<|u.keep b o e n M j,λb o e n M j=>?_,u.free,λb o e j=>?_,u.tups,u.frzs,u.tbls)
  .let(f,q):=u.slot b o e n M j;show(f,(hs.2 b<|ne b o e).trans q)
  .let(y,q):=u.there b o e j;show(y,(hs.2 b<|ne b o e).trans q)
 let fr:H' s.heap.objs.size=B:=J.free;let hok:HOk X.prog X.w H' h':=λb ob e=>by
  apply(J.hok b ob e).stay (λc v g q=>(hs.2 c ?_).trans q) (λ_ q=>q) (λ_ _ _ _ _ q=>q) λ_ _ q=>q;rintro rfl;rcases g with z|z
  .rw[←z,fr]at e;cases e
  .rw[fr]at z;cases z
 apply I.call' (s':={s' with heap:=h'}) (ch:=fp) J.os U hok J.bare λb Y=>?_;let(_,f1,_,a,Q,l):=C b Y;show(a,f1,Q,l)
end
def PIfs(X:Cx)(i:List Expr)(t:TT):Prop :=
 ∀(pins:Y2) (s:ii) (σ:St) (H:Hp) (Q:Bool->Hp->Prop),03 H s->t σ H Q->
  wpAny 41 X.A (forIn i N λc r=>if r=N then do let ok ←isTrue c X.env (eval c X.env);pure (ForInStep.yield ok)else pure (ForInStep.yield r)) (TP X pins σ Q) X.xe s
def tYes:TT:=λ_ H Q=>Q N H
theorem zbs:PIfs X [] tYes:=λ_ _ _ H _ I h=>wpAny_tests_nil (H,I,h)
theorem zgs(h:PT X c t):PIfs X [c] t:=λY s U H Q I C=>wpAny_tests_one<|h Y s U H Q I C
theorem zkz(I:Nat->ii->Prop)
  (Q:∀n s,I n s->wpAny 87 A (jz it) (λr s₁=>match r with
   |none=>Rq (.ok .next) s₁
   |some v=>wpAny 87 A (iL d it v) (λ_ s₂=>wpAny 87 A (assign d env v) (λ_ s₃ =>
     wpAny 87 A (forIn i N λc r=>if r=N then do let ok ←isTrue c env (eval c env);pure (ForInStep.yield ok)else pure (ForInStep.yield r)) (λok e =>
      if ok=N then wpAny 87 A (eval y env) (λx l =>
       wpAny 87 A (call (.builtin "list.append") [a,x]) (λ_ j=>∃m,m<n/\I m j) (λ_ _=>False) l) (λ_ _=>False) e
      else∃m,m<n/\I m e) (λ_ _=>False) s₃) (λ_ _=>False) s₂) (λ_ _=>False) s₁) (λ_ _=>False) s)
  (n:Nat) (h:I n s) :
  iZ 87 A (.compLoop (.ListComp y [(d,iter,i,0)] scope pos) 0 it a env) Rq s:=by
 apply codeAny_loop R I (λn s C=>?_) n h;change wpAny _ A ((compTurn (.ListComp y [(d,iter,i,0)] scope pos) 0 it a env).onRaise λx=>do noteFrame x env;theTreesLotGoes x) _ _ s;apply wpAny_noted ?_;rw[compTurn_list];apply ie<|j4 (ie<|i5 (Q n s C) (λr s₁ h₁=>?_) λ_ _ f=>f.elim);cases r with
 |none=>show ig h₁
 |some v =>
  apply ie<|i5 h₁ (λ_ s₂ p=>?_) λ_ _ f=>f.elim;apply ie<|i5 p (λ_ s₃ g=>ie<|i5 g (λok e o=>?_) λ_ _ f=>f.elim) λ_ _ f=>f.elim;cases ok with
  |false=>show ig (R,o)
  |true =>
   show ie<|ie (i5 o (λx l q=>ie<|i5 q (λ_ j u=>ig<|ig (R,u)) λ_ _ f=>f.elim) λ_ _ f=>f.elim)
def tComp(tn:List Str)(cp:Y6)(p:TI)(g:TG)(tif:TT)(te:TE):TE:=λU H Q=>p U H λJ H1=>∀D,H1 D=B->∃W:Nat->Nat->St->Hp->Prop,
 (∃m,W 0 m (stB tn cp U) 055)/\∀i m f Hb,W i m f Hb->
  (J.stop i Hb/\Q 95 Hb)\/(J.go i Hb/\∀x H',J.yld i Hb x H'->g x f H' λd H2=>tif d H2 λc H3 =>
   if c=N then te d H3 λy H4=>∃ys,H4 D=G 82/\ys.length<ij/\∃m',m'<m/\W (i+1) m' d 073
   else∃m',m'<m/\W (i+1) m' d H3)
theorem zh9{X:Cx}{elt tg iter:Expr}{ifs:List Expr}{scope:Scope}{pos cpos:Pos}{wi:TI}{g:TG}{tif:TT}{te:TE}(tn:List Str)(cp:Y6)(O:CompOk X scope cp)(hc:X.calm=N)(hi:PI X tg iter wi)
  (hg:∀cl C s H fp,PG 064 tg g) (hif:∀cl C s H fp,PIfs 064 ifs tif) (he:∀cl C s H fp,PE 064 elt te)
  (hs:∀x,jf iter X.env x=pure x) {pins:Y2} {s:ii} {σ:St} {H:Hp} {Q:VK} {Rq:Y0} {use:Option (Va->Sem Unit)} (I:03 H s) (h:tComp tn cp wi g tif te σ H Q)
  (fin:∀(D C:Ad) (H5:Hp) (s5:ii) (m:Y1),03 H5 s5->FpOk X pins H5 C->s5.heap.Ns C m->Q 95 H5->compPost 41 X.A X.xe use Rq 95 C (.ok .next) s5) :
  wpAny 41 X.A (comprehension 087 scope X.env cpos (newList []) Fa (eval iter X.env) use) Rq X.xe s:=by
 let(cl,ag,A,hcl2):=zib (scope:=scope) (env:=X.env) λp l U=>I.ok.has p.1<|O.free p l U;apply wpAny_comprehension_free (use:=use) R hs ag O.kind O.names<|thn (hi pins s σ H _ I h) λv s1 M=>thn M λitv s2 h2=>?_;let(it,fp,tn',J,H2,rfl,j,T,st2,f2,rest):=h2;apply iz ?_;let L:03 (upd H2 s2.heap.objs.size<|.lst []) {s2 with heap:=s2.heap.push {cls:=.type "list",data:=.seq ([]:List Va).toArray} }:=j.lnew (its:=[]) (t':=s2.toks) .nil<|y1g _;let(W,(m0,w0),turn):=rest s2.heap.objs.size j.fresh;let fpl:∀b∈fp,b<s2.heap.objs.size:=λb Y=>by
  let(o,e,_):=T.obj _ _ st2 b Y;show y0h e
 let a:∀b∈fp,FpOk X pins (upd H2 s2.heap.objs.size<|.lst []) b:=λb Y=>(by rw[zan<|y0m (fpl b Y)];show(f2 b Y).1,(f2 b Y).2);let sz3:(066).objs.size=s2.heap.objs.size+1:=y12 ..;apply wpAny_newFunctionEnv O.nocell (by intro y hy;simp at hy) (λh₁ dw hsb=>?_) O.kind;let hk1:∀b o,(066).get? b=G o->h₁.get? b=G o:=λb o e =>
  hsb.extBut b o (y0m<|y0h e) (y01 _ e)
 let J3:=zm9 (tn:=tn) (cp:=cp) (t':=s2.toks+([]:List<|Str×Va).length) L O A hcl2 (λb Y=>(a b Y,by rw[sz3];show y2x<|fpl b Y)) dw hk1;let l0:tn' 0 h₁:=T.keep _ _ _ st2 λb Y o e=>hk1 b o<|y01 _ e;change iZ _ _ (.compStart _ 0 025 (.ref s2.heap.objs.size)<|compEnvC scope cl (066).objs.size X.env) _ _;generalize bj:cxB X scope tn cp cl (066).objs.size {s2 with heap:=s2.heap.push {cls:=.type "list",data:=.seq ([]:List Va).toArray} } (upd H2 s2.heap.objs.size<|.lst []) fp=XB at J3;let bu:XB.prog=X.prog:=by rw[←bj];rfl
 let hw:XB.w=X.w:=by rw[←bj];rfl
 let hK:XB.K=X.K:=by rw[←bj];rfl
 let hA:XB.A=X.A:=by rw[←bj];rfl
 let eg:XB.env=compEnvC scope cl (066).objs.size X.env:=by rw[←bj];rfl
 let lg:XB.calm=N:=by rw[←bj];show hc
 let hxe:XB.xe=λ_ _=>False:=by rw[←bj];rfl
 let hgB:PG XB tg g:=by rw[←bj];show hg _ _ _ _ _
 let hifB:PIfs XB ifs tif:=by rw[←bj];show hif _ _ _ _ _
 let heB:PE XB elt te:=by rw[←bj];show he _ _ _ _ _
 let fB:∀(pb:Y2) (Hb:Hp),(∀b∈fp,Hb b=B)->(∀b∈fp,∀p∈XB.pn++pb,p.1≠b)->∀b∈fp,FpOk XB pb Hb b:=λpb Hb hn l b Y=>by
  apply(hn b Y,?_,?_,.inl (by rw[←bj];show Y),λx c e=>?_,l b Y)
  .rw[eg];change b≠(066).objs.size;rw[sz3];show y0m<|y2x (fpl b Y)
  .rw[←bj];change b∉frs X.stack;intro z;rcases y06.mp (j.stkSub b z)with y|y
   .exact(f2 b Y).2.1 y
   .exact(f2 b Y).2.2.1 y
  .rw[eg]at e;show(f2 b Y).2.2.2.2.1 x c<|A x c e
 let pn0:XB.pn=[]:=by rw[←bj];rfl
 let l9:∀s₃:ii,s₃={s2 with heap:=h₁,toks:=s2.toks+([]:List<|Str×Va).length}->
   iZ 41 X.A (.compLoop 087 0 025 (.ref s2.heap.objs.size) XB.env)
    (compPost 41 X.A X.xe use Rq (.ref s2.heap.objs.size) (066).objs.size) s₃:=by
  rintro s₃ rfl;apply zkz (λn s'=>∃i f Hb,Inv XB [] f Hb s'/\tn' i s'.heap/\(∀b∈fp,Hb b=B)/\W i n f Hb) ?_ m0 (0,stB tn cp σ,_,J3,l0,λb Y=>(a b Y).1,w0);rintro n s4 ⟨i,σ4,H4,I4,st4,fr4,w4⟩;rcases turn i n σ4 H4 w4 with⟨stop,qn⟩|⟨go,step⟩
  .let d:=T.done XB bu hw hK lg i [] s4 σ4 H4 (λ_ _=>False) I4 (fB [] H4 fr4 λb Y p l=>by rw[pn0]at l;simp at l) st4 stop;rw[hA]at d;apply thn d λr s5 (hr,I5)=>?_;subst hr;let(mm,hn5,_):=id I5.loc;let fr5:H4 (066).objs.size=B:=by
    let z:=I5.free;rw[eg]at z;show z
   let J5:03 H4 s5:=by
    rw[←bj]at I5;show zto (h':=s5.heap) L a I5 (R,λ_ _=>rfl)
   show fin _ _ H4 s5 mm J5 (L.fpOk 37 fr5) (by rw[eg]at hn5;show hn5) qn
  .let d:=T.item XB bu hw hK lg i [] s4 σ4 H4 (λ_ _=>False) I4 (fB [] H4 fr4 λb Y p l=>by rw[pn0]at l;simp at l) st4 go;rw[hA]at d;apply thn d λr s5 (u,hr,h5)=>?_;subst hr;apply thn h5 λ_ s6 E=>ex5 E λx H6 I6 r6 zq=>?_;let(y6,st6,fr6):=zq;let I6':=I6.pinned (fB [] H6 fr6 λb Y p l=>by rw[pn0]at l;simp at l)<|T.obj _ _ st6;let q6:=step x H6 y6;let a1:=hgB _ s6 σ4 H6 x u _ I6' r6 q6;rw[hxe,bu,hw,hA]at a1;apply thn a1 λ_ s7 (q,H7,I7,q7)=>?_;let a2:=hifB _ s7 q H7 _ I7 q7;rw[hxe,bu,hw,hA]at a2;apply thn a2 λok s8 (H8,I8,q8)=>?_;let again:∀{lh:St} {H9:Hp} {s9:ii},Inv XB ([]++pinsAt fp s6.heap) lh H9 s9->(∃m',m'<n/\W (i+1) m' lh H9)->∃m,m<n/\∃i f Hb,Inv XB [] f Hb s9/\tn' i s9.heap/\(∀b∈fp,Hb b=B)/\W i m f Hb:=λ{lh H9 s9} I9 n9=>by
    let(m',hm,w9):=n9;apply(m',hm,i+1,lh,H9,I9.unpinned,T.keep _ _ _ st6 λb Y o e=>(I9.pin (b,o)<|y0s _ (y0s _<|zdw Y e)).1,λb Y=>?_,w9);let(o,e,d):=T.obj _ _ st6 b Y;show(I9.pin (b,o)<|y0s _ (y0s _<|zdw Y e)).2.1
   cases ok with
   |false=>show again I8 q8
   |true =>
    change wpAny _ _ _ _ _ _;let a3:=heB _ s8 q H8 _ I8 q8;rw[hxe,bu,hw,hA]at a3;apply thn a3 λyv s9 E=>ex5 E λy H9 I9 r9 zq=>?_;let(ys,hD,a6,n9):=zq;let a4:=zkq (X:=XB) _ s9 q H9 (.ref s2.heap.objs.size) [y] (.ref s2.heap.objs.size) [yv] (λ_ H'=>∃m',m'<n/\W (i+1) m' q H') I9 R (.cons r9 .nil) (_,ys,y,R,R,hD,a6,n9);rw[hxe,bu,hw,hA]at a4;show thn a4 λ_ dy E=>ex5 E λ_ H10 I10 _ q10=>again I10 q10
 rw[eg]at l9;apply codeAny_compStart_list (l9 _ R)<|T.self _ 0 _ _ _ l0 (l9 _ R)
theorem za9(tn:List Str)(cp:Y6)(O:CompOk X scope cp)(A:X.calm=N)(hi:PI X tg iter p)
  (hg:∀cl C s H fp,PG 064 tg g) (M:∀cl C s H fp,PIfs 064 ifs tif) (d:∀cl C s H fp,PE 064 elt te)
  (hs:∀x,jf iter X.env x=pure x:=by intro _;rfl) :
  PE X 087 (tComp tn cp p g tif te):=by
 intro Y s U H Q I h;rw[eval_ListComp];apply zh9 tn cp O A hi hg M d hs I h λD C H5 s5 m r l u c=>(m,u,λh' f=>(.ref D,H5,?_,R,c));let(J,f1,y,a,i,l):=l;show r.turned (t':=s5.toks) (λb o E e=>(f.2 b E).trans e) J f1 a i l
theorem ze7{X:Cx}{i:Nat}{x:Str}{elt tg iter:Expr}{ifs:List Expr}{scope:Scope}{pos c o8:Pos}{p:TI}{g:TG}{tif:TT}{te:TE}(T:X.Nq.Nodup)(hx:X.Nq[i]?=G x)(j:Loc X.env.scope x)(tn:List Str)(cp:Y6)(O:CompOk X scope cp)(hc:X.calm=N)(hi:PI X tg iter p)
  (hg:∀cl C s H fp,PG 064 tg g) (M:∀cl C s H fp,PIfs 064 ifs tif) (d:∀cl C s H fp,PE 064 elt te)
  (hsw:jd 087 (G<|.Name x c) o8.line X.env=pure N:=by rfl) (hs:∀x,jf iter X.env x=pure x:=by intro _;rfl)
  (hf:X.fn x=N\/X.env.scope.names.lookup x=G .local:=by first|show .inl rfl|show .inr rfl|assumption) :
  PS X (.Assign [.Name x c] 087 o8) (tAsg (tComp tn cp p g tif te)<|gName i):=by
 intro Y s U H D I h;rw[exec_Assign_Name_used _ _ _ _ hsw];apply ie<|j4 (ie ?_);change wpAny _ X.A (do let _ ←comprehension (.ListComp elt [(tg,iter,ifs,0)] scope pos) scope X.env _ (newList []) Fa (eval iter X.env) (G<|assign (.Name x c) X.env)) _ _ s;apply ie<|i5 (zh9 tn cp O hc hi hg M d hs (Rq:=λ_ s'=>SP X Y D .next s') I h λE C H5 s5 m r l u q5=>?_) (λ_ _ q=>ig<|ig q) λ_ _ e=>e;let(J,f1,y,f3,Q,l):=l;change wpAny _ X.A (assign (.Name x c) X.env<|.ref E) _ _ _;apply wpAny_assign_Name<|zj2 r T hx j (v:=.ref E) R (λA I6 (a,sb,L)=>?_) hf;let ne:C≠a:=by
  rcases L with e|e
  .rw[e];show f1
  .exactλz=>Q x a e z.symm
 apply(m,u.sameBut sb ne,λh' f=>(_,H5,I6.turned (t':=A.toks) (λb o hb e=>(f.2 b hb).trans e) J f1 f3 Q l,q5))
noncomputable def Its(z:Str):It:=(λi _=>i<z.cps.size,λi H x H'=>H'=H/\∃c,z.cps[i]?=G c/\x=.str ⟨#[c]⟩,λi _=>z.cps.size<=i)
theorem znh{P:ik}{w:World}{K:Frag}{T:Expr}(z:Str)(t:Tok)(it:Ad)(ty:String)(f:ty="str_ascii_iterator"\/ty="str_iterator"):
  Turn P w K T (Its z) [it] it (λi h=>h.IsStrIter it ty z t i) where
 mem:=by simp
 obj:=λi h st b Y=>by
  let e:b=it:=by simpa using Y
  subst e;let(o,e,c,d):=st;show(o,e,λv z=>by rw[d]at z;cases z)
 keep:=λi h h' st k=>by
  let(o,e,r):=st;show(o,k it 06 o e,r)
 item:=by
  intro X M C L hc i pins s σ H E I U st hg;subst M C L;let(J,f1,y,a,D,l):=U it 06;let hi:i<z.cps.size:=hg;let O:z.cps[i]?=G z.cps[i]:=by simp[hi]
  let p:(["enumerate","zip","dict_itemiterator","dict_reverseitemiterator","odict_iterator","itertools.zip_longest","itertools.pairwise"].contains ty)=Fa:=by
   rcases f with e|e<;>(rw[e];decide)
  let fin:∀h',h'.IsStrIter it ty z t (i+1)->Heap.SameBut it s.heap h'->∃u,G (Va.str ⟨#[z.cps[i]]⟩ s.toks)=G u/\
    wpAny 41 X.A (iL T 025 u) (λ_ s2=>∃x H',03 H' s2/\RelV x u/\(Its z).yld i H x H'/\s2.heap.IsStrIter it ty z t (i+1)/\∀b∈[it],H' b=B) E {s with heap:=h',toks:=s.toks+1}:=λh' q g=>by
   let j:03 H {s with heap:=h',toks:=s.toks+1}:=I.turned (t':=s.toks+1) (λb o Y e=>(g.2 b Y).trans e) J f1 a D l;let(o,e,c,d):=id q;show(_,R,zv6 (s:={s with heap:=h',toks:=s.toks+1}) e c d p (.str ⟨#[z.cps[i]]⟩,H,j,(_,R),(R,_,O,R),q,λb Y=>(U b Y).1))
  rcases f with e|e
  .subst e;show wpAny_pyNext_ascii_item st O fin
  .subst e;show wpAny_pyNext_wide_item st O fin
 done:=by
  intro X M C L hc i pins s σ H E I U st hg;subst M C L;let(J,f1,y,a,D,l):=U it 06;let hi:z.cps.size<=i:=hg;let O:z.cps[i]?=B:=by simp[hi]
  rcases f with e|e
  .subst e;show wpAny_pyNext_ascii_end 037 st O λh' eb=>(R,I.turned (t':=s.toks) (λb o Y e=>eb b o Y e) J f1 a D l)
  .subst e;show wpAny_pyNext_wide_end 037 st O λh' eb=>(R,I.turned (t':=s.toks) (λb o Y e=>eb b o Y e) J f1 a D l)
 self:=by
  intro A i s Q E st h;rcases f with e|e
  .subst e;show wpAny_pyIter_striter_ascii st h
  .subst e;show wpAny_pyIter_striter_wide st h
def iStr(tl:TE):TI:=λU H Rq=>tl U H λx H1=>∃z,x=.str z/\Rq (Its z) H1
theorem pi_str{X:Cx}{T l:Expr}{tl:TE}(j:PE X l tl):PI X T l (iStr tl):=by
 intro Y s U H Rq I h;apply thn (j Y s U H _ I h) λv s1 E=>ex5 E λx H1 A r1 J=>?_;let(z,e,q):=J;subst e;let(t,rfl):=r1;let fo:∀b∈[s1.heap.objs.size],FpOk X Y H1 b:=λb r=>by
  let e:b=s1.heap.objs.size:=by simpa using r
  subst e;show A.fpOk 37<|A.hok.fresh 37
 cases L:z.cps.all (· < 128)
 .exact wpAny_pyIter_wide L (s1.heap.objs.size,[s1.heap.objs.size],_,_,H1,R,A.kept (t':=s1.toks) λb o e=>y01 _ e,znh z t _ "str_iterator"<|.inr R,(_,y0c _ R,R,R),fo,q)
 .exact wpAny_pyIter_ascii L (s1.heap.objs.size,[s1.heap.objs.size],_,_,H1,R,A.kept (t':=s1.toks) λb o e=>y01 _ e,znh z t _ "str_ascii_iterator" 85,(_,y0c _ R,R,R),fo,q)
def rSlS:V->Option Int->Option Int->Hp->VK->Prop:=λx lo hi H Q=>∃z,x=.str z/\z.length<=ij/\Q (.str<|Txt.slice z lo hi) H
theorem sl_str:SlR X rSlS:=by
 intro pins s σ H x v a vu lo hi f Q I A hs pl y h;let(z,rfl,hz,q):=h;let(t,rfl):=A;apply("str",_,F.slot_str_getitem.lookup,typeIs_str _ _ _,?_);let go:∀(l u:Option<|Int×Tok),a=partValue l->vu=partValue u->lo=l.map (·.1)->hi=u.map (·.1)->wpAny 41 X.A (jw (.str z t)<|.ref f) 050 X.xe s:=by
  rintro l u rfl rfl rfl rfl;apply wpAny_getItem_str_slice (l:=l) (u:=u) (st:=B) ?_ R ?_
  .let(o,e,c,d):=hs;show(o,e,c,d)
  .exact post_val_or_str (y0z (Txt.slice_le z _ _) hz,λt' k=>(.str _,H,I.tok _,(_,R),q))
 cases pl with
 |none =>
  cases y with
  |none=>show go B B R R R R
  |int j u=>show go B (G (j,u)) R R R R
 |int i t' =>
  cases y with
  |none=>show go (G (i,t')) B R R R R
  |int j u=>show go (G (i,t')) (G (j,u)) R R R R
theorem zm6:CallR X (.builtin "isinstance") (λxs H Q=>∃x T t b,xs=[x,.ty T]/\TyOf X.K H x t/\PySem.W.kitOne X.K t (.type T)=G b/\Q (.bl b) H):=by
 intro Y s U H xs us Q I r h;let(x,T,t,b,rfl,ty,e,q):=h;let(u,w',rfl,d,O):=vals2 r;cases(show w'=Va.type T from O);show zso I d ty e λtk=>(.bl b,H,I.tok _,R,q)
section
open PyProof.Rows.LSm
theorem zos:∀{us:List Va},Vals (bs.map V.bl) us->BoolsAre us bs:=by
 induction bs with
 |nil=>intro us r;rw[y39]at r;cases r;show .nil
 |cons b bs E =>
  intro us r;rw[y0p]at r;cases r with
  |cons r1 r2 =>
   cases(show _=Va.bool b from r1);show .cons b<|E r2
theorem zm8(hc:X.calm=N):CallR X (.builtin "all") (λxs H Q=>∃(p:Ad) (bs:List Bool),xs=[.ref p]/\SqL X.K H p (bs.map V.bl)/\Q (.bl<|bs.all id) H):=by
 intro Y s U H xs us Q I r h;let(p,bs,rfl,O,q):=h;let(u,rfl,d):=vals1 r;cases(show u=Va.ref p from d);let(vs,f,pl,hz):=I.list O;let j:=pl.isList;let E:=zos f;let a:p<s.heap.objs.size:=by let(_,e,_):=j;show y0h e
 apply call_all_walk<|iU j ?_;apply⟨s.heap.objs.size,[s.heap.objs.size,p],[s.heap.objs.size],vs.toArray.size,_,_,λi=>(bs[i]?).getD N,R,Walks.list (A:=X.A.in1) 037 _ p (y0m a) vs.toArray,
  ((_,y0c _ R,R,R),j.push _),λi v s' g E' M c=>?_,λh' tk C=>?_⟩
 .let(b,e,rfl):=E.get i v (by simpa using M);simp only[e,y2k]at c;show iy c
 .let e:((List.range vs.toArray.size).all λi=>(bs[i]?).getD N)=bs.all id:=by
   rw[y0a,E.length];show range_all bs
  rw[e];show(.bl _,H,I.kept<|kept_iter C,R,q)
theorem zm7(hc:X.calm=N):CallR X (.builtin "any") (λxs H Q=>∃(p:Ad) (bs:List Bool),xs=[.ref p]/\SqL X.K H p (bs.map V.bl)/\Q (.bl<|bs.any id) H):=by
 intro Y s U H xs us Q I r h;let(p,bs,rfl,O,q):=h;let(u,rfl,d):=vals1 r;cases(show u=Va.ref p from d);let(vs,f,pl,hz):=I.list O;let j:=pl.isList;let E:=zos f;let a:p<s.heap.objs.size:=by let(_,e,_):=j;show y0h e
 apply call_any_walk<|iU j ?_;apply⟨s.heap.objs.size,[s.heap.objs.size,p],[s.heap.objs.size],vs.toArray.size,_,_,λi=>(bs[i]?).getD Fa,R,Walks.list (A:=X.A.in1) 037 _ p (y0m a) vs.toArray,
  ((_,y0c _ R,R,R),j.push _),λi v s' g E' M c=>?_,λh' tk C=>?_⟩
 .let(b,e,rfl):=E.get i v (by simpa using M);simp only[e,y2k]at c;show iy c
 .let e:((List.range vs.toArray.size).any λi=>(bs[i]?).getD Fa)=bs.any id:=by
   rw[y0a,E.length];show range_any bs
  rw[e];show(.bl _,H,I.kept<|kept_iter C,R,q)
theorem zk1(hc:X.calm=N):CallR X (.builtin "sum") (λxs H Q=>∃(p:Ad) (ns:List Int),xs=[.ref p]/\SqL X.K H p 035/\Q (.int ns.sum) H):=by
 intro Y s U H xs us Q I r h;let(p,ns,rfl,O,q):=h;let(u,rfl,d):=vals1 r;cases(show u=Va.ref p from d);let(vs,f,pl,hz):=I.list O;let hi:=zpu f;let(ys,o):=hi.allInts.items;let v:s.heap.IsList p (intItems ys):=o▸pl.isList;apply sum_intListG 037 v λh' tk t' C=>?_;let e1:ns=ys.toList.map (·.1):=by
  rw[←nums_intItems,←o];show(show numsOf vs.toArray.toList=ns from hi.numsOf).symm
 let L:preSum (numAt ys) ys.size=ns.sum:=by
  rw[preSum_eq,y0v 06,e1]
 rw[L];show(.int _,H,I.kept C,(_,R),q)
end
def rZfill:V->List V->Hp->VK->Prop:=λx vs H Q=>∃z i,x=.str z/\vs=[.int i]/\PadOk i=N/\Q (.str<|Txt.zfill z i) H
def EqOk(X:Cx)(k:Nat)(H:Hp)(x y:V)(b:Bool):Prop:=∀(pins:Y2) (σ:St) (s:ii) (A:iq) (u v:Va),A.units+k<cLine->03 H s->RelV x u->RelV y v->SeqAt.EqAt A s u v b
def RcOk(X:Cx)(k:Nat)(H:Hp)(x y:V)(b:Bool):Prop:=∀(pins:Y2) (σ:St) (s:ii) (A:iq) (u v:Va),A.units+k<cLine->03 H s->RelV x u->RelV y v->SeqAt.RcAt A s u v b
section
variable {X:Cx}{k:Nat}{H:Hp}{x y:V}{a b:Ad}{xs ys:List V}
theorem zky(c:flatV x=N)(e:flatV y=N):EqOk X k H x y (eqV x y):=λ_ _ _ _ _ _ _ _ d O=>zs4 d O c e
theorem Vals.at(r:Vals xs us)(h:j<us.length):∃(h':j<xs.length),RelV xs[j] us[j]:=by
 let E:=r.length;let h':j<xs.length:=by omega
 let(u,e,q):=r.get (i:=j) (x:=xs[j]) (by simp[h']);rw[y0e h]at e;cases e;show(h',q)
theorem zhs(O:SqL X.K H a xs)(o:SqL X.K H b ys)(E:xs.length=ys.length)(e:Nat->Bool)(D:∀j (M:j<xs.length) (J:j<ys.length),EqOk X k H xs[j] ys[j]<|e j):
  RcOk X (k+1) H 09 94 ((062).all e):=λY U s A u v g I d l=>by
 cases(show u=Va.ref a from d);cases(show v=Va.ref b from l);let(us,r1,f,_):=I.list O;let(vs,r2,r,_):=I.list o;let l1:=r1.length;let l2:=r2.length;let q:=SeqAt.RcAt.lists (A:=A) (e:=e) f.isList r.isList (by rw[y0a,y0a];omega) 00 λj M J=>by
  rw[y0a]at M J;let(g1,L):=r1.at M;let(p,i):=r2.at J;show D j g1 p Y U s A.in1 _ _ (by change A.units+1+k<cLine;omega) I (by simpa using L) (by simpa using i)
 rw[y0a,←l1]at q;show q
theorem zkf(O:SqL X.K H a xs)(o:SqL X.K H b ys)(j:xs.length≠ys.length):RcOk X k H 09 94 Fa:=λY U s A u v g I d l=>by
 cases(show u=Va.ref a from d);cases(show v=Va.ref b from l);let(us,r1,M,_):=I.list O;let(vs,r2,r,_):=I.list o;let l1:=r1.length;let l2:=r2.length;show SeqAt.RcAt.lists_lengths M.isList r.isList (by rw[y0a,y0a];simp;omega) 00
theorem zht(O:SqL X.K H a xs)(I:SqL X.K H b ys)(c:xs.all flatV=N)(e:ys.all flatV=N):
  RcOk X 1 H 09 94 (xs.length==ys.length&&(062).all λj=>eqV (xs.getD j .non)<|ys.getD j .non):=by
 by_cases E:xs.length=ys.length
 .let q:=zhs (k:=0) O I E (λj=>eqV (xs.getD j .non)<|ys.getD j .non) λj M J=>by
   let e1:xs.getD j .non=xs[j]:=by simp[List.getD,M]
   let L:ys.getD j .non=ys[j]:=by simp[List.getD,J]
   rw[e1,L];show zky (y0u.mp c _<|y16 M)<|y0u.mp e _ (y16 J)
  rw[show(xs.length==ys.length)=N by simp[E],y17];show q
 .rw[show(xs.length==ys.length)=Fa by simp[E],y15];show zkf O I E
end
def rEqD(X:Cx)(k:Nat):R2:=λx y H Q=>∃c,RcOk X k H x y c/\Q (.bl c) H
theorem znx(g:X.A.units+k<cLine):OpR X (im .Eq) (rEqD X k):=by
 intro Y s U H x y v u Q I d O h;let(c,r,q):=h;show r Y U s X.A v u g I d O _ _ _ _ (.bl c,H,I,R,q)
def CW(D:Ad)(n:Nat)(Pv:Nat->List V->St->Hp->Prop)(i m:Nat)(U:St)(H:Hp):Prop:=m=n-i/\i<=n/\∃ys,H D=G 82/\ys.length<=i/\Pv i ys U H
def CStep(D:Ad)(n i:Nat)(Pv:Nat->List V->St->Hp->Prop)(d:St)(y:V)(H4:Hp):Prop :=
 ∃ys,H4 D=G 82/\ys.length<ij/\∃m',m'<n-i/\CW D n Pv (i+1) m' d 073
def CSkip(D:Ad)(n i:Nat)(Pv:Nat->List V->St->Hp->Prop)(d:St)(H3:Hp):Prop:=∃m',m'<n-i/\CW D n Pv (i+1) m' d H3
section
variable {D:Ad}{Q:VK}{g:TG}{tif:TT}{te:TE}{σ0:St}{H1:Hp}{n i:Nat}{Pv:Nat->List V->St->Hp->Prop}
theorem cstep(o:n<=ij)(hi:i<n)(u:H4 D=G 82)(j:ys.length<=i)(h:Pv (i+1) (ys++[y]) d 073):CStep D n i Pv d y H4 :=
 (ys,u,by omega,n-(i+1),by omega,R,hi,ys++[y],zao,by rw[y02,y0i];omega,h)
theorem cskip(hi:i<n)(u:H3 D=G 82)(j:ys.length<=i)(h:Pv (i+1) ys d H3):CSkip D n i Pv d H3 :=
 (n-(i+1),by omega,R,hi,ys,u,by omega,h)
theorem zm0{J:It}(Pv:Nat->List V->St->Hp->Prop)(o:n<=ij)(Y:Pv 0 [] σ0 055)
  (l:∀i ys U H,i<n->H D=G 82->Pv i ys U H->J.go i H) (a:∀ys U H,H D=G 82->Pv n ys U H->J.stop n H)
  (hs:∀i ys U H,i<n->H D=G 82->ys.length<=i->Pv i ys U H->∀x H',J.yld i H x H'->g x U H' λd H2=>tif d H2 λc H3 =>
   if c=N then te d H3 λy H4=>CStep D n i Pv d y H4 else CSkip D n i Pv d H3)
  (hd:∀ys U H,H D=G 82->ys.length<=n->Pv n ys U H->Q 95 H) :
  ∃W:Nat->Nat->St->Hp->Prop,(∃m,W 0 m σ0 055)/\∀i m f Hb,W i m f Hb->
   (J.stop i Hb/\Q 95 Hb)\/(J.go i Hb/\∀x H',J.yld i Hb x H'->g x f H' λd H2=>tif d H2 λc H3 =>
    if c=N then te d H3 λy H4=>∃ys,H4 D=G 82/\ys.length<ij/\∃m',m'<m/\W (i+1) m' d 073
    else∃m',m'<m/\W (i+1) m' d H3):=by
 apply(CW D n Pv,(n,by omega,y1g _,[],zao,y05 _,Y),?_);rintro i m U H ⟨rfl,hi,ys,u,j,p⟩;by_cases r:i<n
 .exact .inr (l i ys U H r u p,hs i ys U H r u j p)
 .let e:i=n:=by omega
  subst e;show .inl (a ys U H u p,hd ys U H u j p)
theorem zwl(Pv:Nat->List V->St->Hp->Prop)(o:z.cps.size<=ij)(Y:Pv 0 [] σ0 055)
  (hs:∀i ys U H c,i<z.cps.size->z.cps[i]?=G c->H D=G 82->ys.length<=i->Pv i ys U H->g (.str ⟨#[c]⟩) U H λd H2=>tif d H2 λc H3 =>
   if c=N then te d H3 λy H4=>CStep D z.cps.size i Pv d y H4 else CSkip D z.cps.size i Pv d H3)
  (hd:∀ys U H,H D=G 82->ys.length<=z.cps.size->Pv z.cps.size ys U H->Q 95 H) :
  ∃W:Nat->Nat->St->Hp->Prop,(∃m,W 0 m σ0 055)/\∀i m f Hb,W i m f Hb->
   ((Its z).stop i Hb/\Q 95 Hb)\/((Its z).go i Hb/\∀x H',(Its z).yld i Hb x H'->g x f H' λd H2=>tif d H2 λc H3 =>
    if c=N then te d H3 λy H4=>∃ys,H4 D=G 82/\ys.length<ij/\∃m',m'<m/\W (i+1) m' d 073
    else∃m',m'<m/\W (i+1) m' d H3) :=
 zm0 Pv o Y (λi _ _ _ hi _ _=>hi) (λ_ _ _ _ _=>y05 _) (λi ys U H hi u j p x H' y=>by
  let(e,c,A,ex):=y;subst e ex;show hs i ys U _ c hi A u j p) hd
theorem zte{K:Frag}{a:Ad}{xs:List V}(Pv:Nat->List V->St->Hp->Prop)(o:xs.length<=ij)(Y:Pv 0 [] σ0 055)
  (j:∀i ys U H,i<=xs.length->H D=G 82->Pv i ys U H->SqL K H a xs)
  (hs:∀i ys U H x,i<xs.length->xs[i]?=G x->H D=G 82->ys.length<=i->Pv i ys U H->g x U H λd H2=>tif d H2 λc H3 =>
   if c=N then te d H3 λy H4=>CStep D xs.length i Pv d y H4 else CSkip D xs.length i Pv d H3)
  (hd:∀ys U H,H D=G 82->ys.length<=xs.length->Pv xs.length ys U H->Q 95 H) :
  ∃W:Nat->Nat->St->Hp->Prop,(∃m,W 0 m σ0 055)/\∀i m f Hb,W i m f Hb->
   ((Itl K a).stop i Hb/\Q 95 Hb)\/((Itl K a).go i Hb/\∀x H',(Itl K a).yld i Hb x H'->g x f H' λd H2=>tif d H2 λc H3 =>
    if c=N then te d H3 λy H4=>∃ys,H4 D=G 82/\ys.length<ij/\∃m',m'<m/\W (i+1) m' d 073
    else∃m',m'<m/\W (i+1) m' d H3) :=
 zm0 Pv o Y (λi ys U H hi u p=>(xs,xs[i],j i ys U H (y1s hi) u p,by simp[hi])) (λys U H u p=>(xs,j _ ys U H 37 u p,y05 _)) (λi ys U H hi u v p x H' y=>by
  let(e,y):=y;subst e;show hs i ys U _ x hi (y xs<|j i ys U _ (y1s hi) u p) u v p) hd
end
section
variable {κ:Type}[DecidableEq κ]
noncomputable def valV(L:List<|κ×V)(k:κ):Option V:=(L.find? λc=>decide (c.1=k)).map (·.2)
noncomputable def putK(L:List<|κ×V)(k:κ)(v:V):List (κ×V) :=
 if(L.any λc=>decide (c.1=k))=N then L.map (λc=>if c.1=k then(c.1,v)else c)else L++[(k,v)]
theorem zbo{p:κ×V}(e:p.1=k):valV (p::r) k=G p.2:=by simp[valV,y1v,e]
theorem zbp{p:κ×V}(e:¬p.1=k):valV (p::r) k=valV r k:=by simp[valV,y1v,e]
theorem zf0(k:κ):∀L:List<|κ×V,(L.any λc=>decide (c.1=k))=(valV L k).isSome
 |[]=>rfl
 |p::r=>by
  rw[y1p];by_cases e:p.1=k
  .simp only[zbo e,Xg e,Bool.true_or,Option.isSome_some]
  .rw[zbp e,Xf e,y3g];show zf0 k r
theorem znf(k j:κ)(y:V):∀L:List<|κ×V,valV (L.map λc=>if c.1=k then(c.1,y)else c) j=(valV L j).map λx=>if j=k then y else x
 |[]=>rfl
 |p::r=>by
  let E:=znf k j y r;rw[y0p];by_cases h:p.1=k
  .rw[Xq h];by_cases e:p.1=j
   .rw[zbo (p:=(p.1,y)) e,zbo e,y2q,Xq<|e.symm.trans h]
   .rw[zbp (p:=(p.1,y)) e,zbp e,E]
  .rw[Xp h];by_cases e:p.1=j
   .rw[zbo (p:=p) e,zbo e,y2q,Xp λz=>h<|e.trans z]
   .rw[zbp (p:=p) e,zbp e,E]
theorem zjx(k j:κ)(y:V):∀L:List<|κ×V,valV L k=B->valV (L++[(k,y)]) j=if j=k then G y else valV L j
 |[],_=>by
  by_cases e:k=j
  .rw[Xq e.symm];show zbo (p:=(k,y)) e
  .rw[Xp λz=>e z.symm];show zbp (p:=(k,y)) e
 |p::r,o=>by
  rw[y2n];let C:¬p.1=k:=λz=>by rw[zbo z]at o;cases o
  rw[zbp C]at o;let E:=zjx k j y r o;by_cases e:p.1=j
  .rw[zbo e,zbo e,Xp λz=>C<|e.trans z]
  .rw[zbp e,zbp e,E]
theorem zds(L:List<|κ×V)(k j:κ)(y:V):valV (putK L k y) j=if j=k then G y else valV L j:=by
 unfold putK;by_cases a:(L.any λc=>decide (c.1=k))=N
 .rw[Xq a,znf];rw[zf0]at a;by_cases e:j=k
  .let(x,O):=y3d.mp a;rw[Xq e,e,O,y2q,Xq rfl]
  .rw[Xp e];cases valV L j with
   |none=>rfl
   |some x=>rw[y2q,Xp e]
 .rw[Xp a];apply zjx k j y L ?_;rw[zf0]at a;cases q:valV L k with
  |none=>rfl
  |some x=>rw[q]at a;show(a R).elim
theorem zcf(L:List<|κ×V)(k:κ)(v:V):(putK L k v).length<=L.length+1:=by
 unfold putK;split
 .rw[y00];omega
 .rw[y02,y0b,y14];omega
theorem RelO.isSome_eq(r:RelO o u):o.isSome=u.isSome:=by
 cases o with
 |none=>cases u with
  |none=>rfl
  |some _=>show(show False from r).elim
 |some _=>cases u with
  |none=>show(show False from r).elim
  |some _=>rfl
theorem KV.val(r:KV L vs)(k:κ):RelO (valV L k) (jK vs k):=by
 unfold KV at r
 induction r with
 |nil=>show True.intro
 |@cons p q ps qs h t E =>
  let(M,J):=h;by_cases e:p.1=k
  .let D:q.1=k:=M.symm.trans e;let b:jK (q::qs) k=G q.2:=by simp[jK,y1v,D]
   rw[zbo e,b];show J
  .let D:¬q.1=k:=λz=>e<|M.trans z;let b:jK (q::qs) k=jK qs k:=by simp[jK,y1v,D]
   rw[zbp e,b];show E
theorem KV.any(r:KV L vs)(k:κ):(L.any λc=>decide (c.1=k))=vs.any λc=>decide (c.1=k):=by
 unfold KV at r
 induction r with
 |nil=>rfl
 |cons h t E=>rw[y1p,y1p,E,h.1]
theorem KV.repl(r:KV L vs)(k:κ)(O:RelV y u):
  KV (L.map λc=>if c.1=k then(c.1,y)else c) (vs.map λc=>if c.1=k then(c.1,u)else c):=by
 unfold KV at r ⊢
 induction r with
 |nil=>show .nil
 |@cons p q ps qs h t E =>
  rw[y0p,y0p];apply .cons ?_ E;let(M,J):=h;by_cases e:p.1=k
  .rw[Xq e,Xq<|M.symm.trans e];show(M,O)
  .rw[Xp e,Xp λz=>e<|M.trans z];show(M,J)
theorem KV.put(r:KV L vs)(k:κ)(O:RelV y u):KV (putK L k y) (stored vs k u):=by
 unfold putK stored;rw[r.any k];by_cases e:(vs.any λc=>decide (c.1=k))=N
 .rw[Xq e,Xq e];show r.repl k O
 .rw[Xp e,Xp e];show Paired.snoc r (R,O)
theorem KV.length{L:List (κ×V)}{vs:List (κ×Va)}(r:KV L vs):L.length=vs.length:=Paired.length r
end
theorem zv2(r:RelV (kV k) u):(036).is k u=N:=by
 cases k with
 |inl i=>let(t,e):=(show∃t,u=Va.int i t from r);subst e;show zms P w i t
 |inr x=>let(t,e):=(show∃t,u=Va.str x t from r);subst e;show zmr P w x t
theorem kV_inj(e:kV a=kV b):a=b:=by
 cases a with
 |inl i=>cases b with
  |inl j=>have D:V.int i=V.int j:=e;injection D with D;rw[D]
  |inr y=>show nomatch(show V.int i=V.str y from e)
 |inr x=>cases b with
  |inl j=>show nomatch(show V.str x=V.int j from e)
  |inr y=>have D:V.str x=V.str y:=e;injection D with D;rw[D]
theorem zks:∀{ks:List Key} {us:List Va},Vals (ks.map kV) us->ItemsAre 036 ks us
 |[],_,r=>by rw[y39]at r;cases r;show .nil
 |k::ks,_,r=>by
  rw[y0p]at r;cases r with
  |cons h t=>show .cons (zv2 h)<|zks t
abbrev KT(H:Hp):List (List Key×V)->List (List Key×Ad×Va)->Prop:=io λp q=>p.1=q.1/\H q.2.1=G (.tup<|p.1.map kV)/\RelV p.2 q.2.2
theorem KT.val(r:KT H L xs)(k:List Key):RelO (valV L k) ((atKey xs k).map (·.2)):=by
 induction r with
 |nil=>show True.intro
 |@cons p q ps qs h t E =>
  let(M,_,J):=h;by_cases e:p.1=k
  .let D:q.1=k:=M.symm.trans e;let b:atKey (q::qs) k=G q.2:=by simp[atKey,y1v,D]
   rw[zbo e,b];show J
  .let D:¬q.1=k:=λz=>e<|M.trans z;let b:atKey (q::qs) k=atKey qs k:=by simp[atKey,y1v,D]
   rw[zbp e,b];show E
theorem KT.repl(r:KT H L xs)(k:List Key)(O:RelV y u):
  KT H (L.map λc=>if c.1=k then(c.1,y)else c) (xs.map<|putAt k u):=by
 induction r with
 |nil=>show .nil
 |@cons p q ps qs h t E =>
  rw[y0p,y0p];apply .cons ?_ E;let(M,J,U):=h;unfold putAt;by_cases e:p.1=k
  .rw[Xq e,Xq<|M.symm.trans e];show(M,J,O)
  .rw[Xp e,Xp λz=>e<|M.trans z];show(M,J,U)
theorem KT.put(r:KT H L xs)(k:List Key)(Y:H b=G (.tup<|k.map kV))(O:RelV y u):
  KT H (putK L k y) (storedH xs k b u):=by
 let e:(L.any λc=>decide (c.1=k))=(atKey xs k).isSome:=by
  rw[zf0,(r.val k).isSome_eq,y3c]
 unfold putK storedH;rw[e];by_cases q:(atKey xs k).isSome=N
 .rw[Xq q,Xq q];show r.repl k O
 .rw[Xp q,Xp q];show Paired.snoc r (R,Y,O)
theorem KT.keeps(r:KT H L xs)(ht:∀b ys,H b=G (.tup ys)->H' b=G (.tup ys)):KT H' L xs :=
 Paired.mapP r λ_ _ z=>(z.1,ht _ _ z.2.1,z.2.2)
section
variable {P:ik}{w:World}{H:Hp}{h:Heap}{a:Ad}
theorem rd_of(ok:HOk P w H h)(e:Rd H a u):ObjOk P w H h a u:=e.ok ok
theorem zwh(ok:HOk P w H h)(e:Rd H a<|.dK L):L.length<=ij/\(a==iC)=Fa/\∃vs,KV L vs/\h.DictOf 036 a vs :=
 show ObjOk P w H h a (.dK L)from rd_of ok e
theorem dk_of(ok:HOk P w H h)(e:H a=G (.dK L)):L.length<=ij/\(a==iC)=Fa/\∃vs,KV L vs/\h.DictOf 036 a vs:=zwh ok<|.inl e
theorem zkr(ok:HOk P w H h)(e:H a=G (.tup<|ks.map kV)):(jH 036).is h ks a:=by
 let(_,its,r,o,M,J,n,U):=(show ObjOk P w H h a (.tup<|ks.map kV)from ok a _ e);show(o,its.toArray,n,M,J,U,by simpa using zks r)
theorem zwd(ok:HOk P w H h)(e:Rd H a<|.dT L):L.length<=ij/\(a==iC)=Fa/\
  ∃xs,KT H L xs/\h.DictOfH (jH 036) a xs:=by
 let(z,y,xs,r,o,es,ep,M,J,U,C,g):=(show ObjOk P w H h a (.dT L)from rd_of ok e);apply(z,y,xs,r,o,es,ep,M,J,U,C,λx O=>?_,g);let all:∀{l:List (List Key×V)} {m:List (List Key×Ad×Va)},KT H l m->∀x∈m,(jH 036).is h x.1 x.2.1:=by
  intro l m q
  induction q with
  |nil=>intro x O;show nomatch O
  |@cons p q ps qs D t E =>
   intro x O;rcases y06.mp O with e|O
   .subst e;show zkr ok (by rw[←D.1];show D.2.1)
   .exact E x O
 show all r x O
theorem dt_of(ok:HOk P w H h)(e:H a=G (.dT L)):L.length<=ij/\(a==iC)=Fa/\
  ∃xs,KT H L xs/\h.DictOfH (jH 036) a xs:=zwd ok<|.inl e
end
def KeyV(k:Key)(y:V):Prop:=y=kV k\/∃b,y=.bl b/\k=.inl (blI b)
theorem KeyV.is(h:KeyV k y)(r:RelV y u):(036).is k u=N:=by
 rcases h with rfl|⟨b,rfl,rfl⟩
 .exact zv2 r
 .cases(show u=Va.bool b from r);show zv0 b
def DGet(H:Hp)(a:Ad)(y:V)(r:Option V):Prop :=
 (∃L k,Rd H a (.dK L)/\KeyV k y/\r=valV L k)\/∃L k b,Rd H a (.dT L)/\y=.ref b/\H b=G (.tup<|k.map kV)/\r=valV L k
def DPut(H:Hp)(a:Ad)(y v:V)(H':Hp):Prop :=
 (∃L k,H a=G (.dK L)/\KeyV k y/\L.length<ij/\H'=upd H a (.dK<|putK L k v))\/
 ∃L k b,H a=G (.dT L)/\y=.ref b/\H b=G (.tup<|k.map kV)/\L.length<ij/\H'=upd H a (.dT<|putK L k v)
theorem DGet.k{H:Hp}{a:Ad}{L:List (Key×V)}{k:Key}(e:H a=G (.dK L)):DGet H a (kV k) (valV L k):=.inl (L,k,.inl e,.inl R,R)
theorem DGet.t{k:List Key}(e:H a=G (.dT L))(eb:H b=G (.tup<|k.map kV)):DGet H a 94 (valV L k):=.inr (L,k,b,.inl e,R,eb,R)
theorem DPut.k{H:Hp}{a:Ad}{L:List (Key×V)}{k:Key}{v:V}(e:H a=G (.dK L))(j:L.length<ij):DPut H a (kV k) v (upd H a<|.dK (putK L k v)):=.inl (L,k,e,.inl R,j,R)
theorem DPut.t{L:List (List Key×V)}{k:List Key}(e:H a=G (.dT L))(eb:H b=G (.tup<|k.map kV))(j:L.length<ij):
  DPut H a 94 v (upd H a<|.dT (putK L k v)):=.inr (L,k,b,e,R,eb,j,R)
section
variable {X:Cx}{pins:Y2}{σ:St}{H:Hp}{s:ii}{a:Ad}{y v:V}{u r:Va}{o:Option V}{A:iq}{E:Y0}
theorem Inv.big(I:03 H s):iC<s.heap.objs.size:=by
 let h:iu<s.heap.objs.size:=(I.mod.glob.keeps I.bk).lt;show y2c 02 h
theorem zta(D:A.units+1<cLine)(I:03 H s)(g:DGet H a y<|G v)(O:RelV y u)(h:∀w' s',03 H s'->RelV v w'->Q w' s'):
  wpAny 41 A (jw 09 u) Q E s:=by
 rcases g with⟨L,k,e,Y,l⟩|⟨L,k,b,e,Y,eb,l⟩
 .let(z,hd,vs,M,dd):=zwh I.hok e;let(w',C,c):=RelO.some_of (v:=v) (o:=jK vs k) (by rw[l];show M.val k);show wpAny_getItem_of (Y.is O) dd.mapOf C<|h w' _ (I.tok _) c
 .subst Y;cases(show u=Va.ref b from O);let(z,hd,xs,M,dd):=zwd I.hok e;let(w',C,c):=RelO.some_of (v:=v) (o:=(atKey xs k).map (·.2)) (by rw[l];show M.val k);let(p,U,i):=y18.mp C;apply wpAny_getItem_heap (jr D) (zkr I.hok eb) dd U ?_;rw[i];show h w' _ (I.tok _) c
theorem Qbw(D:A.units+1<cLine)(I:03 H s)(g:DGet H a y o)(O:RelV y u)(h:∀s',03 H s'->Q (.bool<|!o.isSome) s'):
  wpAny 41 A (im .NotIn u 09) Q E s:=by
 rcases g with⟨L,k,e,Y,l⟩|⟨L,k,b,e,Y,eb,l⟩
 .let(z,hd,vs,M,dd):=zwh I.hok e;apply wpAny_notIn_of (Y.is O) hd dd.mapOf ?_;rw[←(M.val k).isSome_eq,←l];show h _<|I.tok _
 .subst Y;cases(show u=Va.ref b from O);let(z,hd,xs,M,dd):=zwd I.hok e;apply wpAny_notIn_heap (jr D) (zkr I.hok eb) hd dd ?_;let q:=(M.val k).isSome_eq;rw[y3c]at q;rw[←q,←l];show h _<|I.tok _
theorem zmy(I:03 H s)(f:Mut<|H a)(hs:Heap.SameBut a s.heap h')(d:∃q,h'.get? a=G q)(new:ObjOk X.prog X.w (upd H a ob) h' a ob):
  03 (upd H a ob) {s with heap:=h',toks:=t'} :=
 I.write (x:=a) (e:=a) f 85 (λb q Y z=>(hs.2 b Y).trans z) d new
theorem zxk(z:L.length<=ij)(hd:(a==iC)=Fa)(M:KV L vs)(dd:h'.DictOf 036 a vs):
  ObjOk P w H' h' a (.dK L):=(z,hd,vs,M,dd)
theorem zs9(hu:A.units+1<cLine)(I:03 H s)(g:DPut H a y v H')(O:RelV y u)(f:RelV v r)(h:∀s',03 H' s'->Q () s'):
  wpAny 41 A (setItem 09 u r) Q E s:=by
 rcases g with⟨L,k,e,Y,l,p⟩|⟨L,k,b,e,Y,eb,l,p⟩
 .subst p;let(z,hd,vs,M,dd):=dk_of I.hok e;let hz:vs.length<=ij:=by rw[←M.length];show z
  let j:(putK L k v).length<=ij:=by have:=zcf L k v;omega
  apply wpAny_setItem_pairs (hsz:=hz) (Y.is O) dd λh' i hs=>h _ ?_;let d:∃q,h'.get? a=G q:=let(q,_,_,D,_):=i;(q,D);show zmy I (by rw[e];show True.intro) hs d<|zxk j hd (M.put k f) i
 .subst Y p;cases(show u=Va.ref b from O);let(z,hd,xs,M,dd):=dt_of I.hok e;let hz:xs.length<=ij:=by rw[←Paired.length M];show z
  let j:(putK L k v).length<=ij:=by have:=zcf L k v;omega
  apply wpAny_setItem_heap (hsz:=hz) (jr hu) (zkr I.hok eb) dd λh' i hs=>h _ ?_;let(q,es,ep,D,J,U,C,_,x):=i;apply zmy I (by rw[e];show True.intro) hs (q,D) (j,hd,_,(M.put k eb f).keeps λc ys T=>?_,q,es,ep,D,J,U,C,x);rw[zan<|zcq T e (λz=>nomatch z)];show T
end
def NoSl(i:Expr):Prop:=∀v iv,jC i Fa v iv=operate [v,iv] (jw v iv)
theorem zqg{prog:ik}{w:World}{A:iq}{E:Y0}{s:ii}{env:Env}{l e:Expr}{pos:Pos}{T id:String}{Q:Y0}
  (j:jP (.type T) "__getitem__"=pure (G 058)) (hs:NoSl e)
  (h:wpAny 87 A (eval l env) (λo s₁=>wpAny 87 A (eval e env) (λi s₂=>s₂.TypeIs o T/\wpAny 87 A (jw o i) Q E s₂) E s₁) E s) :
  wpAny 87 A (eval (.Subscript l e pos) env) Q E s:=by
 apply Subscript_<|i5 h (λo s₁ h₁=>i5 h₁ (λi s₂ p=>?_) λ_ _ x=>x) λ_ _ x=>x;let(hT,p):=p;unfold subscriptTail;apply ie ?_;rw[getitemInPython_of_ne hT.not_modules];apply ie<|iI hT j ?_;let fin:wpAny 87 A (jC e Fa o i) (λr s₃=>wpAny 87 A (letTemporaryGo l o r>>=λ_=>pure r) Q E s₃) E s₂:=by
  rw[hs o i];show wpAny_operating<|i5 p (λr s₃ g=>ie<|wpAny_letTemporaryGo (ig g)) λ_ _ x=>x
 first
  |show ig (ie fin)
  |show ie (ig<|ie fin)
  |show ie fin
theorem zmx{X:Cx}{pins:Y2}{σ:St}{H:Hp}{s:ii}{a:Ad}{y:V}{o:Option V}(I:03 H s)(g:DGet H a y o):s.TypeIs 09 "dict":=by
 rcases g with⟨L,k,e,_,_⟩|⟨L,k,b,e,_,_,_⟩
 .let(_,_,vs,_,dd):=zwh I.hok e;show dd.typeIs
 .let(_,_,xs,_,dd):=zwd I.hok e;show dd.typeIs
def tDGet(r ty:TE):TE:=λU H Q=>r U H λx H1=>ty U H1 λy H2=>∃a v,x=.ref a/\DGet H2 a y (G v)/\Q v H2
def sDPut(r ty tv:TE):TS:=λD U H=>tv U H λv H1=>r U H1 λx H2=>ty U H2 λy H3=>∃a H4,x=.ref a/\DPut H3 a y v H4/\D.nx U H4
section
variable {X:Cx}{o i e value:Expr}{pos pos' tpos:Pos}{td ty tv:TE}
theorem zyn(D:X.A.units+1<cLine)(T:PE X o td)(hi:PE X i ty)(hs:NoSl i):PE X (.Subscript o i pos) (tDGet td ty):=by
 intro Y s U H Q I h;apply zqg PySem.F.slot_dict_getitem.lookup hs<|thn (T Y s U H _ I h) λu s1 E=>ex5 E λx H1 A d J=>thn (hi Y s1 U H1 _ A J) λiv s2 E=>ex5 E λy H2 j O C=>?_;let(a,v,ex,g,l):=C;subst ex;obtain rfl:u=Va.ref a:=d;show(zmx j g,zta D j g O λw' p L c=>(v,H2,L,c,l))
theorem zyd(Q:X.A.units+1<cLine)(T:PE X o td)(hi:PE X i ty)(q:PE X value tv)(hs:jd value (G<|.Subscript o i pos') pos.line X.env=pure Fa):
  PS X (.Assign [.Subscript o i pos'] value pos) (sDPut td ty tv):=by
 intro Y s U H D I h;apply wpAny_Assign_Subscript (thn (q Y s U H _ I h) λr s1 E=>ex5 E λv H1 A f J=>thn (T Y s1 U H1 _ A J) λu s2 E=>ex5 E λx H2 j d l=>thn (hi Y s2 U H2 _ j l) λiv p (y,H3,L,O,a,H4,ex,g,C)=>?_) hs;subst ex;obtain rfl:u=Va.ref a:=d;show zs9 Q L g O f λc M=>(U,H4,M,C)
end
theorem zwi(h:Heap)(Y:iC<h.objs.size):ObjOk P w H (h.push {cls:=.type "dict",data:=.dict #[]}) h.objs.size (.dK []) :=
 (y1g _,beq_eq_false_iff_ne.mpr<|Ne.symm (y0m Y),[],.nil,Heap.DictOf.new h)
theorem zwe(h:Heap)(Y:iC<h.objs.size):ObjOk P w H (h.push {cls:=.type "dict",data:=.dict #[]}) h.objs.size (.dT []) :=
 (y1g _,beq_eq_false_iff_ne.mpr<|Ne.symm (y0m Y),[],.nil,_,#[],0,y0c _ R,(R,R,R),R,R,y2b)
def tDNewK:TE:=λ_ H Q=>∀p,H p=B->Q 91 (upd H p<|.dK [])
def tDNewT:TE:=λ_ H Q=>∀p,H p=B->Q 91 (upd H p<|.dT [])
section
variable {X:Cx}{pos:Pos}
theorem zu1:PE X (.Dict [] [] pos) tDNewK:=λY s U H Q I h =>
 wpAny_Dict_empty (.ref s.heap.objs.size,_,I.laid (a:=s.heap.objs.size) (o:=.dK []) (t':=s.toks) (λ_ _ q=>y01 _ q) 37<|zwi s.heap I.big,R,h _ 069)
theorem zuz:PE X (.Dict [] [] pos) tDNewT:=λY s U H Q I h =>
 wpAny_Dict_empty (.ref s.heap.objs.size,_,I.laid (a:=s.heap.objs.size) (o:=.dT []) (t':=s.toks) (λ_ _ q=>y01 _ q) 37<|zwe s.heap I.big,R,h _ 069)
end
def tPairs:List (TE×TE)->St->Hp->(List (V×V)->Hp->Prop)->Prop
 |[],_,H,Q=>Q [] H
 |(tk,tv)::r,U,H,Q=>tk U H λx H1=>tv U H1 λy H2=>tPairs r U H2 λps H3=>Q ((x,y)::ps) H3
def mergeK(L more:List<|Key×V):List (Key×V):=more.foldl (λa c=>putK a c.1 c.2) L
def tDisp(a:List<|TE×TE):TE:=λU H Q=>∀p,H p=B->tPairs a U (upd H p<|.dK []) λps H2=>H2 p=G (.dK [])/\∃L:List<|Key×V,ps=L.map (λc=>(kV c.1,c.2))/\L.length<=15/\Q 91 (upd H2 p<|.dK (mergeK [] L))
def IsD(H:Hp)(a:Ad):Prop:=(∃L,Rd H a<|.dK L)\/∃L,Rd H a<|.dT L
def tDGet2(r ty tx:TE):TE:=λU H Q=>r U H λx H1=>∃a,x=.ref a/\IsD H1 a/\ty U H1 λy H2=>tx U H2 λz H3=>∃o,DGet H3 a y o/\Q (o.getD z) H3
section
variable {κ:Type}[DecidableEq κ]
theorem zr3:∀{l:List κ} {k:κ},l.Nodup->¬k∈l->(l++[k]).Nodup
 |[],k,_,_=>by simp
 |a::r,k,h,C=>by
  let(M,J):=y1t.mp h;change(a::(r++[k])).Nodup;apply y1t.mpr (λm=>?_,zr3 J λm=>C<|y06.mpr (Or.inr m));rcases y0o.mp m with q|q
  .exact M q
  .exact C<|y06.mpr (Or.inl (y03.mp q).symm)
end
noncomputable def notStar:Expr->Bool
 |.Starred _ _=>Fa
 |_=>N
theorem zbb(h:notStar e=N):il (e::es) env=(Fa,eval e env)::il es env:=by
 cases e with
 |Starred v q=>show Xa (show Fa=N from h) y0f
 |_=>rw[starEach.eq_def]
theorem zbq:∀{es:List Expr} {env:Env} {pos:Pos},es.all notStar=N->(iR pos<|il es env).any (·.1)=Fa
 |[],env,pos,_=>by rw[starEach.eq_def];rfl
 |e::r,env,pos,h=>by
  rw[y1z,y07]at h;rw[zbb h.1];show zbq h.2
section
variable {X:Cx}{x:Str}{p pos:Pos}{e:Expr}{es:List Expr}{te:TE}{t:TA}{T id:String}{r:List V->Hp->VK->Prop}
theorem pa_c(L:PE X e te)(g:PA X es t)(h:notStar e=N:=by rfl):PA X (e::es) (tCons te t):=zyo L g<|zbb h
theorem za2(g:CallR X 058 r)(hg:Gl X x)(l:X.mg x=B)(D:iQ x=G 058)(L:PA X (e::es) t)(o:x≠"__name__":=by decide)(i:017=Fa:=by decide)
  (M:notStar e=N:=by rfl) (J:es.all notStar=N:=by rfl):PE X 046 (tCB r t):=zu6 g hg l D L o i (zbb M)<|zbq J
theorem zeq(g:CallR X (.type T) r)(hg:Gl X x)(l:X.mg x=B)(D:iQ x=G (.type T))(L:PA X (e::es) t)(o:x≠"__name__":=by decide)(i:017=Fa:=by decide)
  (M:notStar e=N:=by rfl) (J:es.all notStar=N:=by rfl):PE X 046 (tCB r t):=zrf g hg l D L o i (zbb M)<|zbq J
end
structure Dfn(K:Frag)(mg:Y1)(x:Str)(st:Stmt)(ps:List Str):Prop where
 ex:∃f fd,Fun K x x st f fd/\Binds K fd ps []/\mg x=G 45
structure Cal(P:ik)(w:World)(K:Frag)(mg:Y1)(base:Heap)(n:Nat)(x:Str)(ps:List Str)(sp:Sp):Prop where
 ex:∃f fd,FnOk P w K mg base CX0 n f fd ps sp/\Binds K fd ps []/\PySem.W.keepIn K 45=N/\mg x=G 45
section
variable {P:ik}{w:World}{K:Frag}{mg:Y1}{base:Heap}
theorem Dfn.cal{x:Str}{st:Stmt}{Nq ps:List Str}{k:Nat}{sp:Sp}(d:Dfn K mg x st ps)(S:FnScope Nq ps 96)(len:∀vs H Q E,sp vs H Q E->vs.length=ps.length)
  (a:∀(f:Ad) (j:Va) (A:iq) (outer:List Env) (s:ii) (H:Hp) (vs:List V) (Q:VK) (E:XK),Room k (A.deeper<|jg x 96 s.heap.objs.size f j)->sp vs H Q E->
   ∃t,PSs (cxOf CX0 P w K mg base Nq x 96 f j A outer s H E).nox 043 t/\t {nx:=λ_ H'=>Q .non H',rt:=Q} (start Nq vs) H):04 (k+1) x ps sp:=by
 let(f,fd,F,b,m):=d.ex;show(f,fd,F.ok S len<|a f,b,F.kp,m)
theorem Cal.mono(c:04 j x ps sp)(h:j<=k):04 k x ps sp:=by
 let(f,fd,F,r):=c.ex;show(f,fd,F.mono h,r)
theorem Dfn.never{x:Str}{st:Stmt}{ps:List Str}{sp:Sp}(d:Dfn K mg x st ps)(no:∀vs H Q E,¬sp vs H Q E):04 0 x ps sp:=by
 let(f,fd,F,b,m):=d.ex;show(f,fd,(λvs H Q E h=>Xa h<|no vs H Q E,λA outer s H args us vs Q E _ _ _ _ h=>Xa h<|no vs H Q E),b,F.kp,m)
end
section
variable {X:Cx}{n k:Nat}{x:Str}{ps:List Str}{sp:Sp}{p pos:Pos}{e:Expr}{es:List Expr}{t:TA}
theorem zae(C:Cal X.prog X.w X.K X.mg X.base n x ps sp)(g:Room k X.A)(j:n<=k)(hg:Gl X x)(L:PA X (e::es) t)(i:017=Fa:=by decide)
  (M:notStar e=N:=by rfl) (J:es.all notStar=N:=by rfl):PE X 046 (tCall sp [] E0 t):=by
 let(f,fd,F,b,kp,m):=C.ex;show zmi F (g.mono j) hg m kp b .nil pass0 L i (zbb M)<|zbq J
def GlV(mg:Y1)(x:Str)(v:V):Prop:=∃u,mg x=G u/\RelV v u
theorem za4(hg:Gl X x)(h:GlV X.mg x v)(hd:017=Fa:=by decide):PE X (.Name x pos) (tC v):=by
 let(u,m,r):=h;show zrc hg m r hd
end
theorem CompOk.of(kind:scope.kind=.function)
  (M:(scope.names.all λy=>y.2 !=.cell&&(y.2 !=.local||scope.names.lookup y.1==G .local)&&(y.2 !=.free||(X.env.scope.names.lookup y.1==G .cell||X.env.scope.names.lookup y.1==G .free)))=N)
  (J:(cp.all λp=>X.Nq[p.1]? ==G p.2&&scope.names.lookup p.2==G .free)=N):CompOk X scope cp:=by
 let g:=y0u.mp M;apply(kind,λy I e=>?_,λy I e=>?_,λy I e=>?_,λp l=>?_)
 .let q:=g y I;rw[y07,y07]at q;rw[e]at q;show Xa q.1.1 02
 .let q:=g y I;rw[y07,y07]at q;let q:=q.1.2;rw[e]at q;simpa using q
 .let q:=g y I;rw[y07,y07]at q;let q:=q.2;rw[e]at q;let q:X.env.scope.names.lookup y.1=G .cell\/X.env.scope.names.lookup y.1=G .free:=by simpa using q
  show q
 .let q:=y0u.mp J p l;rw[y07]at q;show(by simpa using q.1,by simpa using q.2)
inductive Kd(H:Hp):V->String->Prop where
 |non:Kd H .non "NoneType"
 |bl (b:Bool):Kd H (.bl b) "bool"
 |int (i:Int):Kd H (.int i) "int"
 |str (z:Str):Kd H (.str z) "str"
 |lst {a:Ad} {xs:List V} (e:H a=G (.lst xs)):Kd H (.ref a) "list"
 |tup {a:Ad} {xs:List V} (e:H a=G (.tup xs)):Kd H (.ref a) "tuple"
 |dK {a:Ad} {kvs:List (Key×V)} (e:H a=G (.dK kvs)):Kd H (.ref a) "dict"
def kinds:List String:=["NoneType","bool","int","str","list","tuple","dict"]
noncomputable def subT(k T:String):Bool:=k==T||(k=="bool"&&T=="int")
theorem kit_ok(K:Frag):∀k∈kinds,∀T∈["str","list","tuple","bool","int","dict"],PySem.W.kitOne K (.type k) (.type T)=G (subT k T):=by
 intro k hk T hT;simp only[kinds,y06,y0l,or_false]at hk hT;rcases hk with rfl|rfl|rfl|rfl|rfl|rfl|rfl<;>rcases hT with rfl|rfl|rfl|rfl|rfl|rfl<;>first|rfl|kernel_rfl
theorem Kd.ty{K:Frag}{H:Hp}{x:V}{k:String}(h:Kd H x k):TyOf K H x (.type k)/\k∈kinds:=by
 cases h with
 |non=>show(.non,by decide)
 |bl b=>show(.bl b,by decide)
 |int i=>show(.int i,by decide)
 |str z=>show(.str z,by decide)
 |lst e=>show(.lst e,by decide)
 |tup e=>show(.tup e,by decide)
 |dK e=>show(.dK e,by decide)
theorem Kd.same(h:Kd H x k)(g:Same H H'):Kd H' x k:=by
 cases h with
 |non=>show .non
 |bl b=>show .bl b
 |int i=>show .int i
 |str z=>show .str z
 |lst e=>show .lst<|g _ _ e
 |tup e=>show .tup<|g _ _ e
 |dK e=>show .dK<|g _ _ e
theorem Kd.inj(h:Kd H x k)(h':Kd H x k'):k=k':=by
 cases h with
 |lst e=>cases h' with|lst _=>rfl|tup D=>rw[e]at D;cases D|dK D=>rw[e]at D;cases D
 |tup e=>cases h' with|lst D=>rw[e]at D;cases D|tup _=>rfl|dK D=>rw[e]at D;cases D
 |dK e=>cases h' with|lst D=>rw[e]at D;cases D|tup D=>rw[e]at D;cases D|dK _=>rfl
 |non=>cases h';rfl
 |bl _=>cases h';rfl
 |int _=>cases h';rfl
 |str _=>cases h';rfl
theorem call_isk{X:Cx}:CallR X (.builtin "isinstance") (λxs H Q=>∃x T k,xs=[x,.ty T]/\Kd H x k/\T∈["str","list","tuple","bool","int","dict"]/\Q (.bl<|subT k T) H):=by
 intro pins s σ H xs us Q I r h;let(x,T,k,e,hk,hT,q):=h;let(h1,h2):=hk.ty (K:=X.K);show zm6 pins s σ H xs us Q I r (x,T,.type k,_,e,h1,kit_ok X.K k h2 T hT,q)
theorem za7(h:H p=B)(o:HO):Same H (upd H p o):=λb u q=>by rw[zan<|zap q h];show q
theorem Same.seqT{K:Frag}{H H':Hp}{a:Ad}{xs:List V}(e:Same H H')(h:SqT K H a xs):SqT K H' a xs:=by
 rcases h with(h|⟨o,h⟩)|h
 .exact .inl<|.inl (e _ _ h)
 .exact .inl<|.inr (o,e _ _ h)
 .exact .inr h
section
variable {H:Hp}{Q:VK}{v:V}{a:Option V}{r:St}{i:Nat}
theorem za1{t:TS}{D:Ends}{U:St}(O:St)(e:U=O)(h:t D O H):t D U H:=by rw[e];show h
theorem rd_v0:tVar 0 (G v::r) H Q=Q v H:=rfl
theorem rd_vS:tVar (i+1) (a::r) H Q=tVar i r H Q:=rfl
theorem znq{A Bq:Prop}:(if N=N then A else Bq)=A:=rfl
theorem znr{A Bq:Prop}:(if Fa=N then A else Bq)=Bq:=rfl
theorem rd_ss{a b:Str}:(scal (.str a) (.str b)=N)=True:=eq_true R
theorem rd_si{a:Str}{b:Int}:(scal (.str a) (.int b)=N)=True:=eq_true R
theorem rd_is{b:Str}{a:Int}:(scal (.int a) (.str b)=N)=True:=eq_true R
theorem rd_ii{a b:Int}:(scal (.int a) (.int b)=N)=True:=eq_true R
theorem rd_bb{a b:Bool}:(scal (.bl a) (.bl b)=N)=True:=eq_true R
def cBody(tn:List Str)(cp:Y6)(g:TG)(tif:TT)(te:TE)(U:St)(Q:VK)(J:It)(H1:Hp):Prop:=∀D,H1 D=B->∃W:Nat->Nat->St->Hp->Prop,
 (∃m,W 0 m (stB tn cp U) 055)/\∀i m f Hb,W i m f Hb->
  (J.stop i Hb/\Q 95 Hb)\/(J.go i Hb/\∀x H',J.yld i Hb x H'->g x f H' λd H2=>tif d H2 λc H3 =>
   if c=N then te d H3 λy H4=>∃ys,H4 D=G 82/\ys.length<ij/\∃m',m'<m/\W (i+1) m' d 073
   else∃m',m'<m/\W (i+1) m' d H3)
theorem zq1:tComp tn cp p g tif te U H Q=p U H λJ H1=>cBody tn cp g tif te U Q J H1:=rfl
def fBody(g:TG)(o:TS)(D:Ends)(U:St)(J:It)(H1:Hp):Prop:=∃W:Nat->Nat->St->Hp->Prop,(∃m,W 0 m U H1)/\∀i m U H,W i m U H->
 (J.stop i H/\D.nx U H)\/(J.go i H/\∃Nq:St->Hp->Prop,086/\∀x H',J.yld i H x H'->g x U H' λd H2=>o {D with nx:=Nq,ct:=Nq,bk:=D.nx} d H2)
theorem zwv:tFor p g o D U H=p U H λJ H1=>fBody g o D U J H1:=rfl
end
section
variable {tn:List Str}{cp:Y6}{g:TG}{tif:TT}{te:TE}{σ0:St}{Q:VK}{H1:Hp}
theorem ztk(n:Nat)(Pv:Ad->Nat->List V->St->Hp->Prop)(o:n<=ij)(Y:∀D,H1 D=B->Pv D 0 [] 051 055)
  (l:∀D i ys U H,H1 D=B->i<n->H D=G 82->Pv D i ys U H->J.go i H) (a:∀D ys U H,H1 D=B->H D=G 82->Pv D n ys U H->J.stop n H)
  (hs:∀D i ys U H x H',H1 D=B->i<n->H D=G 82->ys.length<=i->Pv D i ys U H->J.yld i H x H'->g x U H' λd H2=>tif d H2 λc H3 =>
   if c=N then te d H3 λy H4=>CStep D n i (Pv D) d y H4 else CSkip D n i (Pv D) d H3)
  (hd:∀D ys U H,H1 D=B->H D=G 82->ys.length<=n->Pv D n ys U H->Q 95 H):cBody tn cp g tif te σ0 Q J H1:=λD u =>
 zm0 (Pv D) o (Y D u) (λi ys U H=>l D i ys U H u) (λys U H=>a D ys U H u) (λi ys U H hi e j p x H' y=>hs D i ys U H x H' u hi e j p y) (λys U H=>hd D ys U H u)
theorem cb_str(Pv:Ad->Nat->List V->St->Hp->Prop)(o:z.cps.size<=ij)(Y:∀D,H1 D=B->Pv D 0 [] 051 055)
  (hs:∀D i ys U H c,H1 D=B->i<z.cps.size->z.cps[i]?=G c->H D=G 82->ys.length<=i->Pv D i ys U H->g (.str ⟨#[c]⟩) U H λd H2=>tif d H2 λc H3 =>
   if c=N then te d H3 λy H4=>CStep D z.cps.size i (Pv D) d y H4 else CSkip D z.cps.size i (Pv D) d H3)
  (hd:∀D ys U H,H1 D=B->H D=G 82->ys.length<=z.cps.size->Pv D z.cps.size ys U H->Q 95 H):cBody tn cp g tif te σ0 Q (Its z) H1:=λD u =>
 zwl (Pv D) o (Y D u) (λi ys U H c=>hs D i ys U H c u) (λys U H=>hd D ys U H u)
theorem zg7{K:Frag}{a:Ad}{xs:List V}(Pv:Ad->Nat->List V->St->Hp->Prop)(o:xs.length<=ij)(Y:∀D,H1 D=B->Pv D 0 [] 051 055)
  (j:∀D i ys U H,H1 D=B->i<=xs.length->H D=G 82->Pv D i ys U H->SqL K H a xs)
  (hs:∀D i ys U H x,H1 D=B->i<xs.length->xs[i]?=G x->H D=G 82->ys.length<=i->Pv D i ys U H->g x U H λd H2=>tif d H2 λc H3 =>
   if c=N then te d H3 λy H4=>CStep D xs.length i (Pv D) d y H4 else CSkip D xs.length i (Pv D) d H3)
  (hd:∀D ys U H,H1 D=B->H D=G 82->ys.length<=xs.length->Pv D xs.length ys U H->Q 95 H):cBody tn cp g tif te σ0 Q (Itl K a) H1:=λD u =>
 zte (Pv D) o (Y D u) (λi ys U H=>j D i ys U H u) (λi ys U H x=>hs D i ys U H x u) (λys U H=>hd D ys U H u)
theorem zk0{K:Frag}{a:Ad}{xs:List V}(Pv:Ad->Nat->List V->St->Hp->Prop)(o:xs.length<=ij)(Y:∀D,H1 D=B->Pv D 0 [] 051 055)
  (j:∀D i ys U H,H1 D=B->i<=xs.length->H D=G 82->Pv D i ys U H->SqT K H a xs)
  (hs:∀D i ys U H x,H1 D=B->i<xs.length->xs[i]?=G x->H D=G 82->ys.length<=i->Pv D i ys U H->g x U H λd H2=>tif d H2 λc H3 =>
   if c=N then te d H3 λy H4=>CStep D xs.length i (Pv D) d y H4 else CSkip D xs.length i (Pv D) d H3)
  (hd:∀D ys U H,H1 D=B->H D=G 82->ys.length<=xs.length->Pv D xs.length ys U H->Q 95 H):cBody tn cp g tif te σ0 Q (Itt K a) H1 :=
 ztk xs.length Pv o Y (λD i ys U H u hi J p=>(xs,xs[i],j D i ys U H u (y1s hi) J p,by simp[hi])) (λD ys U H u J p=>(xs,j D _ ys U H u 37 J p,y05 _)) (λD i ys U H x H' u hi J v p y=>by
  let(e,y):=y;subst e;show hs D i ys U _ x u hi (y xs<|j D i ys U _ u (y1s hi) J p) J v p) hd
variable {tb:TS}{D:Ends}
theorem zfe{K:Frag}{a:Ad}{xs:List V}(Pv:Nat->St->Hp->Prop)(Y:Pv 0 σ0 H1)(j:∀i U H,i<=xs.length->Pv i U H->SqL K H a xs)
  (hs:∀i x U H,xs[i]?=G x->Pv i U H->g x U H λd H2=>tb {D with nx:=Pv<|i+1,ct:=Pv<|i+1,bk:=D.nx} d H2) (hd:∀U H,Pv xs.length U H->D.nx U H):fBody g tb D σ0 (Itl K a) H1:=zwa Pv Y j hs hd
theorem zxg{K:Frag}{a:Ad}{xs:List V}(Pv:Nat->St->Hp->Prop)(Y:Pv 0 σ0 H1)(j:∀i U H,i<=xs.length->Pv i U H->SqT K H a xs)
  (hs:∀i x U H,xs[i]?=G x->Pv i U H->g x U H λd H2=>tb {D with nx:=Pv<|i+1,ct:=Pv<|i+1,bk:=D.nx} d H2) (hd:∀U H,Pv xs.length U H->D.nx U H):fBody g tb D σ0 (Itt K a) H1:=for_tup Pv Y j hs hd
theorem zjk{lo:Int}{n:Nat}(Pv:Nat->St->Hp->Prop)(Y:Pv 0 σ0 H1)
  (hs:∀i U H,i<n->Pv i U H->g (.int<|lo+i) U H λd H2=>tb {D with nx:=Pv<|i+1,ct:=Pv<|i+1,bk:=D.nx} d H2) (hd:∀U H,Pv n U H->D.nx U H):fBody g tb D σ0 (Itr lo n) H1:=zs0 Pv Y hs hd
end
theorem znv{d:Type}(xs:List d):∀(i k:Nat),((List.range k).map λm=>i+m).filterMap (λj=>xs[j]?)=(xs.drop i).take k
 |i,0=>by simp
 |i,k+1=>by
  let E:=znv xs (i+1) k;rw[y1r,y0p,y0w,y21];let e:((λm=>i+m)∘Nat.succ)=λm=>i+1+m:=by funext m;simp[Function.comp];omega
  rw[e];by_cases h:i<xs.length
  .rw[show i+0=i from rfl,y0e h,E,List.drop_eq_getElem_cons h,List.take_succ_cons]
  .rw[show i+0=i from rfl,y1u 00,E,y2v 00,y2v 00];simp
noncomputable def cutL{d:Type}(xs:List d)(lo hi:Option Int):List d:=(xs.drop<|HT.sIx xs.length 0 lo).take 098
theorem idx_go{a b:Nat}{A Bq:Int}(i:A=a)(o:Bq=b):PySem.sliceRange A Bq 1=(List.range<|b-a).map λm=>a+m:=by
 subst i o;unfold PySem.sliceRange;simp only[show(1:Int)>0 by decide,if_true];let r:(if(a:Int)<(b:Int)then((b:Int)-(a:Int)+1-1)/1 else 0).toNat=b-a:=by
  split<;>omega
 rw[r];apply y29 λm _=>?_;omega
theorem zqq(lo hi:Option Int)(n:Nat):Builtin.Str.strSliceIndices lo hi 1 n=(List.range<|HT.sIx n n hi-HT.sIx n 0 lo).map λm=>HT.sIx n 0 lo+m:=by
 unfold Builtin.Str.strSliceIndices;apply idx_go ?_ ?_
 .cases lo with
  |none=>rfl
  |some v =>
   rw[←HT.clip_eq v n 0];simp only[show(1:Int)>0 by decide,if_true];split<;>omega
 .cases hi with
  |none=>rfl
  |some v =>
   rw[←HT.clip_eq v n n];simp only[show(1:Int)>0 by decide,if_true];split<;>omega
theorem zqr(z:Str)(lo hi:Option Int):(Txt.slice z lo hi).cps.toList=cutL z.cps.toList lo hi:=by
 let E:z.cps.toList.length=z.length:=by simp[Str.length]
 unfold Txt.slice cutL;rw[E,zqq];let p:=znv z.cps.toList (HT.sIx z.length 0 lo)<|HT.sIx z.length z.length hi-HT.sIx z.length 0 lo;let e:(λ(j:Nat)=>z.cps.toList[j]?)=λ(j:Nat)=>z.cps[j]?:=by funext j;simp
 rw[e]at p;split
 .rename_i h;simp only[y00,y20,beq_self_eq_true,y17,beq_iff_eq]at h;let M:=HT.sIx_le z.length z.length 37 hi;let U:=HT.sIx_le z.length 0 (y1g _) lo;let Y:HT.sIx z.length 0 lo=0:=by omega
  let J:HT.sIx z.length z.length hi-HT.sIx z.length 0 lo=z.length:=h;rw[J,Y,List.drop_zero,y0v<|by rw[E];show y05 _]
 .rw[←p]
theorem zga(xs:List d)(lo hi:Option Int):(cutL xs lo hi).length<=xs.length:=by
 unfold cutL;rw[y19,y2m];omega
theorem zcs(xs:List d)(k:Nat):cutL xs (G (k:Int)) B=xs.drop k:=by
 unfold cutL;rw[HT.sIx_nat,HT.sIx_none,y0v<|by rw[y2m];show y05 _];by_cases h:k<=xs.length
 .rw[y3l h]
 .rw[Nat.min_eq_right 00,y2v 37,y2v 00]
theorem zlj(z:Str):z.length=z.cps.toList.length:=by simp[Str.length]
theorem zay{d:Type}{c:d}{r:List d}:atI (c::r) 0=G c:=zaj (j:=0) R
theorem RcOk.up(h:RcOk X j H x y b)(a:j<=k):RcOk X k H x y b:=λY U s A u v g=>h Y U s A u v 00
theorem zah(h:n<=1000):n<=ij:=y1s<|small1000 h
theorem zfi{d:Type}{xs:List d}{i:Int}{n:Nat}(o:xs.length=n)(Y:0<n):∃v,atI xs (i%(n:Int))=G v/\v∈xs:=by
 let M:0<=i%(n:Int):=y1c _ 00;let J:i%(n:Int)<n:=y10 _ 00;let U:(i%(n:Int)).toNat<xs.length:=by omega
 apply(xs[(i%(n:Int)).toNat],?_,y16 U);let e:i%(n:Int)=(((i%(n:Int)).toNat:Nat):Int):=by omega
 let q:atI xs (((i%(n:Int)).toNat:Nat):Int)=G xs[(i%(n:Int)).toNat]:=zaj 06;rw[←e]at q;show q
theorem zex(g:Room k A)(j:Nat)(h:j<=64):A.units+j<cLine:=by have:=g.units;omega
section
variable {K:Frag}{h:Heap}{mg:Y1}
theorem dfn_mk{x:Str}{st:Stmt}{ps:List Str}{f:Ad}{oc:Va}{M an:Option Ad}{p:Y8}{kV doc pm cdv ct:Va}(X:K.In h)(Gq:h.Ns iu mg)
  (a:PySem.W.nsIn K iu x=G (G 45)) (l:K.lookup f=G (oc,M,.func 085,p))
  (c:PySem.W.codeIn K cdv x=N) (k:PySem.W.keepIn K 45=N)
  (Y:∀(kV doc pm:Va) (an:Option Ad) (cdv ct:Va) (us:List Va),us.length=ps.length->jl 085 044=pure (ps.zip us)):Dfn K mg x st ps :=
 (f,_,zfr l c k,(zfr l c k).binds Y,PySem.W.mg_of X Gq a)
theorem law_mk{x y:Str}{st:Stmt}{f A:Ad}{oc:Va}{M an:Option Ad}{p:Y8}{kV doc pm cdv ct:Va}(X:K.In h)(Gq:h.Ns iu mg)(d:mg x=G (.ref A))
  (a:PySem.W.nsIn K iu x=G (G 45)) (l:K.lookup f=G (oc,M,.func 085,p))
  (c:PySem.W.codeIn K cdv x=N) (k:PySem.W.keepIn K 45=N) (Y:∀(s:ii) (v:Va),jR s 085 ([v],[]) [(y,v)]) :
  ∃fd:i8,(∀(s:ii) (v:Va),jR s fd ([v],[]) [(y,v)])/\Fun K x x st A fd:=by
 let e:=d.symm.trans<|PySem.W.mg_of X Gq a;cases e;show(_,Y,zfr l c k)
theorem glv_mk(X:K.In h)(Gq:h.Ns iu mg)(a:PySem.W.nsIn K iu x=G (G u))(r:RelV v u):GlV mg x v:=(u,PySem.W.mg_of X Gq a,r)
end
section
variable {CX:CXT}{P:ik}{w:World}{K:Frag}{mg:Y1}{base:Heap}{Nq:List Str}{x:Str}{sc:Scope}{f:Ad}{cdv:Va}{A:iq}{outer:List Env}{s:ii}{H:Hp}{E:XK}
theorem cxK:(cxOf CX P w K mg base Nq x sc f cdv A outer s H E).K=K:=rfl
theorem cxP:(cxOf CX P w K mg base Nq x sc f cdv A outer s H E).prog=P:=rfl
theorem cxW:(cxOf CX P w K mg base Nq x sc f cdv A outer s H E).w=w:=rfl
end
section
variable {X:Cx}{st:Stmt}{rest:List Stmt}{t u:TS}{e:Expr}{te:TE}
def tCut(t u:TS):TS:=λD U H=>∃Pv:St->Hp->Prop,t {D with nx:=Pv} U H/\∀O H',Pv O H'->u D O H'
theorem zde(M:PS X st t)(J:PSs X rest u):PSs X (st::rest) (tCut t u):=by
 intro Y s U H D I h;let(Pv,L,i):=h;apply ji<|thn (M Y s U H {D with nx:=Pv} I L) λf s1 q=>?_;cases f with
 |next =>
  let(O,H',a,q):=q;show J Y s1 O H' D a<|i O H' q
 |ret v=>show q
 |brk=>show q
 |cont=>show q
end
local instance (priority:=10000):BEq Key:=instBEqOfDecidableEq
local instance (priority:=10000):LawfulBEq Key:=inferInstanceAs (LawfulBEq (Sum Int Str))
noncomputable def onceK:List Key->List Key->List Key
 |a,[]=>a
 |a,k::r=>onceK (if k∈a then a else a++[k]) r
theorem zh2:∀(ks a:List Key) (k:Key),onceK a (ks++[k])=if k∈onceK a ks then onceK a ks else onceK a ks++[k]
 |[],a,k=>rfl
 |j::r,a,k=>zh2 r _ k
theorem zet:∀(ks a:List Key),(onceK a ks).length<=a.length+ks.length
 |[],a=>y05 _
 |k::r,a=>by
  let h:=zet r<|if k∈a then a else a++[k];change(onceK (if k∈a then a else a++[k]) r).length<=a.length+(r.length+1);split at h<;>rename_i c
  .rw[Xq c];omega
  .rw[Xp c];rw[y02,y0i]at h;omega
theorem zgt:∀(ks a:List Key),a.Nodup->((onceK a ks).length=a.length+ks.length↔(a++ks).Nodup)
 |[],a,h=>by simp[onceK,h]
 |k::r,a,h=>by
  change(onceK (if k∈a then a else a++[k]) r).length=a.length+(r.length+1)↔_;by_cases c:k∈a
  .rw[Xq c];let l:=zet r a;constructor
   .intro e;omega
   .intro e;let:=(y3y.mp e).2.2 k c k<|y04;show Xa R this
  .rw[Xp c];let h':(a++[k]).Nodup:=zr3 h c;let E:=zgt r (a++[k]) h';rw[y02,y0i,y27]at E;rw[show a.length+(r.length+1)=a.length+1+r.length by omega];show E
theorem zrm(ks:List Key):(onceK [] ks).length=ks.length↔ks.Nodup:=by
 let h:=zgt ks [] y2b;simpa using h
structure SetR{P:ik}{w:World}{T:Type}[DecidableEq T](knd:PySem.KeyKind P w T)(a:Ad)(m:Nat)(Rp:Heap->List T->Prop):Prop where
 kept:∀{h h':Heap} {ks:List T},Rp h ks->(∀o,h.get? a=G o->h'.get? a=G o)->Rp h' ks
 add:∀{A:iq} {E:Y0} {s:ii} {ks:List T} {k:T} {v:Va} {Q:Bool->ii->Prop},knd.is k v=N->ks.length+1<m->Rp s.heap ks->(∀h' b,Heap.SameBut a s.heap h'->Rp h' (ks++[k])->Q b {s with heap:=h'})->wpAny (model P w) A (setAddHashed a v<|knd.hash k) Q E s
section
variable {P:ik}{w:World}{A:iq}{Rq:Result->ii->Prop}{it:Ad}{fp wr:List Ad}{Gq:Array jp->Array jp->Prop}{n:Nat}{Pv:Nat->Va->Prop}{St:Nat->ii->Prop}
def SetIs(P:ik)(w:World)(h:Heap)(a:Ad)(ks:List Key):Prop:=h.SetOf 036 a (λk=>decide (k∈onceK [] ks)) (onceK [] ks).length
theorem SetIs.kept(x:SetIs P w h a ks)(k:∀o,h.get? a=G o->h'.get? a=G o):SetIs P w h' a ks:=by
 let(o,es,ep,t,T,rest):=x;show(o,es,ep,t,k o T,rest)
theorem zx9(h:(036).is k v=N):v.scannable=N:=by
 rcases za3 h with⟨i,t,rfl,rfl⟩|⟨x,t,rfl,rfl⟩|⟨c,rfl,rfl⟩<;>rfl
theorem zo3{T:Type}[DecidableEq T]{knd:PySem.KeyKind P w T}{r:Heap->List T->Prop}(W:WalksS P w A.in1 it fp wr Gq n Pv St)(a:Ad)(u:SetR knd a (n+1) r)(L:a∉fp)(ks:List T)(Q:ks.length=n)(D:∀i v,Pv i v->∀k,ks[i]?=G k->knd.is k v=N):
  ∀(m i:Nat) (s:ii),n-i=m->i<=n->St i s->r s.heap (ks.take i)->(∀s',Moved (a::wr) Gq s s'->r s'.heap ks->Rq (.ok<|.ret .none) s')->
   iZ 011 A (.builtin "set.update.loop" ([.ref a,.ref it],[])) Rq s:=by
 let p:a∉wr:=λh=>L<|W.sub _ h;let up:∀b∈wr,b∈a::wr:=λb h=>y08 _ h;intro m
 induction m with
 |zero =>
  intro i s l hi st x q;obtain rfl:i=n:=by omega
  rw[y0v<|y44 Q]at x;apply iT F.entry_set_update_loop ?_;rw[Around.under_plainId F.plain_set_update_loop _];apply ie<|W.done s _ _ st λs' c=>ig<|q s' (c.mono up) (u.kept x λo e=>c.heap a _ p e)
 |succ m E =>
  intro i s l hi st x q;let lt:i<n:=by omega
  let C:ks[i]?=G ks[i]:=by simp[Q,lt]
  apply iT F.entry_set_update_loop ?_;rw[Around.under_plainId F.plain_set_update_loop _];apply ie<|W.item i s _ _ lt st λv s' pv J c=>?_;let is:=D i v pv _ C;let f:=u.kept (h':=s'.heap) x λo e=>c.heap a _ p e;apply ie (m:=holding [v]<|setAdd a v)<|iA ?_;unfold setAdd;apply iA<|ie (knd.pyHash (k:=ks[i]) is ?_);apply u.add (s:={s' with toks:=s'.toks+1}) is (by rw[y19];omega) f λh' y g H=>?_;let j:r h' (ks.take<|i+1):=by rw[y1d,C,y37];show H
  apply ig (j5 F.plain_set_update_loop _,E (i+1) _ 00 lt (W.frame _ s' _ _ J (y3t _) λb Y o e=>?_) j λs2 I d=>?_)
  .rw[g.2 b λh=>L<|h▸Y];show e
  .refine q s2 (Moved.trans W.gtrans ((c.mono up).then_heap (y3t _) λb o Y e=>?_) I) d;rw[g.2 b λh=>Y<|h▸y04];show e
theorem zx5(a:Ad)(l:m<iJ):SetR 036 a m (λh ks=>SetIs P w h a ks):=⟨λx k=>x.kept k,λ{A E s ks k v Q} is j x q=>by
 let room:=zet ks [];rw[y14]at room;apply wpAny_setAddHashed_of (knd:=mixKind P w) is (zx9 is) x 00 λh' g H=>q h' _ g ?_;unfold SetIs;rw[zh2];apply SetOf_congr H (λk'=>?_) ?_
 .by_cases c:k∈onceK [] ks
  .rw[Xq c];by_cases e:k'=k
   .subst e;simp[c]
   .simp[e]
  .rw[Xp c];simp[y0o]
 .by_cases c:k∈onceK [] ks
  .rw[Xq c];simp[c]
  .rw[Xp c];simp[c]⟩
end
section
variable {P:ik}{w:World}{A:iq}{E:Y0}{s:ii}
set_option maxHeartbeats 3200000 in
theorem zqu{T:Type}[DecidableEq T]{knd:PySem.KeyKind P w T}{Rp:Heap->List T->Prop}{Lp:Bool->Prop}{l:Ad}{its:Array Va}{ks:List T}{Q:Y0}(hh:A.handled=B)(hl:s.heap.IsList l its)(hk:ks.length=its.size)(hi:∀(i:Nat) v k,its[i]?=G v->ks[i]?=G k->knd.is k v=N)
  (SR:SetR knd s.heap.objs.size (its.size+1) Rp) (fresh:∀(h:Heap) led,Lp led->h.get? s.heap.objs.size=G {cls:=.type "set",dict:=B,data:=.set #[] 0 (.fresh 0 0 led)}->Rp h [])
  (nw:∀{A:iq},iZ 011 A (.call (.builtin "set.__new__") ([.type "set",.ref l],[])) (wants (λobj s1=>∃led:Bool,Lp led/\obj=.ref s.heap.objs.size/\s1={s with heap:=s.heap.push {cls:=.type "set",dict:=B,data:=.set #[] 0 (.fresh 0 0 led)} }) E) s)
  (h:∀(h':Heap) (tk:Nat),Rp h' ks->093->Q 034 {s with heap:=h',toks:=tk}) :
  wpAny 011 A (call (.type "set") [.ref l]) Q E s:=by
 let(c,tl,hmro):=F.called_set.mro;let made:=F.called_set.made;let sub:=F.called_set.sub;apply jq<|codeAny_of_tree (ig (Code.quiet_builtin _ 43,iT F.entry_type_call ?_));rw[Around.under_plain (weight_type_call_type "set" [.ref l] []) rfl];let a1:=F.called_set.notType;let a2:=F.called_set.canCreate;let a3:=F.typeCall_set_1<|.ref l
 repeat (any_goals (first|assumption|wp_step))
 apply iM nw λr s1 hr=>?_;cases r with
 |error e=>show hr
 |ok fl =>
  cases fl with
  |ret obj =>
   let(led,lp,rfl,rfl):=hr;let at0:(084).get? s.heap.objs.size=G {cls:=.type "set",dict:=B,data:=.set #[] 0 (.fresh 0 0 led)}:=y0c _ rfl;let ty:Shared.TypeIs {s with heap:=s.heap.push {cls:=.type "set",dict:=B,data:=.set #[] 0 (.fresh 0 0 led)} } (.ref s.heap.objs.size) "set":=(_,at0,R);let i1:=F.called_set.init.lookup;let i2:=F.called_set.init.bind 034
   repeat (any_goals (first|assumption|wp_step))
   apply iM (codeAny_call_builtin («R»:=wants (λr s2=>r=.none/\∃h' tk,s2={s with heap:=h',toks:=tk}/\Rp h' ks/\
     093) E) F.called_set.init.plain F.entry_set_init (check_set_init_1 ty ?_)) λr2 s2 hr2=>?_
   .let(ol,ho,hc,nl,hd):=hl;let(oc,od,oda,osl):=ol;simp only at hc hd;subst hc;subst hd;let ho':(084).get? l=G {cls:=.type "list",dict:=od,data:=.seq its nl,slots:=osl}:=y01 _ ho;let b1:=F.sub_list_set;let b2:=F.sub_list_frozenset;let b3:(Va.type "list"==Va.type "dict")=Fa:=by decide
    let hl1:(084).IsList l its:=(_,ho',R,nl,R);unfold Builtin.«set.__init__» noKeywords Builtin.Frozenset.updateFrom;generalize hPI:jB=PI
    wp_walk
    subst hPI;apply iU hl1 ?_;apply ie<|wpAny_runValue ?_;let ll:l<s.heap.objs.size:=y0h ho;let h3:A.in1.in1.in1.handled=B:=by simp[hh]
    let ne:l≠(084).objs.size:=by rw[y12];show y0m<|y2x ll
    let nf:s.heap.objs.size∉[(084).objs.size,l]:=by
     rw[y12];intro z;rcases y06.mp z with z|z
     .exact Xa z<|y0m (y23 _)
     .exact Xa (y03.mp z)<|y28 ll
    apply zo3 ((Walks.list h3 _ l ne its).toS) s.heap.objs.size SR nf ks hk (λi v pv k e=>hi i v k pv e) (its.size-0) 0 _ 00 (y1g _) ((_,y0c _ R,R,R),(hl1.push _)) ?x0 ?q0
    case x0 =>
     apply SR.kept (h:=s.heap.push {cls:=.type "set",dict:=B,data:=.set #[] 0 (.fresh 0 0 led)}) ?_ λo e=>y01 _ e;rw[List.take_zero];show fresh _ led lp at0
    case q0 =>
     intro s' mv x';let(h',g',d',tk',os'):=s';let eg:g'=s.gens:=mv.gens;let ed:d'=s.drawn:=mv.drawn;let eo:os'=s.os:=mv.os;subst eg;subst ed;subst eo;apply ig<|ig (R,h',tk',R,x',λb o hb e=>mv.heap b o ?_<|y01 _ (y01 _ e));rw[y12];intro z;rcases y06.mp z with z|z
     .exact Xa z<|y0m hb
     .exact Xa (y03.mp z)<|y0m (y2x hb)
   .cases r2 with
    |error e=>show hr2
    |ok f2 =>
     cases f2 with
     |ret r =>
      let(rfl,h',tk,rfl,x',k'):=hr2
      repeat (any_goals (first|assumption|wp_step))
      show h _ _ x' k'
     |_=>show hr2.elim
  |_=>show hr.elim
theorem zl3{its:Array Va}{ks:List Key}(hh:A.handled=B)(j:s.heap.IsList l its)(C:ks.length=its.size)(hi:∀(i:Nat) v k,its[i]?=G v->ks[i]?=G k->(036).is k v=N)
  (Y:its.size+1<iJ)
  (h:∀(h':Heap) (tk:Nat),SetIs P w h' s.heap.objs.size ks->093->Q 034 {s with heap:=h',toks:=tk}) :
  wpAny 011 A (call (.type "set") [.ref l]) Q E s :=
 zqu (Lp:=λ_=>True) hh j C hi (zx5 _ Y) (λh led _ a=>SetOf_congr ((setObjOf_fresh (knd:=mixKind P w) led).setOf a<|by unfold iJ;omega) (λ_=>rfl) R) (code_set_new_1 (.ref l) λled=>(led,trivial,R,R)) h
end
noncomputable def setK(P:ik)(w:World)(a:Ad)(ks:List Key):HO:=.ext λh=>SetIs P w h a ks
theorem zm5(hc:X.calm=N):CallR X (.type "set") (λxs H Q=>∃(p:Ad) (ks:List Key),xs=[.ref p]/\SqL X.K H p (ks.map kV)/\ks.length<=1000/\∀a,H a=B->Q 09 (upd H a<|setK X.prog X.w a ks)):=by
 intro Y s U H xs us Q I r h;let(p,ks,rfl,O,hz,q):=h;let(u,rfl,d):=vals1 r;cases(show u=Va.ref p from d);let(vs,f,pl,_):=I.list O;let lv:=f.length;rw[y00]at lv;apply zl3 (ks:=ks) 037 pl.isList (by rw[y0a];show lv) (λi v k e1 L=>?_) (by rw[y0a];unfold iJ;omega) λh' tk x k=>?_
 .let c:vs[i]?=G v:=by simpa using e1
  let(u,e,q):=f.get (i:=i) (x:=kV k) (by rw[y0r,L];rfl);rw[c]at e;cases e;show zv2 q
 .refine(.ref s.heap.objs.size,_,I.laid (t':=tk) (λb u e=>k b u (y0h e) e) 37 ?_,R,q _ I.fresh);let(o,es,ep,t,T,rest):=id x;show(x,(o,T),λM J j k1=>j.kept k1)
theorem zjq:CallR X (.builtin "len") (λxs H Q=>∃(p:Ad) (ks:List Key),xs=[.ref p]/\H p=G (setK X.prog X.w p ks)/\ks.length<=1000/\Q (.int ((onceK [] ks).length:Int)) H):=by
 intro Y s U H xs us Q I r h;let(p,ks,rfl,O,hz,q):=h;let(u,rfl,d):=vals1 r;cases(show u=Va.ref p from d);let(x,_):=I.hok p _ O;let(o,es,ep,t,T,a,hd,_,_,_,C,y):=x;let room:=zet ks [];rw[y14]at room;apply call_len_set T a hd C (by rw[y];omega) ?_;rw[y];show(.int _,H,I.tok _,(_,R),q)
def tLz(t:TS):TS:=t
theorem lz{r t:TS}{D:Ends}{U:St}{H:Hp}(e:r=t)(h:t D U H):tLz r D U H:=e▸h
def tIfZ(c:TT)(t u:TS):TS:=λD U H=>∀r,r=t->c U H λb H1=>if b=N then tLz r D U H1 else u D U H1
def tIfY(c:TT)(t u:TS):TS:=λD U H=>∀r,r=u->c U H λb H1=>if b=N then t D U H1 else tLz r D U H1
def tIfX(c:TT)(t u:TS):TS:=λD U H=>∀r,r=t->∀r',r'=u->c U H λb H1=>if b=N then tLz r D U H1 else tLz r' D U H1
def tSeqZ(t u:TS):TS:=λD U H=>∀r,r=u->t {D with nx:=tLz r D} U H
def tCutZ(t u:TS):TS:=λD U H=>∀r,r=u->∃Pv:St->Hp->Prop,t {D with nx:=Pv} U H/\∀O H',Pv O H'->tLz r D O H'
section
variable {X:Cx}{st:Stmt}{rest a b:List Stmt}{c:Expr}{t u:TS}{tc:TT}{pos:Pos}
theorem zhv(g:PT X c tc)(L:PSs X a t)(E:PSs X b u):PS X (.If c a b pos) (tIfZ tc t u):=λY s U H D I h=>zaz g L E Y s U H D I<|h t R
theorem zww(g:PT X c tc)(L:PSs X a t)(E:PSs X b u):PS X (.If c a b pos) (tIfX tc t u):=λY s U H D I h=>zaz g L E Y s U H D I<|h t R u R
theorem zbr(M:PS X st t)(J:PSs X rest u):PSs X (st::rest) (tSeqZ t u):=λY s U H D I h=>zab M J Y s U H D I<|h u R
theorem zup(M:PS X st t)(J:PSs X rest u):PSs X (st::rest) (tCutZ t u):=λY s U H D I h=>zde M J Y s U H D I<|h u R
end
theorem itN{A Bq:Prop}(h:Bq):asB (.bl N) λc=>if(!c)=N then A else Bq:=(Xp 02:(if(!N)=N then A else Bq)=Bq)▸h
theorem itB{A Bq:Prop}(h:A):asB (.bl N) λc=>if c=N then A else Bq:=(Xq rfl:(if N=N then A else Bq)=A)▸h
theorem ixn{S:List V->Prop}{xs:List V}{i:Int}{v:V}{Rq:V->Prop}(e:S xs)(h:atI xs i=G v)(r:Rq v):∃xs,S xs/\∃v,atI xs i=G v/\Rq v:=(xs,e,v,h,r)
structure New(H:Hp)(p:Ad)(o:HO)(H':Hp):Prop where
 nil:H p=B
 g:Same H H'
 at':H' p=G o
 eq:H'=upd H p o
theorem New.mk'(h:H p=B)(o:HO):New H p o (upd H p o):=(h,za7 h o,zao,R)
theorem New.lst{K:Frag}{H H':Hp}{p:Ad}{xs:List V}(n:New H p 98 H'):SqL K H' p xs:=.of n.at'
theorem Same.wr(g:Same H H')(h:H p=B)(o:HO):Same H (upd H' p o):=λb u e=>by rw[zan<|zap e h];show g b u e
section
variable {X:Cx}{e:Expr}{es:List Expr}{t:TA}{pos:Pos}
def tTupN(t:TA):TE:=λU H Q=>t U H λxs H1=>xs.length<=ij/\∀p H',New H1 p 015 H'->Q 91 H'
def tLstN(t:TA):TE:=λU H Q=>t U H λxs H1=>xs.length<=ij/\∀p H',New H1 p 98 H'->Q 91 H'
theorem zaq(h:PA X es t):PE X (.Tuple es j pos) (tTupN t):=by
 intro Y s U H Q I D;apply wpAny_Tuple_spliced<|thn (h pos Y s U H _ I D) λus s1 (xs,H1,A,r,z,q)=>(by rw[←r.length];show z,?_);apply(.ref s1.heap.objs.size,upd H1 s1.heap.objs.size 015,A.laid (t':=s1.toks) (λb u e=>y01 _ e) 37 ?_,R,q _ _<|.mk' A.fresh _);show(z,us,r,(_,y0c _ R,R,_,R))
theorem zax(h:PA X es t):PE X (.List es pos) (tLstN t):=by
 intro Y s U H Q I D;apply wpAny_List_spliced<|thn (h pos Y s U H _ I D) λus s1 (xs,H1,A,r,z,q)=>(by rw[←r.length];show z,?_);apply(.ref s1.heap.objs.size,upd H1 s1.heap.objs.size 98,A.laid (t':=s1.toks) (λb u e=>y01 _ e) 37 ?_,R,q _ _<|.mk' A.fresh _);show(z,us,0,r,y0c _ R)
def rSlLN(K:Frag):V->Option Int->Option Int->Hp->VK->Prop:=λx lo hi H Q=>∃a xs,x=.ref a/\SqL K H a xs/\∀p H',New H p (.lst<|cutL xs lo hi) H'->Q 91 H'
theorem zuj:SlR X (rSlLN X.K):=λY s U H x v c vu lo hi f Q I d hs pl y h=>by
 let(a,xs,e,O,q):=h;show zx3 Y s U H x v c vu lo hi f Q I d hs pl y (a,xs,e,O,λp r=>q p _<|.mk' r _)
def rCatN:R2:=λx y H Q=>∃l b xs zs,x=.ref l/\y=.ref b/\H l=G 98/\H b=G (.lst zs)/\xs.length+zs.length<=ij/\∀p H',New H p (.lst<|xs++zs) H'->Q 91 H'
theorem op_catN:OpR X (iE .Add) rCatN:=λY s U H x y v u Q I d O h=>by
 let(l,b,xs,zs,e1,L,M,J,hz,q):=h;show op_cat Y s U H x y v u Q I d O (l,b,xs,zs,e1,L,M,J,hz,λp r=>q p _<|.mk' r _)
theorem zjp:CallR X (.type "list") (λxs H Q=>∃p ys,xs=[.ref p]/\(SqL X.K H p ys\/SqT X.K H p ys)/\∀l H',New H l 82 H'->Q (.ref l) H'):=λY s U H xs us Q I r h=>by
 let(p,ys,e,D,q):=h;show zk4 Y s U H xs us Q I r (p,ys,e,D,λl a=>q l _<|.mk' a _)
theorem zd2:CallR X (.type "tuple") (λxs H Q=>∃p ys,xs=[.ref p]/\((SqL X.K H p ys/\∀l H',New H l (.tup ys) H'->Q (.ref l) H')\/(SqT X.K H p ys/\Q 91 H))):=λY s U H xs us Q I r h=>by
 let(p,ys,e,D):=h;apply zjo Y s U H xs us Q I r (p,ys,e,?_);rcases D with⟨M,q⟩|M
 .exact .inl (M,λl a=>q l _<|.mk' a _)
 .exact .inr M
theorem zk2(g:X.calm=N):CallR X (.type "set") (λxs H Q=>∃(p:Ad) (ks:List Key),xs=[.ref p]/\SqL X.K H p (ks.map kV)/\ks.length<=1000/\∀a H',New H a (setK X.prog X.w a ks) H'->Q 09 H'):=λY s U H xs us Q I r h=>by
 let(p,ks,e,O,hz,q):=h;show zm5 g Y s U H xs us Q I r (p,ks,e,O,hz,λa c=>q a _<|.mk' c _)
end
section
variable {tn:List Str}{cp:Y6}{g:TG}{tif:TT}{te:TE}{σ0:St}{Q:VK}{H1:Hp}{K:Frag}{a:Ad}{xs:List V}
def PMap(S:St->Prop)(f:V->V)(xs:List V)(H1:Hp)(i:Nat)(ys:List V)(U:St)(H:Hp):Prop:=Same H1 H/\S U/\ys=(xs.take i).map f
theorem zeg(S:St->Prop)(f:V->V)(o:xs.length<=1000)(I:SqL K H1 a xs)(Y:S 051)
  (hs:∀D i U H x,i<xs.length->x∈xs->xs[i]?=G x->Same H1 H->H1 D=B->H D=G (.lst<|(xs.take i).map f)->S U->g x U H λd H2=>tif d H2 λc H3 =>
   if c=N then te d H3 λy H4=>CStep D xs.length i (PMap S f xs H1) d y H4 else CSkip D xs.length i (PMap S f xs H1) d H3)
  (hd:∀D H,H1 D=B->Same H1 H->H D=G (.lst<|xs.map f)->Q 95 H):cBody tn cp g tif te σ0 Q (Itl K a) H1:=by
 apply zg7 (K:=K) (a:=a) (xs:=xs) (λD i ys U H=>PMap S f xs H1 i ys U H) (zah o) (λD u=>(za7 u _,Y,R)) (λD i ys U H _ _ _ p=>p.1.seq I) ?_ ?_
 .rintro D i ys U H x u hi O J j ⟨M,r,rfl⟩;show hs D i U H x hi (y0d O) O M u J r
 .rintro D ys U H u J j ⟨M,r,rfl⟩;rw[y0v 37]at J;show hd D H u M J
theorem zxn(S:St->Prop)(f:V->V)(o:xs.length<=1000)(I:SqT K H1 a xs)(Y:S 051)
  (hs:∀D i U H x,i<xs.length->x∈xs->xs[i]?=G x->Same H1 H->H1 D=B->H D=G (.lst<|(xs.take i).map f)->S U->g x U H λd H2=>tif d H2 λc H3 =>
   if c=N then te d H3 λy H4=>CStep D xs.length i (PMap S f xs H1) d y H4 else CSkip D xs.length i (PMap S f xs H1) d H3)
  (hd:∀D H,H1 D=B->Same H1 H->H D=G (.lst<|xs.map f)->Q 95 H):cBody tn cp g tif te σ0 Q (Itt K a) H1:=by
 apply zk0 (K:=K) (a:=a) (xs:=xs) (λD i ys U H=>PMap S f xs H1 i ys U H) (zah o) (λD u=>(za7 u _,Y,R)) (λD i ys U H _ _ _ p=>p.1.seqT I) ?_ ?_
 .rintro D i ys U H x u hi O J j ⟨M,r,rfl⟩;show hs D i U H x hi (y0d O) O M u J r
 .rintro D ys U H u J j ⟨M,r,rfl⟩;rw[y0v 37]at J;show hd D H u M J
theorem zc3(o:xs.length<=1000)(O:xs[i]?=G x)(u:H1 D=B)(C:H4 D=G (.lst<|(xs.take i).map f))(M:Same H1 H4)(s2:S d)(e:y=f x):
  CStep D xs.length i (PMap S f xs H1) d y H4:=by
 let hi:i<xs.length:=(y09.mp O).1;apply cstep (zah o) hi C (by rw[y00,y19];omega) (M.wr u _,s2,?_);rw[y1d,O,y0t,e];rfl
def PFil(S:St->Prop)(p:V->Bool)(f:V->V)(xs:List V)(H1:Hp)(i:Nat)(ys:List V)(U:St)(H:Hp):Prop:=Same H1 H/\S U/\ys=((xs.take i).filter p).map f
theorem zm3(S:St->Prop)(p:V->Bool)(f:V->V)(o:xs.length<=1000)(I:SqL K H1 a xs)(Y:S 051)
  (hs:∀D i U H x,i<xs.length->x∈xs->xs[i]?=G x->Same H1 H->H1 D=B->H D=G (.lst<|((xs.take i).filter p).map f)->S U->g x U H λd H2=>tif d H2 λc H3 =>
   if c=N then te d H3 λy H4=>CStep D xs.length i (PFil S p f xs H1) d y H4 else CSkip D xs.length i (PFil S p f xs H1) d H3)
  (hd:∀D H,H1 D=B->Same H1 H->H D=G (.lst<|(xs.filter p).map f)->Q 95 H):cBody tn cp g tif te σ0 Q (Itl K a) H1:=by
 apply zg7 (K:=K) (a:=a) (xs:=xs) (λD i ys U H=>PFil S p f xs H1 i ys U H) (zah o) (λD u=>(za7 u _,Y,R)) (λD i ys U H _ _ _ p=>p.1.seq I) ?_ ?_
 .rintro D i ys U H x u hi O J j ⟨M,r,rfl⟩;show hs D i U H x hi (y0d O) O M u J r
 .rintro D ys U H u J j ⟨M,r,rfl⟩;rw[y0v 37]at J;show hd D H u M J
theorem zxp(S:St->Prop)(p:V->Bool)(f:V->V)(o:xs.length<=1000)(I:SqT K H1 a xs)(Y:S 051)
  (hs:∀D i U H x,i<xs.length->x∈xs->xs[i]?=G x->Same H1 H->H1 D=B->H D=G (.lst<|((xs.take i).filter p).map f)->S U->g x U H λd H2=>tif d H2 λc H3 =>
   if c=N then te d H3 λy H4=>CStep D xs.length i (PFil S p f xs H1) d y H4 else CSkip D xs.length i (PFil S p f xs H1) d H3)
  (hd:∀D H,H1 D=B->Same H1 H->H D=G (.lst<|(xs.filter p).map f)->Q 95 H):cBody tn cp g tif te σ0 Q (Itt K a) H1:=by
 apply zk0 (K:=K) (a:=a) (xs:=xs) (λD i ys U H=>PFil S p f xs H1 i ys U H) (zah o) (λD u=>(za7 u _,Y,R)) (λD i ys U H _ _ _ p=>p.1.seqT I) ?_ ?_
 .rintro D i ys U H x u hi O J j ⟨M,r,rfl⟩;show hs D i U H x hi (y0d O) O M u J r
 .rintro D ys U H u J j ⟨M,r,rfl⟩;rw[y0v 37]at J;show hd D H u M J
theorem zg5(o:xs.length<=1000)(O:xs[i]?=G x)(l:p x=N)(u:H1 D=B)(C:H4 D=G (.lst<|((xs.take i).filter p).map f))(M:Same H1 H4)(s2:S d)(e:y=f x):
  CStep D xs.length i (PFil S p f xs H1) d y H4:=by
 let hi:i<xs.length:=(y09.mp O).1;apply cstep (zah o) hi C ?_ (M.wr u _,s2,?_)
 .rw[y00];let:=y1m p<|xs.take i;rw[y19]at this;omega
 .rw[y1d,O,y1o,y0t,e];simp[l]
theorem zg6(O:xs[i]?=G x)(l:p x=Fa)(U:H3 D=G (.lst<|((xs.take i).filter p).map f))(u:Same H1 H3)(s2:S d):
  CSkip D xs.length i (PFil S p f xs H1) d H3:=by
 let hi:i<xs.length:=(y09.mp O).1;apply cskip hi U ?_ (u,s2,?_)
 .rw[y00];let:=y1m p<|xs.take i;rw[y19]at this;omega
 .rw[y1d,O,y1o];simp[l]
end
section
variable {X:Cx}{k:Nat}{H:Hp}{a b:Ad}{xs ys:List V}
theorem zs3(a b:Str):eqV (.str a) (.str b)=decide (a=b):=by
 by_cases h:a=b
 .subst h;simp[eqV]
 .simp[eqV,h]
theorem znc:∀(xs ys:List Str),(xs.length==ys.length&&(062).all λj=>eqV ((xs.map V.str).getD j .non)<|(ys.map V.str).getD j .non)=decide (xs=ys)
 |[],[]=>rfl
 |[],y::ys=>by simp
 |x::xs,[]=>by simp
 |x::xs,y::ys=>by
  let E:=znc xs ys;let e:(List.range (x::xs).length).all (λj=>eqV (((x::xs).map V.str).getD j .non)<|((y::ys).map V.str).getD j .non) =
    (decide (x=y)&&(062).all λj=>eqV ((xs.map V.str).getD j .non)<|(ys.map V.str).getD j .non):=by
   rw[y0b,y1r,y1z,y2p];show congrArg (· && _)<|zs3 x y
  rw[e];let L:((x::xs).length==(y::ys).length)=(xs.length==ys.length):=by simp
  rw[L];by_cases O:x=y
  .subst O;rw[Xg R,y17,E];simp
  .rw[Xf O,y15,y2j];simp[O]
theorem zbu(xs:List Str):(xs.map V.str).all flatV=N:=by
 rw[y0u];intro x O;let(z,_,rfl):=y0g.mp O;rfl
def rEqS(K:Frag):R2:=λx y H Q=>∃(a b:Ad) (xs ys:List Str),x=.ref a/\y=.ref b/\SqL K H a (xs.map V.str)/\SqL K H b (ys.map V.str)/\Q (.bl<|decide (xs=ys)) H
theorem op_eqS(g:X.A.units+8<cLine):OpR X (im .Eq) (rEqS X.K):=by
 intro Y s U H x y v u Q I d O h;let(a,b,xs,ys,rfl,rfl,M,J,q):=h;let r:=zht (X:=X) M J (zbu xs)<|zbu ys;rw[y00,y00,znc]at r;show znx (k:=1) (y38 (Nat.add_le_add_left 02 _) g) Y s U H _ _ v u Q I d O (_,r,q)
def rNeS(K:Frag):R2:=λx y H Q=>∃(a b:Ad) (xs ys:List Str),x=.ref a/\y=.ref b/\SqL K H a (xs.map V.str)/\SqL K H b (ys.map V.str)/\Q (.bl<|!decide (xs=ys)) H
theorem op_neS(g:X.A.units+8<cLine):OpR X (im .NotEq) (rNeS X.K):=by
 intro Y s U H x y v u Q I d O h;let(a,b,xs,ys,rfl,rfl,M,J,q):=h;cases(show v=Va.ref a from d);cases(show u=Va.ref b from O);let(us,r1,f,_):=I.list M;let(vs,r2,r,_):=I.list J;let l1:=r1.length;let l2:=r2.length;let c:X.A.units<cLine:=by omega
 by_cases E:us.length=vs.length
 .let z:=SeqAt.RcNeAt.lists (A:=X.A) (s:=s) (e:=λj=>eqV ((xs.map V.str).getD j .non)<|(ys.map V.str).getD j .non) f.isList r.isList (by rw[y0a,y0a];show E) c λj M J=>by
   rw[y0a]at M J;let(g1,l):=r1.at M;let(p,i):=r2.at J;let e1:(xs.map V.str).getD j .non=(xs.map V.str)[j]:=by rw[y0j,y0e g1];rfl
   let L:(ys.map V.str).getD j .non=(ys.map V.str)[j]:=by rw[y0j,y0e p];rfl
   rw[e1,L];apply zs4 (by simpa using l) (by simpa using i) ?_ ?_
   .exact y0u.mp (zbu xs) _<|y16 g1
   .exact y0u.mp (zbu ys) _<|y16 p
  let e:=znc xs ys;rw[y00]at l1 l2;rw[show(xs.length==ys.length)=N by simp;omega,y17]at e;rw[y0a,←l1,e]at z;show z _ _ _ _ (.bl<|!decide (xs=ys),H,I,R,q)
 .let z:=SeqAt.RcNeAt.lists_lengths (A:=X.A) (s:=s) f.isList r.isList (by rw[y0a,y0a];simpa using E) c;let e:decide (xs=ys)=Fa:=Xf λh=>by rw[h,y00]at l1;rw[y00]at l2;omega
  rw[e]at q;show z _ _ _ _ (.bl N,H,I,R,q)
theorem zns(L:SqL X.K H a xs)(Y:SqL X.K H b []):RcOk X (k+1) H 09 94 (decide (xs=[])):=by
 cases xs with
 |nil =>
  let r:=zhs (k:=k) L Y R (λ_=>N) λj M _=>by simp at M
  show r
 |cons x r=>show zkf L Y 06
def rSlTN(K:Frag):V->Option Int->Option Int->Hp->VK->Prop:=λx lo hi H Q=>∃a xs,x=.ref a/\SqT K H a xs/\
 ¬120/\∀p H',New H p (.tup<|cutL xs lo hi) H'->Q 91 H'
theorem zx2:SlR X (rSlTN X.K):=λY s U H x v c vu lo hi f Q I d hs pl y h=>by
 let(a,xs,e,O,C,q):=h;show sl_tup Y s U H x v c vu lo hi f Q I d hs pl y (a,xs,e,O,C,λp r=>q p _<|.mk' r _)
def rStrB(f:Str->Bool):V->List V->Hp->VK->Prop:=λx vs H Q=>∃z,x=.str z/\vs=[]/\Q (.bl<|f z) H
end
section
variable {K:Frag}{h:Heap}{mg:Y1}
theorem glt_mk(X:K.In h)(Gq:h.Ns iu mg)(a:PySem.W.nsIn K iu x=G (G 91))
  (l:K.lookup p=G (.type "tuple",M,.seq its n,f)) (z:its.size<=ij) (r:Vals xs its.toList):∃q,GlV mg x (.ref q)/\∀H,SqT K H q xs :=
 (p,(_,PySem.W.mg_of X Gq a,R),λH=>.inr (_,its,n,l,R,R,z,r))
end
section
variable {X:Cx}(K:Frag)
theorem zph(h:X.K=K:=by rfl):OpR X (im .In) (rIn K Fa):=h▸zrk
theorem zja(h:X.K=K:=by rfl):OpR X (im .NotIn) (rIn K N):=h▸zkk
theorem zau(h:X.K=K:=by rfl):IxR X (rIxL K):=h▸ix_list
theorem zag(h:X.K=K:=by rfl):IxR X (rIxT K):=h▸ix_tup
theorem zqs(h:X.K=K:=by rfl):SlR X (rSlLN K):=h▸zuj
theorem zui(h:X.K=K:=by rfl):SlR X (rSlTN K):=h▸zx2
def rLen:List V->Hp->VK->Prop:=λxs H Q=>∃p ys,xs=[.ref p]/\(SqL K H p ys\/SqT K H p ys)/\Q (.int<|List.length ys) H
theorem zjr(h:X.K=K:=by rfl):CallR X (.builtin "len") (rLen K):=h▸zk6
def rAll:List V->Hp->VK->Prop:=λxs H Q=>∃(p:Ad) (bs:List Bool),xs=[.ref p]/\SqL K H p (bs.map V.bl)/\Q (.bl<|bs.all id) H
theorem zla(g:X.calm=N)(h:X.K=K:=by rfl):CallR X (.builtin "all") (rAll K):=h▸zm8 g
def rAny:List V->Hp->VK->Prop:=λxs H Q=>∃(p:Ad) (bs:List Bool),xs=[.ref p]/\SqL K H p (bs.map V.bl)/\Q (.bl<|bs.any id) H
theorem zk9(g:X.calm=N)(h:X.K=K:=by rfl):CallR X (.builtin "any") (rAny K):=h▸zm7 g
def rSum:List V->Hp->VK->Prop:=λxs H Q=>∃(p:Ad) (ns:List Int),xs=[.ref p]/\SqL K H p 035/\Q (.int ns.sum) H
theorem zc4(g:X.calm=N)(h:X.K=K:=by rfl):CallR X (.builtin "sum") (rSum K):=h▸zk1 g
def rListOf:List V->Hp->VK->Prop:=λxs H Q=>∃p ys,xs=[.ref p]/\(SqL K H p ys\/SqT K H p ys)/\∀l H',New H l 82 H'->Q (.ref l) H'
theorem zhl(h:X.K=K:=by rfl):CallR X (.type "list") (rListOf K):=h▸zjp
theorem zyp(g:X.A.units+8<cLine)(h:X.K=K:=by rfl):OpR X (im .Eq) (rEqS K):=h▸op_eqS g
theorem zmj(g:X.A.units+8<cLine)(h:X.K=K:=by rfl):OpR X (im .NotEq) (rNeS K):=h▸op_neS g
theorem za8(j:PE X l tl)(h:X.K=K:=by rfl):PI X T l (iList K tl):=h▸zyk j
theorem zcy(j:PE X l tl)(h:X.K=K:=by rfl):PI X T l (iTup K tl):=h▸pi_tup j
variable {o e:Expr}{es:List Expr}{to:TE}{t:TA}{name:Str}{apos cpos:Pos}{T id:String}{r:V->List V->Hp->VK->Prop}
theorem zi8(y:PlainAttrs T)(slot:Slot T name id)(f:typeOf 058=pure (.type "method_descriptor"))(l:MtR X id r)(D:PE X o to)(h:X.K=K:=by rfl)
  (c:attributeBase o name X.env (eval o X.env)=eval o X.env:=by rfl) (d:(apos.endLine==cpos.line)=N:=by rfl):PE X (.Call (.Attribute o name apos) [] [] cpos) (tBM0 K T r to):=h▸pe_bm0 y slot f l D c d
theorem zb7(y:PlainAttrs T)(slot:Slot T name id)(f:typeOf 058=pure (.type "method_descriptor"))(l:MtR X id r)(D:PE X o to)(L:PA X (e::es) t)(h:X.K=K:=by rfl)
  (c:attributeBase o name X.env (eval o X.env)=eval o X.env:=by rfl)
  (g:((iR cpos<|il (e::es) X.env).all (λx=>!x.1)&&(backToKw cpos<|keywordEach [] X.env).all (λx=>x.1.isSome)
   && decide ((e::es).length+([]:List Keyword).length+(if([]:List Keyword).isEmpty then 0 else 1)<30))=N:=by rfl)
  (d:(apos.endLine==cpos.line)=N:=by rfl) (M:notStar e=N:=by rfl) (J:es.all notStar=N:=by rfl) :
  PE X (.Call (.Attribute o name apos) (e::es) [] cpos) (tBM K T r to t):=h▸pe_bm y slot f l D L c g d (zbb M) (zbq J)
end
section
variable {P:ik}{w:World}{A:iq}{E:Y0}{s:ii}
theorem zmo(st:s.heap.IsTupleIter j t k)(c:s.heap.IsTuple t its)(I:its[k]?=G y)
  (q:∀h',h'.IsTupleIter j t (k+1)->Heap.SameBut j s.heap h'->Q y {s with heap:=h'}):wpAny (model P w) A (Builtin.SmallTypes.nextOf<|.ref j) Q E s:=by
 let(p,f,i,d):=id st;let(l,g,_,O,L):=c;unfold Builtin.SmallTypes.nextOf;apply ie<|i9 (name:=Str.ofString "__next__") st.typeIs F.slot_tuple_iterator_next (iw F.slot_tuple_iterator_next st.typeIs F.entry_tuple_iterator_next ?_<|F.args_tuple_iterator_next_1 _);change wpAny _ _ (field (.ref j) 0>>=_) _ _ s;apply ie<|i4 f d (x:=.ref t) R ?_;change wpAny _ _ (if(Va.ref t==Va.none)=N then _ else _) _ _ s;rw[Xp<|show¬(Va.ref t==Va.none)=N from y0f];change wpAny _ _ (field (.ref j) 1>>=_) _ _ s;apply ie<|i4 f d (x:=.int k 0) R ?_;change wpAny _ _ (seqItems? (.ref t)>>=_) _ _ s;apply ie<|iD g L ?_;simp only[y0y,I];apply ie<|i7 f d 06 (ig (y,R,ig<|q _ ?_ (Heap.SameBut.update ..)));show(_,y24 _ f<|Obj.isFreed_of_fields (Obj.data_mapFields d _),(Obj.cls_mapFields ..).trans i,by rw[Obj.data_mapFields d];simp[i6])
theorem zpk(hh:A.handled=B)(st:s.heap.IsTupleIter j t k)(c:s.heap.IsTuple t its)(I:its[k]?=B)
  (q:∀h' e,Heap.ExtBut j s.heap h'->(∃o,h'.get? e=G o/\o.cls=.type "StopIteration")->E (.ref e) {s with heap:=h'}):wpAny (model P w) A (Builtin.SmallTypes.nextOf<|.ref j) Q E s:=by
 let(p,f,i,d):=id st;let(l,g,_,O,L):=c;unfold Builtin.SmallTypes.nextOf;apply ie<|i9 (name:=Str.ofString "__next__") st.typeIs F.slot_tuple_iterator_next (iw F.slot_tuple_iterator_next st.typeIs F.entry_tuple_iterator_next ?_<|F.args_tuple_iterator_next_1 _);change wpAny _ _ (field (.ref j) 0>>=_) _ _ s;apply ie<|i4 f d (x:=.ref t) R ?_;change wpAny _ _ (if(Va.ref t==Va.none)=N then _ else _) _ _ s;rw[Xp<|show¬(Va.ref t==Va.none)=N from y0f];change wpAny _ _ (field (.ref j) 1>>=_) _ _ s;apply ie<|i4 f d (x:=.int k 0) R ?_;change wpAny _ _ (seqItems? (.ref t)>>=_) _ _ s;apply ie<|iD g L ?_;simp only[y0y,I];apply ie<|iX (ie<|i7 f d 06 ?_);change wpAny _ _ (newExc (.type "StopIteration") []>>=_) _ _ _;apply ie ?_;simp only[newExc,newTuple];apply ie<|iz ?_ (by size_fits);apply ie (m:=js _ _)<|wpAny_of_eq (a:=Va.none) (by simp only[js];rfl) ?_;apply iz ?_ (by size_fits);simp only[raiseNew];apply ie<|wpAny_handled ?_;rw[show A.in1.handled=B from hh];apply ie<|ig (wpAny_throw<|q _ _ (((Heap.SameBut.update ..).extBut.push _).push _) (_,y0c _ R,R))
end
def IsSq(h:Heap)(l:Bool)(t:Ad)(its:Array Va):Prop:=cond l (h.IsList t its)<|h.IsTuple t its
noncomputable abbrev itn(l:Bool):String:=cond l "list_iterator" "tuple_iterator"
def IsSi(h:Heap)(l:Bool)(j t:Ad)(k:Nat):Prop:=∃o,h.get? j=G o/\o.cls=.type (itn l)/\o.data=.fields #[.ref t,.int k 0]
def SqB(K:Frag)(l:Bool)(H:Hp)(a:Ad)(xs:List V):Prop:=cond l (SqL K H a xs)<|SqT K H a xs
abbrev IsZipF(h:Heap)(z ti ro:Ad)(J f1:Va):Prop:=h.get? z=G {cls:=.type "zip",dict:=B,data:=.fields #[J,f1,.bool Fa,.ref ti,.ref ro],slots:=#[]}
theorem zpp(h:Q (s.heap.get? a) s):wpAny M A (loadIfAlive a) Q E s:=λ_ _ _=>h
structure ZipG(l1 l2:Bool)(h:Heap)(z ti ro j1 j2 t1 t2:Ad)(i:Nat):Prop where
 z:∃f0 f1,IsZipF h z ti ro f0 f1/\(f0=Va.none\/∃a:Ad,f0=i6 a)
 ti:j9 h ti (.ref j1)<|.ref j2
 ro:∃a b,j9 h ro a b
 j1:IsSi h l1 j1 t1 i
 j2:IsSi h l2 j2 t2 i
section
variable {P:ik}{w:World}{A:iq}{E:Y0}{s:ii}{h h':Heap}{l l1 l2:Bool}{z ti ro j1 j2 t1 t2:Ad}{i:Nat}{its its1 its2:Array Va}{a b j t:Ad}
theorem IsSq.at(x:IsSq h l t its)(k:∀o,h.get? t=G o->h'.get? t=G o):IsSq h' l t its:=by cases l<;>show let(o,e,r):=x;(o,k o e,r)
theorem IsSq.ext(x:IsSq h l t its)(k:Heap.ExtBut b h h')(n:t≠b):IsSq h' l t its:=x.at λo e=>k t o n e
theorem IsSq.lt(x:IsSq h l t its):t<h.objs.size:=by cases l<;>show let(_,e,_):=x;y0h e
theorem IsSi.at(x:IsSi h l j t i)(k:∀o,h.get? j=G o->h'.get? j=G o):IsSi h' l j t i:=let(o,e,r):=x;(o,k o e,r)
theorem IsSi.ext(x:IsSi h l j t i)(k:Heap.ExtBut b h h')(n:j≠b):IsSi h' l j t i:=x.at λo e=>k j o n e
theorem zjb(st:IsSi s.heap l j t i)(c:IsSq s.heap l t its)(I:its[i]?=G y)
  (q:∀h',IsSi h' l j t (i+1)->Heap.SameBut j s.heap h'->Q y {s with heap:=h'}):wpAny (model P w) A (Builtin.SmallTypes.nextOf<|.ref j) Q E s:=by
 cases l
 .exact zmo st c I q
 .exact wpAny_nextOf_list_item st c I q
theorem zw4(hh:A.handled=B)(st:IsSi s.heap l j t i)(c:IsSq s.heap l t its)(I:its[i]?=B)
  (q:∀h' e,Heap.ExtBut j s.heap h'->(∃o,h'.get? e=G o/\o.cls=.type "StopIteration")->E (.ref e) {s with heap:=h'}):wpAny (model P w) A (Builtin.SmallTypes.nextOf<|.ref j) Q E s:=by
 cases l
 .exact zpk hh st c I q
 .exact wpAny_nextOf_list_end hh st c I q
theorem it_sq(x:IsSq s.heap l t its)(q:Q 034 {s with heap:=s.heap.push {cls:=.type<|itn l,data:=.fields #[.ref t,.int 0 0]} }):wpAny (model P w) A (jB<|.ref t) Q E s:=by
 cases l
 .exact wpAny_pyIter_tuple x q
 .exact iU x q
theorem ZipG.move(Z:ZipG l1 l2 h z ti ro j1 j2 t1 t2 i)(k:∀c∈[z,ti,ro,j1,j2],∀o,h.get? c=G o->h'.get? c=G o):ZipG l1 l2 h' z ti ro j1 j2 t1 t2 i :=
 let(J,f1,C,U):=Z.z;let(u,v,d):=Z.ro
 ((J,f1,k z 06 _ C,U),k ti 06 _ Z.ti,(u,v,k ro 06 _ d),Z.j1.at λo e=>k j1 06 o e,Z.j2.at λo e=>k j2 06 o e)
theorem ZipG.there(Z:ZipG l1 l2 h z ti ro j1 j2 t1 t2 i):∀c∈[z,ti,ro,j1,j2],∃o,h.get? c=G o/\∀v,o.data ≠ .cell v:=λc g=>by
 let(J,f1,C,U):=Z.z;let(u,v,d):=Z.ro;let(Y,e1,_,p):=Z.j1;let(H,L,_,e):=Z.j2;simp only[y06,y0l,or_false]at g;rcases g with rfl|rfl|rfl|rfl|rfl
 .exact(_,C,λv q=>nomatch q)
 .exact(_,Z.ti,λv q=>nomatch q)
 .exact(_,d,λv q=>nomatch q)
 .exact(_,e1,λv q=>by rw[p]at q;cases q)
 .exact(_,L,λv q=>by rw[e]at q;cases q)
theorem ZipG.lt(Z:ZipG l1 l2 h z ti ro j1 j2 t1 t2 i)(g:c∈[z,ti,ro,j1,j2]):c<h.objs.size:=let(_,e,_):=Z.there c g;y0h e
theorem zhz(hz:IsZipF s.heap z ti ro J f1)(U:J=Va.none\/∃a:Ad,J=i6 a)(q:∀b h' g1,IsZipF h' z ti ro J g1->Heap.SameBut z s.heap h'->Q b {s with heap:=h'}):
  wpAny 011 A (Builtin.SmallTypes.ownedTupleIsFree<|.ref z) Q E s:=by
 unfold Builtin.SmallTypes.ownedTupleIsFree;apply ie<|i4 hz R (x:=J) R ?_;rcases U with rfl|⟨a,rfl⟩
 .exact ig<|q N s.heap f1 hz (Heap.SameBut.refl _ _)
 .change wpAny _ _ (loadIfAlive _>>=_) _ _ _;apply ie<|zpp ?_;cases s.heap.get? (Int.toNat (a:Int))with
  |none =>
   rw[Xq<|show(B:Option Obj).isNone=N from rfl];show ig<|q N s.heap f1 hz (Heap.SameBut.refl _ _)
  |some o =>
   rw[Xp<|show¬(G o:Option Obj).isNone=N from y0f];apply ie<|i4 hz R (x:=f1) R ?_;by_cases c:(f1 !=Va.bool N)=N
   .rw[Xq c];show ie<|iG hz 06 λh' p f=>ig<|q Fa h' (.bool N) p f
   .rw[Xp c];show ig<|q Fa s.heap f1 hz (Heap.SameBut.refl _ _)
theorem zxu{x y:Va}{Q:Y0}(D:jD z ti ro j1 j2 t1 t2)(Z:ZipG l1 l2 s.heap z ti ro j1 j2 t1 t2 i)(M:IsSq s.heap l1 t1 its1)(r:IsSq s.heap l2 t2 its2)(O:its1[i]?=G x)(I:its2[i]?=G y)
  (q:∀h',ZipG l1 l2 h' z ti ro j1 j2 t1 t2 (i+1)->j9 h' s.heap.objs.size x y->h'.objs.size=s.heap.objs.size+1->092->
   Q 034 {s with heap:=h'}):wpAny (model P w) A (Builtin.«zip.__next__» ([.ref z],[])) (λfin s'=>∃v,fin=.done (.ret v)/\Q v s') E s:=by
 let(J,f1,zf,U):=Z.z;let(a,b,hro):=Z.ro;let off:∀{c},c∉[z,ti,ro,j1,j2]->c≠z/\c≠ro/\c≠j1/\c≠j2:=λh=>(λe=>h (by simp[e]),λe=>h (by simp[e]),λe=>h (by simp[e]),λe=>h<|by simp[e]);change wpAny _ _ (field (.ref z) 2>>=_) _ _ _;apply ie<|i4 zf R (x:=.bool Fa) R ?_;change wpAny _ _ (field (.ref z) 3>>=_) _ _ _;apply ie<|i4 zf R (x:=.ref ti) R ?_;apply ie<|iD Z.ti R ?_;change wpAny _ _ (Builtin.SmallTypes.ownedTupleIsFree (.ref z)>>=_) _ _ _;apply ie<|zhz zf U λfree h0 g1 z0 u=>?_;cases free with
 |true =>
  rw[Xq rfl];apply ie<|iX ?_;apply ie<|i4 z0 R (x:=.ref ro) R ?_;apply ie<|iG z0 06 λL hza H=>?_;replace hza:IsZipF L z ti ro .ellipsis g1:=hza;let H:=u.trans H;apply ie ?_;simp only[List.zipIdx_cons,List.zipIdx_nil,y2e,y3b];apply ie<|ie (jL ?_);change wpAny _ _ 104 _ _ _;apply ie<|zjb (Z.j1.ext H.extBut D.i1z) (M.ext H.extBut D.l1z) O λY b1 p=>ig ?_;let rob:j9 Y ro a b:=p.extBut _ _ D.TOi1<|H.extBut _ _ D.TOz hro;apply ie<|iD rob R ?_;apply ie<|wpAny_updateSeq_pair rob λg roc df=>?_;replace roc:j9 g ro x b:=roc;apply ie<|wpAny_letGo (ig ?_);apply ie<|ie (jL ?_);change wpAny _ _ (Builtin.SmallTypes.nextOf (.ref j2)>>=_) _ _ _;apply ie<|zjb (((Z.j2.ext H.extBut D.i2z).ext p.extBut D.i12.symm).ext df.extBut D.TOi2.symm) (((r.ext H.extBut D.l2z).ext p.extBut D.l2i1).ext df.extBut D.l2TO) I λhd d2 T=>ig ?_;let rod:j9 hd ro x b:=T.extBut _ _ D.TOi2 roc;apply ie<|iD rod R ?_;apply ie<|wpAny_updateSeq_pair rod λd roe fq=>?_;replace roe:j9 d ro x y:=roe;apply ie<|wpAny_letGo (ig<|ig ?_);apply ie<|iD roe R ?_;apply ie<|jE ?_;let sz:d.objs.size=s.heap.objs.size:=by rw[fq.1,T.1,df.1,p.1,H.1]
  let ze:IsZipF d z ti ro .ellipsis g1:=fq.extBut _ _ D.TOz.symm<|T.extBut _ _ D.i2z.symm (df.extBut _ _ D.TOz.symm<|p.extBut _ _ D.i1z.symm hza);let ke:∀c o,c≠z/\c≠ro/\c≠j1/\c≠j2->s.heap.get? c=G o->d.get? c=G o:=λc o (f,c2,c3,c4) e =>
   fq.extBut _ _ c2 (T.extBut _ _ c4<|df.extBut _ _ c2 (p.extBut _ _ c3<|H.extBut _ _ f e))
  let zlt:z<d.objs.size:=y0h ze;change wpAny _ _ (Builtin.SmallTypes.ownedTupleHandOut (.ref z) (.ref d.objs.size)>>=_) _ _ _;apply ie ?_;unfold Builtin.SmallTypes.ownedTupleHandOut;apply ie<|iG (y01 _ ze) 06 λhg zg hsg=>?_;replace zg:IsZipF hg z ti ro (i6 d.objs.size) g1:=zg;apply iG zg 06 λC zk hsk=>?_;let up:∀c o,c≠z->d.get? c=G o->C.get? c=G o:=λc o f e=>hsk.extBut _ _ f<|hsg.extBut _ _ f (y01 _ e);let tk:j9 C d.objs.size x y:=hsk.extBut _ _ (y28 zlt)<|hsg.extBut _ _ (y28 zlt) (y0c _ R);let li:C.objs.size=d.objs.size+1:=by rw[hsk.1,hsg.1,y12]
  rw[sz]at tk li;apply ig (_,R,?_);change Q (.ref d.objs.size) _;rw[sz];show q C ((_,_,zk,.inr (_,R)),up _ _ D.TIz<|ke _ _ (D.TIz,D.TITO,D.TIi1,D.TIi2) Z.ti,(_,_,up _ _ D.TOz roe),(((b1.ext df.extBut D.TOi1.symm).ext T.extBut D.i12).ext fq.extBut D.TOi1.symm).at λo e=>up _ o D.i1z e,(d2.ext fq.extBut D.TOi2.symm).at λo e=>up _ o D.i2z e) tk li
   λc o n e=>up c o (off n).1<|ke c o (off n) e
 |false =>
  rw[Xp y0f];apply ie ?_;rw[←y2u];simp only[y2e,y3b];apply ie<|ie (iA ?_);change wpAny _ _ 104 _ _ _;apply ie<|zjb (Z.j1.ext u.extBut D.i1z) (M.ext u.extBut D.l1z) O λY b1 p=>ig ?_;apply ig ?_;apply ie<|ie (iA ?_);change wpAny _ _ (Builtin.SmallTypes.nextOf (.ref j2)>>=_) _ _ _;apply ie<|zjb ((Z.j2.ext u.extBut D.i2z).ext p.extBut D.i12.symm) ((r.ext u.extBut D.l2z).ext p.extBut D.l2i1) I λhd d2 T=>ig ?_;apply ig<|ig ?_;apply ie<|jE ?_ (show(2:Nat)<=ij by decide);let sz:hd.objs.size=s.heap.objs.size:=by rw[T.1,p.1,u.1]
  let tk:j9 (hd.push {cls:=.type "tuple",data:=.seq #[x,y]}) hd.objs.size x y:=y0c _ rfl;let li:(hd.push {cls:=.type "tuple",data:=.seq #[x,y]}).objs.size=hd.objs.size+1:=y12 ..;rw[sz]at tk li;apply ig (_,R,?_);change Q (.ref hd.objs.size) _;rw[sz];let ke:∀c o,c≠z/\c≠j1/\c≠j2->s.heap.get? c=G o->(hd.push {cls:=.type "tuple",data:=.seq #[x,y]}).get? c=G o:=λc o n e =>
   y01 _ (T.extBut _ _ n.2.2<|p.extBut _ _ n.2.1 (u.extBut _ _ n.1 e))
  show q _ ((_,_,y01 _<|T.extBut _ _ D.i2z.symm (p.extBut _ _ D.i1z.symm z0),U),ke _ _ (D.TIz,D.TIi1,D.TIi2) Z.ti,(_,_,ke _ _ (D.TOz,D.TOi1,D.TOi2) hro),(b1.ext T.extBut D.i12).at λo e=>y01 _ e,d2.at λo e=>y01 _ e) tk li
   λc o n e=>ke c o ((off n).1,(off n).2.2) e
theorem zn_end(hh:A.handled=B)(D:jD z ti ro j1 j2 t1 t2)(Z:ZipG l1 l2 s.heap z ti ro j1 j2 t1 t2 i)(M:IsSq s.heap l1 t1 its1)(O:its1[i]?=B)
  (q:∀h' e,092->(∃o,h'.get? e=G o/\o.cls=.type "StopIteration")->E (.ref e) {s with heap:=h'}):wpAny (model P w) A (Builtin.«zip.__next__» ([.ref z],[])) Q E s:=by
 let(J,f1,C,U):=Z.z;change wpAny _ _ (field (.ref z) 2>>=_) _ _ _;apply ie<|i4 C R (x:=.bool Fa) R ?_;change wpAny _ _ (field (.ref z) 3>>=_) _ _ _;apply ie<|i4 C R (x:=.ref ti) R ?_;apply ie<|iD Z.ti R ?_;change wpAny _ _ (Builtin.SmallTypes.ownedTupleIsFree (.ref z)>>=_) _ _ _;apply ie<|zhz C U λfree h0 g1 r u=>?_;cases free with
 |true =>
  rw[Xq rfl];apply ie<|iX ?_;apply ie<|i4 r R (x:=.ref ro) R ?_;apply ie<|iG r 06 λL f H=>?_;replace f:IsZipF L z ti ro .ellipsis g1:=f;let H:=u.trans H;apply ie ?_;simp only[List.zipIdx_cons,List.zipIdx_nil,y2e,y3b];apply ie<|ie (jL ?_);change wpAny _ _ 104 _ _ _;apply ie<|zw4 hh (Z.j1.ext H.extBut D.i1z) (M.ext H.extBut D.l1z) O λY e p (v,y,I)=>?_;let zb:IsZipF Y z ti ro .ellipsis g1:=p _ _ D.i1z.symm f;let T:e≠z:=λz'=>by
   subst z';rw[zb]at y;cases y;simp at I
  apply iG zb 06 λg _ d=>?_;show q _ _ (λc o n x=>d.extBut _ _ (λe=>n<|by simp[e])<|p _ _ (λe=>n<|by simp[e]) (H.extBut _ _ (λe=>n<|by simp[e]) x)) (v,d.extBut _ _ T y,I)
 |false =>
  rw[Xp y0f];apply ie ?_;rw[←y2u];simp only[y2e,y3b];apply ie<|ie (iA ?_);change wpAny _ _ 104 _ _ _;apply ie<|zw4 hh (Z.j1.ext u.extBut D.i1z) (M.ext u.extBut D.l1z) O λY e p ex=>?_;show q _ _ (λc o n x=>p _ _ (λe=>n<|by simp[e])<|u.extBut _ _ (λe=>n<|by simp[e]) x) ex
theorem zxt(D:jD z ti ro j1 j2 t1 t2)(Z:ZipG l1 l2 s.heap z ti ro j1 j2 t1 t2 i)(M:IsSq s.heap l1 t1 its1)(r:IsSq s.heap l2 t2 its2)(O:its1[i]?=G x)(I:its2[i]?=G y)
  (q:∀h',ZipG l1 l2 h' z ti ro j1 j2 t1 t2 (i+1)->j9 h' s.heap.objs.size x y->h'.objs.size=s.heap.objs.size+1->092->
   Q (G 034) {s with heap:=h'}):wpAny (model P w) A (jz<|.ref z) Q E s:=by
 let hT:s.TypeIs (.ref z) "zip":=let(_,_,C,_):=Z.z;(_,C,R);unfold jz;show ie<|j6 (i9 (name:=Str.ofString "__next__") hT F.slot_zip_next<|iw F.slot_zip_next hT F.entry_zip_next (zxu D Z M r O I λh' a b c d=>ig<|q h' a b c d) (F.args_zip_next_1 _))
theorem zp_end(hh:A.handled=B)(D:jD z ti ro j1 j2 t1 t2)(Z:ZipG l1 l2 s.heap z ti ro j1 j2 t1 t2 i)(M:IsSq s.heap l1 t1 its1)(O:its1[i]?=B)
  (q:∀h',092->Q B {s with heap:=h'}):wpAny (model P w) A (jz<|.ref z) Q E s:=by
 let hT:s.TypeIs (.ref z) "zip":=let(_,_,C,_):=Z.z;(_,C,R);unfold jz;apply ie<|j6 (i9 (name:=Str.ofString "__next__") hT F.slot_zip_next<|iw F.slot_zip_next hT F.entry_zip_next (zn_end hh D Z M O λh' e k (v,y,I)=>?_) (F.args_zip_next_1 _));show ie<|iO (T:="StopIteration") (b:=N) (v,y,I) isSubtype_stop (ig<|q _ k)
theorem go_zip(Z:ZipG l1 l2 s.heap z ti ro j1 j2 t1 t2 i)(D:jD z ti ro j1 j2 t1 t2)
  (q:∀h',ZipG l1 l2 h' z ti ro j1 j2 t1 t2 i->Heap.SameBut z s.heap h'->Q () {s with heap:=h'}):wpAny (model P w) A (iL (.Tuple c d pos) (.ref z)<|.ref T) Q E s:=by
 let(J,f1,C,U):=Z.z;unfold iL;apply ie<|wpAny_load C ?_;change wpAny _ _ (if _=N then _ else _) Q E s;split
 .refine ie<|iX ?_;change wpAny _ _ (setField (.ref z) 0 .none) Q E s;show iG C 06 λh' p f=>q h' ((_,_,p,.inl R),f.extBut _ _ D.TIz Z.ti,let(u,v,e):=Z.ro;(u,v,f.extBut _ _ D.TOz e),Z.j1.ext f.extBut D.i1z,Z.j2.ext f.extBut D.i2z) f
 .exact ig<|q _ Z (Heap.SameBut.refl _ _)
theorem zof(Z:ZipG l1 l2 s.heap z ti ro j1 j2 t1 t2 i)(h:Q (.ref z) s):wpAny 011 A (jB<|.ref z) Q E s:=by
 let hT:s.TypeIs (.ref z) "zip":=let(_,_,C,_):=Z.z;(_,C,R);apply jy hT F.slot_zip_iter<|iw F.slot_zip_iter hT F.entry_zip_iter ?_ (F.args_zip_iter_1 _);change wpAny _ _ (ret<|.ref z) _ _ s;show ig (_,R,"zip",_,hT,F.slot_zip_next.lookup,h)
end
abbrev zt1(l:Bool)(h:Heap)(a:Ad):Heap:=h.push {cls:=.type<|itn l,data:=.fields #[.ref a,.int 0 0]}
abbrev zt3(l1 l2:Bool)(h:Heap)(a b:Ad):Heap:=(zt1 l2 (zt1 l1 h a) b).push {cls:=.type "tuple",data:=.seq #[.ref h.objs.size,.ref (zt1 l1 h a).objs.size]}
abbrev zt4(l1 l2:Bool)(h:Heap)(a b:Ad):Heap:=(zt3 l1 l2 h a b).push {cls:=.type "tuple",data:=.seq #[.none,.none]}
abbrev zt5(l1 l2:Bool)(h:Heap)(a b:Ad):Heap:=(zt4 l1 l2 h a b).push {cls:=.type "zip",data:=.fields #[.none,.bool Fa,.bool Fa,.ref (zt1 l2 (zt1 l1 h a) b).objs.size,.ref (zt3 l1 l2 h a b).objs.size]}
theorem zt_new(l1 l2:Bool)(a b:Ad)(xs ys:Array Va):Meets (Builtin.«zip.__new__» ([.type "zip",.ref a,.ref b],[])) (λ_ Rq s=>IsSq s.heap l1 a xs/\IsSq s.heap l2 b ys/\Rq (.ok<|.ret (.ref (zt4 l1 l2 s.heap a b).objs.size)) {s with heap:=zt5 l1 l2 s.heap a b}) :=
 .of_wp λprog w A Rq s h=>by
  let(hp,g,d,tk,os):=s;let(ha,hb,h):=h;let hsub:=sub_zip;let hA:IsSq (Shared.heap (hp,g,d,tk,os)) l1 a xs:=ha;let hB:IsSq (Shared.heap (hp.push {cls:=.type<|itn l1,data:=.fields #[.ref a,.int 0 0]},g,d,tk,os)) l2 b ys:=hb.at λo e=>y01 _ e
  wp_walk using it_sq hA,it_sq hB
  show(_,R,h)
theorem zxs(L:IsSq s.heap l1 a xs)(Y:IsSq s.heap l2 b ys)
  (q:∀h',IsZip h' (s.heap.objs.size+4) (s.heap.objs.size+2) (s.heap.objs.size+3) .none->ZipG l1 l2 h' (s.heap.objs.size+4) (s.heap.objs.size+2) (s.heap.objs.size+3) s.heap.objs.size 026 a b 0->h'.objs.size=s.heap.objs.size+5->(∀c o,s.heap.get? c=G o->h'.get? c=G o)->Q (.ref<|s.heap.objs.size+4) {s with heap:=h'}) :
  wpAny 011 A (call (.type "zip") [.ref a,.ref b]) Q E s:=by
 apply callType_new F.called_zip 02 (F.typeCall_zip_2 _ _) (F.newCall_zip_2 _ _) (λobj=>F.args_object_init_3 obj _ _) F.entry_zip_new (zt_new l1 l2 a b xs ys) (L,Y,?_);let s1:(zt1 l1 s.heap a).objs.size=s.heap.objs.size+1:=y12 ..;let s2:(zt1 l2 (zt1 l1 s.heap a) b).objs.size=s.heap.objs.size+2:=by rw[y12,s1]
 let p:(zt3 l1 l2 s.heap a b).objs.size=s.heap.objs.size+3:=by rw[y12,s2]
 let D:(zt4 l1 l2 s.heap a b).objs.size=s.heap.objs.size+4:=by rw[y12,p]
 let s5:(zt5 l1 l2 s.heap a b).objs.size=s.heap.objs.size+5:=by rw[y12,D]
 let k5:(zt5 l1 l2 s.heap a b).get? (zt4 l1 l2 s.heap a b).objs.size=G _:=y0c _ rfl;let up:∀c o,(zt3 l1 l2 s.heap a b).get? c=G o->(zt5 l1 l2 s.heap a b).get? c=G o:=λc o e=>y01 _<|y01 _ e;let u:(zt5 l1 l2 s.heap a b).get? (zt3 l1 l2 s.heap a b).objs.size=G _:=y01 _<|y0c _ R;let k3:=up _ _<|y0c _ R;let k2:=up (zt1 l1 s.heap a).objs.size _<|y01 _ (y0c _ R);let k1:=up s.heap.objs.size _<|y01 _ (y01 _<|y0c _ R);rw[s2,p,D]at k5;rw[s1,s2]at k3;rw[p]at u;rw[s1]at k2;change _/\_;rw[D];show((_,k5,R),q _ k5 ((_,_,k5,.inl R),k3,(_,_,u),(_,k1,R,R),(_,k2,R,R)) s5 λc o x=>up _ _<|y01 _ (y01 _<|y01 _ x))
section
variable {X:Cx}{pins:Y2}{σ:St}{H:Hp}{s:ii}{h':Heap}
theorem Inv.turnedL{t':Nat}{L:List Ad}(I:03 H s)(k:∀b o,b∉L->s.heap.get? b=G o->h'.get? b=G o)(d:∀b∈L,FpOk X pins H b):03 H {s with heap:=h',toks:=t'}:=by
 let no:∀b u,H b=G u->b∉L:=λb u e z=>by rw[(d b z).1]at e;cases e
 apply I.step (g':=s.gens) (d':=s.drawn) (ch:=L) (λb Y=>?_) (λb o _ _ g e _=>k b o g e) (λb o _ _ g e _=>(o.slots,k b o g e)) (λ_ _ _ _ n=>n)
  (λb o g e=>(o,k b o g e)) (λ_ _ e=>e) (λ_ _ _ e=>e) (λ_ _ _ e=>e) (λm l=>?_) (λb u e=>?_) I.bare
 .let(_,f1,_,a,Q,f):=d b Y;show(a,f1,Q,f)
 .let(o,es,ep,T,r):=l;show(o,es,ep,k _ o (λz=>(d _ z).2.1 R) T,r)
 .refine(I.hok b u e).stay (λc v g q=>k c v ?_ q) (λ_ q=>q) (λ_ _ _ _ _ q=>q) λ_ _ q=>q;rcases g with z|z
  .rw[z];show no b u e
  .exact no c _ z
theorem Inv.turnedNew{t':Nat}{L:List Ad}{p:Ad}{o:HO}(I:03 H s)(k:∀b u,b∉L->s.heap.get? b=G u->h'.get? b=G u)(d:∀b∈L,FpOk X pins H b)(l:s.heap.objs.size<=p)(new:ObjOk X.prog X.w (upd H p o) h' p o)
  (j:∀b∈L,∃u,h'.get? b=G u):03 (upd H p o) {s with heap:=h',toks:=t'}:=by
 let y:H p=B:=I.hok.fresh l;let no:∀b u,H b=G u->b∉L:=λb u e z=>by rw[(d b z).1]at e;cases e
 let ne:∀b u,H b=G u->upd H p o b=G u:=λb u e=>by rw[zan<|zap e y];show e
 apply I.step (g':=s.gens) (d':=s.drawn) (ch:=L) (λb Y=>?_) (λb u _ _ g e _=>k b u g e) (λb u _ _ g e _=>(u.slots,k b u g e)) (λb u _ e z=>?_)
  (λb u g e=>(u,k b u g e)) (λb xs e=>ne b _ e) (λb ob u e=>ne b _ e) (λb _ _ e=>ne b _ e) (λm J=>?_) (λb u e=>?_) I.bare
 .let(_,f1,_,a,Q,f):=d b Y;show(a,f1,Q,f)
 .rw[zan<|y0m (y0k (y0h e) l)];show z
 .let(ob,es,ep,T,r):=J;show(ob,es,ep,k _ ob (λz=>(d _ z).2.1 R) T,r)
 .by_cases Y:b=p
  .subst Y;rw[zao]at e;cases e;show new
  .rw[zan Y]at e;apply(I.hok b u e).stay (λc v g q=>k c v ?_ q) (λc q=>ne c _ q) (λc _ _ _ _ q=>ne c _ q) λc xs q=>ne c _ q;rcases g with z|z
   .rw[z];show no b u e
   .exact no c _ z
end
section
variable {X:Cx}{pins:Y2}{σ:St}{H H':Hp}{s:ii}{l:Bool}{a:Ad}{xs ys:List V}
theorem Inv.sq(I:03 H s)(h:SqB X.K l H a xs):∃its:List Va,Vals xs its/\IsSq s.heap l a its.toArray:=by
 cases l
 .exact let(its,r,p,_):=I.tuple h;(its,r,p)
 .exact let(its,r,p,_):=I.list h;(its,r,p.isList)
theorem Inv.sq_inj(I:03 H s)(h:SqB X.K l H a xs)(h':SqB X.K l H a ys):xs=ys:=by
 cases l
 .exact I.tuple_inj h h'
 .exact I.list_inj h h'
theorem zle(g:c∈[n+4,n+2,n+3,n,n+1]):n<=c:=by
 simp only[y06,y0l,or_false]at g;omega
theorem star2{a b:Expr}{env:Env}(M:notStar a=N)(J:notStar b=N):il [a,b] env=[(Fa,eval a env),(Fa,eval b env)]:=by rw[zbb M,zbb J,starEach.eq_def]
end
noncomputable def ItB(K:Frag)(l1 l2:Bool)(a b:Ad):It :=
 ⟨λi H=>∃xs ys x y,SqB K l1 H a xs/\SqB K l2 H b ys/\xs[i]?=G x/\ys[i]?=G y,
  λi H v H'=>∃p x y,v=.ref p/\New H p (.tup [x,y]) H'/\(∀xs,SqB K l1 H a xs->xs[i]?=G x)/\∀ys,SqB K l2 H b ys->ys[i]?=G y,
  λi H=>∃xs ys,SqB K l1 H a xs/\SqB K l2 H b ys/\xs.length<=i⟩
theorem zt0{P:ik}{w:World}{K:Frag}{l1 l2:Bool}{elts:List Expr}{x1}{tpos:Pos}(z ti ro j1 j2 a b:Ad)(D:jD z ti ro j1 j2 a b):
  Turn P w K 081 (ItB K l1 l2 a b) [z,ti,ro,j1,j2] z (λi h=>ZipG l1 l2 h z ti ro j1 j2 a b i) where
 mem:=by simp
 obj:=λi h st=>st.there
 keep:=λi h h' st k=>st.move k
 item:=by
  intro X hP C L hc i pins s σ H E I U st hg;subst hP C L;let(xs,ys,x,y,O,hy,ex,Y):=hg;let(Q,r1,p1):=I.sq O;let(T,r2,p2):=I.sq hy;let(u,g,ru):=r1.get ex;let(v,hv,f):=r2.get Y;apply zxt D st p1 p2 (x:=u) (y:=v) (by simpa using g) (by simpa using hv) λM Z1 q1 p k1=>(_,R,?_);apply go_zip Z1 D λJ d A=>?_;let r:∀c∈[z,ti,ro,j1,j2],c≠s.heap.objs.size:=λc hc=>y0m<|st.lt hc;let I2:03 (upd H s.heap.objs.size<|.tup [x,y]) {s with heap:=J,toks:=s.toks}:=I.turnedNew (λc o hc e=>A.extBut _ _ (λq=>hc<|by simp[q])<|k1 c o hc e) U 37
   (zah 06,[u,v],.cons ru<|.cons f .nil,(_,A.extBut _ _ (Ne.symm<|r z 06) q1,R,_,R)) λc hc=>let(o,e,_):=d.there c hc;(o,e)
  apply(.ref s.heap.objs.size,_,I2,R,(_,x,y,R,.mk' I.fresh _,λl C=>by rw[I.sq_inj C O];show ex,λl C=>by rw[I.sq_inj C hy];show Y),d,λc hc=>?_);rw[zan<|r c hc];show(U c hc).1
 done:=by
  intro X hP C L hc i pins s σ H E I U st hg;subst hP C L;let(xs,ys,O,hy,j):=hg;let(Q,r1,p1):=I.sq O;show zp_end 037 D st p1 (by simpa[←r1.length]using j) λh' k=>(R,I.turnedL (t':=s.toks) k U)
 self:=λ_ _ _ _ _ st h=>zof st h
def iZB(K:Frag)(l1 l2:Bool)(e:TA):TI:=λU H Rq=>e U H λvs H1=>∃a b,vs=[.ref a,.ref b]/\(∃xs,SqB K l1 H1 a xs)/\(∃ys,SqB K l2 H1 b ys)/\Rq (ItB K l1 l2 a b) H1
theorem zyj{X:Cx}{l1 l2:Bool}{elts:List Expr}{x1}{tpos:Pos}{a b:Expr}{U:TA}{p pos:Pos}(hg:Gl X "zip")(l:X.mg "zip"=B)(ha:PA X [a,b] U)(M:notStar a=N)(J:notStar b=N):PI X 081 (.Call (.Name "zip" p) [a,b] [] pos) (iZB X.K l1 l2 U):=by
 intro pins s σ H Rq I h;let d:il [b] X.env=[(Fa,eval b X.env)]:=by rw[zbb J,starEach.eq_def]
 apply Call_<|zh8 I hg l boot_zip (PyProof.Rows.callWith_type1 (thn 074 λus s1 E=>ex5 E λvs H1 A r1 L=>?_) (by rw[star2 M J,d])<|by rw[d];rfl);let(i,r,e,(xs,O),(ys,o),q):=L;subst e;let(u,v,rfl,D,f):=vals2 r1;cases(show u=Va.ref i from D);cases(show v=Va.ref r from f);let(Q,_,x):=A.sq O;let(T,_,C):=A.sq o;apply zxs x C λh' _ Z sz k=>zof Z ?_;show(_,[s1.heap.objs.size+4,s1.heap.objs.size+2,s1.heap.objs.size+3,s1.heap.objs.size,s1.heap.objs.size+1],_,_,H1,R,A.kept (t':=s1.toks) k,zt0 _ _ _ _ _ i r<|zipApart_new x.lt C.lt,Z,λc g=>A.fpOk (zle g)<|A.hok.fresh (zle g),q)
noncomputable def Itz(K:Frag)(a b:Ad):It :=
 ⟨λi H=>∃xs ys x y,SqT K H a xs/\SqT K H b ys/\xs[i]?=G x/\ys[i]?=G y,
  λi H v H'=>∃p x y,v=.ref p/\New H p (.tup [x,y]) H'/\(∀xs,SqT K H a xs->xs[i]?=G x)/\∀ys,SqT K H b ys->ys[i]?=G y,
  λi H=>∃xs ys,SqT K H a xs/\SqT K H b ys/\xs.length<=i⟩
def iZip(K:Frag)(e:TA):TI:=λU H Rq=>e U H λvs H1=>∃a b,vs=[.ref a,.ref b]/\(∃xs,SqT K H1 a xs)/\(∃ys,SqT K H1 b ys)/\Rq (Itz K a b) H1
theorem pi_zip{X:Cx}{elts:List Expr}{x1}{tpos:Pos}{a b:Expr}{e:TA}{p pos:Pos}(hg:Gl X "zip")(l:X.mg "zip"=B)(L:PA X [a,b] e)(M:notStar a=N:=by rfl)(J:notStar b=N:=by rfl):PI X 081 (.Call (.Name "zip" p) [a,b] [] pos) (iZip X.K e):=zyj (l1:=Fa) (l2:=Fa) hg l L M J
theorem zyi{X:Cx}(K:Frag){elts:List Expr}{x1}{tpos:Pos}{a b:Expr}{e:TA}{p pos:Pos}(hg:Gl X "zip")(l:X.mg "zip"=B)(L:PA X [a,b] e)(h:X.K=K:=by rfl)(M:notStar a=N:=by rfl)(J:notStar b=N:=by rfl):
  PI X 081 (.Call (.Name "zip" p) [a,b] [] pos) (iZip K e):=h▸pi_zip hg l L M J
theorem zmh{X:Cx}(K:Frag){es:List Expr}{k:Nat}{t:TGs}{n:Nat}{pos:Pos}(g:X.calm=N)(h:PGs X es t)(L:X.K=K:=by rfl)
  (o:(jc es X.env).length=n:=by rfl) (c:(jc es X.env).findIdx? (·.1)=B:=by rfl):PG X (.Tuple es k pos) (gTup K n t):=L▸pg_tup g h o c
section
variable {tn:List Str}{cp:Y6}{g:TG}{tif:TT}{te:TE}{σ0:St}{Q:VK}{H1:Hp}{K:Frag}{a b:Ad}{xs ys:List V}
theorem cz_map(S:St->Prop)(f:Nat->V)(o:xs.length<=1000)(j:xs.length=ys.length)(L:SqT K H1 a xs)(Y:SqT K H1 b ys)(A:S 051)
  (hs:∀D i U H H' p x y,xs[i]?=G x->ys[i]?=G y->Same H1 H->H1 D=B->H D=G (.lst<|(031).map f)->S U->New H p (.tup [x,y]) H'->g 91 U H' λd H2=>tif d H2 λc H3 =>
   if c=N then te d H3 λv H4=>CStep D xs.length i (λi l U H=>Same H1 H/\S U/\l=(031).map f) d v H4 else CSkip D xs.length i (λi l U H=>Same H1 H/\S U/\l=(031).map f) d H3)
  (hd:∀D H,H1 D=B->Same H1 H->H D=G (.lst<|(062).map f)->Q 95 H):cBody tn cp g tif te σ0 Q (Itz K a b) H1:=by
 apply ztk xs.length (λD i l U H=>Same H1 H/\S U/\l=(031).map f) (zah o) (λD u=>(za7 u _,A,R)) (λD i l U H u hi J p=>(xs,ys,xs[i],ys[i],p.1.seqT L,p.1.seqT Y,by simp[hi],by simp[j▸hi]))
  (λD l U H u J p=>(xs,ys,p.1.seqT L,p.1.seqT Y,y05 _)) ?_ ?_
 .rintro D i l U H v H' u hi J q ⟨M,r,rfl⟩ ⟨p,x,y,rfl,e,ex,E⟩;show hs D i U H H' p x y (ex _<|M.seqT L) (E _<|M.seqT Y) M u J r e
 .rintro D l U H u J q ⟨M,r,rfl⟩;show hd D H u M J
theorem zmz{S:St->Prop}{f:Nat->V}{D:Ad}{i:Nat}{v:V}{d:St}{H4:Hp}(o:xs.length<=1000)(hi:i<xs.length)(u:H1 D=B)(C:H4 D=G (.lst<|(031).map f))(M:Same H1 H4)(s2:S d)(e:v=f i):
  CStep D xs.length i (λi l U H=>Same H1 H/\S U/\l=(031).map f) d v H4:=by
 apply cstep (zah o) hi C (by rw[y00,y20];show y05 _) (M.wr u _,s2,?_);rw[y2d,y0t,e];rfl
end
def DctK(K:Frag)(w:World)(a:Ad)(f:Str->Option V):Prop:=(a==iC)=Fa/\∃(es:Array DictEntry) (n:Nat),K.lookup a=G (.type "dict",B,.dict es n,#[])/\PySem.W.KeysLit w.params es.toList/\∀x,RelO (f x)<|jM Va.isStrOf es x
section
variable {X:Cx}(K:Frag)(w:World)
def rInD(neg:Bool):R2:=λx y H Q=>∃z a f,x=.str z/\y=.ref a/\DctK K w a f/\Q (.bl<|if neg then !(f z).isSome else(f z).isSome) H
theorem zkj(L:X.K=K:=by rfl)(T:X.w=w:=by rfl):OpR X (im .NotIn) (rInD K w N):=by
 subst L T;intro Y s U H x y v u Q I d O h;let(z,a,f,rfl,rfl,(lo,es,n,j,C,g),q):=h;let(t,rfl):=d;cases(show u=Va.ref a from O);apply wpAny_notIn_of (strKind_is X.prog X.w z t) lo (PySem.W.mapOf_K (prog:=X.prog) I.kIn j C) ?_;rw[←(g z).isSome_eq];show(.bl _,H,I.tok _,R,q)
def rIxD:R2:=λx y H Q=>∃a z f v,x=.ref a/\y=.str z/\DctK K w a f/\f z=G v/\Q v H
theorem ix_dct(L:X.K=K:=by rfl)(T:X.w=w:=by rfl):IxR X (rIxD K w):=by
 subst L T;intro i p Y s U H x y v u Q I d O h hs;let(a,z,f,r,rfl,rfl,(lo,es,n,j,C,g),e,q):=h;cases(show v=Va.ref a from d);let(t,rfl):=O;let l:=PySem.W.mapOf_K (prog:=X.prog) I.kIn j C;let(w',c,A):=RelO.some_of (v:=r) (o:=jM Va.isStrOf es z) (by rw[←e];show g z);show tail_any l.typeIs slot_dict_getitem.lookup (wpAny_getItem_of (strKind_is X.prog X.w z t) l c (r,H,I.tok _,A,q)) hs
end
section
variable {tn:List Str}{cp:Y6}{g:TG}{tif:TT}{te:TE}{σ0:St}{Q:VK}{H1:Hp}{K:Frag}{a:Ad}{xs:List V}
theorem ztg(S:St->Prop)(f:Nat->V)(o:xs.length<=1000)(I:SqL K H1 a xs)(Y:S 051)
  (hs:∀D i U H x,i<xs.length->xs[i]?=G x->Same H1 H->H1 D=B->H D=G (.lst<|(031).map f)->S U->g x U H λd H2=>tif d H2 λc H3 =>
   if c=N then te d H3 λv H4=>CStep D xs.length i (λi l U H=>Same H1 H/\S U/\l=(031).map f) d v H4 else CSkip D xs.length i (λi l U H=>Same H1 H/\S U/\l=(031).map f) d H3)
  (hd:∀D H,H1 D=B->Same H1 H->H D=G (.lst<|(062).map f)->Q 95 H):cBody tn cp g tif te σ0 Q (Itl K a) H1:=by
 apply zg7 (K:=K) (a:=a) (xs:=xs) (λD i l U H=>Same H1 H/\S U/\l=(031).map f) (zah o) (λD u=>(za7 u _,Y,R)) (λD i ys U H _ _ _ p=>p.1.seq I) ?_ ?_
 .rintro D i ys U H x u hi O J j ⟨M,r,rfl⟩;show hs D i U H x hi O M u J r
 .rintro D ys U H u J j ⟨M,r,rfl⟩;show hd D H u M J
end
variable {X:Cx}
section
variable {X:Cx}{k:Nat}{H:Hp}{a b:Ad}{xs ys:List V}
theorem eqV_int(a b:Int):eqV (.int a) (.int b)=decide (a=b):=by
 by_cases h:a=b
 .subst h;simp[eqV]
 .simp[eqV,h]
theorem ztx:∀(xs ys:List Int),(xs.length==ys.length&&(062).all λj=>eqV ((xs.map V.int).getD j .non)<|(ys.map V.int).getD j .non)=decide (xs=ys)
 |[],[]=>rfl
 |[],y::ys=>by simp
 |x::xs,[]=>by simp
 |x::xs,y::ys=>by
  let E:=ztx xs ys;let e:(List.range (x::xs).length).all (λj=>eqV (((x::xs).map V.int).getD j .non)<|((y::ys).map V.int).getD j .non) =
    (decide (x=y)&&(062).all λj=>eqV ((xs.map V.int).getD j .non)<|(ys.map V.int).getD j .non):=by
   rw[y0b,y1r,y1z,y2p];show congrArg (· && _)<|eqV_int x y
  rw[e];let L:((x::xs).length==(y::ys).length)=(xs.length==ys.length):=by simp
  rw[L];by_cases O:x=y
  .subst O;rw[Xg R,y17,E];simp
  .rw[Xf O,y15,y2j];simp[O]
theorem zku(xs:List Int):(xs.map V.int).all flatV=N:=by
 rw[y0u];intro x O;let(z,_,rfl):=y0g.mp O;rfl
def rEqI(K:Frag):R2:=λx y H Q=>∃(a b:Ad) (xs ys:List Int),x=.ref a/\y=.ref b/\SqL K H a (xs.map V.int)/\SqL K H b (ys.map V.int)/\Q (.bl<|decide (xs=ys)) H
theorem op_eqI(g:X.A.units+8<cLine):OpR X (im .Eq) (rEqI X.K):=by
 intro Y s U H x y v u Q I d O h;let(a,b,xs,ys,rfl,rfl,M,J,q):=h;let r:=zht (X:=X) M J (zku xs)<|zku ys;rw[y00,y00,ztx]at r;show znx (k:=1) (y38 (Nat.add_le_add_left 02 _) g) Y s U H _ _ v u Q I d O (_,r,q)
def rNeI(K:Frag):R2:=λx y H Q=>∃(a b:Ad) (xs ys:List Int),x=.ref a/\y=.ref b/\SqL K H a (xs.map V.int)/\SqL K H b (ys.map V.int)/\Q (.bl<|!decide (xs=ys)) H
variable (K:Frag)
theorem zyq(g:X.A.units+8<cLine)(h:X.K=K:=by rfl):OpR X (im .Eq) (rEqI K):=h▸op_eqI g
end
def TupS(H H':Hp):Prop:=∀b xs,H b=G 015->H' b=G 015
theorem Same.tups(g:Same H H'):TupS H H':=λb xs e=>g b _ e
theorem TupS.refl(H:Hp):TupS H H:=λ_ _ e=>e
theorem TupS.trans(a:TupS H H1)(b:TupS H1 H2):TupS H H2:=λc xs e=>b c xs<|a c xs e
theorem TupS.wr(h:H p=G 98)(o:HO):TupS H (upd H p o):=λb ys e=>by rw[zan<|zcq e h (by intro z;cases z)];show e
theorem li_at{h h':Heap}(x:h.IsListIter j a i)(k:∀o,h.get? j=G o->h'.get? j=G o):h'.IsListIter j a i:=by
 let(o,e,r):=x;show(o,k o e,r)
theorem li_ext{h h':Heap}(x:h.IsListIter j a i)(k:Heap.ExtBut b h h')(n:j≠b):h'.IsListIter j a i:=li_at x λo e=>k j o n e
noncomputable def ItzL(K:Frag)(a b:Ad):It :=
 ⟨λi H=>∃xs ys x y,SqL K H a xs/\SqT K H b ys/\xs[i]?=G x/\ys[i]?=G y,
  λi H v H'=>∃p x y,v=.ref p/\New H p (.tup [x,y]) H'/\(∀xs,SqL K H a xs->xs[i]?=G x)/\∀ys,SqT K H b ys->ys[i]?=G y,
  λi H=>∃xs ys,SqL K H a xs/\SqT K H b ys/\xs.length<=i⟩
def iZipL(K:Frag)(e:TA):TI:=λU H Rq=>e U H λvs H1=>∃a b,vs=[.ref a,.ref b]/\(∃xs,SqL K H1 a xs)/\(∃ys,SqT K H1 b ys)/\Rq (ItzL K a b) H1
noncomputable def Ite(K:Frag)(a:Ad):It :=
 (λi H=>∃xs x,SqL K H a xs/\xs[i]?=G x,λi H v H'=>∃p x,v=.ref p/\New H p (.tup [.int (i:Int),x]) H'/\∀xs,SqL K H a xs->xs[i]?=G x,λi H=>∃xs,SqL K H a xs/\xs.length<=i)
theorem zqb{P:ik}{w:World}{K:Frag}{elts:List Expr}{x1}{tpos:Pos}(e it a:Ad)(T:e≠it):
  Turn P w K 081 (Ite K a) [e,it] e (λi h=>(∃old,IsEnum h e it (i:Int) old)/\h.IsListIter it a i) where
 mem:=by simp
 obj:=λi h st c hc=>by
  let((old,y),Y,e1,f,p):=st;simp only[y06,y0l,or_false]at hc;rcases hc with rfl|rfl
  .exact(_,y,λv q=>nomatch q)
  .exact(_,e1,λv q=>by rw[p]at q;cases q)
 keep:=λi h h' st k=>(let(old,y):=st.1;(old,k e 06 _ y),li_at st.2 λo z=>k it 06 o z)
 item:=by
  intro X hP C hK hc i pins s σ H E I U st hg;subst hP C hK;let(xs,x,O,ex):=hg;let(its,r,pl,_):=I.list O;let(u,g,D):=r.get ex;let((old,y),Q):=st;apply wpAny_pyNext_enum_item y Q pl.isList (x:=u) (by simpa using g) T λM eo1 si1 q1 sz1 k1=>(_,R,?_);apply wpAny_letOwnedTupleGo_enum eo1 λJ L A=>?_;let a8:∀c∈[e,it],c≠s.heap.objs.size:=λc hc=>by
   simp only[y06,y0l,or_false]at hc;rcases hc with rfl|rfl
   .exact y0m<|y0h y
   .let(o,z,_):=Q;show y0m<|y0h z
  let k2:∀c o,c∉[e,it]->s.heap.get? c=G o->J.get? c=G o:=λc o hc z =>
   A.extBut _ _ (λq=>hc<|by simp[q]) (k1 c o (λq=>hc<|by simp[q]) (λq=>hc<|by simp[q]) z)
  let tup2:=A.extBut _ _ (Ne.symm<|a8 e 06) q1;let si2:J.IsListIter it a (i+1):=li_ext si1 A.extBut<|Ne.symm T;let d:IsEnum J e it ((i+1:Nat):Int) u:=by rw[show((i+1:Nat):Int)=(i:Int)+1 by omega];show L
  let there:∀c∈[e,it],∃o,J.get? c=G o:=λc hc=>by
   simp only[y06,y0l,or_false]at hc;rcases hc with rfl|rfl
   .exact(_,L)
   .let(o,z,_):=si2;show(o,z)
  let I2:03 (upd H s.heap.objs.size<|.tup [.int (i:Int),x]) {s with heap:=J,toks:=s.toks+1}:=I.turnedNew k2 U (y05 _) (zah (by simp),[.int i s.toks,u],.cons (_,R)<|.cons D .nil,(_,tup2,R,_,R)) there;apply(.ref s.heap.objs.size,_,I2,R,(_,x,R,.mk' I.fresh _,λl C=>by rw[I.list_inj C O];show ex),((_,d),si2),λc hc=>?_);rw[zan<|a8 c hc];show(U c hc).1
 done:=by
  intro X hP C hK hc i pins s σ H E I U st hg;subst hP C hK;let(xs,O,j):=hg;let(its,r,pl,_):=I.list O;let l1:=r.length;let((old,y),Q):=st;show wpAny_pyNext_enum_end 037 y Q pl.isList (by simp;omega) λh' k=>(R,I.turnedL (t':=s.toks) (λc o hc z=>k c o (λq=>hc<|by simp[q]) z) U)
 self:=λ_ _ _ _ _ st h=>let(_,y):=st.1;wpAny_pyIter_enum y h
def iEnum(K:Frag)(e:TA):TI:=λU H Rq=>e U H λvs H1=>∃a,vs=[.ref a]/\(∃xs,SqL K H1 a xs)/\Rq (Ite K a) H1
theorem zyl{X:Cx}{elts:List Expr}{x1}{tpos:Pos}{a:Expr}{U:TA}{p pos:Pos}(hg:Gl X "enumerate")(l:X.mg "enumerate"=B)(ha:PA X [a] U)(M:notStar a=N:=by rfl):PI X 081 (.Call (.Name "enumerate" p) [a] [] pos) (iEnum X.K U):=by
 intro pins s σ H Rq I h;let hs:il [a] X.env=[(Fa,eval a X.env)]:=by rw[zbb M,starEach.eq_def]
 apply Call_<|zh8 I hg l boot_enumerate (PyProof.Rows.callWith_type1 (thn 074 λus s1 E=>ex5 E λvs H1 A r1 J=>?_) hs R);let(f,e,(xs,O),q):=J;subst e;let(u,rfl,D):=vals1 r1;cases(show u=Va.ref f from D);let(its,_,x,_):=A.list O;apply call_enumerate_list x.isList λh' y Q sz k=>wpAny_pyIter_enum y ?_;apply(_,[s1.heap.objs.size+1,s1.heap.objs.size],_,_,H1,R,A.kept (t':=s1.toks) k,zqb _ _ f<|Nat.succ_ne_self _,((_,y),Q),λc g=>?_,q);let j:s1.heap.objs.size<=c:=by
  simp only[y06,y0l,or_false]at g;rcases g with rfl|rfl
  .exact Nat.le_add_right _ _
  .exact y05 _
 show A.fpOk j<|A.hok.fresh j
theorem zuv{X:Cx}(K:Frag){elts:List Expr}{x1}{tpos:Pos}{a:Expr}{e:TA}{p pos:Pos}(hg:Gl X "enumerate")(l:X.mg "enumerate"=B)(L:PA X [a] e)(h:X.K=K:=by rfl)(M:notStar a=N:=by rfl):
  PI X 081 (.Call (.Name "enumerate" p) [a] [] pos) (iEnum K e):=h▸zyl hg l L M
def rInDc(neg:Bool):R2:=λy x H Q=>∃a o,x=.ref a/\DGet H a y o/\Q (.bl<|if neg then !o.isSome else o.isSome) H
section
variable {X:Cx}{o i value:Expr}{pos pos':Pos}{td ty tv:TE}
theorem zpg(D:X.A.units+8<cLine):OpR X (im .NotIn) (rInDc N):=by
 intro Y s U H y x v u Q I O d h;let(a,o,rfl,g,q):=h;obtain rfl:u=Va.ref a:=d;show Qbw 00 I g O λp L=>(.bl<|!o.isSome,H,L,R,q)
theorem zi7(g:X.A.units+8<cLine)(T:PE X o td)(hi:PE X i ty)(hs:NoSl i):PE X (.Subscript o i pos) (tDGet td ty):=zyn 00 T hi hs
theorem zi6(g:X.A.units+8<cLine)(T:PE X o td)(hi:PE X i ty)(D:PE X value tv)(hs:jd value (G<|.Subscript o i pos') pos.line X.env=pure Fa):
  PS X (.Assign [.Subscript o i pos'] value pos) (sDPut td ty tv):=zyd 00 T hi D hs
def tDNewN:TE:=λ_ H Q=>∀p H',New H p (.dK []) H'->Q 91 H'
def tDNewTN:TE:=λ_ H Q=>∀p H',New H p (.dT []) H'->Q 91 H'
theorem zu0:PE X (.Dict [] [] pos) tDNewN:=λY s U H Q I h=>zu1 Y s U H Q I λp r=>h p _<|.mk' r _
theorem zrd:PE X (.Dict [] [] pos) tDNewTN:=λY s U H Q I h=>zuz Y s U H Q I λp r=>h p _<|.mk' r _
def rLenD:List V->Hp->VK->Prop:=λxs H Q=>∃a L,xs=[V.ref a]/\H a=G (.dK L)/\Q (.int L.length) H
end
def rLenT:List V->Hp->VK->Prop:=λxs H Q=>∃a L,xs=[V.ref a]/\H a=G (.dT L)/\Q (.int L.length) H
def PairV(H:Hp)(r:V)(c:Key×V):Prop:=∃t,r=.ref t/\H t=G (.tup [kV c.1,c.2])
def rDictOf(K:Frag):List V->Hp->VK->Prop:=λxs H Q=>∃(p:Ad) (rs:List V) (L:List<|Key×V),xs=[.ref p]/\SqL K H p rs/\io (PairV H) rs L/\L.length<=1000/\∀d H',New H d (.dK<|mergeK [] L) H'->Q (.ref d) H'
def rMaxL(K:Frag):List V->Hp->VK->Prop:=λxs H Q=>∃(p:Ad) (ns:List Int),xs=[.ref p]/\SqL K H p 035/\0<ns.length/\∀M,M∈ns->(∀a∈ns,a<=M)->Q (.int M) H
def rIndex(K:Frag):V->List V->Hp->VK->Prop:=λx vs H Q=>∃(p:Ad) (ns:List Int) (k:Int),x=.ref p/\vs=[.int k]/\SqL K H p 035/\k∈ns/\ns.length<=1000/\Q (.int (ns.idxOf k:Nat)) H
def rCatTN(K:Frag):R2:=λx y H Q=>∃a b xs ys,x=.ref a/\y=.ref b/\SqT K H a xs/\SqT K H b ys/\xs≠[]/\ys≠[]/\xs.length+ys.length<=ij/\∀p H',New H p (.tup<|xs++ys) H'->Q 91 H'
theorem zu9:OpR X (iE .Add) (rCatTN X.K):=λY s U H x y v u Q I d l h=>by
 let(a,b,xs,ys,e1,L,g,E,O,o,hz,q):=h;show zyr Y s U H x y v u Q I d l (a,b,xs,ys,e1,L,g,E,O,hz,λz=>Xa z o,λ_ p r=>q p _<|.mk' r _)
theorem zrl(K:Frag)(h:X.K=K:=by rfl):OpR X (iE .Add) (rCatTN K):=h▸zu9
def rDictCp:List V->Hp->VK->Prop:=λxs H Q=>∃(p:Ad) (L:List<|Key×V),xs=[.ref p]/\H p=G (.dK L)/\∀d H',New H d (.dK L) H'->Q (.ref d) H'
theorem zk7{X:Cx}:CallR X (.type "dict") rDictCp:=by
 intro Y s U H xs us Q I r h;let(p,L,rfl,e,q):=h;let(u,rfl,d):=vals1 r;cases(show u=Va.ref p from d);let(z,hd,vs,M,dd):=dk_of I.hok e;apply kt_call_dict (knd:=mixKind X.prog X.w) hd dd (by rw[←M.length];show z) λh' x g=>?_;let k:∀b o,s.heap.get? b=G o->h'.get? b=G o:=λb o E=>by
  rw[g.2 b<|y0m (y0h E)];show y01 _ E
 show(.ref s.heap.objs.size,_,I.laid k 37<|zxk z (beq_eq_false_iff_ne.mpr<|Ne.symm (y0m I.big)) M x,R,q _ _<|.mk' I.fresh _)
def tDisp1T(tk tv:TE):TE:=λU H Q=>∀p H1,New H p (.dT []) H1->tk U H1 λy H2=>tv U H2 λz H3=>H3 p=G (.dT [])/\∃b ks,y=.ref b/\H3 b=G (.tup<|ks.map kV)/\Q 91 (upd H3 p<|.dT [(ks,z)])
def NeOk(X:Cx)(k:Nat)(H:Hp)(x y:V)(b:Bool):Prop:=∀(pins:Y2) (σ:St) (s:ii) (A:iq) (u v:Va),A.units+k<cLine->03 H s->RelV x u->RelV y v->SeqAt.RcNeAt A s u v b
def rNeM(X:Cx):R2:=λx y H Q=>∃c,NeOk X 8 H x y c/\Q (.bl c) H
def rRange2:List V->Hp->VK->Prop:=λxs H Q=>∃i j:Int,xs=[.int i,.int j]/\∀p H',New H p (.rng i j) H'->Q 91 H'
def rListRng:List V->Hp->VK->Prop:=λxs H Q=>∃(p:Ad) (i j:Int),xs=[.ref p]/\H p=G (.rng i j)/\(0<=i/\i<=j/\j<=1000)/\∀l H',New H l (.lst<|(List.range (j-i).toNat).map λ(k:Nat)=>V.int<|i+k) H'->Q (.ref l) H'
def rRepN:R2:=λx y H Q=>∃l k xs,x=.ref l/\y=.int k/\H l=G 98/\-(2^63)<=k/\k<2^63/\xs.length*k.toNat<=ij/\∀p H',New H p (.lst (List.replicate k.toNat xs).flatten) H'->Q 91 H'
noncomputable def Itez(K:Frag)(a b:Ad):It :=
 ⟨λi H=>∃xs ys x y,SqT K H a xs/\SqT K H b ys/\xs[i]?=G x/\ys[i]?=G y,
  λi H v H'=>∃p r H1 x y,v=.ref r/\New H p (.tup [x,y]) H1/\New H1 r (.tup [.int (i:Int),.ref p]) H'/\(∀xs,SqT K H a xs->xs[i]?=G x)/\∀ys,SqT K H b ys->ys[i]?=G y,
  λi H=>∃xs ys,SqT K H a xs/\SqT K H b ys/\xs.length<=i⟩
def iEZ(K:Frag)(e:TA):TI:=λU H Rq=>e U H λvs H1=>∃a b,vs=[.ref a,.ref b]/\(∃xs,SqT K H1 a xs)/\(∃ys,SqT K H1 b ys)/\Rq (Itez K a b) H1
section
variable {tn:List Str}{cp:Y6}{g:TG}{tif:TT}{te:TE}{σ0:St}{Q:VK}{H1:Hp}{lo:Int}{n:Nat}
def PRnF(S:St->Prop)(p:Nat->Bool)(f:Nat->V)(H1:Hp)(i:Nat)(ys:List V)(U:St)(H:Hp):Prop:=Same H1 H/\S U/\ys=((031).filter p).map f
theorem crf_map(S:St->Prop)(p:Nat->Bool)(f:Nat->V)(o:n<=1000)(Y:S 051)
  (hs:∀D i U H,i<n->Same H1 H->H1 D=B->H D=G (.lst<|((031).filter p).map f)->S U->g (.int<|lo+i) U H λd H2=>tif d H2 λc H3 =>
   if c=N then te d H3 λv H4=>CStep D n i (PRnF S p f H1) d v H4 else CSkip D n i (PRnF S p f H1) d H3)
  (hd:∀D H,H1 D=B->Same H1 H->H D=G (.lst<|((List.range n).filter p).map f)->Q 95 H):cBody tn cp g tif te σ0 Q (Itr lo n) H1:=by
 apply ztk n (λD=>PRnF S p f H1) (zah o) (λD u=>(za7 u _,Y,R)) (λD i ys U H _ hi _ _=>hi) (λD ys U H _ _ _=>y05 _) ?_ ?_
 .rintro D i ys U H x H' u hi J j ⟨M,r,rfl⟩ ⟨rfl,rfl⟩;show hs D i U _ hi M u J r
 .rintro D ys U H u J j ⟨M,r,rfl⟩;show hd D H u M J
theorem ztd(p:Nat->Bool)(f:Nat->V)(i:Nat):(((031).filter p).map f).length<=i:=by
 rw[y00];let:=y1m p 031;rw[y20]at this;show this
theorem zol(o:n<=1000)(hi:i<n)(l:p i=N)(u:H1 D=B)(C:H4 D=G (.lst<|((031).filter p).map f))(M:Same H1 H4)(s2:S d)(e:v=f i):CStep D n i (PRnF S p f H1) d v H4:=by
 subst e;apply cstep (zah o) hi C (ztd p f i) (M.wr u _,s2,?_);rw[y2d,y1o,y0t];simp[l]
theorem zom(hi:i<n)(l:p i=Fa)(U:H3 D=G (.lst<|((031).filter p).map f))(u:Same H1 H3)(s2:S d):CSkip D n i (PRnF S p f H1) d H3:=by
 apply cskip hi U (ztd p f i) (u,s2,?_);rw[y2d,y1o];simp[l]
end
def rCatTE:R2:=λx y H Q=>∃a b xs ys,x=.ref a/\y=.ref b/\H a=G 015/\H b=G (.tup ys)/\xs.length+ys.length<=ij/\∀p H',Same H H'->H' p=G (.tup<|xs++ys)->Q 91 H'
noncomputable def without(h:Heap):List Ad->Heap
 |[]=>h
 |b::L=>without (h.update b λ_=>{cls:=.none,data:=.freed}) L
theorem zpx(h:Heap)(a:Ad):(h.update a λ_=>{cls:=.none,data:=.freed}).get? a=B:=by
 let(objs,l):=h;change(match(objs.modify a λ_=>({cls:=.none,data:=.freed}:Obj))[a]? with
  |some (_,_,.freed,_)=>B
  |o=>o)=B
 by_cases h:a<objs.size
 .rw[y1l (by simpa using h),Array.getElem_modify];simp
 .rw[y3j<|by simpa using h]
theorem zd4(b:Ad):∀(L:List Ad) (h:Heap),(without h L).get? b=if b∈L then B else h.get? b
 |[],h=>by simp[without]
 |c::L,h=>by
  rw[without,zd4 b L];by_cases Y:b∈L
  .rw[Xq Y,Xq<|y08 _ Y]
  .rw[Xp Y];by_cases g:b=c
   .subst g;rw[Xq y04,zpx]
   .rw[Xp (by simp[g,Y]),y22 _ _<|Ne.symm g]
theorem zbm(Y:b∈L):(without h L).get? b=B:=by rw[zd4,Xq Y]
theorem zbz(Y:b∉L):(without h L).get? b=h.get? b:=by rw[zd4,Xp Y]
theorem zct(h:Heap)(L:List Ad):(without h L).StaysIn h:=λb o e=>by
 by_cases Y:b∈L
 .rw[zbm Y]at e;cases e
 .rw[zbz Y]at e;show e
theorem zc1{h base a:Heap}:∀{l:List Env},h.FunFrames base l->(∀b∈frs l,a.get? b=B)->h.FunFrames a l
 |[],_,_=>trivial
 |env::rest,(C,(L,o,U,Q,T,hd),g),k=>by
  let e:frs (env::rest)=L::frs rest:=by change List.filterMap _ (env::rest)=_;rw[y21,U];rfl
  rw[e]at k;show(C,(L,o,U,k L y04,T,hd),zc1 g λb Y=>k b<|y08 _ Y)
def Flown(Y:Heap)(H:Hp)(h:Heap)(a:Ad)(cls:Va):Prop :=
 ∃(v:Obj) (vs:Array Va) (T:Ad) (r:Obj) (ts:Array Va),h.get? a=G v/\v.cls=cls/\v.data=.fields vs/\vs[1]?=G (.ref T)/\T≠a/\h.get? T=G r/\r.data=.fields ts/\ts[3]?=G .none/\
  Y.get? a=B/\Y.get? T=B/\H a=B/\H T=B
def CXE(P:ik)(w:World):CXT:=λouter H s E e s'=>∃(a:Ad) (cls:Va) (H':Hp),e=.ref a/\s'.os=s.os/\jo s'.gens/\Un (frs outer) [] H H' s.heap s'.heap/\HOk P w H' s'.heap/\Flown s.heap H' s'.heap a cls/\E cls (G a) H'
theorem zc0(x:ObjOk P w H h a o):∃ob,h.get? a=G ob:=by
 induction o with
 |lst xs=>let(_,_,_,_,e):=x;show(_,e)
 |tup xs=>let(_,_,_,ob,e,_):=x;show(_,e)
 |dK L=>let(_,_,_,_,ob,_,_,e,_):=x;show(_,e)
 |dT L=>let(_,_,_,_,ob,_,_,e,_):=x;show(_,e)
 |set S n=>let(ob,_,_,_,e,_):=x;show(_,e)
 |ins C dx fs=>let(_,_,_,e,_):=x;show(_,e)
 |own _=>show x
 |xd fs=>let(_,(ob,es,ep,e,_),_):=x;show(_,e)
 |rng lo hi=>let(_,_,_,e):=x;show(_,e)
 |frz ob u=>show(_,x.1)
 |tbl qs ps=>let(_,e,_):=x;show(_,e)
 |met f y=>show(_,x)
 |ext A=>show x.2.1
section
variable {X:Cx}{pins:Y2}{σ:St}{H:Hp}{s:ii}{Ex:Y0}
theorem zoc(I:03 H s)(O:X.ex=[])(d:∀b∈L,X.s₀.heap.get? b=B/\H b=B)
  (l1:(without s.heap<|frs X.stack++L).StaysIn j) (l2:j.FunFrames (without s.heap<|frs X.stack++L) X.stack) (l3:j.Traced (without s.heap<|frs X.stack++L) a cls)
  (l4:∀b o,s.heap.get? b=G o->(∀vs,o.data ≠ .fields vs)->∃f,j.get? b=G {o with slots:=f}) (ha:a∈L) (q:E cls (G a) H) :
  CXE X.prog X.w X.outer X.H₀ X.s₀ E 09 {s with heap:=j}:=by
 let(v,i,T,oT,ts,x,C,U,t4,Q,p,t7,A,t9):=l3;let hTf:T∉frs X.stack:=λz=>by
  let(_,o,e1,e2):=l2.mem z;rw[t7]at e1;cases e1;show e2 _ A
 let nx:∀b,b∉X.ex:=λb z=>by rw[O]at z;cases z
 let st:∀b o,b∉frs X.stack->b∉L->s.heap.get? b=G o->j.get? b=G o:=λb o M J e=>l1 b o (by rw[zbz λz=>(y0o.mp z).elim M J];show e);let out:∀b o,X.s₀.heap.get? b=G o->b∉frs X.outer->b∉frs X.stack:=λb o e h z=>by
  rcases y06.mp (I.stkSub b z)with w|w
  .exact y0m (y0k (y0h e) I.ok.above) w
  .exact h w
 let nL:∀b o,X.s₀.heap.get? b=G o->b∉L:=λb o e z=>by rw[(d b z).1]at e;cases e
 let T0:X.s₀.heap.get? T=B:=by
  cases e:X.s₀.heap.get? T with
  |none=>rfl
  |some o =>
   let(y,D):=I.base.there T o e<|nx T;rw[zbz λz=>(y0o.mp z).elim hTf<|nL T o e]at Q;rw[Q]at D;cases D
 let HT:H T=B:=by
  cases e:H T with
  |none=>rfl
  |some o =>
   let(y,D):=zc0<|I.hok T o e;by_cases hTL:T∈L
   .rw[(d T hTL).2]at e;cases e
   .rw[zbz λz=>(y0o.mp z).elim hTf hTL]at Q;rw[Q]at D;cases D
 apply(a,cls,H,R,I.os,I.bare,(λb o e n Y _=>?_,λb o e n Y _=>?_,λb o e n _=>I.base.free b o e n<|nx b,λb o e _=>?_,I.base.tups,I.base.frzs,I.base.tbls),λb o e=>?_,(v,i,T,oT,ts,x,C,U,t4,p,t7,A,t9,(d a ha).1,T0,(d a ha).2,HT),q)
 .exact st b o (out b o e Y) (nL b o e)<|I.base.keep b o e n Y (nx b)
 .let(f,e1):=I.base.slot b o e n Y<|nx b;let(_,y,e2,nf):=I.ok.funs.mem Y;rw[e]at e2;cases e2;let(sl',r):=l4 b _ e1 nf;show(sl',r)
 .let(y,e1):=I.base.there b o e<|nx b;by_cases Y:b∈frs X.stack
  .let(_,o2,e2,_):=l2.mem Y;show(o2,e2)
  .exact(y,st b y Y (nL b o e) e1)
 .refine(I.hok b o e).stay (λc u g l=>st c u (λz=>?_) (λz=>?_) l) (λ_ z=>z) (λ_ _ _ _ _ z=>z) λ_ _ z=>z
  .let:=I.stkFree c z;rcases g with rfl|g
   .rw[this]at e;cases e
   .rw[this]at g;cases g
  .let:=(d c z).2;rcases g with rfl|g
   .rw[this]at e;cases e
   .rw[this]at g;cases g
theorem zmt(I:03 H s)(O:X.ex=[])(hs:X.stack=X.env::X.outer)(U:X.env.frame=G X.env.locals)(M:Heap.MadeExcOf s.heap h' a cls vs)(q:E cls (G a) H):
  wpAny 41 X.A (leaving X.env 09) (λ_ g=>CXE X.prog X.w X.outer X.H₀ X.s₀ E 09 g) Ex {s with heap:=h'}:=by
 let(t,d,_,_):=M.there;let i:03 H {s with heap:=h',toks:=s.toks}:=I.kept M.keeps;let c:H a=B:=by
  cases e:H a with
  |none=>rfl
  |some o =>
   let(y,D):=zc0<|I.hok a o e;rw[M.new]at D;cases D
 let u:X.s₀.heap.get? a=B:=by
  cases e:X.s₀.heap.get? a with
  |none=>rfl
  |some o =>
   let(y,D):=I.base.there a o e (λz=>by rw[O]at z;cases z);rw[M.new]at D;cases D
 apply wpAny_leaving_first (base:=without h'<|frs X.stack++[a]) (outer:=X.outer) (L:=X.env.locals) (by rw[←hs];show I.ok.frames) (by rw[←hs];show zc1 i.stack λb Y=>zbm<|y1f _ Y) U d (zct _ _)
  (zbm<|y0s _ (y03.mpr R)) R R λj (l1,l2,l3,l4)=>?_
 rw[←hs]at l2;show zoc (L:=[a]) i O (λb Y=>by rw[y03.mp Y];show(u,c)) l1 l2 l3 l4 (y03.mpr R) q
theorem zpr(I:03 H s)(O:X.ex=[])(hs:X.stack=X.env::X.outer)(U:X.env.frame=G X.env.locals)(c:CXE X.prog X.w X.stack H s E' e s')(q:∀a cls H',E' cls (G a) H'->E cls (G a) H'):
  wpAny 41 X.A (leaving X.env e) (λ_ g=>CXE X.prog X.w X.outer X.H₀ X.s₀ E e g) Ex s':=by
 let(a,cls,H',rfl,os,bare,un,hok,(v,vs,T,r,ts,x,C,t3,l,p,d,A,Q,n1,n2,M,J),f):=c;let i:03 H' s':=I.call' os un hok bare λb z=>nomatch z;let u:∀b,s.heap.get? b=B->X.s₀.heap.get? b=B:=λb z=>by
  cases e:X.s₀.heap.get? b with
  |none=>rfl
  |some o =>
   let(y,D):=I.base.there b o e (λz=>by rw[O]at z;cases z);rw[z]at D;cases D
 apply wpAny_leaving_next (base:=without s'.heap<|frs X.stack++[a,T]) (outer:=X.outer) (L:=X.env.locals) (cls:=cls) (by rw[←hs];show I.ok.frames) (by rw[←hs];show zc1 i.stack λb Y=>zbm<|y1f _ Y) U
  (v,vs,T,r,ts,x,C,t3,l,zbm<|y0s _ 06,p,d,A,Q) (zct _ _) (zbm<|y0s _ 06) λj (l1,l2,l3,l4)=>?_
 rw[←hs]at l2;show zoc (L:=[a,T]) i O (λb Y=>by
  simp only[y06,y0l,or_false]at Y;rcases Y with rfl|rfl
  .exact(u _ n1,M)
  .exact(u _ n2,J)) l1 l2 l3 l4 06 (q _ _ _ f)
theorem zr7(I:03 H s)(M:Heap.MadeExcOf s.heap h' a cls vs):H a=B:=by
 cases e:H a with
 |none=>rfl
 |some o =>
  let(y,D):=zc0<|I.hok a o e;rw[M.new]at D;cases D
end
structure Rs(X:Cx)(E:XK):Prop where
 ex:X.ex=[]
 st:X.stack=X.env::X.outer
 fr:X.env.frame=G X.env.locals
 xe:∀e s',wpAny 41 X.A (leaving X.env e) (λ_ s''=>CXE X.prog X.w X.outer X.H₀ X.s₀ E e s'') (λe' s''=>CXE X.prog X.w X.outer X.H₀ X.s₀ E e' s'') s'->X.xe e s'
theorem Rs.passes(Rq:Rs X E)(q:∀a cls H',E' cls (G a) H'->E cls (G a) H'):Passes (CXE X.prog X.w) X E':=λY U H s e s' I c=>Rq.xe e s'<|zpr I Rq.ex Rq.st Rq.fr c q
def tRaise(E:XK)(cls:Va)(t:TA):TS:=λD U H=>t U H λvs H1=>vs.length<=ij/\∀a,H1 a=B->E cls (G a) H1
theorem zur{X:Cx}{E:XK}{x:Str}{C:Ad}{Bq c i:String}{bm:List Va}{r e pos:Pos}{f:Expr}{rest:List Expr}{t:TA}(Rq:Rs X E)(hc:X.calm=N)(hg:Gl X x)(O:OwnCls x C bm c X.mg X.base)(FB:ExcBaseFacts Bq c i bm)(y:PA X (f::rest) t)
  (d:il (f::rest) X.env=(Fa,eval f X.env)::il rest X.env:=by rfl) (l:(iR e<|il rest X.env).any (·.1)=Fa:=by rfl) (hd:017=Fa:=by decide) :
  PS X (.Raise (G<|.Call (.Name x r) (f::rest) [] e) B pos) (tRaise E 84 t):=by
 intro Y s U H D I h;let(tl,Nq,nm,q,bs,hdct,sn,sub,ab,col,dd,k0,k1,k2,k3,k5,mN,o,J,g,T):=O.obj;apply wpAny_Raise_call_subT (C:=C) (nm:=nm) (q:=q) («N»:=Nq) (bs:=bs) (bm:=tl) (hdct:=hdct) (sn:=sn) (sub:=sub) (ab:=ab) (col:=col) (dd:=dd) (k0:=k0) (k1:=k1) (k2:=k2) (k3:=k3) (k5:=k5)
  FB (mN:=mN) (T.hasType FB.hasBase) 037 (by rw[d];change(Fa||(iR e<|il rest X.env).any (·.1))=Fa;rw[l];rfl) g ?_
 apply thn (zrc (v:=.ref C) (pos:=r) hg O.bound R hd Y s U H (λv H'=>v=.ref C/\H'=H) I (R,R)) λu s1 Q=>ex5 Q λv H1 A r1 p=>?_;let(e1,L):=p;subst e1 L;apply(r1,?_);let hh:=y e Y s1 U H1 _ A h;rw[d]at hh ⊢;apply Calls.evalArgs_plain<|thn hh λus s2 (vs,H2,j,r2,z,q)=>(R,by rw[←r2.length];show z,j.bk _ _ o,J.keeps j.bk,T.keeps j.bk,λh' a M=>Rq.xe _ _<|zmt j Rq.ex Rq.st Rq.fr M (q a<|zr7 j M))
theorem Fun.okE{P:ik}{w:World}{K:Frag}{mg:Y1}{base:Heap}{x qual:Str}{st:Stmt}{f:Ad}{fd:i8}{Nq ps:List Str}{k:Nat}{sp:Sp}(F:Fun K x qual st f fd)(S:FnScope Nq ps 96)(len:∀vs H Q E,sp vs H Q E->vs.length=ps.length)
  (a:∀(j:Va) (A:iq) (outer:List Env) (s:ii) (H:Hp) (vs:List V) (Q:VK) (E:XK),Room k (A.deeper<|jg qual 96 s.heap.objs.size f j)->sp vs H Q E->Rs (cxOf (CXE P w) P w K mg base Nq qual 96 f j A outer s H E) E->
   ∃t,PSs (cxOf (CXE P w) P w K mg base Nq qual 96 f j A outer s H E) 043 t/\t {nx:=λ_ H'=>Q .non H',rt:=Q} (start Nq vs) H):FnOk P w K mg base (CXE P w) (k+1) f fd ps sp:=by
 let(oc,M,kV,doc,J,L,j,ct,p,rfl,lk,O):=F.ex;show fn_of lk O S len λA outer s H vs Q E g i=>a j A outer s H vs Q E g i (R,R,R,λ_ _ h=>h)
open PySem PySem.Spec PyProof.Rows PySem.Calls
section
variable {X:Cx}{pins:Y2}{σ:St}{H:Hp}{s:ii}
noncomputable def Cx.held(X:Cx)(a:Ad):Cx:={X with A:=X.A.mark<|G (.ref a),calm:=Fa,xe:=λ_ _=>False}
theorem Cx.Ok.held(ok:X.Ok):(X.held a).Ok:=(ok.mod,ok.kind,ok.glob,ok.blt,ok.above,ok.inj,ok.has,ok.cab,(λh=>nomatch h),ok.frames,ok.stk,ok.exf,ok.bs,ok.bsz,ok.noex,ok.exfs,ok.funs,ok.frf)
theorem Inv.held(I:03 H s):Inv (X.held a) pins σ H s:=(I.ok.held,I.os,I.bare,I.base,I.loc,I.cell,I.free,I.freeC,I.pin,I.hok,I.len)
theorem Inv.unheld(ok:X.Ok)(I:Inv (X.held a) pins σ H s):03 H s:=(ok,I.os,I.bare,I.base,I.loc,I.cell,I.free,I.freeC,I.pin,I.hok,I.len)
theorem Inv.adopt(I:03 H s)(L:H a=B)(A:X.s₀.heap.get? a=B)(d:s.heap.get? a=G j)(hd:j.data=.fields vs)(l:∀p∈X.pn++pins,p.1≠a)(new:ObjOk X.prog X.w (upd H a o) s.heap a o):
  03 (upd H a o) s:=by
 let f:X.env.locals≠a:=λz=>by
  let(m,(ob,es,ep,e,dd,_),_):=I.loc;rw[z,d]at e;cases e;rw[hd]at dd;cases dd
 let i:∀x c,X.env.cells.lookup x=G c->c≠a:=λx c e z=>by
  let(v,ob,e1,dd):=I.cell x c e;rw[z,d]at e1;cases e1;rw[hd]at dd;cases dd
 let up:∀b u,H b=G u->upd H a o b=G u:=λb u e=>by rw[zan λz=>by rw[z,L]at e;cases e];show e
 apply(I.ok,I.os,I.bare,(I.base.keep,I.base.slot,λb ob e k O=>?_,I.base.there,λb xs e=>up _ _<|I.base.tups b xs e,λb ob u e=>up _ _<|I.base.frzs b ob u e,λb qs ps e=>up _ _<|I.base.tbls b qs ps e),I.loc,I.cell,by rw[zan f];show I.free,λx c e=>by rw[zan<|i x c e];show I.freeC x c e,λp g=>?_,λb u e=>?_,I.len)
 .rw[zan λz=>by rw[z,A]at e;cases e];show I.base.free b ob e k O
 .let(e,k,r):=I.pin p g;show(e,by rw[zan<|l p g];show k,r)
 .by_cases Y:b=a
  .subst Y;rw[zao]at e;cases e;show new
  .rw[zan Y]at e;show(I.hok b u e).stay (λ_ _ _ q=>q) (λc q=>up c _ q) (λc _ _ _ _ q=>up c _ q) λc xs q=>up c _ q
theorem Inv.touch{h':Heap}{L:List Ad}{t':Nat}(I:03 H s)(k:∀b o,b∉frs X.stack->b∉L->s.heap.get? b=G o->h'.get? b=G o)(f:∀b o,b∈frs X.stack->s.heap.get? b=G o->∃f,h'.get? b=G {o with slots:=f})
  (d:∀b∈L,∃A,H b=G (.ext A)/\A h'/\∃o,h'.get? b=G o):03 H {s with heap:=h',toks:=t'}:=by
 let fr:∀b∈frs X.stack,H b=B:=I.stkFree;apply I.call' (ch:=[]) R (λb o e n Y _=>k b o Y (λz=>?_) e,λb o e n Y _=>f b o Y e,λ_ _ _ n _=>n,λb o e _=>?_,λ_ _ e=>e,λ_ _ _ e=>e,λ_ _ _ e=>e) (λb u e=>?_) I.bare λb z=>nomatch z
 .let(A,D,_):=d b z;rw[n]at D;cases D
 .by_cases Y:b∈frs X.stack
  .let(q,D):=f b o Y e;show(_,D)
  .by_cases j:b∈L
   .let(_,_,_,y,D):=d b j;show(y,D)
   .exact(o,k b o Y j e)
 .by_cases j:b∈L
  .let(A,D,p,y,r):=d b j;rw[e]at D;cases D;show(p,(y,r),(I.hok b _ e).2.2)
  .refine(I.hok b u e).stay (λc w g l=>k c w (λz=>?_) (λz=>?_) l) (λ_ z=>z) (λ_ _ _ _ _ z=>z) λ_ _ z=>z
   .let:=fr c z;rcases g with rfl|g
    .rw[this]at e;cases e
    .rw[this]at g;cases g
   .rcases g with rfl|g
    .exact j z
    .let(A,D,_):=d c z;rw[g]at D;cases D
def ExcIs(a:Ad)(cls:Va)(h:Heap):Prop:=∃(o:Obj) (vs:Array Va),h.get? a=G o/\o.cls=cls/\o.data=.fields vs
def TbIs(T:Ad)(h:Heap):Prop:=∃(o:Obj) (vs:Array Va),h.get? T=G o/\o.data=.fields vs
noncomputable def excO(a:Ad)(cls:Va):HO:=.ext<|ExcIs a cls
noncomputable def tbO(T:Ad):HO:=.ext<|TbIs T
theorem exc_ok(x:ExcIs a cls h):ObjOk P w H h a (excO a cls) :=
 (x,let(o,_,e,_):=x;(o,e),λM J (o,vs,e,r) k=>(o,vs,k o e,r))
theorem tb_ok(x:TbIs T h):ObjOk P w H h T (tbO T) :=
 (x,let(o,_,e,_):=x;(o,e),λM J (o,vs,e,r) k=>(o,vs,k o e,r))
end
section
variable {prog:ik}{w:World}{A:iq}{E:Y0}{s:ii}{env:Env}
theorem zvp(r:A.frames=G (env::outer))(j:s.heap.FunFrames base (env::outer))(hf:env.frame=G L)(d:s.heap.get? e=G v)(hd:v.data=.fields vs)(M:vs[1]?=G (.ref T))
  (hTe:T≠e) (hT:s.heap.get? T=G oT) (u:oT.data=.fields ts) (U:ts[3]?=G .none)
  (h:∀h',(∀b o,b∉frs (env::outer)->b≠e->b≠T->s.heap.get? b=G o->h'.get? b=G o)->(∀b o,b∈frs (env::outer)->s.heap.get? b=G o->∃f,h'.get? b=G {o with slots:=f})->TbIs T h'->
   (∃(g:Obj) (i:Array Va) (T2:Ad) (D:Obj) (I:Array Va),h'.get? e=G g/\g.cls=v.cls/\g.data=.fields i/\i[1]?=G (.ref T2)/\T2≠e/\h'.get? T2=G D/\D.data=.fields I/\I[3]?=G .none/\s.heap.get? T2=B)->Q () {s with heap:=h'}) :
  wpAny 87 A (noteFrame (.ref e) env) (λ_ s'=>wpAny 87 A (setFlight (.ref e) B) Q E s') E s:=by
 unfold noteFrame;simp only[hf];apply ie<|i4 d hd M ?_;rw[Xq<|show(Va.ref T !=Va.none)=N from by simp];apply ie<|i4 hT u U ?_;rw[Xp<|show¬((Va.none==i6 L)=N)from by simp[i6]];apply ie<|i7 hT u (y2i.mp U).1 ?_;let c:∀b,b≠T->(s.heap.update T (Obj.mapFields (·.setIfInBounds 3 Va.none))).get? b=s.heap.get? b:=λb Y=>y22 _ _<|Ne.symm Y;let l:=Obj.data_mapFields u (·.setIfInBounds 3 Va.none);let hT':=y24 (Obj.mapFields (·.setIfInBounds 3 Va.none)) hT<|Obj.isFreed_of_fields l;generalize s.heap.update T (Obj.mapFields (·.setIfInBounds 3 Va.none))=J at c hT';let nr:∀b o,s.heap.get? b=G o->(∀vs,o.data ≠ .fields vs)->b≠T:=λb o Y hnf q=>by
  rw[q,hT]at Y;injection Y with Y;subst Y;show hnf ts u
 let a:J.FunFrames base (env::outer):=j.of_keeps λb o Y hnf=>(o,(c b<|nr b o Y hnf).trans Y,R);let fT:T∉frs (env::outer):=λz=>by
  let(_,o,e1,e2):=j.mem z;rw[hT]at e1;cases e1;show e2 _ u
 let fe:e∉frs (env::outer):=λz=>by
  let(_,o,e1,e2):=j.mem z;rw[d]at e1;cases e1;show e2 _ hd
 apply wpAny_newEntry (base:=without J<|frs (env::outer)++[e]) r (zc1 a λb Y=>zbm<|y1f _ Y) hf ((c e<|Ne.symm hTe).trans d) (zct _ _) (zbm<|y0s _ (y03.mpr R)) hd (y2i.mp M).1
  λh' (x1,H,x3,x4)=>?_
 let st:∀b o,b∉frs (env::outer)->b≠e->J.get? b=G o->h'.get? b=G o:=λb o n1 n2 q=>x1 b o (by rw[zbz λz=>(y0o.mp z).elim n1 λz=>n2<|y03.mp z];show q);let(g,i,T2,D,I,x,C,t3,t4,t5,p,t7,t8,t9):=x3;let f2:T2∉frs (env::outer):=λz=>by
  let(_,o,e1,e2):=H.mem z;rw[t7]at e1;cases e1;show e2 _ t8
 let n2:J.get? T2=B:=by rw[zbz λz=>(y0o.mp z).elim f2 λz=>p<|y03.mp z]at t5;show t5
 let n2T:T2≠T:=λz=>by rw[z,hT']at n2;cases n2
 apply h h' (λb o O b2 b3 q=>st b o O b2<|(c b b3).trans q) (λb o Y q=>?_) (_,_,st T _ fT hTe hT',l) (g,i,T2,D,I,x,C,t3,t4,p,t7,t8,t9,by rw[←c T2 n2T];show n2);let(_,y,e1,e2):=j.mem Y;rw[q]at e1;cases e1;show x4 b o ((c b<|nr b o q e2).trans q) e2
end
section
variable {X:Cx}{pins:Y2}{σ:St}{H:Hp}{s:ii}{k:Nat}{fa:Ad}{fd:i8}{ps:List Str}{sp:Sp}
theorem ex_call{c:XK}{Q:VK}{Xe:Y0}{x:Str}{e:Expr}{es:List Expr}{t:TA}{p pos:Pos}(F:FnOk X.prog X.w X.K X.mg X.base (CXE X.prog X.w) k fa fd ps sp)(g:Room k X.A)(hg:Gl X x)(l:X.mg x=G (.ref fa))(C:PySem.W.keepIn X.K (.ref fa)=N)(Y:Binds X.K fd ps [])
  (L:PA X.nox (e::es) t) (I:03 H s) (h:t σ H λvs H1=>sp vs H1 Q c) (O:∀H1 s1 e s',03 H1 s1->CXE X.prog X.w X.stack H1 s1 c e s'->Xe e s')
  (i:017=Fa:=by decide) (d:il (e::es) X.env=060::il es X.env:=by rfl) (y:(068).any (·.1)=Fa:=by rfl) :
  wpAny 41 X.A (eval 046 X.env) 050 Xe s:=by
 apply iF<|zfa I hg l ?_ i;apply PySem.W.callWith_K (h₀:=X.base) I.ok.mod.kin C (i5 (L pos pins s σ H _ (I.wish _) h) (λus s1 E=>ex5 E λvs H1 A r q=>(A.unwish.kIn,?_)) λ_ _ z=>False.elim z) d y;let a:=A.unwish;let j:us.length=ps.length:=by rw[←r.length];show F.len _ _ _ _ q
 apply jq<|iM (F.run X.A X.stack s1 H1 044 us vs Q c g a.env0 (by have:=Y s1 us a.kIn (by rw[y1k];show j);rw[y1k]at this;show this) r q) λr s' D=>?_;cases r with
 |error e=>show O H1 s1 e s' a D
 |ok fl =>
  cases fl with
  |ret u=>show a.after D
  |next=>show False.elim D
  |brk=>show False.elim D
  |cont=>show False.elim D
theorem zs2{M:Model}{A:iq}{E:Y0}{a T:Ad}{v r:Obj}{vs ts:Array Va}{Q:Unit->ii->Prop}(I:03 H s)(d:s.heap.get? a=G v)(hd:v.data=.fields vs)(i:vs[1]?=G (.ref T))(hT:s.heap.get? T=G r)(u:r.data=.fields ts)(U:3<ts.size)
  (g:H T=G (tbO T)) (h:∀h',03 H {s with heap:=h'}->Q () {s with heap:=h'}):wpAny M A (setFlight (.ref a) B) Q E s:=by
 unfold setFlight;apply ie<|i4 d hd i ?_;rw[Xq<|show(Va.ref T !=Va.none)=N from by simp];apply i7 hT u U ?_;let c:∀b,b≠T->(s.heap.update T (Obj.mapFields (·.setIfInBounds 3 ((B:Option Ad).elim Va.none λf=>i6 f)))).get? b=s.heap.get? b:=λb Y=>y22 _ _<|Ne.symm Y;let l:=Obj.data_mapFields u (·.setIfInBounds 3 ((B:Option Ad).elim Va.none λf=>i6 f));let e:=y24 (Obj.mapFields (·.setIfInBounds 3 ((B:Option Ad).elim Va.none λf=>i6 f))) hT<|Obj.isFreed_of_fields l;apply h _<|I.touch (L:=[T]) (t':=s.toks) (λb o _ n q=>(c b λz=>n<|y03.mpr z).trans q) (λb o Y q=>(o.slots,(c b λz=>?_).trans q)) λb Y=>?_
 .let:=I.stkFree b Y;rw[z,g]at this;cases this
 .rw[y03.mp Y];show(_,g,(_,_,e,l),_,e)
end
open PySem PySem.Spec PyProof.Rows PySem.W
structure KExc(K:Frag)(C:Ad):Prop where
 ga:findIn K 84 "__getattribute__"=G (G<|.builtin "BaseException.__getattribute__")
 gn:findIn K 84 "__getattr__"=G B
 cl:findIn K 84 "__class__"=G (G<|.builtin "object.__class__")
 mb:mroIn K C (.type "BaseException")=G N
 mo:mroIn K C (.type "object")=G N
 ic:hasDictIn K C=N
section
variable {prog:ik}{w:World}{A:iq}{E:Y0}{K:Frag}{h:Heap}{g:Array jp}{d:Drawn}{t:Nat}{os:OsState}{a C:Ad}{o:Obj}
theorem zws(X:K.In h)(e:mroIn K C base=G r)(D:Q r (h,g,d,t,os)):wpAny M A (isSubtype 84 base) Q E (h,g,d,t,os):=looks_mroIn X e A Q E _ (λ_ _ e=>e) D
end
def rIsX(K:Frag):List V->Hp->VK->Prop:=λxs H Q=>∃a C S b,xs=[.ref a,.ref S]/\H a=G (excO a 84)/\KExc K C/\kitOne K 84 (.ref S)=G b/\Q (.bl b) H
def rIsXT(K:Frag):List V->Hp->VK->Prop:=λxs H Q=>∃a C T b,xs=[.ref a,.ty T]/\H a=G (excO a 84)/\KExc K C/\kitOne K 84 (.type T)=G b/\Q (.bl b) H
open PySem PySem.Spec PyProof.Rows PySem.W PySem.Calls
section
variable {M:Model}{A:iq}{E:Y0}{K:Frag}{h:Heap}{g:Array jp}{d:Drawn}{t:Nat}{os:OsState}
theorem zxx(X:K.In h)(e:typeIn K v=G c)(D:Q c (h,g,d,t,os)):wpAny M A (typeOf v) Q E (h,g,d,t,os):=looks_typeIn X e A Q E _ (λ_ _ e=>e) D
structure KSup(K:Frag)(S:Ad):Prop where
 ty:typeIn K (.ref S)=G (.type "type")
 mb:mroIn K S (.type "BaseException")=G N
 ic:hasDictIn K S=N
theorem zkx(X:K.In h)(k:KSup K S)(he:h.get? e=G oe)(hcls:oe.cls=.ref C)(ms:mroIn K C (.ref S)=G N)(hq:Q N (h,g,d,t,os)):wpAny M A (excMatches (.ref e)<|.ref S) Q E (h,g,d,t,os):=by
 let ty:=k.ty;let mb:=k.mb;let f:=tc_notTuple;let(cd,hcd,_):=any_some k.ic;unfold clsIn at hcd;split at hcd
 .rename_i c' d' cd' sl' ho;let hS:=X _ _ ho;unfold excMatches
  repeat (first|(with_reducible apply wpAny_loadPart_at he ?_;rw[hcls])|(with_reducible apply zxx X ty ?_)|with_reducible apply wpAny_loadPart_at hS ?_|(with_reducible apply zws X mb ?_)|(with_reducible apply zws X ms ?_)|wp_step)
  show hq
 .cases hcd
end
section
variable {X:Cx}{pins:Y2}{σ:St}{H:Hp}{s:ii}{k:Nat}{fa:Ad}{fd:i8}{ps:List Str}{sp:Sp}
def tTry(K:Frag)(S:Ad)(sp:Sp)(i j:Nat)(t:TA)(ts:TS):TS:=λD σ H=>t σ H λvs H1=>sp vs H1 (λv H2=>D.nx (σ.set i<|G v) H2) λcls T H2=>∀a,T=G a->∃C,cls=.ref C/\mroIn K C (.ref S)=G N/\
 ∀H3,Same H2 H3->H3 a=G (excO a cls)->ts {nx:=λO H'=>(∃v,O[j]?=G (G v))/\D.nx (O.set j B) H',rt:=λ_ _=>False} (σ.set j<|G 09) H3
end
theorem own_K{K:Frag}(X:K.In h)(J:mg x=G 84)(q:excIn K C g c=N):OwnCls x C g c mg h:=by
 apply(J,?_);unfold excIn at q;split at q
 .rename_i dd cd f T;split at q
  .rename_i p bm k0 k1 k2 k3 n k5 e1 L;simp only[y07,beq_iff_eq,Bool.not_eq_true']at q;let(((((U,E),Q),a),d),i):=q;let o:=X _ _ T;let(nm,bs,mro,ns,e,hd,sn,sub,ab,col,j):=cd;simp only at e1 Q d i;subst e1 U E Q;obtain⟨l⟩:=f;simp only at L;subst L;show(bm,ns,nm,e,bs,hd,sn,sub,ab,col,dd,k0,k1,k2,k3,k5,_,o,.of_isNs<|isNs_of_in X d,nsMap_none_of_in X d i,tail_of_in X a)
  .cases q
 .cases q
theorem zq6{X:Cx}{E:XK}{x:Str}{C:Ad}{Bq c i:String}{bm:List Va}{r e pos:Pos}{f:Expr}{rest:List Expr}{t:TA}(Rq:Rs X E)(g:X.calm=N)(hg:Gl X x)(J:X.mg x=G 84)(o:excIn X.K C bm c=N)(FB:ExcBaseFacts Bq c i bm)(L:PA X (f::rest) t)
  (d:il (f::rest) X.env=(Fa,eval f X.env)::il rest X.env:=by rfl) (l:(iR e<|il rest X.env).any (·.1)=Fa:=by rfl) (hd:017=Fa:=by decide) :
  PS X (.Raise (G<|.Call (.Name x r) (f::rest) [] e) B pos) (tRaise E 84 t):=λY s U H D I h =>
 zur Rq g hg (own_K I.ok.mod.kin J o) FB L d l hd Y s U H D I h
structure CalE(P:ik)(w:World)(K:Frag)(mg:Y1)(base:Heap)(n:Nat)(x:Str)(ps:List Str)(sp:Sp):Prop where
 ex:∃f fd,FnOk P w K mg base (CXE P w) n f fd ps sp/\Binds K fd ps []/\PySem.W.keepIn K 45=N/\mg x=G 45
theorem Dfn.calE{P:ik}{w:World}{K:Frag}{mg:Y1}{base:Heap}{x:Str}{st:Stmt}{Nq ps:List Str}{k:Nat}{sp:Sp}(d:Dfn K mg x st ps)(S:FnScope Nq ps 96)(len:∀vs H Q E,sp vs H Q E->vs.length=ps.length)
  (a:∀(f:Ad) (j:Va) (A:iq) (outer:List Env) (s:ii) (H:Hp) (vs:List V) (Q:VK) (E:XK),Room k (A.deeper<|jg x 96 s.heap.objs.size f j)->sp vs H Q E->Rs (cxOf (CXE P w) P w K mg base Nq x 96 f j A outer s H E) E->
   ∃t,PSs (cxOf (CXE P w) P w K mg base Nq x 96 f j A outer s H E) 043 t/\t {nx:=λ_ H'=>Q .non H',rt:=Q} (start Nq vs) H):CalE P w K mg base (k+1) x ps sp:=by
 let(f,fd,F,b,m):=d.ex;show(f,fd,F.okE S len<|a f,b,F.kp,m)
section
variable {prog:ik}{w:World}{A:iq}{E:Y0}{s:ii}{env:Env}
theorem zsv{K:Frag}{a C S:Ad}{t:Expr}{i:Stmt}{f:List Stmt}{pos:Pos}{rest:List ExceptHandler}{Q:Flow->ii->Prop}(k:KSup K S)(ms:mroIn K C (.ref S)=G N)
  (h:wpAny 87 (A.mark<|G 09) (eval t env) (λc s₁=>c=.ref S/\K.In s₁.heap/\(∃v,s₁.heap.get? a=G v/\v.cls=.ref C)/\
   wpAny 87 (A.mark<|G 09) (setFlight 09 B) (λ_ s₂=>wpAny 87 (A.mark<|G 09) (execs (i::f) env) Q (λ_ _=>False) s₂) (λ_ _=>False) s₁) (λ_ _=>False) s) :
  wpAny 87 A (handleBy 09 env (.ExceptHandler (G t) B (i::f) pos::rest)) Q E s:=by
 apply wpAny_handleBy_cons (codeAny_handlers_test<|i5 h (λc s₁ h₁=>?_) λ_ _ y=>False.elim y) (by intro q;cases q);let(rfl,j,(v,D,e),u):=h₁;let(hh,g,d,tk,os):=s₁;apply zkx j k D e ms<|codeAny_handlers_suite ?_;show i5 u (λ_ s₂ p=>i5 p (λ_ _ y=>y) λ_ _ y=>False.elim y) λ_ _ y=>False.elim y
end
section
variable {X:Cx}{pins:Y2}{σ:St}{H:Hp}{s:ii}{k:Nat}{fa:Ad}{fd:i8}{ps:List Str}{sp:Sp}
def tTryN(K:Frag)(S:Ad)(sp:Sp)(t:TA)(ts:TS):TS:=λD σ H=>t σ H λvs H1=>sp vs H1 (λv H2=>D.nx σ H2) λcls T H2=>∀a,T=G a->∃C,cls=.ref C/\mroIn K C (.ref S)=G N/\
 ∀H3,Same H2 H3->ts {nx:=D.nx,rt:=λ_ _=>False} σ H3
theorem zyc{f c:Str}{S:Ad}{e:Expr}{es:List Expr}{t:TA}{ts:TS}{np cpos apos cp hpos pos:Pos}{b₀:Stmt}{suite:List Stmt}(F:FnOk X.prog X.w X.K X.mg X.base (CXE X.prog X.w) k fa fd ps sp)(g:Room k X.A)(hg:Gl X f)(hm:X.mg f=G (.ref fa))
  (hkp:PySem.W.keepIn X.K (.ref fa)=N) (Y:Binds X.K fd ps []) (ha:PA X.nox (e::es) t) (hgS:Gl X c) (hmS:X.mg c=G (.ref S)) (kS:KSup X.K S)
  (O:X.ex=[]) (hst:X.stack=X.env::X.outer) (r:X.env.frame=G X.env.locals) (hN:X.Nq.Nodup) (hsu:∀a,PSs (X.held a) (b₀::suite) ts)
  (hs:jd (.Call (.Name f np) (e::es) [] cpos) B apos.line X.env=pure Fa:=by rfl) (i:(f==("__debug__":Str))=Fa:=by decide)
  (hdc:(c==("__debug__":Str))=Fa:=by decide) (d:il (e::es) X.env=060::il es X.env:=by rfl) (ar:(iR cpos<|il es X.env).any (·.1)=Fa:=by rfl) :
  PS X 126 (tTryN X.K S sp t ts):=by
 intro pins s σ H D I h;apply wpAny_Try_except<|ji (wpAny_Expr_any (i5 (ex_call F g hg hm hkp Y ha I h (Xe:=_) (λH1 s1 ev s' A cx=>?_) i d ar) (λv s1 E=>ex5 E λy H1 A r1 q1=>?_) λ_ _ z=>z) I.quiet hs)
 ·-- an ph
  let(a,cls,H2,rfl,os,bare,un,hok,(oe,vs,T,oT,tts,x,t2,U,t4,t6,t7,t8,t9,n1,n2,M,J),ee):=cx;let(C,rfl,ms,ht):=ee a rfl;let j:03 H2 s':=A.call' (ch:=[]) os un hok bare λb z=>nomatch z;let nex:∀b,b∉X.ex:=λb z=>by rw[O]at z;cases z
  let s0:∀b,s1.heap.get? b=B->X.s₀.heap.get? b=B:=λb z=>by
   cases q:X.s₀.heap.get? b with
   |none=>rfl
   |some o =>
    let(o',e'):=A.base.there b o q<|nex b;rw[z]at e';cases e'
  let pn:∀b,s1.heap.get? b=B->∀p∈X.pn++pins,p.1≠b:=λb z p l q=>by
   let:=(A.pin p l).1;rw[q,z]at this;cases this
  let I3:=j.adopt (o:=excO a 84) M (s0 a n1) x U (pn a n1)<|exc_ok (oe,vs,x,t2,U);let h2':upd H2 a (excO a 84) T=B:=by rw[zan t6];show J
  let I4:=I3.adopt (o:=tbO T) h2' (s0 T n2) t7 t8 (pn T n2)<|tb_ok (oT,tts,t7,t8);apply zvp (base:=X.base) (outer:=X.outer) (L:=X.env.locals) (T:=T) (by rw[←hst];show I.ok.frames) (by rw[←hst];show j.stack) r x U t4 t6 t7 t8 t9 λh'' kk sl tb (oe',ck,Q,oT2,ts2,u1,u2,u3,u4,u5,u6,u7,u8,u9)=>?_;rw[←hst]at kk sl;let ea4:upd (upd H2 a<|excO a 84) T (tbO T) a=G (excO a 84):=by rw[zan<|Ne.symm t6,zao]
  let I5:=I4.touch (L:=[a,T]) (t':=s'.toks) (h':=h'') (λb o b1 b2 q=>kk b o b1 (λz=>b2<|by simp[z]) (λz=>b2<|by simp[z]) q) sl λb Y=>by
   simp only[y06,y0l,or_false]at Y;rcases Y with rfl|rfl
   .exact(_,ea4,(oe',ck,u1,u2.trans t2,u3),_,u1)
   .let(o,w,e1,e2):=id tb;show(_,zao,tb,o,e1)
  let T2n:s1.heap.get? Q=B:=by
   cases q:s1.heap.get? Q with
   |none=>rfl
   |some o =>
    let(o',e'):=un.there Q o q λz=>nomatch z;rw[u9]at e';cases e'
  let T2T:Q≠T:=λz=>by rw[z,t7]at u9;cases u9
  let HT2:upd (upd H2 a<|excO a 84) T (tbO T) Q=B:=by
   rw[zan T2T,zan u5];cases q:H2 Q with
   |none=>rfl
   |some o =>
    let(o',e'):=zc0<|hok Q o q;rw[u9]at e';cases e'
  let I6:=I5.adopt (o:=tbO Q) HT2 (s0 Q T2n) u6 u7 (pn Q T2n)<|tb_ok (oT2,ts2,u6,u7);generalize eH:upd (upd (upd H2 a<|excO a 84) T<|tbO T) Q (tbO Q)=H3 at I6;let g3:Same H2 H3:=by rw[←eH];show(za7 M _).trans<|(za7 h2' _).trans (za7 HT2 _)
  let ea3:H3 a=G (excO a 84):=by rw[←eH,zan<|Ne.symm u5];show ea4
  let eT3:H3 Q=G (tbO Q):=by rw[←eH];show zao
  apply zsv kS ms<|zfa (X:=X.held a) (I6.held (a:=a)) hgS hmS (R,I6.kIn,(oe',u1,u2.trans t2),?_) hdc;apply zs2 I6 u1 u3 u4 u6 u7 (y2i.mp u8).1 eT3 λh7 I7=>?_;apply i5 (hsu a pins _ _ H3 _ (I7.held (a:=a))<|ht H3 g3) (λfl s9 l=>?_) λ_ _ z=>False.elim z;cases fl with
  |next =>
   let(lh,H9,I9,q9):=l;show(_,H9,I9.unheld I.ok,q9)
  |brk=>let(_,_,_,z):=l;show False.elim z
  |cont=>let(_,_,_,z):=l;show False.elim z
  |ret u=>let(_,_,_,_,_,z):=l;show False.elim z
 .exact iS<|iS (_,H1,A,q1)
end
theorem zuq{X:Cx}{k m:Nat}{f c:Str}{S:Ad}{ps:List Str}{sp:Sp}{e:Expr}{es:List Expr}{t:TA}{ts:TS}{np cpos apos cp hpos pos:Pos}{b₀:Stmt}{suite:List Stmt}(C:CalE X.prog X.w X.K X.mg X.base m f ps sp)(g:Room k X.A)(j:m<=k)(hg:Gl X f)
  (L:PA X.nox (e::es) t) (o:Gl X c) (p:X.mg c=G (.ref S)) (s:KSup X.K S) (O:X.ex=[]) (U:X.stack=X.env::X.outer) (r:X.env.frame=G X.env.locals) (T:X.Nq.Nodup) (l:∀a,PSs (X.held a) (b₀::suite) ts)
  (hs:jd (.Call (.Name f np) (e::es) [] cpos) B apos.line X.env=pure Fa:=by rfl) (i:(f==("__debug__":Str))=Fa:=by decide)
  (q:(c==("__debug__":Str))=Fa:=by decide) (M:notStar e=N:=by rfl) (J:es.all notStar=N:=by rfl) :
  PS X 126 (tTryN X.K S sp t ts):=by
 let(A,fd,F,b,kp,d):=C.ex;show zyc F (g.mono j) hg d kp b L o p s O U r T l hs i q (zbb M)<|zbq J
theorem zu5{X:Cx}{E:XK}{n k:Nat}{x:Str}{ps:List Str}{sp:Sp}{p pos:Pos}{e:Expr}{es:List Expr}{t:TA}(Rq:Rs X E)(C:CalE X.prog X.w X.K X.mg X.base n x ps sp)(g:Room k X.A)(j:n<=k)(hg:Gl X x)(L:PA X (e::es) t)(i:017=Fa:=by decide)
  (M:notStar e=N:=by rfl) (J:es.all notStar=N:=by rfl):PE X 046 (tCall sp [] E t):=by
 let(f,fd,F,b,kp,m):=C.ex;show zmi F (g.mono j) hg m kp b .nil (Rq.passes λ_ _ _ h=>h) L i (zbb M)<|zbq J
theorem passE0:Passes (CXE X.prog X.w) X E0:=λY U H s e s' I c=>by
 let(a,cls,H2,rfl,os,bare,un,hok,_,f):=c;show False.elim f
theorem zkh{X:Cx}{n k:Nat}{x:Str}{ps:List Str}{sp:Sp}{p pos:Pos}{e:Expr}{es:List Expr}{t:TA}(C:CalE X.prog X.w X.K X.mg X.base n x ps sp)(g:Room k X.A)(j:n<=k)(hg:Gl X x)(L:PA X (e::es) t)(i:017=Fa:=by decide)
  (M:notStar e=N:=by rfl) (J:es.all notStar=N:=by rfl):PE X 046 (tCall sp [] E0 t):=by
 let(f,fd,F,b,kp,m):=C.ex;show zmi F (g.mono j) hg m kp b .nil passE0 L i (zbb M)<|zbq J
section
variable {X:Cx}{pins:Y2}{σ:St}{H:Hp}{s:ii}{k:Nat}{fa:Ad}{fd:i8}{ps:List Str}{sp:Sp}
def tTryA(K:Frag)(S:Ad)(sp:Sp)(j:Nat)(t:TA)(ts:TS):TS:=λD σ H=>t σ H λvs H1=>sp vs H1 (λv H2=>D.nx σ H2) λcls T H2=>∀a,T=G a->∃C,cls=.ref C/\mroIn K C (.ref S)=G N/\
 ∀H3,Same H2 H3->H3 a=G (excO a cls)->ts {nx:=λO H'=>(∃v,O[j]?=G (G v))/\D.nx (O.set j B) H',rt:=λ_ _=>False} (σ.set j<|G 09) H3
end
theorem op_le_str:OpR X (im .LtE) (λx y H Q=>∃i j,x=.str i/\y=.str j/\Q (.bl<|!(decide (j.cps.toList<i.cps.toList))) H):=by
 intro Y s U H x y v u Q I d O h;let(i,j,rfl,rfl,q):=h;let(t,rfl):=d;let(t',rfl):=O;show PySem.P.le_str<|zba I q R
def rIsXP(K:Frag):List V->Hp->VK->Prop:=λxs H Q=>∃(a C c:Ad) (d:List Ad) (b:Bool),xs=[.ref a,.ref c]/\H a=G (excO a 84)/\KExc K C/\H c=G (.tup<|d.map V.ref)/\kitAny K 84 (d.map Va.ref)=G b/\Q (.bl b) H
theorem zjl{pos c:Pos}(l:List Va)(h:TriplesOk l):jh c (l++[i6 pos.line,i6 pos.col,v])=match jh c l with
  |some x=>G x
  |none=>if((pos.line:Int)==(c.line:Int)&&(pos.col:Int)==(c.col:Int))=N then G v else B:=by
 fun_induction TriplesOk l with
 |case1=>simp[jh,i6]
 |case2 a t b u x rest E =>
  simp only[y2n,jh];split
  .rfl
  .exact E h
 |case3 l M J=>show h.elim
def TabOk(H:Hp)(P:Ad)(qs:Y3):Prop:=∃ps:Array Va,H P=G (.tbl qs ps)
theorem TabOk.same(T:TabOk H P qs)(g:Same H H'):TabOk H' P qs:=let(ps,h):=T;(ps,g _ _ h)
def KCode(K:Frag)(c P:Ad):Prop:=∃o vs a x d T p text tt,K.lookup c=G o/\o.cls=.type "code"/\o.data=.fields vs/\vs[11]?=G (.ref P)/\vs.getD 11 .none=.ref P/\vs.getD 18 .none=.str a x/\
 vs.getD 7 .none=.int d T/\vs.getD 9 .none=.bool p/\vs.getD 10 .none=.int text tt/\c≠P
section
variable {X:Cx}{pins:Y2}{σ:St}{H:Hp}{s:ii}
theorem fn_code(I:03 H s)(g:X.env.code=.ref c)(kc:KCode X.K c P)
  (T:TabOk H P qs) (D:(pos,qual)∈qs) (hone:∀p∈qs,p.1.line=pos.line->p.1.col=pos.col->p.2=qual)
  (h:∀c' o H' s',03 H' s'->H' c'=G (.frz o<|.own c')->CodeObj o qual->Same H H'->Q (.ref c') s') :
  wpAny 41 X.A (functionCode X.env pos line name qual params scope body) Q E s:=by
 let(ps0,M):=T;let(more,hop,htr,A):=I.hok P _ M;let(oc,vs,file,tf,d,tg,inF,text,tt,lk,C,hd,h11',h11,h18,h7,h9,h10,ai):=kc;let ho:s.heap.get? c=G oc:=I.kIn c oc lk;generalize hps:ps0++more=ps at hop htr A;cases U:jh pos ps.toList with
 |some v =>
  let(c',o,rfl,J,co):=A _ D v U;unfold functionCode codeAt;rw[g,Xp<|show¬((Va.ref c==Va.none)=N)from y0f];apply ie<|jt ho hd ?_;rw[h11];apply ie<|jt hop R ?_;rw[U];show ig<|h c' o H s I J co λ_ _ e=>e
 |none =>
  let ic:s.heap.IsCode c P ps:=(oc,vs,file,tf,d,tg,inF,text,tt,_,ho,hd,h11,h18,h7,h9,h10,hop,R,htr,ai);apply wpAny_functionCodeX g ic ((oc,vs,ho,C,hd,h11'),hop) U λc' h' tk O hge a8 hic hrec o9 _=>?_;let(c₂,y,ck,t',e,J,i,hv'):=hrec;cases e;let nPn:∀b,H b=B->b≠P:=λb e z=>by rw[z,M]at e;cases e
  let hcn:H c'=B:=I.hok.fresh hge;let nc:∀b u,H b=G u->b≠c':=λb u e z=>by rw[z,hcn]at e;cases e
  let nP:∀b u,H b=G u->(∀a b,u ≠ .tbl a b)->b≠P:=λb u e n z=>by rw[z,M]at e;cases e;show n _ _ R
  let up:∀b u,H b=G u->upd H c' (.frz y<|.own c') b=G u:=λb u e=>by rw[zan<|nc b u e];show e
  let co:CodeObj y qual:=(ck,t',i,hv');let I':03 (upd H c'<|.frz y (.own c')) {s with heap:=h',toks:=tk}:=by
   apply I.un (λb o e n _ _=>O b o (nPn b n) e,λb o e n _ _=>(o.slots,O b o (nPn b n) e),λb o e n _=>?_,λb o e _=>?_,λb xs e=>up b _ e,λb o u e=>up b _ e,λb qs ps e=>up b _ e) λb u e=>?_
   .rw[zan<|y0m (y0k (y0h e) hge)];show n
   .by_cases Y:b=P
    .subst Y;show(_,o9.2)
    .exact(o,O b o Y e)
   .by_cases Y:b=c'
    .subst Y;rw[zao]at e;cases e;show(J,_,J)
    .rw[zan Y]at e;by_cases hbP:b=P
     .subst hbP;rw[M]at e;cases e;let j:(ps++#[i6 pos.line,i6 pos.col,Va.ref c']).toList=ps.toList++[i6 pos.line,i6 pos.col,.ref c']:=by simp
      let L:ps0++(more++#[i6 pos.line,i6 pos.col,Va.ref c'])=ps++#[i6 pos.line,i6 pos.col,Va.ref c']:=by rw[←Array.append_assoc,hps]
      apply(more++#[i6 pos.line,i6 pos.col,.ref c'],by rw[L];show o9.2,by rw[L,j];show TriplesOk_snoc _ _ _ _ htr,λp l v e=>?_);rw[L,j,zjl _ htr]at e;cases hv:jh p.1 ps.toList with
      |some x =>
       rw[hv]at e;cases e;let(f,o1,e1,L,r):=A p l _ hv;show(f,o1,e1,up f _ L,r)
      |none =>
       rw[hv]at e;simp only at e;split at e
       .rename_i hh;cases e;rw[y07]at hh;let e1:pos.line=p.1.line:=by have:=hh.1;simp at this;omega
        let L:pos.col=p.1.col:=by have:=hh.2;simp at this;omega
        show(c',y,R,zao,by rw[hone p l e1.symm L.symm];show co)
       .cases e
     .refine(I.hok b u e).stay (λc w g q=>O c w ?_ q) (λc q=>up c _ q) (λc _ _ _ _ q=>up c _ q) λc xs q=>up c _ q;rcases g with rfl|g
      .exact hbP
      .exact nP c _ g λ_ _ z=>nomatch z
  show h c' y _ _ I' zao co up
def cloFd(name qual:Str)(params:iN)(body:jS)(scope:Scope)(cl:Y4)(ct cd J:Va):i8 :=
 {name,qualname:=qual,params,body,scope,globals:=iu,closure:=cl,closureTuple:=ct,code:=cd,builtins:=iV,defaults:=.none,kwdefaults:=.none,annotations:=B,pyModule:=J,doc:=.none}
def BltK(base:Heap)(mg:Y1):Prop:=∃bm o,mg "__builtins__"=G (.ref bm)/\bm≠iV/\base.get? bm=G o/\o.cls=.type "module"/\o.dict=G iV/\o.data=.plain
def NoDoc:jS->Prop
 |.stmts b=>docOf b=B
 |.expr _=>True
structure Made(X:Cx)(H H':Hp)(name qual:Str)(params:iN)(body:jS)(scope:Scope)(f:Ad):Prop where
 old:Same H H'
 new:H f=B
 ex:∃cl ct c' oc pm,(∀x c,cl.lookup x=G c->X.env.cells.lookup x=G c)/\(∀p∈scope.names,p.2=.free->∃c,cl.lookup p.1=G c)/\H' c'=G (.frz oc<|.own c')/\CodeObj oc qual/\
  H' f=G (.frz {cls:=.type "function",data:=.func (cloFd name qual params body scope cl ct (.ref c') pm)} (.own f))
theorem make_fn(I:03 H s)(g:X.env.code=.ref c)(v:KCode X.K c P)(y:BltK X.base X.mg)
  (r:∀p∈scope.names,p.2=.free->X.env.kindOf p.1=G .cell\/X.env.kindOf p.1=G .free) (nd:NoDoc body)
  (T:TabOk H P qs) (D:(pos,qual)∈qs) (x:∀p∈qs,p.1.line=pos.line->p.1.col=pos.col->p.2=qual)
  (h:∀f H' s',03 H' s'->Made X H H' name qual params body scope f->Q 45 s') :
  wpAny 41 X.A (makeFunction name qual params body scope X.env [] [] [] pos J) Q E s:=by
 let(cl,C,hcl1,M):=zib (scope:=scope) (env:=X.env) λp l U=>I.ok.has p.1<|r p l U;let(bm,ob,O,b2,b3,b4,b5,L):=y;let tail:∀(ct:Va) (s1:ii),03 H s1->wpAny 41 X.A (do
   let fd:i8:={name,qualname:=qual,params,body,scope,globals:=X.env.globals,closure:=cl,closureTuple:=ct,code:=←functionCode X.env pos J name qual params scope body,builtins:=←builtinsFor X.env.globals X.env.builtins,defaults:=.none,kwdefaults:=.none,annotations:=B,pyModule:=(←nsGet X.env.globals "__name__").getD .none,doc:=←match body with|.stmts b=>(match docOf b with|some s=>mkText s|none=>pure .none)|.expr _=>pure .none}
   newObj (.type "function") (.func fd)) Q E s1:=by
  intro ct s1 A;apply ie<|fn_code A g v T D x λc' oc H' s' i e1 co up=>?_;let hg:s'.heap.Ns X.env.globals X.mg:=by rw[i.ok.glob];show i.mod.glob.keeps i.bk
  apply ie<|wpAny_builtinsFor hg O b2 (i.bk bm ob b3) b4 b5 L ?_;apply ie<|wpAny_nsGet hg ?_;let fin:wpAny 41 X.A (newObj (.type "function")<|.func {name,qualname:=qual,params,body,scope,globals:=X.env.globals,closure:=cl,closureTuple:=ct,code:=.ref c',builtins:=iV,defaults:=.none,kwdefaults:=.none,annotations:=B,pyModule:=(X.mg "__name__").getD .none,doc:=.none}) Q E s':=by
   apply iz ?_ (by size_fits);rw[i.ok.glob];let q:H' s'.heap.objs.size=B:=i.fresh;let Y:H s'.heap.objs.size=B:=by
    cases e:H s'.heap.objs.size with
    |none=>rfl
    |some u=>rw[up _ u e]at q;cases q
   let nf:∀b u,H' b=G u->b≠s'.heap.objs.size:=λb u e z=>by rw[z,q]at e;cases e
   let j:=i.laid (a:=s'.heap.objs.size) (o:=.frz {cls:=.type "function",data:=.func (cloFd name qual params body scope cl ct (.ref c')<|(X.mg "__name__").getD .none)} (.own s'.heap.objs.size)) (t':=s'.toks)
    (h':=s'.heap.push {cls:=.type "function",data:=.func (cloFd name qual params body scope cl ct (.ref c')<|(X.mg "__name__").getD .none)}) (λb u e=>y01 _ e) 37 (y0c _ R,_,y0c _ R)
   apply h _ _ _ j (λb u e=>by rw[zan<|nf b u (up b u e)];show up b u e,Y,cl,ct,c',oc,_,hcl1,M,by rw[zan<|nf c' _ e1];show e1,co,zao)
  cases body with
  |expr e=>show ie<|ig fin
  |stmts b =>
   let nd':docOf b=B:=nd;apply ie ?_;change wpAny _ _ (match docOf b with|some s=>mkText s|none=>pure .none) _ _ _;rw[nd'];show ig fin
 rw[makeFunction_eq];simp only[List.isEmpty_nil,if_true,List.zip_nil_right,List.filterMap_nil];apply ie<|ig (ie<|ig (ie<|ig ?_));unfold makeTail;rw[C];apply ie<|ig ?_;change wpAny _ _ (if cl.isEmpty=N then _ else _) _ _ _;by_cases d:cl.isEmpty=N
 .rw[Xq d];show ie<|ig (tail .none s I)
 .rw[Xp d];apply ie<|wpAny_newTextTuple ?_;show(tail _ _<|I.kept (t':=s.toks) λb o e=>y01 _ e)
end
noncomputable def fnO(fd:i8)(f:Ad):HO:=.frz {cls:=.type "function",data:=.func fd} (.own f)
def Frz(H H':Hp):Prop:=∀b o u,H b=G (.frz o u)->H' b=G (.frz o u)
theorem Frz.refl(H:Hp):Frz H H:=λ_ _ _ e=>e
theorem Frz.trans(a:Frz H H1)(b:Frz H1 H2):Frz H H2:=λc o u e=>b c o u<|a c o u e
def CloH(P:ik)(w:World)(K:Frag)(mg:Y1)(base:Heap)(k:Nat)(H:Hp)(f:Ad)(n:Nat)(sp:Sp):Prop :=
 ∀(A:iq) (outer:List Env) (s:ii) (H':Hp) (us:List Va) (vs:List V) (Q:VK),Room k A->Env0 P w K mg base A outer s H'->Frz H H'->Vals vs us->vs.length=n->sp vs H' Q E0->
  iZ 011 A (.call 45 044) (CR CX0 outer P w H' s Q E0) s
theorem CloH.mono{P:ik}{w:World}{K:Frag}{mg:Y1}{base:Heap}{k:Nat}{H H1:Hp}{f:Ad}{n:Nat}{sp:Sp}(c:CloH P w K mg base k H f n sp)(g:Frz H H1):CloH P w K mg base k H1 f n sp :=
 λA outer s H' us vs Q l M E=>c A outer s H' us vs Q l M<|g.trans E
def tCallV(P:ik)(w:World)(K:Frag)(mg:Y1)(base:Heap)(k n:Nat)(sp:Sp)(i:Nat)(t:TA):TE:=λU H Q=>∃f fd,U[i]?=G (G 45)/\H f=G (fnO fd f)/\
 t U H λvs H1=>H1 f=G (fnO fd f)/\CloH P w K mg base k H1 f n sp/\vs.length=n/\sp vs H1 Q E0
theorem zv1(f:Ad)(fd:i8):PySem.W.keepIn [(f,{cls:=.type "function",data:=.func fd})] 45=N:=by
 unfold PySem.W.keepIn;simp[List.lookup]
theorem zu4{X:Cx}{x:Str}{i k n:Nat}{sp:Sp}{p pos:Pos}{e:Expr}{es:List Expr}{t:TA}(T:X.Nq[i]?=G x)(M:Vis X.env.scope x)(g:Room k X.A)(ha:PA X (e::es) t)
  (hd:017=Fa:=by decide) (O:(x==("__classdict__":Str))=Fa:=by decide) (d:il (e::es) X.env=060::il es X.env:=by rfl) (y:(068).any (·.1)=Fa:=by rfl) :
  PE X 046 (tCallV X.prog X.w X.K X.mg X.base k n sp i t):=by
 intro pins s σ H Q I h;let(f,fd,hs,U,h):=h;apply iF<|thn (zwy (pos:=p) T M hd O pins s σ H (λv H'=>v=.ref f/\H'=H) I<|zxy hs (R,R)) λu s1 E=>ex5 E λv H1 A r1 C=>?_;let(e1,L):=C;subst e1 L;cases(show u=Va.ref f from r1);let J:∀{H2:Hp} {s2:ii},03 H2 s2->H2 f=G (fnO fd f)->PySem.W.Frag.In [(f,{cls:=.type "function",data:=.func fd})] s2.heap:=λ{H2 s2} Y l a o e=>by
  simp only[List.lookup]at e;split at e
  .rename_i q;cases e;rw[beq_iff_eq.mp q];show(Y.hok f _ l).1
  .cases e
 apply PySem.W.callWith_K (K:=[(f,{cls:=.type "function",data:=.func fd})]) (h₀:=s1.heap) (J A U) (zv1 f fd) (thn (ha pos pins s1 σ H1 _ A h) λus s2 (vs,H2,Y,r,l,c,j,q)=>(J Y l,?_)) d y;apply jq<|iM (c X.A X.stack s2 H2 us vs Q g Y.env0 (Frz.refl _) r j q) λr s' D=>?_;cases r with
 |error e=>show False.elim D
 |ok fl =>
  cases fl with
  |ret u=>show Y.after D
  |next=>show False.elim D
  |brk=>show False.elim D
  |cont=>show False.elim D
def tDef(X:Cx)(P:Ad)(qs:Y3)(name qual:Str)(params:iN)(body:jS)(scope:Scope)(j:Nat):TS:=λD U H=>TabOk H P qs/\∀f H',Made X H H' name qual params body scope f->D.nx (U.set j<|G 45) H'
def tLam(X:Cx)(P:Ad)(qs:Y3)(name qual:Str)(params:iN)(body:jS)(scope:Scope):TE:=λU H Q=>TabOk H P qs/\∀f H',Made X H H' name qual params body scope f->Q 45 H'
section
variable {X:Cx}{c P:Ad}{qs:Y3}{pos:Pos}{name qual:Str}{params:iN}{scope:Scope}
theorem zye(g:X.env.code=.ref c)(l:KCode X.K c P)(y:BltK X.base X.mg)(r:∀p∈scope.names,p.2=.free->X.env.kindOf p.1=G .cell\/X.env.kindOf p.1=G .free)(nd:docOf body=B)
  (o:(pos,qual)∈qs) (x:∀p∈qs,p.1.line=pos.line->p.1.col=pos.col->p.2=qual) (hd:params.defaults=[]) (C:params.kw_defaults=[]) (L:∀e,annTrees params B e=[]) (a:qualnameIn X.env name name=qual)
  (J:X.Nq.Nodup) (u:X.Nq[j]?=G name) (O:X.env.scope.names.lookup name=G .local):PS X (.FunctionDef name params body [] B [] scope B name pos) (tDef X P qs name qual params (.stmts body) scope j):=by
 intro Y s U H D I h;let(T,h):=h;rw[exec_def];let d:defaultsOf params X.env=([],[]):=by rw[defaultsOf_eq,hd,C];rfl
 simp only[d,L,a];apply ie<|j4 (ie<|iA (ie<|ig (ie<|iA (ig<|iA (ie<|ig ?_)))));apply make_fn I g l y r nd T o x λf H' s' i M=>ie<|j4 (ie<|wpAny_bindName ?_);show zif i J u (.inl O) (v:=.ref f) R (λs2 q=>ig (_,H',q,h f H' M))<|.inr O
end
def CellOf(X:Cx)(b:Ad):Prop:=∃x,X.env.cells.lookup x=G b
def Adopted(X:Cx)(U:St)(H Hq:Hp):Prop:=(∀b,¬CellOf X b->Hq b=H b)/\(∀b,CellOf X b->H b=B)/\(∀x y c,X.env.cells.lookup x=G c->X.env.cells.lookup y=G c->x=y)/\∀x c,X.env.cells.lookup x=G c->∃o v,Hq c=G 040/\o.data=.cell v/\
 ∀(i:Nat) y,X.Nq[i]?=G x->U[i]?=G (G y)->(X.env.kindOf x=G .cell\/X.env.kindOf x=G .free)->∃u,RelV y u/\v=G u
open Classical in
noncomputable def dropX(X:Cx)(H:Hp):Hp:=λb=>if CellOf X b then B else H b
def tCallA(X:Cx)(sp:Sp)(t:TA):TE:=λU H Q=>t U H λvs H1=>∀Hq,Adopted X U H1 Hq->sp vs Hq (λv H2=>Q v<|dropX X H2) E0
theorem zu7{X:Cx}{k:Nat}{f:Ad}{fd:i8}{ps:List Str}{sp:Sp}{x:Str}{p pos:Pos}{e:Expr}{es:List Expr}{t:TA}(F:FnOk X.prog X.w X.K X.mg X.base CX0 k f fd ps sp)(hr:Room k X.A)(hg:Gl X x)(hm:X.mg x=G 45)(C:PySem.W.keepIn X.K 45=N)(Y:Binds X.K fd ps [])
  (cu:∀x,X.fn x=N) (ha:PA X (e::es) t) (hdb:017=Fa:=by decide) (d:il (e::es) X.env=060::il es X.env:=by rfl) (ar:(068).any (·.1)=Fa:=by rfl) :
  PE X 046 (tCallA X sp t):=by
 classical
 intro pins s σ H Q I h;apply iF<|zfa I hg hm ?_ hdb;apply PySem.W.callWith_K (h₀:=X.base) I.ok.mod.kin C (thn 074 λus s1 E=>ex5 E λvs H1 A r q=>(A.kIn,?_)) d ar;letI Hq:Hp:=λb=>if CellOf X b then(s1.heap.get? b).map λo=>.frz o (.own b)else H1 b
 let J:∀b,¬CellOf X b->Hq b=H1 b:=λb n=>Xp n;let q2:∀x c,X.env.cells.lookup x=G c->∃o v,s1.heap.get? c=G o/\o.data=.cell v/\Hq c=G 040:=λx c e=>by
  let(v,o,T,hd):=A.cell x c e;show(o,v,T,hd,by change(if CellOf X c then _ else _)=_;rw[Xq (x,e),T];rfl)
 let tr:∀b u,H1 b=G u->¬CellOf X b:=λb u e (x,z)=>by rw[A.freeC x b z]at e;cases e
 let ad:Adopted X σ H1 Hq:=⟨J,λb (x,z)=>A.freeC x b z,A.ok.inj,λx c e=>by
  let(o,v,T,hd,D):=q2 x c e;apply(o,v,D,hd,λi y e1 L e3=>?_);let(m,hn,j):=A.loc;let(u,ru,l):=j i x y e1 L (by rcases e3 with z|z;show .inr<|.inl z;show .inr<|.inr z);rcases l with⟨z,_⟩|⟨_,c',br,o',am,aq⟩
  .rcases e3 with y'|y'<;>(rw[z]at y';cases y')
  .rw[e]at br;cases br;rw[T]at am;cases am;rw[hd]at aq;cases aq;show(u,ru,R)⟩
 let low:∀b,CellOf X b->X.s₀.heap.objs.size<=b:=λb (x,e)=>A.ok.cab x b (cu x) e;let nfr:∀b∈frs X.stack,¬CellOf X b:=λb Y (x,e)=>by
  rcases y06.mp (A.stkSub b Y)with z|z
  .exact A.cne x b e z
  .let(_,o,T,_):=A.ok.funs.mem z;show Xa (y0k (y0h T)<|low b (x,e))<|y1n _
 let up:∀b u,H1 b=G u->Hq b=G u:=λb u e=>by rw[J b<|tr b u e];show e
 let hokq:HOk X.prog X.w Hq s1.heap:=λb u e=>by
  by_cases g:CellOf X b
  .let(x,ex):=g;let(o,v,T,hd,D):=q2 x b ex;rw[D]at e;cases e;show(T,o,T)
  .rw[J b g]at e;show(A.hok b u e).stay (λ_ _ _ z=>z) (λc z=>up c _ z) (λc _ _ _ _ z=>up c _ z) λc xs z=>up c _ z
 let M:=A.env0;let e0q:Env0 X.prog X.w X.K X.mg X.base X.A X.stack s1 Hq:=⟨M.frames,M.mod,λb o e=>⟨(M.bs b o e).1,by
  rw[J b λg=>Xa (y0k (y0h e)<|y0z A.ok.bsz (low b g))<|y1n _];show(M.bs b o e).2⟩,M.bsz,M.funs,λb Y=>by rw[J b<|nfr b Y];show M.frf b Y,hokq,M.bare⟩
 let j:us.length=ps.length:=by rw[←r.length];show F.len _ _ _ _<|q Hq ad
 apply jq<|iM (F.run X.A X.stack s1 Hq 044 us vs _ E0 hr e0q (by have:=Y s1 us A.kIn (by rw[y1k];show j);rw[y1k]at this;show this) r<|q Hq ad) λr s' D=>?_;cases r with
 |error e=>show False.elim D
 |ok fl =>
  cases fl with
  |next=>show False.elim D
  |brk=>show False.elim D
  |cont=>show False.elim D
  |ret u =>
   let(v,H2,os,bare,un,og,rv,qq):=D;let c2:∀x c,X.env.cells.lookup x=G c->∃o,s1.heap.get? c=G o/\H2 c=G 040/\s'.heap.get? c=G o:=λx c e=>by
    let(o,v,T,hd,D):=q2 x c e;let z:=un.frzs c o _ D;show(o,T,z,(og c _ z).1)
   let d1:∀b,¬CellOf X b->dropX X H2 b=H2 b:=λb n=>Xp n;let nmC:∀b o u q,CodeObj o q->H2 b=G (.frz o u)->¬CellOf X b:=λb o u q (vs,t,hv,_) e (x,z)=>by
    let(o',am,z2,_):=c2 x b z;rw[z2]at e;cases e;let(v,o3,T,hd):=A.cell x b z;rw[am]at T;cases T;rw[hv]at hd;cases hd
   let nm:∀b u,H2 b=G u->(∀o a,u ≠ .frz o a)->¬CellOf X b:=λb u e n (x,z)=>by
    let(o,_,z2,_):=c2 x b z;rw[z2]at e;cases e;show n _ _ R
   apply A.after (v,dropX X H2,os,bare,(λb o e n U O=>?_,λb o e n U O=>?_,λb o e n O=>?_,λb o e O=>?_,λb xs e=>?_,λb o a e=>?_,λb qs ps e=>?_),λb u e=>?_,rv,qq)
   .by_cases g:CellOf X b
    .let(x,ex):=g;let(o',am,_,z):=c2 x b ex;rw[e]at am;cases am;show z
    .exact un.keep b o e (by rw[J b g];show n) U O
   .exact un.slot b o e (by rw[J b<|nfr b U];show n) U O
   .by_cases g:CellOf X b
    .exact Xq g
    .rw[d1 b g];show un.free b o e (by rw[J b g];show n) O
   .exact un.there b o e O
   .rw[d1 b<|tr b _ e];show un.tups b xs<|up b _ e
   .rw[d1 b<|tr b _ e];show un.frzs b o a<|up b _ e
   .rw[d1 b<|tr b _ e];show un.tbls b qs ps<|up b _ e
   .let g:¬CellOf X b:=λg=>by
     let:dropX X H2 b=B:=Xq g;rw[this]at e;cases e
    rw[d1 b g]at e;show(og b u e).stay (λ_ _ _ z=>z) (λc z=>by rw[d1 c<|nm c _ z λ_ _ y=>nomatch y];show z) (λc o a q co z=>by rw[d1 c<|nmC c o a q co z];show z) λc xs z=>by rw[d1 c<|nm c _ z λ_ _ y=>nomatch y];show z
theorem zhy:∀{xs:List d} {ys:List q},io Rq xs ys->xs.length=ys.length
 |_,_,.nil=>rfl
 |_,_,.cons _ t=>by rw[y0b,y0b,zhy t]
theorem ztm:∀{xs:List d} {ys:List q} {i:Nat} {x:d} {y:q},io Rq xs ys->xs[i]?=G x->ys[i]?=G y->Rq x y
 |_,_,_,_,_,.nil,e,_=>by simp at e
 |_,_,0,_,_,.cons r _,e1,L=>by simp at e1 L;subst e1 L;show r
 |_,_,i+1,_,_,.cons _ t,e1,L=>ztm (i:=i) t (by simpa using e1) (by simpa using L)
def envL(qual:Str)(scope:Scope)(cl:Y4)(L f:Ad)(cd:Va):Env :=
 {scope:=scope,locals:=L,globals:=iu,cells:=cl,qual:=qual++".<locals>.",func:=G f,code:=cd,frame:=G L,builtins:=iV}
def InCl(cl:Y4)(b:Ad):Prop:=∃x,cl.lookup x=G b
open Classical in
noncomputable def dropL(cl:Y4)(H:Hp):Hp:=λb=>if InCl cl b then B else H b
open Classical in
noncomputable def mixL(cl:Y4)(H H2:Hp):Hp:=λb=>if InCl cl b then H b else H2 b
noncomputable def cxL(P:ik)(w:World)(K:Frag)(mg:Y1)(base:Heap)(Nq:List Str)(qual:Str)(scope:Scope)(cl:Y4)(f:Ad)(cd:Va)(A:iq)(outer:List Env)(s:ii)(H:Hp):Cx where
 prog:=P
 w:=w
 K:=K
 mg:=mg
 base:=base
 A:=A.deeper<|envL qual scope cl s.heap.objs.size f cd
 Nq:=Nq
 s₀:=s
 H₀:=dropL cl H
 env:=envL qual scope cl s.heap.objs.size f cd
 outer:=outer
 stack:=envL qual scope cl s.heap.objs.size f cd::outer
 ex:=[]
 calm:=N
 fn:=λ_=>Fa
 pn:=[]
 xe:=λ_ _=>False
structure CloScope(own ps cap:List Str)(sc:Scope):Prop where
 kind:sc.kind=.function
 co:sc.isCoroutine=Fa
 gen:sc.isGenerator=Fa
 nocell:∀y∈sc.names,y.2 ≠ .cell
 pre:own.take ps.length=ps
 nd:ps.Nodup
 par:∀x∈ps,sc.names.lookup x=G .local
 cap:∀x∈cap,sc.names.lookup x=G .free
def Caps(H:Hp)(cl:Y4)(cap:List Str)(cv:List V):Prop:=io (λx v=>∃c o u,cl.lookup x=G c/\H c=G 040/\o.data=.cell (G u)/\RelV v u) cap cv
noncomputable def stL(own:List Str)(vs cv:List V):St:=vs.map G++List.replicate (own.length-vs.length) B++cv.map G
section
variable {P:ik}{w:World}{K:Frag}{mg:Y1}{base:Heap}{A:iq}{outer:List Env}{s:ii}{H:Hp}{own ps cap:List Str}{qual:Str}{scope:Scope}{cl:Y4}{f:Ad}{cd:Va}{vs cv:List V}{us:List Va}
theorem zcr(C:∀x c,cl.lookup x=G c->∃o v,H c=G 040/\o.data=.cell v)(e:H b=G u)(n:∀o a,u ≠ .frz o a):¬InCl cl b:=λ(x,z)=>by
 let(o,v,E,_):=C x b z;rw[E]at e;cases e;show n _ _ R
theorem zs5(C:∀x c,cl.lookup x=G c->∃o v,H c=G 040/\o.data=.cell v)(co:CodeObj o q)(e:H b=G (.frz o a)):¬InCl cl b:=λ(x,z)=>by
 let(o,v,E,Q):=C x b z;rw[E]at e;cases e;let(vs,t,D,_):=co;rw[D]at Q;cases Q
end
section
variable {P:ik}{w:World}{K:Frag}{mg:Y1}{base:Heap}{H:Hp}{own ps cap:List Str}{name qual:Str}{params:iN}{scope:Scope}{cl:Y4}{f c':Ad}{oc:Obj}{ct pm:Va}{cv:List V}{k:Nat}{sp:Sp}
theorem Caps.frz(g:Frz H H'):∀{cap:List Str} {cv:List V},Caps H cl cap cv->Caps H' cl cap cv
 |_,_,.nil=>.nil
 |_,_,.cons (c,o,u,e1,L,r) t=>.cons (c,o,u,e1,g _ _ _ L,r)<|Caps.frz g t
end
theorem zbw:∀(ns:List<|Str×iW) (n:Nat) (cl:Y4),ix n ns cl=ix n ns []++cl
 |[],_,_=>rfl
 |(x,k)::r,n,cl=>by
  unfold ix;split
  .rw[zbw r (n+1) ((x,n)::cl),zbw r (n+1) [(x,n)]];simp
  .exact zbw r n cl
theorem zco:∀(ns:List<|Str×iW) (n:Nat) {x:Str} {c:Ad},(x,c)∈ix n ns []->(x,NameKind.cell)∈ns
 |[],_,_,_,h=>nomatch h
 |(y,k)::r,n,x,c,h=>by
  unfold ix at h;split at h
  .rename_i C;rw[zbw]at h;rcases y0o.mp h with z|z
   .exact y08 _<|zco r (n+1) z
   .cases y03.mp z;rw[beq_iff_eq.mp C];show y04
  .exact y08 _<|zco r n h
theorem zdx{d:Type}{x:Str}:∀{a b:List (Str×d)},(a++b).lookup x=(a.lookup x).or (b.lookup x)
 |[],_=>rfl
 |(y,v)::r,b=>by
  rw[y2n,y13,y13];cases x==y with
  |true=>rfl
  |false=>show zdx
section
variable {M:Model}{A:iq}{E:Y0}{s₀ s:ii}{m cm:Y1}{env:Env}{ow:Y4}
theorem putL(x:jv s₀ env.locals m ow cm s)(C:env.scope.kind=.function)(j:env.kindOf n=G .local)
  (q:∀t,jv s₀ env.locals (λy=>if y=n then G v else m y) ow cm t->Q () t):wpAny M A (jI env n v) Q E s:=by
 let(J,t0,a):=x.toInCall.same;apply wpAny_storeName_local j x.toInCall.ns (λg1 gn i=>q _ {toInCall:=((g1,t0+1,by rw[a]),gn,λb o e=>?_,x.toInCall.fresh),cell:=λk c g=>?_,apart:=x.apart,above:=x.above}) (by rw[C];rfl)
 .let lt:=y0h e;let fr:=x.toInCall.fresh;show i.extBut b o (y0m<|y0k lt fr)<|x.toInCall.keep b o e
 .let ab:=x.above k c<|mem_of_lookup' g;show(x.cell k c g).sameBut i<|y28 ab
theorem putC(x:jv s₀ env.locals m ow cm s)(C:env.scope.kind=.function)(j:env.kindOf n=G .cell)(T:ow.lookup n=G c)(g:env.cells.lookup n=G c)
  (q:∀t,jv s₀ env.locals m ow (λy=>if y=n then G v else cm y) t->Q () t):wpAny M A (jI env n v) Q E s:=by
 let ab:=x.above n c<|mem_of_lookup' T;let(J,t0,a):=x.toInCall.same;apply wpAny_storeName_cell C j g (x.cell n c T) λg1 l i=>q _ {toInCall:=((g1,t0,by rw[a]),x.toInCall.ns.sameBut i<|y0m ab,λb o e=>?_,x.toInCall.fresh),cell:=λk d hd=>?_,apart:=x.apart,above:=x.above}
 .let lt:=y0h e;let fr:=x.toInCall.fresh;show i.extBut b o (y0m<|y2c (y0k lt fr) ab)<|x.toInCall.keep b o e
 .by_cases f:k=n
  .rw[f,T]at hd;cases hd;rw[Xq f];show l
  .rw[Xp f];apply(x.cell k d hd).sameBut i λe=>f ?_;rw[e]at hd;show name_of_addr x.apart (mem_of_lookup' hd)<|mem_of_lookup' T
theorem bindM(f:Str×Va->PUnit->Sem (ForInStep PUnit))(U:∀n v u,f (n,v) u=(do jI env n v;pure (.yield ⟨⟩)))(C:env.scope.kind=.function)(a:∀n c,ow.lookup n=G c->env.cells.lookup n=G c):
  ∀(bs:List<|Str×Va) (m cm:Y1) (s:ii) (Q:PUnit->ii->Prop),jv s₀ env.locals m ow cm s->(∀y∈bs,env.kindOf y.1=G .local\/(env.kindOf y.1=G .cell/\∃c,ow.lookup y.1=G c))->
   (∀t,jv s₀ env.locals (bindL env.kindOf bs m) ow (bindC env.kindOf bs cm) t->Q ⟨⟩ t)->wpAny M A (forIn bs ⟨⟩ f) Q E s
 |[],m,cm,s,Q,x,_,q=>by rw[y3b];show ig<|q s x
 |(n,v)::r,m,cm,s,Q,x,Y,q=>by
  rw[y2e,U];let D:=λy I=>Y y<|y08 _ I;rcases Y (n,v) y04 with z|⟨z,c,g⟩
  .refine ie<|ie (putL x C z λt j=>ig<|bindM f U C a r _ _ t Q j D λd H=>q d ?_);rw[bindL,bindC,Xq z,Xq z];show H
  .let i:¬env.kindOf n=G .local:=by rw[z];decide
   apply ie<|ie (putC x C z g (a n c g) λt j=>ig<|bindM f U C a r _ _ t Q j D λd H=>q d ?_);rw[bindL,bindC,Xp i,Xp i];show H
theorem newEnvM{cl:Y4}{code:Va}(C:scope.kind=.function)
  (Y:∀y∈bs,scope.names.lookup y.1=G .local\/scope.names.lookup y.1=G .cell)
  (q:∀t,jv s s.heap.objs.size (bindL (λx=>scope.names.lookup x) bs λ_=>B) 076 (bindC (λx=>scope.names.lookup x) bs λ_=>B) t->
   Q (newEnv scope s.heap.objs.size globals 071 qual func code B builtins) t):wpAny M A (newFunctionEnv scope globals cl bs qual func code B builtins) Q E s:=by
 simp only[newFunctionEnv,Option.isSome_none,y1b,if_false];apply ie<|wpAny_alloc (ie<|wpAny_layCells _ (λname kind cells=>by cases a:kind==NameKind.cell<;>simp[a]) _ _ _ _ ?_);let f:=cellsFrom_ok scope.names (s.heap.push {cls:=.type "frame",data:=.dict #[]}) 026 [] (λ_ _ z=>(nomatch z),.nil) (by rw[y12];show y05 _);rw[y12]at f;rw[show({s with heap:=s.heap.push {cls:=.type "frame",data:=.dict #[]} }:ii).heap.objs.size=s.heap.objs.size+1 from y12 ..,zbw];apply ie<|bindM (s₀:=s) (ow:=ix 026 scope.names []) (env:=newEnv scope s.heap.objs.size globals 071 qual func code B builtins) _ (λ_ _ _=>rfl) C (λn c e=>?_) bs (λ_=>B) (λ_=>B) _ _ ?_ (λy I=>?_) λt x=>ig<|q t x
 .change(071).lookup n=G c;rw[zdx,e];rfl
 .refine {toInCall:=((_,_,R),(Heap.Ns.new s.heap<|.type "frame").keeps<|pushCells_keeps _ _,λb o e=>pushCells_keeps _ _ b o<|y01 _ e,y05 _),cell:=λn c e=>(f.empty n c<|mem_of_lookup' e).1,apart:=f.apart,above:=λn c e=>?_};let:=(f.empty n c e).2;show this
 .rcases Y y I with z|z
  .exact .inl z
  .exact .inr (z,zdz z)
end
def envM(qual:Str)(scope:Scope)(cl:Y4)(L f:Ad)(cd:Va):Env :=
 {scope:=scope,locals:=L,globals:=iu,cells:=ix (L+1) scope.names []++cl,qual:=qual++".<locals>.",func:=G f,code:=cd,frame:=G L,builtins:=iV}
noncomputable def cxM(P:ik)(w:World)(K:Frag)(mg:Y1)(base:Heap)(Nq:List Str)(qual:Str)(scope:Scope)(cl:Y4)(f:Ad)(cd:Va)(A:iq)(outer:List Env)(s:ii)(H:Hp):Cx where
 prog:=P
 w:=w
 K:=K
 mg:=mg
 base:=base
 A:=A.deeper<|envM qual scope cl s.heap.objs.size f cd
 Nq:=Nq
 s₀:=s
 H₀:=dropL cl H
 env:=envM qual scope cl s.heap.objs.size f cd
 outer:=outer
 stack:=envM qual scope cl s.heap.objs.size f cd::outer
 ex:=[]
 calm:=N
 fn:=λx=>scope.names.lookup x==G .cell
 pn:=[]
 xe:=λ_ _=>False
structure CloScopeM(own ps cap:List Str)(sc:Scope):Prop where
 kind:sc.kind=.function
 co:sc.isCoroutine=Fa
 gen:sc.isGenerator=Fa
 pre:own.take ps.length=ps
 nd:ps.Nodup
 par:∀x∈ps,sc.names.lookup x=G .local\/sc.names.lookup x=G .cell
 cap:∀x∈cap,sc.names.lookup x=G .free
 one:∀y∈sc.names,y.2=.cell->sc.names.lookup y.1=G .cell
section
variable {P:ik}{w:World}{K:Frag}{mg:Y1}{base:Heap}{A:iq}{outer:List Env}{s s1:ii}{H:Hp}{own ps cap:List Str}{qual:Str}{scope:Scope}{cl:Y4}{f:Ad}{cd:Va}{vs cv:List V}{us:List Va}
theorem zv3(S:CloScopeM own ps cap scope)(hd:A.handled=B)(e0:Env0 P w K mg base A outer s H)(j:vs.length=ps.length)(hlo:ps.length<=own.length)(r:Vals vs us)
  (ag:∀x c,cl.lookup x=G c->∃o v,H c=G 040/\o.data=.cell v) (av:∀p∈scope.names,p.2=.free->∃c,cl.lookup p.1=G c) (inj:∀x y c,cl.lookup x=G c->cl.lookup y=G c->x=y) (cf:Caps H cl cap cv)
  (xc:jv s s.heap.objs.size (bindL (λx=>scope.names.lookup x) (ps.zip us) λ_=>B) 076 (bindC (λx=>scope.names.lookup x) (ps.zip us) λ_=>B) s1) :
  Inv (cxM P w K mg base (own++cap) qual scope cl f cd A outer s H) [] (stL own vs cv) (dropL cl H) s1:=by
 classical
 let(M,tk,rfl,C):=xc.done;let d1:∀b,¬InCl cl b->dropL cl H b=H b:=λb n=>Xp n;let dn:∀b,H b=B->dropL cl H b=B:=λb e=>by
  by_cases g:InCl cl b
  .exact Xq g
  .rw[d1 b g];show e
 let de:∀b:Ad,b∉(cxM P w K mg base (own++cap) qual scope cl f cd A outer s H).ex:=λb z=>Xa (show b∈([]:List Ad)from z) 06;let at':∀x c,cl.lookup x=G c->∃o v,s.heap.get? c=G o/\o.data=.cell v:=λx c e=>by
  let(o,v,z,zd):=ag x c e;show(o,v,(e0.hok c _ z).1,zd)
 let lj:HOk P w (dropL cl H) s.heap:=λb u e=>by
  let g:¬InCl cl b:=λg=>by
   let:dropL cl H b=B:=Xq g;rw[this]at e;cases e
  rw[d1 b g]at e;show(e0.hok b u e).stay (λ_ _ _ z=>z) (λc z=>by rw[d1 c<|zcr ag z λ_ _ y=>nomatch y];show z) (λc o a q co z=>by rw[d1 c<|zs5 ag co z];show z) λc xs z=>by rw[d1 c<|zcr ag z λ_ _ y=>nomatch y];show z
 let two:∀x c,(071).lookup x=G c->((076).lookup x=G c/\s.heap.objs.size<c)\/((076).lookup x=B/\cl.lookup x=G c/\c<s.heap.objs.size):=λx c e=>by
  rw[zdx]at e;cases z:(ix (s.heap.objs.size+1) scope.names []).lookup x with
  |some y =>
   rw[z]at e;cases e;show .inl (R,xc.above x c<|mem_of_lookup' z)
  |none =>
   rw[z]at e;let D:cl.lookup x=G c:=e;let(o,v,T,_):=at' x c D;show .inr (R,D,y0h T)
 let ll:∀x,scope.names.lookup x=G .free->(076).lookup x=B:=λx O=>by
  cases z:(ix (s.heap.objs.size+1) scope.names []).lookup x with
  |none=>rfl
  |some y =>
   let:=S.one (x,.cell) (zco _ _<|mem_of_lookup' z) rfl;rw[O]at this;cases this
 apply⟨(e0.mod,S.kind,R,R,y05 _,λx y c O I=>?_,λx O=>?_,λx c O g=>?_,λ_=>hd,Around.frames_deeper e0.frames,.inr (R,R),λb z=>Xa z<|de b,λb o e=>((e0.bs b o e).1,dn b (e0.bs b o e).2),e0.bsz,λb _ _=>de b,λb z=>Xa z<|de b,e0.funs,λb Y=>dn b<|e0.frf b Y),
  rfl,e0.bare,Un.kept C,(_,xc.toInCall.ns,λi x v e1 L e3=>?_),λx c e=>?_,lj.fresh 37,λx c e=>?_,λp l=>Xa (show p∈([]:Y2)from l) 06,lj.kept C,?_⟩
 .rcases two x c O with⟨U,E⟩|⟨_,U,E⟩<;>rcases two y c I with⟨Q,z4⟩|⟨_,Q,z4⟩
  .exact name_of_addr xc.apart (mem_of_lookup' U)<|mem_of_lookup' Q
  .exact Xa (y2c E z4)<|y1n _
  .exact Xa (y2c z4 E)<|y1n _
  .exact inj x y c U Q
 .let O:scope.names.lookup x=G .cell\/scope.names.lookup x=G .free:=O;change∃c,(071).lookup x=G c;rw[zdx];rcases O with z|z
  .let(c,e):=zdz (n:=s.heap.objs.size+1) z;show(c,by rw[e];rfl)
  .let(c,e):=av (x,.free) (mem_of_lookup' z) rfl;show(c,by rw[ll x z];show e)
 .let hx':scope.names.lookup x=G .cell:=beq_iff_eq.mp O;let(c',e):=zdz (n:=s.heap.objs.size+1) hx';rcases two x c g with⟨U,E⟩|⟨U,_⟩
  .exact y1s E
  .rw[e]at U;cases U
 .let J:(own++cap)[i]?=G x:=e1;let d:(vs.map G++List.replicate (own.length-vs.length) B++cv.map G)[i]?=G (G v):=L;let lo:(vs.map G++List.replicate (own.length-vs.length) (B:Option V)).length=own.length:=by rw[y02,y00,y30];omega
  by_cases hi:i<own.length
  .rw[y0q 00]at d;by_cases hv:i<vs.length
   .rw[y0q (by simpa using hv),y0r]at d;rw[y0q hi]at J;let ha:vs[i]?=G v:=by
     cases q:vs[i]? with
     |none=>rw[q]at d;cases d
     |some z=>rw[q]at d;show congrArg G<|Option.some.inj (Option.some.inj d)
    let(u,hu,ru):=r.get ha;let l:ps[i]?=G x:=by rw[←S.pre,y4d 00];show J
    apply(u,ru,?_);rcases S.par x (y0d l)with k|k
    .exact .inl (k,zg9 S.nd l hu k)
    .let(c,e):=zdz (n:=s.heap.objs.size+1) k;let qc:=xc.cell x c e;rw[zha S.nd l hu<|by change scope.names.lookup x≠_;rw[k];decide]at qc;apply .inr (.inl k,c,?_,qc);change(071).lookup x=G c;rw[zdx,e];rfl
   .rw[y0n (by simpa using y3h hv),y3f]at d;split at d<;>cases d
  .rw[y0n 00,lo,y0r]at d;rw[y0n 00]at J;let ha:cv[i-own.length]?=G v:=by
    cases q:cv[i-own.length]? with
    |none=>rw[q]at d;cases d
    |some z=>rw[q]at d;show congrArg G<|Option.some.inj (Option.some.inj d)
   let(c,o,u,g,hz,aq,ru):=ztm cf J ha;let hf':=S.cap x<|y0d J;apply(u,ru,.inr (.inr hf',c,?_,o,C c o (e0.hok c _ hz).1,aq));change(071).lookup x=G c;rw[zdx,ll x hf'];show g
 .rcases two x c e with⟨U,E⟩|⟨_,U,E⟩
  .exact(_,xc.cell x c U)
  .let(o,v,T,aq):=at' x c U;show(v,o,C c o T,aq)
 .rcases two x c e with⟨U,E⟩|⟨_,U,E⟩
  .exact lj.fresh<|y1s E
  .exact Xq (x,U)
 .let:=zhy cf;change(vs.map G++List.replicate (own.length-vs.length) B++cv.map G).length=(own++cap).length;rw[y02,y02,y00,y30,y00,y02];omega
theorem zoo{Nq:List Str}{Y:Y2}{j:St}{H2:Hp}{s':ii}{v:V}{u:Va}{Q:VK}(M:Env0 P w K mg base A outer s H)(C:∀x c,cl.lookup x=G c->∃o v,H c=G 040/\o.data=.cell v)
  (J:Inv (cxM P w K mg base Nq qual scope cl f cd A outer s H) Y j H2 s') (L:RelV v u) (q:072->Q v (mixL cl H H2)):CE outer P w H s Q u s':=by
 classical
 let p:∀b,¬InCl cl b->dropL cl H b=H b:=λb n=>Xp n;let I:∀b,¬InCl cl b->mixL cl H H2 b=H2 b:=λb n=>Xp n;let i:∀b,H b=B->¬InCl cl b:=λb e (x,z)=>by
  let(o,v,E,_):=C x b z;rw[E]at e;cases e
 let un:Un (frs outer) [] (dropL cl H) H2 s.heap s'.heap:=J.base;let d:∀x c,cl.lookup x=G c->∃o,H c=G 040/\s'.heap.get? c=G o/\H2 c=B:=λx c e=>by
  let(o,v,z,_):=C x c e;let T:=(M.hok c _ z).1;let dz:dropL cl H c=B:=Xq (x,e);let nf:c∉frs outer:=λr=>by rw[M.frf c r]at z;cases z
  show(o,z,un.keep c o T dz nf 06,un.free c o T dz 06)
 let nm:∀b u,H2 b=G u->¬InCl cl b:=λb u e (x,z)=>by
  let(_,_,_,E):=d x b z;rw[E]at e;cases e
 apply(v,mixL cl H H2,J.os,J.bare,(λb o e n U O=>un.keep b o e (by rw[p b<|i b n];show n) U O,λb o e n U O=>un.slot b o e (by rw[p b<|i b n];show n) U O,λb o e n O=>by rw[I b<|i b n];show un.free b o e (by rw[p b<|i b n];show n) O,un.there,λb xs e=>?_,λb o a e=>?_,λb qs ps e=>?_),λb u e=>?_,L,q λb (x,z)=>let(_,_,_,E):=d x b z;E)
 .let g:=zcr C e λ_ _ y=>nomatch y;rw[I b g];show un.tups b xs (by rw[p b g];show e)
 .by_cases g:InCl cl b
  .change(if InCl cl b then H b else H2 b)=_;rw[Xq g];show e
  .rw[I b g];show un.frzs b o a (by rw[p b g];show e)
 .let g:=zcr C e λ_ _ y=>nomatch y;rw[I b g];show un.tbls b qs ps (by rw[p b g];show e)
 .by_cases g:InCl cl b
  .let D:H b=G u:=by rw[←e];show(Xq g).symm
   let(x,z):=g;let(o,l,E,_):=d x b z;rw[l]at D;cases D;show(E,o,E)
  .rw[I b g]at e;show(J.hok b u e).stay (λ_ _ _ z=>z) (λc z=>by rw[I c<|nm c _ z];show z) (λc _ _ _ _ z=>by rw[I c<|nm c _ z];show z) λc xs z=>by rw[I c<|nm c _ z];show z
end
section
variable {P:ik}{w:World}{K:Frag}{mg:Y1}{base:Heap}{H:Hp}{own ps cap:List Str}{name qual:Str}{params:iN}{scope:Scope}{cl:Y4}{f c':Ad}{oc:Obj}{ct pm:Va}{cv:List V}{k:Nat}{sp:Sp}
theorem zp3(S:CloScopeM own ps cap scope)(hlo:ps.length<=own.length)(U:H f=G (fnO 094 f))(fw:H c'=G (.frz oc<|.own c'))(co:CodeObj oc qual)
  (C:∀x c,cl.lookup x=G c->∃o v,H c=G 040/\o.data=.cell v) (av:∀p∈scope.names,p.2=.free->∃c,cl.lookup p.1=G c) (inj:∀x y c,cl.lookup x=G c->cl.lookup y=G c->x=y) (Y:Caps H cl cap cv)
  (be:∀us:List Va,us.length=ps.length->jl 094 044=pure (ps.zip us))
  (a:∀(A:iq) (outer:List Env) (s:ii) (H':Hp) (vs:List V) (Q:VK),Room k (A.deeper<|envM qual scope cl s.heap.objs.size f (.ref c'))->Frz H H'->vs.length=ps.length->sp vs H' Q E0->
   ∃t,PSs (cxM P w K mg base (own++cap) qual scope cl f (.ref c') A outer s H') body t/\t {nx:=λ_ H2=>072->Q .non (mixL cl H' H2),rt:=λv H2=>072->Q v (mixL cl H' H2)} (stL own vs cv) (dropL cl H')):CloH P w K mg base (k+1) H f ps.length sp:=by
 intro A outer s H' us vs Q g M E r j i;let lim:s.heap.NoLimit:=M.mod.nolimit.keeps λb o e=>(M.bs b o e).1;let T:=(M.hok f _<|E _ _ _ U).1;let hoc:=(M.hok c' _<|E _ _ _ fw).1;let(l,t',cd1,cd2):=co;let hlu:us.length=ps.length:=by rw[←r.length];show j
 let L:∀x c,cl.lookup x=G c->∃o v,H' c=G 040/\o.data=.cell v:=λx c e=>let(o,v,z,d):=C x c e;(o,v,E _ _ _ z,d);apply codeAny_call_function g.depth T R S.co S.gen R (c',oc,l,t',R,hoc,cd1,cd2) ?_;rw[be us hlu];apply ig<|newEnvM S.kind (λy hy=>S.par y.1 (y3m<|show(y.1,y.2)∈ps.zip us from hy).1) λs1 x=>?_;apply(lim.keeps x.toInCall.keep,codeAny_func ?_);let(t,ht,D):=a A outer s H' vs Q (g.deeper _) E j i;let I:=zv3 (qual:=qual) (f:=f) (cd:=.ref c') S g.hd M j hlo r L av inj (Y.frz E) x;apply i5 (ht [] _ _ _ _ I D) (λfl s' hs=>?_) λ_ _ z=>z.elim;cases fl with
 |ret u =>
  let(v,O,H2,J,rv,q):=hs;show zoo M L J rv q
 |next =>
  let(O,H2,J,q):=hs;show zoo (v:=V.non) (u:=Va.none) M L J R q
 |brk =>
  let(_,_,_,q):=hs;show False.elim q
 |cont =>
  let(_,_,_,q):=hs;show False.elim q
end
theorem zfs:∀{ns:List (Str×iW)} (n:Nat),(∀y∈ns,y.2 ≠ .cell)->ix n ns []=[]
 |[],_,_=>rfl
 |(x,k)::r,n,h=>by
  unfold ix;rw[Xp λz=>h (x,k) y04<|beq_iff_eq.mp z];show zfs n λy I=>h y<|y08 _ I
section
variable {P:ik}{w:World}{K:Frag}{mg:Y1}{base:Heap}{A:iq}{outer:List Env}{s:ii}{H:Hp}{Nq own ps cap:List Str}{name qual:Str}{params:iN}{scope:Scope}{cl:Y4}{f c' L:Ad}{cd ct pm:Va}{cv:List V}{k:Nat}{sp:Sp}{oc:Obj}
theorem CloScope.m(S:CloScope own ps cap scope):CloScopeM own ps cap scope:=(S.kind,S.co,S.gen,S.pre,S.nd,λx h=>.inl<|S.par x h,S.cap,λy I e=>Xa e<|S.nocell y I)
theorem zxi(n:∀y∈scope.names,y.2 ≠ .cell):envM qual scope cl L f cd=envL qual scope cl L f cd:=by unfold envM envL;rw[zfs _ n];rfl
theorem cx_ml(n:∀y∈scope.names,y.2 ≠ .cell):cxM P w K mg base Nq qual scope cl f cd A outer s H=cxL P w K mg base Nq qual scope cl f cd A outer s H:=by
 let e:(λx=>scope.names.lookup x==G .cell)=λ_=>Fa:=funext λx=>by
  cases z:scope.names.lookup x==G NameKind.cell with
  |false=>rfl
  |true=>show Xa R<|n _ (mem_of_lookup'<|beq_iff_eq.mp z)
 unfold cxM cxL;rw[zxi n,e]
theorem ztf(S:CloScope own ps cap scope)(I:ps.length<=own.length)(U:H f=G (fnO 094 f))(d:H c'=G (.frz oc<|.own c'))(co:CodeObj oc qual)
  (C:∀x c,cl.lookup x=G c->∃o v,H c=G 040/\o.data=.cell v) (r:∀p∈scope.names,p.2=.free->∃c,cl.lookup p.1=G c) (inj:∀x y c,cl.lookup x=G c->cl.lookup y=G c->x=y) (Y:Caps H cl cap cv)
  (T:∀us:List Va,us.length=ps.length->jl 094 044=pure (ps.zip us))
  (a:∀(A:iq) (outer:List Env) (s:ii) (H':Hp) (vs:List V) (Q:VK),Room k (A.deeper<|envL qual scope cl s.heap.objs.size f (.ref c'))->Frz H H'->vs.length=ps.length->sp vs H' Q E0->
   ∃t,PSs (cxL P w K mg base (own++cap) qual scope cl f (.ref c') A outer s H') body t/\t {nx:=λ_ H2=>072->Q .non (mixL cl H' H2),rt:=λv H2=>072->Q v (mixL cl H' H2)} (stL own vs cv) (dropL cl H')):CloH P w K mg base (k+1) H f ps.length sp :=
 zp3 S.m I U d co C r inj Y T λA outer s H' vs Q g=>by rw[cx_ml S.nocell];rw[zxi S.nocell]at g;show a A outer s H' vs Q g
end
structure FunC(K:Frag)(x:Str)(st:Stmt)(f:Ad)(fd:i8)(c:Ad):Prop where
 ex:∃(oc:Va) (od:Option Ad) (kV doc pm:Va) (an:Option Ad) (ct:Va) (osl:Y8),
  fd=PySem.W.fnOf x x (defArgs st) 043 96 .none kV doc pm an (.ref c) ct/\K.lookup f=G (oc,od,.func fd,osl)/\PySem.W.codeIn K (.ref c) x=N
 kp:PySem.W.keepIn K 45=N
structure DfnC(K:Frag)(mg:Y1)(x:Str)(st:Stmt)(ps:List Str)(c P:Ad):Prop where
 ex:∃f fd,FunC K x st f fd c/\Binds K fd ps []/\mg x=G 45
 code:KCode K c P
theorem kcode_mk{K:Frag}(l:K.lookup c=G (.type "code",M,.fields vs,f))
  (q:vs[11]?=G (.ref P)) (r:vs[18]?=G (.str a x)) (o:vs[7]?=G (.int d T)) (s:vs[9]?=G (.bool p)) (j:vs[10]?=G (.int text tt)) (ne:c≠P):KCode K c P:=by
 let g:∀{i:Nat} {v:Va},vs[i]?=G v->vs.getD i .none=v:=λ{i v} e=>by rw[Array.getD_eq_getD_getElem?,e];rfl
 show(_,vs,a,x,d,T,p,text,tt,l,R,R,q,g q,g r,g o,g s,g j,ne)
theorem dfnc_mk{K:Frag}{h:Heap}{mg:Y1}{x:Str}{st:Stmt}{ps:List Str}{f c P:Ad}{oc:Va}{M an:Option Ad}{p:Y8}{kV doc pm ct:Va}(X:K.In h)(Gq:h.Ns iu mg)
  (a:PySem.W.nsIn K iu x=G (G 45)) (l:K.lookup f=G (oc,M,.func<|PySem.W.fnOf x x (defArgs st) 043 96 .none kV doc pm an (.ref c) ct,p))
  (cd:PySem.W.codeIn K (.ref c) x=N) (k:PySem.W.keepIn K 45=N) (v:KCode K c P)
  (Y:∀(kV doc pm:Va) (an:Option Ad) (cdv ct:Va) (us:List Va),us.length=ps.length->jl 085 044=pure (ps.zip us)):DfnC K mg x st ps c P :=
 ((f,_,((oc,M,kV,doc,pm,an,ct,p,R,l,cd),k),(zfr l cd k).binds Y,PySem.W.mg_of X Gq a),v)
section
variable {P:ik}{w:World}{K:Frag}{mg:Y1}{base:Heap}
theorem DfnC.cal{x:Str}{st:Stmt}{Nq ps:List Str}{k:Nat}{sp:Sp}{c C:Ad}(d:DfnC K mg x st ps c C)(S:FnScope Nq ps 96)(len:∀vs H Q E,sp vs H Q E->vs.length=ps.length)
  (a:∀(f:Ad) (A:iq) (outer:List Env) (s:ii) (H:Hp) (vs:List V) (Q:VK) (E:XK),Room k (A.deeper<|jg x 96 s.heap.objs.size f (.ref c))->sp vs H Q E->
   ∃t,PSs (cxOf CX0 P w K mg base Nq x 96 f (.ref c) A outer s H E).nox 043 t/\t {nx:=λ_ H'=>Q .non H',rt:=Q} (start Nq vs) H):04 (k+1) x ps sp:=by
 let(f,fd,F,b,m):=d.ex;let(oc,M,kV,doc,J,L,ct,p,rfl,lk,O):=F.ex;apply(f,_,fn_of lk O S len λA outer s H vs Q E g i=>?_,b,F.kp,m);let(t,h,q):=a f A outer s H vs Q E g i;show(t,h.nox,q)
end
def TabFor(q:ik)(K:Frag)(mg:Y1)(b:Ad):Prop:=∃d∈recsOf q,∃f oc M fd p c,mg d.name=G 45/\K.lookup f=G (oc,M,.func fd,p)/\fd.code=.ref c/\KCode K c b
theorem DfnC.tab{q:ik}{K:Frag}{mg:Y1}{x:Str}{st:Stmt}{ps:List Str}{c b:Ad}(d:DfnC K mg x st ps c b)(O:((recsOf q).any λr=>r.name==x)=N):TabFor q K mg b:=by
 let(r,g,e):=y46.mp O;let(f,fd,F,_,m):=d.ex;let(oc,M,kV,doc,J,L,ct,p,rfl,lk,a):=F.ex;show(r,g,f,oc,M,_,p,c,by rw[beq_iff_eq.mp e];show m,lk,R,d.code)
def TabsOf(q:ik)(mg:Y1)(h:Heap):Prop:=∀d∈recsOf q,∃a o fd c P,mg d.name=G 09/\h.get? a=G o/\o.data=.func fd/\fd.code=.ref c/\h.IsCode c P #[]/\h.TableAt c P #[]
theorem TabFor.at{K:Frag}{h:Heap}(t:TabFor q K mg b)(X:K.In h)(T:TabsOf q mg h):∃c,h.TableAt c b #[]:=by
 let(d,hd,f,oc,M,fd,p,c,m,lk,l,v):=t;let(a,o,A,c',C,m',D,U,g,_,e):=T d hd;rw[m]at m';cases m';rw[X f _ lk]at D;cases D;cases U;rw[l]at g;cases g;let(o,vs,_,_,_,_,_,_,_,s,_,i,u,_):=v;let((H,x,e1,L,r,j),y):=id e;rw[X c o s]at e1;cases e1;rw[i]at r;cases r;rw[u]at j;cases j;show(c,e)
def OnlyT(ts:List<|Ad×List (Pos×Str))(H:Hp):Prop:=(∀b,H b=B\/(∃o xs,H b=G (.frz o 98))\/∃qs,ts.lookup b=G qs/\H b=G (.tbl qs #[]))/\∀b qs,ts.lookup b=G qs->H b=G (.tbl qs #[])
theorem OnlyT.tab(h:OnlyT ts H)(e:ts.lookup b=G qs):TabOk H b qs:=(#[],h.2 b qs e)
theorem zsg{K:Frag}{s₁:ii}{vs:List Va}{ns:List Int}{ts:List (Ad×List (Pos×Str))}
  (KX:K.In s₁.heap) (dw:s₁.heap.Ns iu mg) (Y:s₁.heap.Ns iV mb) (hbb:∀x:Str,x≠"__name__"->mb x=iQ x) (hlim:s₁.heap.NoLimit) (hg:s₁.gens=#[])
  (ha:s₁.heap.get? a=G {cls:=.type "list",data:=.seq vs.toArray}) (hi:jx vs ns) (j:ns.length<=ij) (g:Room k jJ)
  (hbm:BltK s₁.heap mg) (U:∀b qs,ts.lookup b=G qs->∃c,s₁.heap.TableAt c b #[]) (hKt:∀b qs,ts.lookup b=G qs->K.lookup b=B)
  (F:∀base:Heap,K.In base->base.Ns iu mg->BltK base mg->FnOk P w K mg base CX k A fd [x] sp) (T:∀(s:ii) (u:Va),jR s fd ([u],[]) [(x,u)])
  (i:∀H:Hp,OnlyT ts H->SqL K H a 035->sp [.ref a] H (λv _=>v=.bl N) λ_ _ _=>False)
  (hCX:∀H e s',CX [] H s₁ (λ_ _ _=>False) e s'->False) :
  iZ 011 jJ (.call (.ref A) ([.ref a],[])) (λr s'=>r=.ok (.ret<|.bool N)/\OldK s₁.heap s'.heap/\s'.os=s₁.os/\jo s'.gens) s₁:=by
 let f:=zjw hi;let lenV:=hi.length;let core:∀H:Hp,OnlyT ts H->SqL K H a 035->HOk P w H s₁.heap->(∀b,H b≠B->b=a\/∃qs,ts.lookup b=G qs)->(H a≠B->K.lookup a=B)->
   iZ 011 jJ (.call (.ref A) ([.ref a],[])) (λr s'=>r=.ok (.ret<|.bool N)/\OldK s₁.heap s'.heap/\s'.os=s₁.os/\jo s'.gens) s₁:=by
  intro H hO I hok hA hK;let d4:∀{b:Ad} {o:Obj},s₁.heap.get? b=G o->H b=B->(hidT s₁.heap H).get? b=G o:=λe n=>zv5 e n;let noT:∀{b:Ad} {o:Obj},s₁.heap.get? b=G o->(∀q n,o.data ≠ .seq q n)->(∀ps,o.data ≠ .fields ps\/o.cls ≠ .none)->H b=B:=λ{b o} e n1 n2=>by
   cases q:H b with
   |none=>rfl
   |some u =>
    rcases hA b (by rw[q];simp)with D|⟨qs,D⟩
    .subst D;rw[ha]at e;cases e;show Xa R<|n1 _ _
    .let(c,_,y):=U b qs D;rw[y]at e;cases e;rcases n2 #[]with z|z
     .exact Xa R z
     .exact Xa R z
  let de:∀{b:Ad} {o:Obj} {es:Array DictEntry} {ep:Nat},s₁.heap.get? b=G o->o.data=.dict es ep->H b=B:=λ{b o es ep} e d=>noT e (λq n z=>by rw[d]at z;cases z) λps=>.inl λz=>by rw[d]at z;cases z
  let nsK:∀{b:Ad} {m:Y1},s₁.heap.Ns b m->(hidT s₁.heap H).Ns b m:=λ{b m} (o,es,ep,e,d,r)=>(o,es,ep,d4 e<|de e d,d,r);let hKb:K.In (hidT s₁.heap H):=λb o e=>d4 (KX b o e) (by
   cases q:H b with
   |none=>rfl
   |some u =>
    rcases hA b (by rw[q];simp)with D|⟨qs,D⟩
    .subst D;rw[hK<|by rw[q];simp]at e;cases e
    .rw[hKt b qs D]at e;cases e)
  let hBb:BltK (hidT s₁.heap H) mg:=by
   let(bm,o,O,b2,Q,b4,b5,b6):=hbm;show(bm,o,O,b2,d4 Q (noT Q (λq n z=>by rw[b6]at z;cases z) λps=>.inl λz=>by rw[b6]at z;cases z),b4,b5,b6)
  let hM:Mod K mg (hidT s₁.heap H):=(hKb,nsK dw,(mb,nsK Y,hbb),let(mc,M,J):=hlim;(mc,nsK M,J));let e0:Env0 P w K mg (hidT s₁.heap H) jJ [] s₁ H:=(R,hM,λb o e=>zzc e,y44<|zss _ _,trivial,λb Y=>Xa (show b∈([]:List Ad)from Y) 06,hok,.of_eq hg);apply iM ((F _ hKb (nsK dw) hBb).run jJ [] s₁ H ([.ref a],[]) [.ref a] [.ref a] _ _ g e0 (T s₁ 09) (.cons R .nil)<|i H hO I) λr s' h=>?_;cases r with
  |error e=>show(hCX H e s' h).elim
  |ok fl =>
   cases fl with
   |next=>show False.elim h
   |brk=>show False.elim h
   |cont=>show False.elim h
   |ret u =>
    let(v,H',os,bare,un,oh,r',q):=h;let q':v=.bl N:=q;subst q';obtain rfl:u=Va.bool N:=r';let was:∀b o,s₁.heap.get? b=G o->asItWas s₁.heap s'.heap b o:=λb o e=>by
     rcases hO.1 b with z|⟨ob,xs,z⟩|⟨qs,l,z⟩
     .exact .inl<|un.keep b o e z (by intro z;show Xa (show b∈([]:List Ad)from z) 06) 06
     .let E:=un.frzs b ob _ z;let(e1,_):=hok b _ z;let(L,_):=oh b _ E;rw[e]at e1;cases e1;show .inl L
     .let E:=un.tbls b qs _ z;let(more,L,_):=oh b _ E;let(c,ta):=U b qs l;let y:=ta.2;rw[y]at e;cases e;show .inr<|.inl (ta.isCodeTable,R,#[],more,R,L)
    show(R,(was,λb o e=>un.there b o e 06),os,bare)
 let neA:∀qs,ts.lookup a=G qs->False:=λqs e=>by
  let(c,_,y):=U a qs e;rw[y]at ha;cases ha
 let lm:∀(H:Hp) b qs,ts.lookup b=G qs->ObjOk P w H s₁.heap b (.tbl qs #[]):=λH b qs e=>by
  let(c,_,y):=U b qs e;show(#[],by simpa using y,trivial,λp hp v z=>by simp[jh]at z)
 letI HT:Hp:=λb=>(ts.lookup b).map λqs=>.tbl qs #[];let kj:∀b qs,ts.lookup b=G qs->HT b=G (.tbl qs #[]):=λb qs e=>by change(ts.lookup b).map _=_;rw[e];rfl
 let gf:∀b,ts.lookup b=B->HT b=B:=λb e=>by change(ts.lookup b).map _=_;rw[e];rfl
 cases C:K.lookup a with
 |some o =>
  let e:=KX a o C;rw[ha]at e;cases e;apply core HT (λb=>?_,kj) (.inr (_,vs.toArray,_,C,R,R,R,by rw[y0a,lenV];show j,by simpa using f)) (λb u z=>?_) (λb z=>?_) λz=>?_
  .cases e:ts.lookup b with
   |none=>show .inl<|gf b e
   |some qs=>show .inr<|.inr (qs,R,kj b qs e)
  .cases e:ts.lookup b with
   |none=>rw[gf b e]at z;cases z
   |some qs=>rw[kj b qs e]at z;cases z;show lm _ b qs e
  .cases e:ts.lookup b with
   |none=>show Xa (gf b e) z
   |some qs=>show .inr (qs,R)
  .cases e:ts.lookup a with
   |none=>show Xa (gf a e) z
   |some qs=>show(neA qs e).elim
 |none =>
  letI H1:Hp:=λb=>if b=a then G (.frz {cls:=.type "list",data:=.seq vs.toArray} (.lst 035))else HT b
  let h1a:H1 a=G (.frz {cls:=.type "list",data:=.seq vs.toArray} (.lst 035)):=Xq rfl;let h1b:∀b,b≠a->H1 b=HT b:=λb e=>Xp e;apply core H1 (λb=>?_,λb qs e=>?_) (.inl<|.inr ({cls:=.type "list",data:=.seq vs.toArray},h1a)) (λb u z=>?_) (λb z=>?_) λ_=>C
  .by_cases Y:b=a
   .subst Y;show .inr<|.inl (_,_,h1a)
   .rw[h1b b Y];cases e:ts.lookup b with
    |none=>show .inl<|gf b e
    |some qs=>show .inr<|.inr (qs,R,kj b qs e)
  .rw[h1b b λz=>neA qs<|z▸e];show kj b qs e
  .by_cases Y:b=a
   .subst Y;rw[h1a]at z;cases z;show(ha,by rw[y00];show j,vs,_,f,ha)
   .rw[h1b b Y]at z;cases e:ts.lookup b with
    |none=>rw[gf b e]at z;cases z
    |some qs=>rw[kj b qs e]at z;cases z;show lm _ b qs e
  .by_cases Y:b=a
   .exact .inl Y
   .rw[h1b b Y]at z;cases e:ts.lookup b with
    |none=>show Xa (gf b e) z
    |some qs=>show .inr (qs,R)
theorem walk_ofT{l:PySem.W.OpenLaw}{n k:Nat}{q:ik}{c:List Str}{XP:(Str->Option Va)->Heap->Prop}{U:World->Heap->Prop}{d:DefRec}{K:Params->Frag}{CX:CXT}{sp:Frag->List (Ad×List (Pos×Str))->Sp}{x:Str}
  (hn:l.most=G n) (D:n<=ij) (L:d.params.defaults=[]) (g:Room k jJ)
  (hY:∀(w:World) (h:Heap),U w h->(K w.params).In h)
  (F:∀(w:World) (mg:Y1) (A:Ad) (h:Heap),(K w.params).In h->h.Ns iu mg->mg d.name=G (.ref A)->
   ∃(fd:i8) (ts:List<|Ad×List (Pos×Str)),(∀(s:ii) (u:Va),jR s fd ([u],[]) [(x,u)])/\(∀b qs,ts.lookup b=G qs->TabFor q (K w.params) mg b/\(K w.params).lookup b=B)/\
    ∀base:Heap,(K w.params).In base->base.Ns iu mg->BltK base mg->FnOk l.prog w (K w.params) mg base CX k A fd [x] (sp (K w.params) ts))
  (i:∀(K:Frag) (ts:List<|Ad×List (Pos×Str)) (H:Hp) (a:Ad) (ns:List Int),ns.length<=n->OnlyT ts H->SqL K H a 035->sp K ts [.ref a] H (λv _=>v=.bl N) λ_ _ _=>False)
  (r:∀(H:Hp) (s:ii) (e:Va) (s':ii),CX [] H s (λ_ _ _=>False) e s'->False) :
  PySem.W.WalkO q c XP U l.row.toRowW d [] (λf vs=>PySem.call f vs):=by
 apply Att.attach_call hn L λw s₀ s₁ mg mb A o J cd doc a vs ns Gq Y T hd O E y p M hg=>?_;let C:=hY w _ Y;let(fd,ts,hb,ht,j):=F w mg A _ C Gq.T.g E;show zsg C Gq.T.g Gq.T.b Gq.T.builtins Gq.T.nolimit hg y p (y0z M D) g Gq.T.bmain (λb qs e=>(ht b qs e).1.at C Gq.T.tab) (λb qs e=>(ht b qs e).2) j hb (λH Q I=>i (K w.params) ts H a ns M Q I) λH e s'=>r H s₁ e s'
theorem zw7:∀{ts:List (Ad×List (Pos×Str))} {b:Ad} {qs:Y3},ts.lookup b=G qs->(b,qs)∈ts
 |[],_,_,e=>by simp at e
 |(a,q)::ts,b,qs,e=>by
  rw[y13]at e;split at e
  .rename_i z;cases e;rw[show b=a from beq_iff_eq.mp z];show y04
  .exact y08 _<|zw7 e
theorem ts_all{ts:List (Ad×List (Pos×Str))}{Rq:Ad->Prop}(h:∀p∈ts,Rq p.1):∀b qs,ts.lookup b=G qs->Rq b:=λb qs e=>h (b,qs)<|zw7 e
theorem zrg{X:Cx}{n k:Nat}{x:Str}{ps:List Str}{sp:Sp}{p pos:Pos}{e:Expr}{es:List Expr}{t:TA}(C:Cal X.prog X.w X.K X.mg X.base n x ps sp)(g:Room k X.A)(j:n<=k)(hg:Gl X x)(q:∀x,X.fn x=N)(L:PA X (e::es) t)(i:017=Fa:=by decide)
  (M:notStar e=N:=by rfl) (J:es.all notStar=N:=by rfl):PE X 046 (tCallA X sp t):=by
 let(f,fd,F,b,kp,m):=C.ex;show zu7 F (g.mono j) hg m kp b q L i (zbb M)<|zbq J
theorem zre{X:Cx}{x:Str}(i k n:Nat)(sp:Sp){m:Nat}{p pos:Pos}{e:Expr}{es:List Expr}{t:TA}(g:Room m X.A)(j:k<=m)(L:PA X (e::es) t)(T:X.Nq[i]?=G x:=by rfl)(D:Vis X.env.scope x:=by first|show Or.inl rfl|show Or.inr (Or.inl R)|show Or.inr (Or.inr R))
  (hd:017=Fa:=by decide) (O:(x==("__classdict__":Str))=Fa:=by decide) (M:notStar e=N:=by rfl) (J:es.all notStar=N:=by rfl) :
  PE X 046 (tCallV X.prog X.w X.K X.mg X.base k n sp i t):=zu4 T D (g.mono j) L hd O (zbb M)<|zbq J
noncomputable def freeOk(env:Env)(a:Scope):Bool:=a.names.all λp=>p.2 !=.free||(env.kindOf p.1==G .cell||env.kindOf p.1==G .free)
theorem freeOk.of(h:freeOk env a=N):∀p∈a.names,p.2=.free->env.kindOf p.1=G .cell\/env.kindOf p.1=G .free:=λp l e=>by
 let q:=y0u.mp h p l;rw[e]at q;simpa using q
noncomputable def oneOk(qs:Y3)(pos:Pos)(qual:Str):Bool:=qs.any (λp=>p.1.line==pos.line&&p.1.col==pos.col&&p.1.endLine==pos.endLine&&p.1.endCol==pos.endCol&&p.2==qual)&&qs.all λp=>p.1.line !=pos.line||p.1.col !=pos.col||p.2==qual
theorem oneOk.one(h:oneOk qs pos qual=N):∀p∈qs,p.1.line=pos.line->p.1.col=pos.col->p.2=qual:=λp l e1 L=>by
 let q:=y0u.mp (y07 _ _▸h:_/\_).2 p l;rw[e1,L]at q;simpa using q
theorem oneOk.mem(h:oneOk qs pos qual=N):(pos,qual)∈qs:=by
 let(p,l,e):=y46.mp (y07 _ _▸h:_/\_).1;simp only[y07,beq_iff_eq]at e;let((((e1,L),r),j),y):=e;let:p=(pos,qual):=by
  let((a,b,c,d),z):=p;let(g,T,c',d'):=pos;simp only at e1 L r j y;subst e1 L r j y;rfl
 rw[←this];show l
section
variable {X:Cx}{c P:Ad}{qs:Y3}{pos:Pos}{params:iN}{scope:Scope}
theorem ps_dfn(qual:Str)(g:X.env.code=.ref c)(v:KCode X.K c P)(y:BltK X.base X.mg)(r:freeOk X.env scope=N)(D:oneOk qs pos qual=N)(T:X.Nq.Nodup)(f:X.Nq[j]?=G name)(O:X.env.scope.names.lookup name=G .local)(nd:docOf body=B:=by rfl)
  (hd:params.defaults=[]:=by rfl) (C:params.kw_defaults=[]:=by rfl) (L:∀e,annTrees params B e=[]:=by intro e;rfl) (a:qualnameIn X.env name name=qual:=by rfl) :
  PS X (.FunctionDef name params body [] B [] scope B name pos) (tDef X P qs name qual params (.stmts body) scope j):=zye g v y (freeOk.of r) nd (oneOk.mem D) (oneOk.one D) hd C L a T f O
end
open Classical
theorem Adopted.up(ad:Adopted X U H1 Hq):Same H1 Hq:=λb u e=>by
 let g:¬CellOf X b:=λg=>by rw[ad.2.1 b g]at e;cases e
 rw[ad.1 b g];show e
def SameN(H H':Hp):Prop:=∀b u,H b=G u->(∀o a,u ≠ .frz o a)->H' b=G u
section
variable {cl:Y4}{H:Hp}
def ClOk(cl:Y4)(H:Hp):Prop:=∀x c,cl.lookup x=G c->∃o v,H c=G 040/\o.data=.cell v
theorem ClOk.n(C:ClOk cl H):SameN H (dropL cl H):=λb u e n=>by
 change(if InCl cl b then B else H b)=G u;rw[Xp<|zcr C e n];show e
theorem mix_up(g:∀b,InCl cl b->H2 b=B):Same H2 (mixL cl H H2):=λb u e=>by
 change(if InCl cl b then H b else H2 b)=G u;rw[Xp λA=>by rw[g b A]at e;cases e];show e
end
def CapAt(X:Cx)(U:St)(cap:List Str)(cv:List V):Prop:=io (λx v=>∃i:Nat,X.Nq[i]?=G x/\U[i]?=G (G v)/\(X.env.kindOf x=G .cell\/X.env.kindOf x=G .free)) cap cv
theorem ztl(ad:Adopted X U H1 Hq){cl:Y4}(M:∀x c,cl.lookup x=G c->X.env.cells.lookup x=G c):∀{cap:List Str} {cv:List V},(∀x∈cap,∃c,cl.lookup x=G c)->CapAt X U cap cv->Caps Hq cl cap cv
 |_,_,_,.nil=>.nil
 |x::_,_::_,g,.cons (i,e1,L,r) t=>by
  let(c,a):=g x y04;let(o,v,l,E,Q):=ad.2.2.2 x c<|M x c a;let(u,D,rfl):=Q i _ e1 L r;show .cons (c,o,u,a,l,E,D)<|ztl ad M (λy I=>g y<|y08 _ I) t
section
variable {X:Cx}{H H1 H1' Hq:Hp}{σ:St}{name qual:Str}{params:iN}{scope:Scope}{f:Ad}{own ps cap:List Str}{cv:List V}{k:Nat}{sp:Sp}
theorem Made.fn(M:Made X H H1 name qual params body scope f):∃fd,H1 f=G (fnO fd f):=by
 let(cl,ct,c',oc,J,_,_,_,_,h):=M.ex;show(_,h)
theorem zv8{cl:Y4}(ad:Adopted X σ H1' Hq)(l1:∀x c,cl.lookup x=G c->X.env.cells.lookup x=G c)(E:Frz Hq H'):Frz H1' (dropL cl H'):=λb o u e=>by
 let i:¬InCl cl b:=λ(x,z)=>by rw[ad.2.1 b (x,l1 x b z)]at e;cases e
 change(if InCl cl b then B else H' b)=_;rw[Xp i];show E _ _ _<|ad.up _ _ e
theorem Made.clo_s(M:Made X H H1 name qual params (.stmts body) scope f)(g:Same H1 H1')(ad:Adopted X σ H1' Hq)(S:CloScope own ps cap scope)(I:ps.length<=own.length)(Y:CapAt X σ cap cv)
  (T:∀(cl:Y4) (ct cd J:Va) (us:List Va),us.length=ps.length->jl (cloFd name qual params (.stmts body) scope cl ct cd J) 044=pure (ps.zip us))
  (a:∀(cl:Y4) (c':Ad) (A:iq) (outer:List Env) (s:ii) (H':Hp) (vs:List V) (Q:VK),Room k (A.deeper<|envL qual scope cl s.heap.objs.size f (.ref c'))->ClOk cl H'->Frz Hq H'->Frz H1' (dropL cl H')->vs.length=ps.length->sp vs H' Q E0->
   ∃t,PSs (cxL X.prog X.w X.K X.mg X.base (own++cap) qual scope cl f (.ref c') A outer s H') body t/\t {nx:=λ_ H2=>072->Q .non (mixL cl H' H2),rt:=λv H2=>072->Q v (mixL cl H' H2)} (stL own vs cv) (dropL cl H')):CloH X.prog X.w X.K X.mg X.base (k+1) Hq f ps.length sp:=by
 let(cl,ct,c',oc,J,l1,l2,l3,l4,q):=M.ex;let C:ClOk cl Hq:=λx c e=>let(o,v,U,E,_):=ad.2.2.2 x c<|l1 x c e;(o,v,U,E);let up:=ad.up;apply ztf S I (up _ _<|g _ _ q) (up _ _<|g _ _ l3) l4 C l2 (λx y c e1 L=>ad.2.2.1 x y c (l1 x c e1)<|l1 y c L) (ztl ad l1 (λx O=>l2 (x,.free) (mem_of_lookup'<|S.cap x O) R) Y) (T cl ct _ J) λA outer s H' vs Q l p j i=>?_;show a cl c' A outer s H' vs Q l (λx c e=>let(o,v,z,d):=C x c e;(o,v,p _ _ _ z,d)) p (zv8 ad l1 p) j i
end
section
variable {X:Cx}{pins:Y2}{σ:St}{H:Hp}{s:ii}{k:Nat}{fa:Ad}{fd:i8}{ps:List Str}{sp:Sp}
def tTry2A(K:Frag)(S:Ad)(sp:Sp)(j:Nat)(o:TS)(t:TA)(ts:TS):TS:=λD σ H=>o {nx:=λd H1=>tTryA K S sp j t ts D d H1,rt:=λ_ _=>False} σ H
end
def rUpper:V->List V->Hp->VK->Prop:=λx vs H Q=>∃z,x=.str z/\vs=[]/\Builtin.Str.tooLong (Txt.upper z).length=Fa/\Q (.str<|Txt.upper z) H
theorem zvt:MtR X "str.upper" rUpper:=by
 intro Y s U H x xs v us Q I d rs h;let(z,rfl,rfl,C,q):=h;let(t,rfl):=d;cases rs;show SC.upper C (.str _,H,I.tok _,(_,R),q)
end L2
namespace PySem
open AutoSeq1
theorem zgy(l b:Ad)(items items2:Array Va)(n n2:Nat)(dd:Option Ad)(sl:Y8)(hs0:¬(!items.isEmpty&&Builtin.List.listTooLong (items.size+items2.size))=N)(hs1:items.size<=ij)(hs2:items.size+items2.size<=ij+1):
  Meets (Builtin.«list.extend» ([.ref l,.ref b],[])) (λ_ Rq s=>s.heap.get? l=G {cls:=.type "list",dict:=B,data:=.seq items n,slots:=#[]}/\s.heap.get? b=G {cls:=.type "tuple",dict:=dd,data:=.seq items2 n2,slots:=sl}/\Rq (.ok<|.ret Va.none) {s with heap:=s.heap.update l<|Obj.mapSeq λx=>x++items2,toks:=s.toks}) :=
 .of_wp λpg wd Ar Re st0 hyp=>by
  let(hp0,ga,dr,tks,ost):=st0;let(el,eb,fin):=hyp;let s1:=idx_int;let s2:=AutoSeq1.sub_tuple_tuple;let s3:=AutoSeq1.sub_list_list;let s4:=AutoSeq1.sub_tuple_list;let s5:=AutoSeq1.sub_list_tuple;let fit:(items++items2).size<=ij+1:=by rw[Array.size_append];omega
  wp_walk using(jA el R (hz:=hs1) (_hz':=fit)),wpAny_loadPart' el,wpAny_loadPart' eb
  show(_,R,fin)
end PySem
namespace L2
open PySem PySem.Spec PyProof.Rows PySem.W PySem.Calls
def rExtendT(K:Frag):V->List V->Hp->VK->Prop:=λx vs H Q=>∃l b xs zs,x=.ref l/\vs=[.ref b]/\H l=G 98/\SqT K H b zs/\xs.length+zs.length<=ij/\Q .non (upd H l<|.lst (xs++zs))
theorem zpm:MtM X "list.extend" (rExtendT X.K):=by
 intro Y s U H x vs v us Q I d f h;let(l,b,xs,zs,rfl,rfl,J,o,hz,q):=h;cases d;let(u,rfl,D):=f.one;cases D;let(z,its,n,r,j,e):=I.lstM J;let(T,r2,((O,i,A,y),L,p,n2,c),_):=I.tuple o;simp only at p c;subst p c;let a:=r2.length;let hsz:its.toArray.size+T.toArray.size<=ij:=by rw[y0a,y0a];omega
 let g:¬(!its.toArray.isEmpty&&Builtin.List.listTooLong (its.toArray.size+T.toArray.size))=N:=by
  rw[notLongL hsz,y2j];show y0f
 apply j8 F.slot_list_extend (_,e,R) F.entry_list_extend (F.args_list_extend_2 _ _)
  (zgy l b its.toArray T.toArray n n2 i y g (by rw[y0a];omega) 00) (e,L,?_)
 apply(.non,_,I.lset (its':=its++T) J e 06 (r.append r2) ?_,R,q);rw[y02];omega
theorem zmq(K:Frag)(h:X.K=K:=by rfl):MtM X "list.extend" (rExtendT K):=h▸zpm
noncomputable def Itr3(lo c:Int)(n:Nat):It:=(λi _=>i<n,λi H x H'=>H'=H/\x=.int (lo+i*c),λi _=>n<=i)
def iRng3(e:TA):TI:=λU H Rq=>e U H λvs H1=>∃i j c:Int,vs=[.int i,.int j,.int c]/\c≠0/\Builtin.Range.small i j c=N/\(j-i).natAbs<1000/\c.natAbs<1000/\0<=Builtin.Range.rangeSize i j c/\Rq (Itr3 i c (Builtin.Range.rangeSize i j c).toNat) H1
section
variable {tn:List Str}{cp:Y6}{g:TG}{tif:TT}{te:TE}{σ0:St}{Q:VK}{H1:Hp}{lo:Int}{n:Nat}
def PLst(S:St->Prop)(f:Nat->List V)(H1:Hp)(D:Ad)(i:Nat)(ys:List V)(U:St)(H:Hp):Prop:=Same H1 H/\S U/\ys.length=i/\∀j y,ys[j]?=G y->∃c,y=.ref c/\c≠D/\H c=G (.lst<|f j)
theorem zwm(S:St->Prop)(f:Nat->List V)(o:n<=1000)(Y:S 051)
  (hs:∀D i ys U H,i<n->Same H1 H->H1 D=B->H D=G 82->ys.length=i->(∀j y,ys[j]?=G y->∃c,y=.ref c/\c≠D/\H c=G (.lst<|f j))->S U->g (.int<|lo+i) U H λd H2=>tif d H2 λc H3 =>
   if c=N then te d H3 λv H4=>CStep D n i (PLst S f H1 D) d v H4 else CSkip D n i (PLst S f H1 D) d H3)
  (hd:∀D ys H,H1 D=B->Same H1 H->H D=G 82->ys.length=n->(∀j y,ys[j]?=G y->∃c,y=.ref c/\c≠D/\H c=G (.lst<|f j))->Q 95 H):cBody tn cp g tif te σ0 Q (Itr lo n) H1:=by
 apply ztk n (λD=>PLst S f H1 D) (zah o) (λD u=>(za7 u _,Y,R,λj y e=>by simp at e)) (λD i ys U H _ hi _ _=>hi) (λD ys U H _ _ _=>y05 _) ?_ ?_
 .rintro D i ys U H x H' u hi J E ⟨M,r,a,A⟩ ⟨rfl,rfl⟩;show hs D i ys U _ hi M u J a A r
 .rintro D ys U H u J E ⟨M,r,a,A⟩;show hd D ys H u M J a A
theorem cn_step(o:n<=1000)(hi:i<n)(u:H1 D=B)(C:H D=G 82)(E:ys.length=i)
  (I:∀j y,ys[j]?=G y->∃c,y=.ref c/\c≠D/\H c=G (.lst<|f j)) (g1:Same H1 H) (M:Same H H4) (s2:S d) (A:c≠D) (l:H4 c=G (.lst<|f i)):CStep D n i (PLst S f H1 D) d (.ref c) H4:=by
 apply cstep (zah o) hi (M _ _ C) 00 ((g1.trans M).wr u _,s2,by simp[E],λj y Y=>?_);by_cases h:j<ys.length
 .rw[y0q h]at Y;let(c',e1,L,r):=I j y Y;show(c',e1,L,by rw[zan L];show M _ _ r)
 .let a:j<(ys++[V.ref c]).length:=(y09.mp Y).1;rw[y02,y0i]at a;let e:j=ys.length:=by omega
  rw[e,y0n 37,y43]at Y;injection Y with Y
  apply(c,Y.symm,A,?_);rw[zan A,l,e,E]
end
structure DfnM(K:Frag)(C:Ad)(m q:Str)(st:Stmt)(ps:List Str):Prop where
 ex:∃f fd,Fun K m q st f fd/\Binds K fd ps []/\Meth K C m f
structure CalM(P:ik)(w:World)(K:Frag)(mg:Y1)(base:Heap)(n:Nat)(C:Ad)(m:Str)(ps:List Str)(sp:Sp):Prop where
 ex:∃f fd,FnOk P w K mg base CX0 n f fd ps sp/\Binds K fd ps []/\Meth K C m f
structure DfnI(K:Frag)(C:Ad)(q:Str)(st:Stmt)(ps:List Str):Prop where
 ex:∃f fd,Fun K "__init__" q st f fd/\Binds K fd ps []/\Mk K C f
structure CalI(P:ik)(w:World)(K:Frag)(mg:Y1)(base:Heap)(n:Nat)(C:Ad)(x:Str)(ps:List Str)(sp:Sp):Prop where
 ex:∃f fd,FnOk P w K mg base CX0 n f fd ps sp/\Binds K fd ps []/\Mk K C f
 mg:mg x=G 84
section
variable {P:ik}{w:World}{K:Frag}{mg:Y1}{base:Heap}{C:Ad}
theorem DfnM.cal{m q:Str}{st:Stmt}{Nq ps:List Str}{k:Nat}{sp:Sp}(d:DfnM K C m q st ps)(S:FnScope Nq ps 96)(len:∀vs H Q E,sp vs H Q E->vs.length=ps.length)
  (a:∀(f:Ad) (j:Va) (A:iq) (outer:List Env) (s:ii) (H:Hp) (vs:List V) (Q:VK) (E:XK),Room k (A.deeper<|jg q 96 s.heap.objs.size f j)->sp vs H Q E->
   ∃t,PSs (cxOf CX0 P w K mg base Nq q 96 f j A outer s H E).nox 043 t/\t {nx:=λ_ H'=>Q .non H',rt:=Q} (start Nq vs) H):CalM P w K mg base (k+1) C m ps sp:=by
 let(f,fd,F,b,M):=d.ex;show(f,fd,F.ok S len<|a f,b,M)
theorem DfnI.cal{q x:Str}{st:Stmt}{Nq ps:List Str}{k:Nat}{sp:Sp}(d:DfnI K C q st ps)(l:mg x=G 84)(S:FnScope Nq ps 96)(len:∀vs H Q E,sp vs H Q E->vs.length=ps.length)
  (a:∀(f:Ad) (j:Va) (A:iq) (outer:List Env) (s:ii) (H:Hp) (vs:List V) (Q:VK) (E:XK),Room k (A.deeper<|jg q 96 s.heap.objs.size f j)->sp vs H Q E->
   ∃t,PSs (cxOf CX0 P w K mg base Nq q 96 f j A outer s H E).nox 043 t/\t {nx:=λ_ H'=>Q .non H',rt:=Q} (start Nq vs) H):CalI P w K mg base (k+1) C x ps sp:=by
 let(f,fd,F,b,M):=d.ex;show((f,fd,F.ok S len<|a f,b,M),l)
theorem DfnM.never{m q:Str}{st:Stmt}{ps:List Str}{sp:Sp}(d:DfnM K C m q st ps)(no:∀vs H Q E,¬sp vs H Q E):CalM P w K mg base 0 C m ps sp:=by
 let(f,fd,F,b,M):=d.ex;show(f,fd,(λvs H Q E h=>Xa h<|no _ _ _ _,λ_ _ _ _ _ _ _ _ _ _ _ _ _ h=>Xa h<|no _ _ _ _),b,M)
theorem CalM.mono(c:CalM P w K mg base j C m ps sp)(h:j<=k):CalM P w K mg base k C m ps sp:=by
 let(f,fd,F,r):=c.ex;show(f,fd,F.mono h,r)
end
section
variable {X:Cx}{C:Ad}{n k:Nat}{m x:Str}{ps:List Str}{sp:Sp}{p pos apos:Pos}{o e:Expr}{es:List Expr}{ta:TE}{t:TA}
theorem zat{pl:Sem Bool}(M:CalM X.prog X.w X.K X.mg X.base n C m ps sp)(c:Cls X.K C)(g:Room k X.A)(j:n<=k)(d:PE X o ta)(L:PA X (e::es) t)
  (i:notStar e=N:=by rfl) (J:es.all notStar=N:=by rfl)
  (ht:eval 102 X.env=(do
   let v ←eval o X.env
   standAt apos.atName
   let(f,first) ←holding [v] (getMethod v m pl)
   callWith pos f first (iR pos<|il (e::es) X.env) (backToKw pos<|keywordEach [] X.env)):=by rfl) :
  PE X 102 (tMeth C m sp [] E0 ta t):=by
 let(f,fd,F,b,l):=M.ex;show zym (pl:=pl) d c l F (g.mono j) b .nil pass0 L (zbb i) (zbq J) ht
theorem zux(M:CalI X.prog X.w X.K X.mg X.base n C x ps sp)(g:Room k X.A)(j:n+1<=k)(hg:Gl X x)(i:017=Fa:=by decide):PE X (.Call (.Name x p) [] [] pos) (tMake C sp [] E0 tNil):=by
 let(f,fd,F,b,l):=M.ex;show zuy l F (g.mono j) hg M.mg b .nil pass0 i
end
theorem zxc:∀(zs:List Str) (m:Nat) (h:m<zs.length),zs.idxOf zs[m]<=m
 |y::r,0,h=>by simp
 |y::r,m+1,h=>by
  rw[y36];let:=zxc r m (by simpa using h);cases(y==(y::r)[m+1])
  .simp only[cond_false,List.getElem_cons_succ];omega
  .simp
def rIndexT(K:Frag):V->List V->Hp->VK->Prop:=λx vs H Q=>∃(p:Ad) (zs:List Str) (z:Str),x=.ref p/\vs=[.str z]/\SqL K H p (zs.map V.str)/\z∈zs/\zs.length<=1000/\Q (.int ((zs.idxOf z:Nat):Int)) H
theorem zr5(hu:X.A.units+8<cLine):MtR X "list.index" (rIndexT X.K):=by
 intro Y s U H x xs v us Q I d rs h;let(p,zs,z,rfl,rfl,O,C,hz,q):=h;cases d;let(u,rfl,t,rfl):=vals1 rs;let(vs,E,pl,_):=I.list O;let M:=E.length;rw[y00]at M;let A:∀(i:Nat) (hi:i<zs.length),∃(h:i<vs.length) (t:Tok),vs[i]=.str zs[i] t:=λi hi=>by
  let(h',y):=E.at (j:=i) 00;rw[List.getElem_map]at y;let(t,e):=(show∃t,vs[i]=Va.str zs[i] t from y);show(by omega,t,e)
 let((cls,dd,data,L),T,g,n,hd):=pl.isList;simp only at g hd;subst g hd;let f:zs.idxOf z<zs.length:=y0x.mpr C;letI D:Va->Bool:=λ|.str b _=>decide (b=z)|_=>Fa
 apply j8 PySem.F.slot_list_index (_,T,R) PySem.F.entry_list_index (PySem.F.args_list_index_2 _ _)
  (SeqAt.list_indexAt p vs.toArray n dd L (.str z t) D (zs.idxOf z) (by simp;omega) 00 ?_ ?_) (T,λy o=>?_,?_)
 .let(h,t',e):=A _ f;change D vs[zs.idxOf z]=N;rw[e];show Xg<|y3a f
 .intro m l r;let a:m<zs.length:=by simp at l;omega
  let(h,t',e):=A m a;change D vs[m]=Fa;rw[e];apply Xf λc=>?_;let J:zs.idxOf z<=m:=by
   rw[←c];show zxc zs m a
  omega
 .let(i,hi,rfl):=y2o (show y∈vs by simpa using o);let(h,t',e):=A i 00;rw[e];show zky (X:=X) (k:=0) (H:=H) (x:=.str zs[i]) (y:=.str z) R R Y U s X.A.in1 _ _ (by change X.A.units+1+0<cLine;omega) I (t',R) (t,R)
 .exact(.int _,H,I.tok _,(_,R),q)
theorem zh7(K:Frag)(g:X.A.units+8<cLine)(h:X.K=K:=by rfl):MtR X "list.index" (rIndexT K):=h▸zr5 g
section
variable {K:Frag}{C:Ad}
theorem dfnm_mk{m q:Str}{st:Stmt}{ps:List Str}{f:Ad}{oc:Va}{M L:Option Ad}{p:Y8}{kV doc J j ct:Va}(a:PySem.W.findIn K 84 m=G (G 45))(i:PySem.W.isFn K 45=N)
  (l:K.lookup f=G (oc,M,.func<|PySem.W.fnOf m q (defArgs st) 043 96 .none kV doc J L j ct,p)) (c:PySem.W.codeIn K j q=N) (k:PySem.W.keepIn K 45=N)
  (Y:∀(kV doc J:Va) (L:Option Ad) (j ct:Va) (us:List Va),us.length=ps.length->jl (PySem.W.fnOf m q (defArgs st) 043 96 .none kV doc J L j ct) 044=pure (ps.zip us)):DfnM K C m q st ps :=
 (f,_,zfr l c k,(zfr l c k).binds Y,(a,i,k))
theorem dfni_mk{q:Str}{st:Stmt}{ps:List Str}{f:Ad}{oc:Va}{M L:Option Ad}{p:Y8}{kV doc J j ct:Va}(mk:PySem.W.makesIn K C=N)(a:PySem.W.findIn K 84 "__init__"=G (G 45))(i:PySem.W.isFn K 45=N)(v:PySem.W.keepIn K 84=N)
  (l:K.lookup f=G (oc,M,.func<|PySem.W.fnOf "__init__" q (defArgs st) 043 96 .none kV doc J L j ct,p)) (c:PySem.W.codeIn K j q=N) (k:PySem.W.keepIn K 45=N)
  (Y:∀(kV doc J:Va) (L:Option Ad) (j ct:Va) (us:List Va),us.length=ps.length->jl (PySem.W.fnOf "__init__" q (defArgs st) 043 96 .none kV doc J L j ct) 044=pure (ps.zip us)):DfnI K C q st ps :=
 (f,_,zfr l c k,(zfr l c k).binds Y,(mk,a,i,v))
theorem noattr_mk(h:PySem.W.findIn K 84 f=G B):NoAttr K C f:=h
end
def as1(xs:List V)(k:V->Prop):Prop:=match xs with
 |[x]=>k x
 |_=>False
theorem as1_l{x:V}{k:V->Prop}:as1 [x] k=k x:=rfl
theorem zxq{xs:List V}{k:V->Prop}(h:as1 xs k):∃x,xs=[x]/\k x:=by
 match xs,h with
 |[x],h=>show(x,R,h)
theorem znb{xs:List V}{k:Ad->Prop}(h:as1 xs λx=>asR x k):∃p,xs=[.ref p]/\k p:=by
 let(x,rfl,h):=zxq h;let(p,rfl,h):=zck h;show(p,R,h)
section
variable {X:Cx}
theorem CallR.weak{f:Va}{r r':List V->Hp->VK->Prop}(c:CallR X f r)(h:∀xs H Q,r' xs H Q->r xs H Q):CallR X f r':=λY s U H xs us Q I v q=>c Y s U H xs us Q I v<|h _ _ _ q
theorem OpR.weak{f:Va->Va->Sem Va}{r r':R2}(c:OpR X f r)(h:∀x y H Q,r' x y H Q->r x y H Q):OpR X f r':=λY s U H x y v u Q I d O q=>c Y s U H x y v u Q I d O<|h _ _ _ _ q
def rEqZ:R2:=λx y H Q=>match x,y with
 |.int a,.int b=>Q (.bl<|decide (a=b)) H
 |.str a,.str b=>Q (.bl<|decide (a=b)) H
 |x,y=>scal x y=N/\Q (.bl<|decide (x=y)) H
def rNeZ:R2:=λx y H Q=>match x,y with
 |.int a,.int b=>Q (.bl<|!decide (a=b)) H
 |.str a,.str b=>Q (.bl<|!decide (a=b)) H
 |x,y=>scal x y=N/\Q (.bl<|!decide (x=y)) H
theorem dec_i(a b:Int):decide (V.int a=V.int b)=decide (a=b):=decide_eq_decide.mpr (λh=>V.int.inj h,λh=>congrArg _ h)
theorem dec_s(a b:Str):decide (V.str a=V.str b)=decide (a=b):=decide_eq_decide.mpr (λh=>V.str.inj h,λh=>congrArg _ h)
theorem zme{a b:Int}{H:Hp}{Q:VK}:rEqZ (.int a) (.int b) H Q=Q (.bl<|decide (a=b)) H:=rfl
theorem zmd{a b:Str}{H:Hp}{Q:VK}:rEqZ (.str a) (.str b) H Q=Q (.bl<|decide (a=b)) H:=rfl
theorem zmc{a b:Int}{H:Hp}{Q:VK}:rNeZ (.int a) (.int b) H Q=Q (.bl<|!decide (a=b)) H:=rfl
theorem zmb{a b:Str}{H:Hp}{Q:VK}:rNeZ (.str a) (.str b) H Q=Q (.bl<|!decide (a=b)) H:=rfl
theorem rEqZ_eq{x y:V}{H:Hp}{Q:VK}:rEqZ x y H Q=(scal x y=N/\Q (.bl<|decide (x=y)) H):=by
 cases x<;>cases y<;>first|rfl|(rw[zme,dec_i];show propext (λh=>(R,h),λh=>h.2))|(rw[zmd,dec_s];show propext (λh=>(R,h),λh=>h.2))
theorem rNeZ_eq{x y:V}{H:Hp}{Q:VK}:rNeZ x y H Q=(scal x y=N/\Q (.bl<|!decide (x=y)) H):=by
 cases x<;>cases y<;>first|rfl|(rw[zmc,dec_i];show propext (λh=>(R,h),λh=>h.2))|(rw[zmb,dec_s];show propext (λh=>(R,h),λh=>h.2))
theorem za6:OpR X (im .Eq) rEqZ:=op_eq.weak λ_ _ _ _ h=>rEqZ_eq.mp h
theorem zh0:OpR X (im .NotEq) rNeZ:=op_ne.weak λ_ _ _ _ h=>rNeZ_eq.mp h
variable (K:Frag)
def rLenZ:List V->Hp->VK->Prop:=λxs H Q=>as1 xs λx=>asR x λp=>∃ys,(SqL K H p ys\/SqT K H p ys)/\Q (.int<|List.length ys) H
theorem zas(h:X.K=K:=by rfl):CallR X (.builtin "len") (rLenZ K):=(zjr K h).weak λ_ _ _ h=>let(p,e,ys,h):=znb h;(p,ys,e,h)
def rListOfZ:List V->Hp->VK->Prop:=λxs H Q=>as1 xs λx=>asR x λp=>∃ys,(SqL K H p ys\/SqT K H p ys)/\∀l H',New H l 82 H'->Q (.ref l) H'
theorem zfg(h:X.K=K:=by rfl):CallR X (.type "list") (rListOfZ K):=(zhl K h).weak λ_ _ _ h=>let(p,e,ys,h):=znb h;(p,ys,e,h)
def rAllZ:List V->Hp->VK->Prop:=λxs H Q=>as1 xs λx=>asR x λp=>∃bs:List Bool,SqL K H p (bs.map V.bl)/\Q (.bl<|bs.all id) H
theorem zbx(g:X.calm=N)(h:X.K=K:=by rfl):CallR X (.builtin "all") (rAllZ K):=(zla K g h).weak λ_ _ _ h=>let(p,e,ys,h):=znb h;(p,ys,e,h)
def rInZ(neg:Bool):R2:=λx y H Q=>asR y λp=>∃xs,(SqL K H p xs\/SqT K H p xs)/\flatV x=N/\xs.all flatV=N/\Q (.bl<|if neg then !inV x xs else inV x xs) H
theorem zbl(h:X.K=K:=by rfl):OpR X (im .In) (rInZ K Fa):=(zph K h).weak λ_ _ _ _ h=>let(p,e,ys,h):=zck h;(p,ys,e,h)
theorem zer(h:X.K=K:=by rfl):OpR X (im .NotIn) (rInZ K N):=(zja K h).weak λ_ _ _ _ h=>let(p,e,ys,h):=zck h;(p,ys,e,h)
def rSlLZ:V->Option Int->Option Int->Hp->VK->Prop:=λx lo hi H Q=>asR x λa=>∃xs,SqL K H a xs/\∀p H',New H p (.lst<|cutL xs lo hi) H'->Q 91 H'
theorem zcx(h:X.K=K:=by rfl):SlR X (rSlLZ K):=λY s U H x v c vu lo hi f Q I r hs pl y q=>zqs K h Y s U H x v c vu lo hi f Q I r hs pl y (let(p,e,ys,h):=zck q;(p,ys,e,h))
def rSlTZ:V->Option Int->Option Int->Hp->VK->Prop:=λx lo hi H Q=>asR x λa=>∃xs,SqT K H a xs/\¬120/\∀p H',New H p (.tup<|cutL xs lo hi) H'->Q 91 H'
theorem zgm(h:X.K=K:=by rfl):SlR X (rSlTZ K):=λY s U H x v c vu lo hi f Q I r hs pl y q=>zui K h Y s U H x v c vu lo hi f Q I r hs pl y (let(p,e,ys,h):=zck q;(p,ys,e,h))
variable {K}
def rAppZ:V->List V->Hp->VK->Prop:=λx vs H Q=>as1 vs λy=>asR x λl=>∃xs,H l=G 98/\xs.length<ij/\Q .non (upd H l<|.lst (xs++[y]))
theorem zbc:MtM X "list.append" rAppZ:=λY s U H x xs v us Q I r rs h=>zkq Y s U H x xs v us Q I r rs (let(y,e,h):=zxq h;let(l,D,xs,h):=zck h;(l,xs,y,D,e,h))
def rCatZ:R2:=λx y H Q=>asR x λl=>asR y λb=>∃xs,H l=G 98/\∃zs,H b=G (.lst zs)/\xs.length+zs.length<=ij/\∀p H',New H p (.lst<|xs++zs) H'->Q 91 H'
theorem zed:OpR X (iE .Add) rCatZ:=op_catN.weak λ_ _ _ _ h=>let(l,e,h):=zck h;let(b,D,xs,M,zs,h):=zck h;(l,b,xs,zs,e,D,M,h)
def rIskZ:List V->Hp->VK->Prop:=λxs H Q=>match xs with
 |[x,.ty T]=>∃k,Kd H x k/\T∈["str","list","tuple","bool","int","dict"]/\Q (.bl<|subT k T) H
 |_=>False
theorem zq2{x:V}{T:String}{H:Hp}{Q:VK}:rIskZ [x,.ty T] H Q=∃k,Kd H x k/\T∈["str","list","tuple","bool","int","dict"]/\Q (.bl<|subT k T) H:=rfl
theorem zbh:CallR X (.builtin "isinstance") rIskZ:=call_isk.weak λxs H Q h=>by
 match xs,h with
 |[x,.ty T],(k,h)=>show(x,T,k,R,h)
def rLeSZ:R2:=λx y H Q=>asS x λi=>asS y λj=>Q (.bl<|!(decide (j.cps.toList<i.cps.toList))) H
theorem zdi:OpR X (im .LtE) rLeSZ:=op_le_str.weak λ_ _ _ _ h=>let(i,e,h):=zts h;let(j,D,h):=zts h;(i,j,e,D,h)
end
end L2
namespace SS
open PySem PySem.Spec PyProof.Rows L2
noncomputable def SMALL:Str:="abcdefghijklmnopqrstuvwxyz"
noncomputable def GREAT:Str:="ABCDEFGHIJKLMNOPQRSTUVWXYZ"
noncomputable def FIGS:Str:="0123456789"
noncomputable def signIn(c:Nat)(z:Str):Bool:=!(Builtin.Str.occurrences z ⟨#[c]⟩ 0 z.length 1).isEmpty
def nameB(z a:Str):Bool:=match z.cps.toList with
 |[]=>Fa
 |c::r=>decide (r.length<=3)&&signIn c a&&r.all λd=>signIn d FIGS
def isNm(x:V)(a:Str):Bool:=match x with
 |.str z=>nameB z a
 |_=>Fa
def zx0:Sp:=λvs H Q _=>∃x a k,vs=[x,.str a]/\Kd H x k/\(∀z,x=.str z->z.length<=1000)/\∀H',Same H H'->Q (.bl<|isNm x a) H'
def zhd(a:Str):Sp:=λvs H Q _=>∃x k,vs=[x]/\Kd H x k/\(∀z,x=.str z->z.length<=1000)/\∀H',Same H H'->Q (.bl<|isNm x a) H'
structure Nam(z letters:Str):Prop where
 ex:∃d ds,z.cps.toList=d::ds/\d∈letters.cps.toList/\ds.length<=3/\∀x∈ds,x∈FIGS.cps.toList
theorem zew:∀c∈SMALL.cps.toList,signIn c SMALL=N:=by decide+kernel
theorem zoh:∀c∈GREAT.cps.toList,signIn c GREAT=N:=by decide+kernel
theorem in_figs:∀c∈FIGS.cps.toList,signIn c FIGS=N:=by decide+kernel
theorem zgw(j:∀c∈l.cps.toList,signIn c l=N)(h:Nam z l):isNm (.str z) l=N:=by
 let(d,ds,e,M,J,U):=h.ex;simp only[isNm,nameB,e];rw[j d M,Xg J,y17,y17];show y0u.mpr λx O=>in_figs x<|U x O
theorem ze9(h:Nam z l):1<=z.length/\z.length<=4:=by
 let(d,ds,e,M,J,U):=h.ex;rw[zlj,e,y0b];omega
theorem zqt(c:Nat)(z:Str):signIn c z=decide (c∈z.cps.toList):=PySem.StrLaws.found_one z c
def Thing(H:Hp)(y:V):Prop:=(∃k,Kd H y k)/\∀z,y=.str z->z.length<=1000
theorem Thing.same(h:Thing H y)(g:Same H H'):Thing H' y:=(let(k,q):=h.1;(k,q.same g),h.2)
theorem Thing.str(h:z.length<=1000):Thing H (.str z):=((_,.str z),λO e=>by cases e;show h)
theorem Thing.tup(e:H a=G 015):Thing H 09:=((_,.tup e),λO e=>by cases e)
def isName(x:V):Bool:=isNm x SMALL||isNm x GREAT
def zuf:Sp:=λvs H Q _=>∃x,vs=[x]/\Thing H x/\∀H',Same H H'->Q (.bl<|isName x) H'
theorem zfc(h:isName x=N):∃z,x=.str z:=by
 cases x with
 |str z=>show(z,R)
 |_=>show Xa h (by simp[isName,isNm])
def frameB(xs:List V):Bool:=decide (xs.length<=4)&&xs.all isName&&decide xs.Nodup
def frB(H:Hp)(x:V):Bool:=match x with
 |.ref a=>match H a with
  |some (.lst xs)=>frameB xs
  |_=>Fa
 |_=>Fa
def Things(H:Hp)(xs:List V):Prop:=xs.length<=1000/\∀y∈xs,Thing H y
def zx1:Sp:=λvs H Q _=>∃x,vs=[x]/\Thing H x/\(∀a xs,x=.ref a->H a=G 98->Things H xs)/\∀H',Same H H'->Q (.bl<|frB H x) H'
theorem zh5:∀{xs:List V},xs.all isName=N->∃ks:List Key,xs=ks.map kV/\(xs.Nodup↔ks.Nodup)
 |[],_=>([],R,by simp)
 |x::r,h=>by
  rw[y1z,y07]at h;let(z,rfl):=zfc h.1;let(ks,e,n):=zh5 h.2;apply(Sum.inr z::ks,by rw[y0p,←e];rfl,?_);rw[y1t,y1t,n];apply and_congr_left λ_=>not_congr ?_;rw[e,y0g];constructor
  .rintro⟨k,C,e⟩;let:k=Sum.inr z:=kV_inj<|e.trans R;show this▸C
  .exactλC=>(_,C,R)
inductive zlz(K:Frag)(vs:List V)(H:Hp)(Q:VK)(_E:XK):Prop
 |mk (a:Ad) (ns:List Int) (k:Int):(vs=[.ref a,.int k])->(SqL K H a<|ns.map V.int)->(0<=k)->(∀c,Q (.int c) H)->zlz K vs H Q _E
theorem zpy(M:xs.length<=4)(J:xs.all isName=N)(U:xs.Nodup):frameB xs=N:=by
 unfold frameB;rw[Xg M,J,Xg U];rfl
theorem ze0(f:d->q)(xs:List d)(lo hi:Option Int):cutL (xs.map f) lo hi=(cutL xs lo hi).map f:=by
 unfold cutL;rw[y00,List.map_take,List.map_drop]
inductive Sy where
 |bare (w n m:Str)
 |neg (s:Sy)
 |two (w:Str) (s t:Sy)
 |qu (w n:Str) (s:Sy)
noncomputable def rowWords:List Str:=["ahead","next"]
def bareWords:List Str:=["in","same","within","ahead","next","left","right","above"]
noncomputable def Sy.depth:Sy->Nat
 |.bare _ _ _=>1
 |.neg s=>s.depth+1
 |.two _ s t=>max s.depth t.depth+1
 |.qu _ _ s=>s.depth+1
noncomputable def Sy.parts:Sy->Nat
 |.bare _ _ _=>1
 |.neg s=>s.parts+1
 |.two _ s t=>s.parts+t.parts+1
 |.qu _ _ s=>s.parts+1
inductive Rep(H:Hp):V->Sy->Prop where
 |bare {a:Ad} {w n m:Str} (hw:w∈bareWords) (e:H a=G (.tup [.str w,.str n,.str m])):Rep H (.ref a)<|.bare w n m
 |neg {a:Ad} {x:V} {s:Sy} (e:H a=G (.tup [.str "not",x])) (h:Rep H x s):Rep H (.ref a)<|.neg s
 |two {a:Ad} {w:Str} {x y:V} {s t:Sy} (hw:w∈(["and","or"]:List Str)) (e:H a=G (.tup [.str w,x,y])) (h1:Rep H x s) (h2:Rep H y t):Rep H (.ref a)<|.two w s t
 |qu {a:Ad} {w n:Str} {x:V} {s:Sy} (hw:w∈(["some","all"]:List Str)) (e:H a=G (.tup [.str w,.str n,x])) (h:Rep H x s):Rep H (.ref a)<|.qu w n s
theorem Rep.same(r:Rep H v s)(g:Same H H'):Rep H' v s:=by
 induction r with
 |bare C e=>show .bare C<|g _ _ e
 |neg e _ E=>show .neg (g _ _ e) E
 |two C e _ _ j i=>show .two C (g _ _ e) j i
 |qu C e _ E=>show .qu C (g _ _ e) E
theorem Rep.tup(r:Rep H v s):∃a xs,v=.ref a/\H a=G 015:=by
 cases r with
 |bare C e=>show(_,_,R,e)
 |neg e _=>show(_,_,R,e)
 |two C e _ _=>show(_,_,R,e)
 |qu C e _=>show(_,_,R,e)
theorem ztp:∀w∈bareWords,inV (.str w) [.str "some",.str "all"]=Fa:=by decide+kernel
theorem zsm:∀w∈(["and","or"]:List Str),inV (.str w) [.str "some",.str "all"]=Fa:=by decide+kernel
theorem zqe:∀w∈(["some","all"]:List Str),inV (.str w) [.str "some",.str "all"]=N:=by decide+kernel
theorem zvq:inV (.str "not") [.str "some",.str "all"]=Fa:=by decide+kernel
theorem zcj(z:Str)(l:List Str):inV (.str z) (l.map V.str)=decide (z∈l):=by
 induction l with
 |nil=>rfl
 |cons y r E =>
  let e:inV (.str z) ((y::r).map V.str)=(eqV (.str y) (.str z)||inV (.str z) (r.map V.str)):=rfl;rw[e,E,zs3];by_cases h:z=y
  .subst h;simp
  .let h':¬y=z:=λq=>h q.symm;simp[h,h']
noncomputable def isT(H:Hp)(x:V):Bool:=match x with
 |.ref a=>match H a with
  |some (.tup _)=>N
  |_=>Fa
 |_=>Fa
theorem Kd.isT(h:Kd H x k):subT k "tuple"=isT H x:=by
 cases h with
 |lst e=>simp only[SS.isT,e];decide
 |tup e=>simp only[SS.isT,e];decide
 |dK e=>simp only[SS.isT,e];decide
 |_=>rfl
def zcw:Sp:=λvs H Q _=>∃a xs,vs=[.ref a]/\H a=G 015/\xs.length<=1000/\(∀y∈xs,∃k,Kd H y k)/\∀D H',H D=B->Same H H'->H' D=G (.lst<|xs.filter (isT H))->Q 95 H'
noncomputable def Sy.inner:Sy->List Sy
 |.bare _ _ _=>[]
 |.neg s=>[s]
 |.two _ s t=>[s,t]
 |.qu _ _ s=>[s]
theorem Rep.kd(r:Rep H v s):Kd H v "tuple":=by
 let(a,xs,rfl,e):=r.tup;show .tup e
theorem Rep.isT(r:Rep H v s):isT H v=N:=by
 let(a,xs,rfl,e):=r.tup;simp only[SS.isT,e]
theorem Rep.items(r:Rep H v s):∃a xs,v=.ref a/\H a=G 015/\xs.length<=3/\(∀y∈xs,∃k,Kd H y k)/\io (Rep H) (xs.filter<|SS.isT H) s.inner:=by
 cases r with
 |bare C e =>
  apply(_,_,R,e,y05 _,λy I=>?_,.nil);simp only[y06,y0l,or_false]at I;rcases I with rfl|rfl|rfl<;>show(_,.str _)
 |neg e h =>
  apply(_,_,R,e,by simp,λy I=>?_,?_)
  .simp only[y06,y0l,or_false]at I;rcases I with rfl|rfl
   .exact(_,.str _)
   .exact(_,h.kd)
  .rw[y2s (by simp[SS.isT]),y2r h.isT];show .cons h .nil
 |two C e M J =>
  apply(_,_,R,e,by simp,λy I=>?_,?_)
  .simp only[y06,y0l,or_false]at I;rcases I with rfl|rfl|rfl
   .exact(_,.str _)
   .exact(_,M.kd)
   .exact(_,J.kd)
  .rw[y2s (by simp[SS.isT]),y2r M.isT,y2r J.isT];show .cons M<|.cons J .nil
 |qu C e h =>
  apply(_,_,R,e,by simp,λy I=>?_,?_)
  .simp only[y06,y0l,or_false]at I;rcases I with rfl|rfl|rfl
   .exact(_,.str _)
   .exact(_,.str _)
   .exact(_,h.kd)
  .rw[y2s (by simp[SS.isT]),y2s (by simp[SS.isT]),y2r h.isT];show .cons h .nil
noncomputable def Sy.isBare:Sy->Bool
 |.bare _ _ _=>N
 |_=>Fa
def zek:Sp:=λvs H Q _=>∃v s,vs=[v]/\Rep H v s/\∀H',Same H H'->Q (.bl s.isBare) H'
theorem Paired.at:∀{xs:List d} {ys:List q} {i:Nat} {x:d},io Rq xs ys->xs[i]?=G x->∃y,ys[i]?=G y/\Rq x y
 |_,_,_,_,.nil,h=>by simp at h
 |_,_,0,_,.cons h _,e=>by simp at e;subst e;show(_,R,h)
 |_,_,i+1,_,.cons _ h,e=>by simp only[y1j]at e ⊢;show Paired.at h e
theorem Paired.len:∀{xs:List d} {ys:List q},io Rq xs ys->xs.length=ys.length
 |_,_,.nil=>rfl
 |_,_,.cons _ h=>by rw[y0b,y0b,Paired.len h]
theorem zg1{s t:Sy}(h:t∈s.inner):t.depth<s.depth/\t.parts<s.parts:=by
 cases s with
 |bare w n m=>show nomatch h
 |neg s=>rw[y03.mp h];show(y23 _,y23 _)
 |two w s1 s2 =>
  let h:t=s1\/t=s2:=by simpa[Sy.inner]using h
  let e1:(Sy.two w s1 s2).depth=max s1.depth s2.depth+1:=rfl;let L:(Sy.two w s1 s2).parts=s1.parts+s2.parts+1:=rfl;rcases h with rfl|rfl<;>(rw[e1,L];omega)
 |qu w n s=>rw[y03.mp h];show(y23 _,y23 _)
theorem zj7{d:Type}{xs:List d}(h:1<=xs.length):¬(HT.sIx xs.length 0 (G 1)=0/\HT.sIx xs.length xs.length B=xs.length):=λz=>by
 let e:HT.sIx xs.length 0 (G ((1:Nat):Int))=min 1 xs.length:=HT.sIx_nat ..;let D:HT.sIx xs.length 0 (G 1)=min 1 xs.length:=e;rw[D]at z;omega
theorem zr8:∀c∈SMALL.cps.toList,(Unicode.isLower c && !Unicode.isUpper c && !Unicode.isTitle c)=N:=by decide+kernel
theorem zr9:∀c∈GREAT.cps.toList,(!Unicode.isLower c&&Unicode.isUpper c && !Unicode.isTitle c)=N:=by decide+kernel
theorem zf9:∀c∈FIGS.cps.toList,(!Unicode.isLower c && !Unicode.isUpper c && !Unicode.isTitle c)=N:=by decide+kernel
def isPl(z:Str):Bool:=isNm (.str z) SMALL
def isSt(z:Str):Bool:=isNm (.str z) GREAT
theorem zzh(h:isNm (.str z) l=N):∃c r,z.cps.toList=c::r/\r.length<=3/\c∈l.cps.toList/\∀d∈r,d∈FIGS.cps.toList:=by
 simp only[isNm,nameB]at h;split at h
 .cases h
 .rename_i c r e;rw[y07,y07,zqt,decide_eq_true_eq,decide_eq_true_eq,y0u]at h;show(c,r,e,h.1.1,h.1.2,λd hd=>by have:=h.2 d hd;rw[zqt,decide_eq_true_eq]at this;show this)
theorem zcl{z:Str}:z.cps.any p=z.cps.toList.any p:=by simp
theorem zez{r:List Nat}(h:∀d∈r,d∈FIGS.cps.toList)(l:∀d∈FIGS.cps.toList,p d=Fa):r.any p=Fa:=by
 rw[List.any_eq_false];intro d hd;rw[l d<|h d hd];decide
theorem zvx{z:Str}(h:isPl z=N):Txt.islower z=N/\Txt.isupper z=Fa:=by
 let(c,r,e,_,g,l):=zzh h;let k:=zr8 c g;rw[y07,y07]at k;let f1:r.any Unicode.isUpper=Fa:=zez l λd hd=>by have:=zf9 d hd;revert this;cases Unicode.isUpper d<;>simp
 let y:(r.any λc=>Unicode.isUpper c||Unicode.isTitle c)=Fa:=zez l λd hd=>by have:=zf9 d hd;revert this;cases Unicode.isUpper d<;>cases Unicode.isTitle d<;>simp
 let u:Unicode.isUpper c=Fa:=by simpa using k.1.2
 let t:Unicode.isTitle c=Fa:=by simpa using k.2
 unfold Txt.islower Txt.isupper;rw[zcl,zcl,zcl,zcl,e,y1p,y1p,y1p,y1p,f1,y,u,t,k.1.1];show(R,R)
theorem zvw{z:Str}(h:isSt z=N):Txt.islower z=Fa/\Txt.isupper z=N:=by
 let(c,r,e,_,g,l):=zzh h;let k:=zr9 c g;rw[y07,y07]at k;let f1:r.any Unicode.isLower=Fa:=zez l λd hd=>by have:=zf9 d hd;revert this;cases Unicode.isLower d<;>simp
 let y:(r.any λc=>Unicode.isLower c||Unicode.isTitle c)=Fa:=zez l λd hd=>by have:=zf9 d hd;revert this;cases Unicode.isLower d<;>cases Unicode.isTitle d<;>simp
 let u:Unicode.isLower c=Fa:=by simpa using k.1.1
 let t:Unicode.isTitle c=Fa:=by simpa using k.2
 unfold Txt.islower Txt.isupper;rw[zcl,zcl,zcl,zcl,e,y1p,y1p,y1p,y1p,f1,y,u,t,k.1.2];show(R,R)
theorem zpl(h:isName (.str z)=N):isPl z=N\/isSt z=N:=by
 unfold isName at h;rw[y3p]at h;show h
theorem pl_st(h:isPl z=N):isSt z=Fa:=by
 cases e:isSt z with
 |false=>rfl
 |true=>have:=(zvx h).1;rw[(zvw e).1]at this;cases this
theorem zva{tl cs:List Str}(o:tl.length<=4)(g:cs.Nodup)(x:5<=cs.length):∃z∈cs,z∉tl:=by
 apply Classical.byContradiction λh=>?_;let sub:cs⊆tl:=λz hz=>Classical.byContradiction λq=>h (z,hz,q);let:=g.length_le_of_subset sub;omega
theorem zwj(w n:Str)(s:Sy):(Sy.qu w n s).depth=s.depth+1/\(Sy.qu w n s).parts=s.parts+1:=(R,R)
def forms:List (Str×List Str):=[("in",["place","set"]),("same",["place","place"]),("within",["set","set"]),("ahead",["place","place"]),("next",["place","place"]),("left",["place","place"]),("right",["place","place"]),("above",["place","place"]),
 ("not",["saying"]),("and",["saying","saying"]),("or",["saying","saying"]),("some",["name","saying"]),("all",["name","saying"])]
def sortB(form:V->Bool)(x:V)(s:Str):Bool:=if s="place" then isNm x SMALL else if s="set" then isNm x GREAT else if s="name" then isName x else form x
def zipB(form:V->Bool):List V->List Str->Bool
 |[],[]=>N
 |x::xs,s::ss=>sortB form x s&&zipB form xs ss
 |_,_=>Fa
def formH(H:Hp):Nat->V->Bool
 |0,_=>Fa
 |n+1,.ref a=>match H a with
  |some (.tup (.str w::r))=>match forms.lookup w with
   |some ss=>zipB (formH H n) r ss
   |none=>Fa
  |_=>Fa
 |_+1,_=>Fa
def Exp(H:Hp):Nat->V->Prop
 |0,v=>Thing H v
 |n+1,v=>Thing H v/\∀a xs,v=.ref a->H a=G 015->xs.length<=1000/\∀x∈xs,Exp H n x
theorem Exp.thing:∀{n:Nat} {v:V},Exp H n v->Thing H v
 |0,_,h=>h
 |_+1,_,h=>h.1
theorem Thing.same_tup(h:Thing H 09)(g:Same H H')(e:H' a=G 015):H a=G 015:=by
 let((k,C),_):=h;cases C with
 |lst z=>rw[g _ _ z]at e;cases e
 |tup z=>rw[g _ _ z]at e;cases e;show z
 |dK z=>rw[g _ _ z]at e;cases e
theorem Exp.same(g:Same H H'):∀{n:Nat} {v:V},Exp H n v->Exp H' n v
 |0,_,h=>Thing.same h g
 |n+1,v,h=>⟨h.1.same g,λa xs c e=>by
  subst c;let(M,J):=h.2 a xs R<|h.1.same_tup g e;show(M,λx O=>(J x O).same g)⟩
theorem zhn:∀{xs:List V} {ss:List Str},(∀x∈xs,f x=g x)->zipB f xs ss=zipB g xs ss
 |[],[],_=>rfl
 |[],_::_,_=>rfl
 |_::_,[],_=>rfl
 |x::xs,s::ss,h=>by
  change(sortB f x s&&zipB f xs ss)=(sortB g x s&&zipB g xs ss);rw[zhn λy I=>h y<|y08 _ I];unfold sortB;rw[h x y04]
theorem zfd(g:Same H H'):∀{n:Nat} {v:V},Exp H n v->formH H' n v=formH H n v
 |0,_,_=>rfl
 |n+1,v,h=>by
  cases v with
  |ref a =>
   let((k,C),_):=h.1;cases C with
   |lst z=>simp only[formH,z,g _ _ z]
   |dK z=>simp only[formH,z,g _ _ z]
   |tup z =>
    rename_i xs;let O:=(h.2 a xs R z).2;simp only[formH,z,g _ _ z];cases xs with
    |nil=>rfl
    |cons x r =>
     cases x with
     |str wd =>
      simp only[];cases forms.lookup wd with
      |none=>rfl
      |some ss=>show zhn λy I=>zfd g<|O y (y08 _ I)
     |_=>rfl
  |_=>rfl
theorem znd:∀{xs:List V} {ss:List Str},xs.length≠ss.length->zipB f xs ss=Fa
 |[],[],h=>Xa R h
 |[],_::_,_=>rfl
 |_::_,[],_=>rfl
 |x::xs,s::ss,h=>by
  change(sortB f x s&&zipB f xs ss)=Fa;rw[znd λz=>h (congrArg (· + 1) z),y2j]
theorem zhm:∀{xs:List V} {ss:List Str},xs.length=ss.length->zipB f xs ss=(062).all λi=>sortB f (xs.getD i .non) (ss.getD i "")
 |[],[],_=>rfl
 |[],_::_,h=>nomatch h
 |_::_,[],h=>nomatch h
 |x::xs,s::ss,h=>by
  change(sortB f x s&&zipB f xs ss)=_;rw[zhm<|Nat.succ.inj h,y0b,y1r,y1z,y2p];rfl
def ziv(n:Nat):Sp:=λvs H Q _=>∃v,vs=[v,.int n]/\Exp H n v/\∀H',Same H H'->Q (.bl<|formH H n v) H'
def zll(n:Nat):Sp:=λvs H Q _=>∃v s,vs=[v,.str s,.int n]/\Exp H n v/\∀H',Same H H'->Q (.bl<|sortB (formH H n) v s) H'
def sp_sort':Nat->Sp
 |0=>λ_ _ _ _=>False
 |n+1=>zll n
def wfB:Sy->Bool
 |.bare w n m=>if w="in" then isPl n&&isSt m else if w="within" then isSt n&&isSt m else isPl n&&isPl m
 |.neg s=>wfB s
 |.two _ s t=>wfB s&&wfB t
 |.qu _ n s=>isName (.str n)&&wfB s
noncomputable def letB(c:List Str)(d:Nat):List Str->Sy->Bool
 |a,.bare w n m=>decide (a.length<=d)&&decide (w∉c)&&(decide (n∈a)&&decide (m∈a))
 |a,.neg s=>decide (a.length<=d)&&decide (("not":Str)∉c)&&letB c d a s
 |a,.two w s t=>decide (a.length<=d)&&decide (w∉c)&&(letB c d a s&&letB c d a t)
 |a,.qu w n s=>decide (a.length<=d)&&decide (w∉c)&&(decide (n∉a)&&letB c d (a++[n]) s)
theorem Rep.det(r:Rep H v s)(q:Rep H v t):s=t:=by
 induction r generalizing t with
 |bare C e =>
  cases q with
  |bare c D=>rw[e]at D;cases D;rfl
  |neg D _=>rw[e]at D;cases D
  |two c D M _=>rw[e]at D;cases D;cases M
  |qu c D M=>rw[e]at D;cases D;cases M
 |neg e _ E =>
  cases q with
  |bare c D=>rw[e]at D;cases D
  |neg D h'=>rw[e]at D;cases D;rw[E h']
  |two c D _ _=>rw[e]at D;cases D
  |qu c D _=>rw[e]at D;cases D
 |two C e M J j i =>
  cases q with
  |bare c D=>rw[e]at D;cases D;cases M
  |neg D _=>rw[e]at D;cases D
  |two c D a b=>rw[e]at D;cases D;rw[j a,i b]
  |qu c D b=>rw[e]at D;cases D;cases M
 |qu C e h E =>
  cases q with
  |bare c D=>rw[e]at D;cases D;cases h
  |neg D _=>rw[e]at D;cases D
  |two c D a b=>rw[e]at D;cases D;cases a
  |qu c D b=>rw[e]at D;cases D;rw[E b]
end SS
set_option maxHeartbeats 1000000
namespace SS
open PySem PySem.Spec PyProof.Rows L2
section
variable {f:V->Bool}{x y:V}{r:List V}{s1 s2:Str}
theorem zgl:sortB f x "place"=isNm x SMALL:=Xq R
theorem zgk:sortB f x "set"=isNm x GREAT:=by unfold sortB;rw[Xp 43,Xq rfl]
theorem zqm:sortB f x "name"=isName x:=by unfold sortB;rw[Xp 43,Xp 43,Xq rfl]
theorem zd9:sortB f x "saying"=f x:=by unfold sortB;rw[Xp 43,Xp 43,Xp 43]
theorem zip_one:zipB f r [s1]=N↔∃x,r=[x]/\sortB f x s1=N:=by
 cases r with
 |nil=>simp[zipB]
 |cons x r =>
  cases r with
  |nil=>simp[zipB]
  |cons y r=>simp[zipB]
theorem zip_two:zipB f r [s1,s2]=N↔∃x y,r=[x,y]/\sortB f x s1=N/\sortB f y s2=N:=by
 cases r with
 |nil=>simp[zipB]
 |cons x r =>
  cases r with
  |nil=>simp[zipB]
  |cons y r =>
   cases r with
   |nil =>
    rw[show zipB f [x,y] [s1,s2]=(sortB f x s1&&(sortB f y s2&&N))from rfl,y31,y07];show(λh=>(x,y,R,h),λ(s,Q,e,h)=>by cases e;show h)
   |cons z r=>simp[zipB]
theorem zh3(h:isNm x l=N):∃z,x=.str z:=by
 cases x with
 |str z=>show(z,R)
 |_=>cases h
end
theorem zv9(h:forms.lookup wd=G ss):(wd="in"/\ss=(["place","set"]:List Str))\/(wd="within"/\ss=(["set","set"]:List Str))\/(wd∈bareWords/\¬wd=("in":Str)/\¬wd=("within":Str)/\ss=(["place","place"]:List Str))\/
  (wd="not"/\ss=(["saying"]:List Str))\/(wd∈(["and","or"]:List Str)/\ss=(["saying","saying"]:List Str))\/(wd∈(["some","all"]:List Str)/\ss=(["name","saying"]:List Str)):=by
 let m:=mem_of_lookup' h;simp only[forms,y06,y0l,or_false,Prod.mk.injEq]at m;rcases m with⟨rfl,rfl⟩|⟨rfl,rfl⟩|⟨rfl,rfl⟩|⟨rfl,rfl⟩|⟨rfl,rfl⟩|⟨rfl,rfl⟩|⟨rfl,rfl⟩|⟨rfl,rfl⟩|⟨rfl,rfl⟩|⟨rfl,rfl⟩|⟨rfl,rfl⟩|⟨rfl,rfl⟩|⟨rfl,rfl⟩
 .exact .inl (R,R)
 .exact .inr<|.inr (.inl (by decide+kernel,by decide+kernel,by decide+kernel,R))
 .exact .inr<|.inl (R,R)
 .exact .inr<|.inr (.inl (by decide+kernel,by decide+kernel,by decide+kernel,R))
 .exact .inr<|.inr (.inl (by decide+kernel,by decide+kernel,by decide+kernel,R))
 .exact .inr<|.inr (.inl (by decide+kernel,by decide+kernel,by decide+kernel,R))
 .exact .inr<|.inr (.inl (by decide+kernel,by decide+kernel,by decide+kernel,R))
 .exact .inr<|.inr (.inl (by decide+kernel,by decide+kernel,by decide+kernel,R))
 .exact .inr<|.inr (.inr<|.inl (R,R))
 .exact .inr<|.inr (.inr<|.inr (.inl (by decide+kernel,R)))
 .exact .inr<|.inr (.inr<|.inr (.inl (by decide+kernel,R)))
 .exact .inr<|.inr (.inr<|.inr (.inr (by decide+kernel,R)))
 .exact .inr<|.inr (.inr<|.inr (.inr (by decide+kernel,R)))
theorem zp1:∀wd∈bareWords,forms.lookup wd=G (if wd=("in":Str)then(["place","set"]:List Str)else if wd=("within":Str)then(["set","set"]:List Str)else(["place","place"]:List Str)):=by decide+kernel
theorem zp0:∀wd∈(["and","or"]:List Str),forms.lookup wd=G (["saying","saying"]:List Str):=by decide+kernel
theorem zpz:∀wd∈(["some","all"]:List Str),forms.lookup wd=G (["name","saying"]:List Str):=by decide+kernel
theorem zsz:forms.lookup ("not":Str)=G (["saying"]:List Str):=by decide+kernel
theorem zdy:∀{n:Nat} {v:V},formH H n v=N->∃s,Rep H v s/\wfB s=N/\s.depth<=n
 |0,_,h=>by cases h
 |n+1,v,h=>by
  cases v with
  |ref a =>
   simp only[formH]at h;split at h
   .rename_i wd r e;split at h
    .rename_i ss hs;rcases zv9 hs with⟨rfl,rfl⟩|⟨rfl,rfl⟩|⟨C,n1,n2,rfl⟩|⟨rfl,rfl⟩|⟨C,rfl⟩|⟨C,rfl⟩
     .let(x,y,rfl,M,J):=zip_two.mp h;rw[zgl]at M;rw[zgk]at J;let(U,rfl):=zh3 M;let(E,rfl):=zh3 J;apply(.bare "in" U E,.bare 43 e,?_,y2l<|y1g _);change(if _ then _ else _)=N;rw[Xq R,y07];show(M,J)
     .let(x,y,rfl,M,J):=zip_two.mp h;rw[zgk]at M J;let(U,rfl):=zh3 M;let(E,rfl):=zh3 J;apply(.bare "within" U E,.bare 43 e,?_,y2l<|y1g _);change(if _ then _ else if _ then _ else _)=N;rw[Xp 43,Xq R,y07];show(M,J)
     .let(x,y,rfl,M,J):=zip_two.mp h;rw[zgl]at M J;let(U,rfl):=zh3 M;let(E,rfl):=zh3 J;apply(.bare wd U E,.bare C e,?_,y2l<|y1g _);change(if _ then _ else if _ then _ else _)=N;rw[Xp n1,Xp n2,y07];show(M,J)
     .let(x,rfl,M):=zip_one.mp h;rw[zd9]at M;let(s,r,w1,p):=zdy M;show(.neg s,.neg e r,w1,y2l p)
     .let(x,y,rfl,M,J):=zip_two.mp h;rw[zd9]at M J;let(s,r,w1,p):=zdy M;let(t,q,w2,u):=zdy J;apply(.two wd s t,.two C e r q,?_,y2l<|Nat.max_le.mpr (p,u));change(wfB s&&wfB t)=N;rw[w1,w2];rfl
     .let(x,y,rfl,M,J):=zip_two.mp h;rw[zqm]at M;rw[zd9]at J;let(U,rfl):=zfc M;let(t,q,w2,u):=zdy J;apply(.qu wd U t,.qu C e q,?_,y2l u);change(isName _&&wfB t)=N;rw[M,w2];rfl
    .cases h
   .cases h
  |_=>cases h
theorem znp(r:Rep H v s):∀{n:Nat},wfB s=N->s.depth<=n->formH H n v=N:=by
 induction r with
 |bare C e =>
  rename_i a wd n1 I;intro n h d;cases n with
  |zero=>show Xa d (by change¬1<=0;decide)
  |succ n =>
   simp only[formH,e,zp1 wd C];by_cases f:wd=("in":Str)
   .rw[Xq f];let h':(isPl n1&&isSt I)=N:=by have z:(if _ then _ else _)=N:=h;rw[Xq f]at z;show z
    rw[y07]at h';show zip_two.mpr (_,_,R,by rw[zgl];show h'.1,by rw[zgk];show h'.2)
   .rw[Xp f];by_cases Q:wd=("within":Str)
    .rw[Xq Q];let h':(isSt n1&&isSt I)=N:=by have z:(if _ then _ else if _ then _ else _)=N:=h;rw[Xp f,Xq Q]at z;show z
     rw[y07]at h';show zip_two.mpr (_,_,R,by rw[zgk];show h'.1,by rw[zgk];show h'.2)
    .rw[Xp Q];let h':(isPl n1&&isPl I)=N:=by have z:(if _ then _ else if _ then _ else _)=N:=h;rw[Xp f,Xp Q]at z;show z
     rw[y07]at h';show zip_two.mpr (_,_,R,by rw[zgl];show h'.1,by rw[zgl];show h'.2)
 |neg e _ E =>
  intro n h d;cases n with
  |zero=>show Xa d<|y3q _
  |succ n =>
   simp only[formH,e,zsz];show zip_one.mpr (_,R,by rw[zd9];show E h<|y3i d)
 |two C e _ _ j i =>
  rename_i s t _ _;intro n h d;cases n with
  |zero=>show Xa d<|y3q _
  |succ n =>
   let d':=Nat.max_le.mp<|y3i d;let h':(wfB s&&wfB t)=N:=h;rw[y07]at h';simp only[formH,e,zp0 _ C];show zip_two.mpr (_,_,R,by rw[zd9];show j h'.1 d'.1,by rw[zd9];show i h'.2 d'.2)
 |qu C e _ E =>
  rename_i nm _ s _;intro n h d;cases n with
  |zero=>show Xa d<|y3q _
  |succ n =>
   let h':(isName (.str nm)&&wfB s)=N:=h;rw[y07]at h';simp only[formH,e,zpz _ C];show zip_two.mpr (_,_,R,by rw[zqm];show h'.1,by rw[zd9];show E h'.2<|y3i d)
def zf5(n:Nat):Sp:=λvs H Q _=>∃v s,vs=[v]/\Rep H v s/\s.depth<n/\∀H',Same H H'->Q (.int s.parts) H'
def AnySay(H:Hp)(v:V)(s:Sy):Prop:=Rep H v s/\wfB s=N/\s.depth<=12/\s.parts<=60
def zj6:Sp:=λvs H Q _=>∃v,vs=[v]/\Exp H 12 v/\∀b H',Same H H'->(b=N↔∃s,AnySay H v s)->Q (.bl b) H'
def zj5(K:Frag)(bw:List Str)(n:Nat):Sp:=λvs H Q _=>∃v a c s tl mo,vs=[v,.ref a,.ref c,.int (mo:Nat)]/\Rep H v s/\s.depth<n/\H a=G (.lst<|List.map V.str tl)/\tl.length+s.depth<=300/\(∀H,SqT K H c<|bw.map V.str)/\∀H',Same H H'->Q (.bl<|letB bw mo tl s) H'
def SayOk(H:Hp)(bw:List Str)(mo:Nat)(v c:V):Prop:=∃a tl s,c=.ref a/\H a=G (.lst<|List.map V.str tl)/\frameB (List.map V.str tl)=N/\AnySay H v s/\letB bw mo tl s=N
def znm(bw:List Str)(mo:Nat):Sp:=λvs H Q _=>∃v c,vs=[v,c]/\Exp H 12 v/\Thing H c/\(∀a xs,c=.ref a->H a=G 98->Things H xs)/\∀b H',Same H H'->(b=N↔SayOk H bw mo v c)->Q (.bl b) H'
structure Forms(K:Frag)(w:World)(fa:Ad):Prop where
 ex:∃f,DctK K w fa f/\∀x,(∃ss b,forms.lookup x=G ss/\f x=G 94/\∀H,SqT K H b<|List.map V.str ss)\/(forms.lookup x=B/\f x=B)
noncomputable def wordOf:Sy->Str
 |.bare w _ _=>w
 |.neg _=>"not"
 |.two w _ _=>w
 |.qu w _ _=>w
def letR(c:List Str)(d:Nat)(a:List Str):Sy->Bool
 |.bare _ n m=>decide (n∈a)&&decide (m∈a)
 |.neg s=>letB c d a s
 |.two _ s t=>letB c d a s&&letB c d a t
 |.qu _ n s=>decide (n∉a)&&letB c d (a++[n]) s
theorem letB_eq(bw:List Str)(mo:Nat)(tl:List Str)(s:Sy):letB bw mo tl s=(decide (tl.length<=mo)&&decide (wordOf s∉bw)&&letR bw mo tl s):=by cases s<;>rfl
theorem zpq(a:∀w n t,s ≠ .qu w n t)(Y:s.isBare=Fa):letR bw mo tl s=s.inner.all (letB bw mo tl):=by
 cases s with
 |bare w n m=>cases Y
 |neg s=>simp[Sy.inner,letR]
 |two w s t=>simp[Sy.inner,letR]
 |qu w n t=>show Xa R<|a w n t
theorem zdr:∀(l:List Sy),((List.range l.length).map λi=>((l[i]?).map f).getD N).all id=l.all f
 |[]=>rfl
 |x::r=>by
  rw[y0b,y1r,y0p,y0w,y1z,y1z,←zdr r];rfl
theorem zh4:∀{xs:List V},xs.all isName=N->∃tl:List Str,xs=tl.map V.str
 |[],_=>([],R)
 |x::r,h=>by
  rw[y1z,y07]at h;let(z,rfl):=zfc h.1;let(tl,e):=zh4 h.2;show(z::tl,by rw[y0p,←e])
theorem frB_ex(h:frB H x=N):∃a tl,x=.ref a/\H a=G (.lst<|List.map V.str tl)/\frameB (List.map V.str tl)=N/\tl.length<=4:=by
 cases x with
 |ref a =>
  simp only[frB]at h;split at h
  .rename_i xs e;let h':=h;unfold frameB at h';rw[y07,y07,decide_eq_true_eq]at h';let(tl,rfl):=zh4 h'.1.2;show(a,tl,R,e,h,by have:=h'.1.1;rw[y00]at this;show this)
  .cases h
 |_=>cases h
open L2
theorem znj:∀{a b:List PySem.Str},a.map V.str=b.map V.str->a=b
 |[],[],_=>rfl
 |[],_::_,h=>by cases h
 |_::_,[],h=>by cases h
 |x::a,y::b,h=>by
  rw[y0p,y0p,List.cons.injEq]at h;rw[V.str.inj h.1,znj h.2]
inductive Lit where
 |str (z:Str)
 |oth
 |tnil
 |tcons (x r:Lit)
 deriving DecidableEq
def Oth(H:Hp)(v:V):Prop:=∃k,Kd H v k/\k≠"str"/\k≠"tuple"
def LitAt(H:Hp):Lit->V->Prop
 |.str z,v=>v=.str z/\z.length<=1000
 |.oth,v=>Oth H v
 |.tnil,v=>∃a,v=.ref a/\H a=G (.tup [])
 |.tcons x r,v=>∃a y ys,v=.ref a/\H a=G (.tup (y::ys))/\ys.length<=100/\LitAt H x y/\Items H r ys
where Items (H:Hp):Lit->List V->Prop
 |.tcons x r,ys=>∃z zs,ys=z::zs/\LitAt H x z/\Items H r zs
 |.tnil,ys=>ys=[]
 |_,_=>False
abbrev Items:=LitAt.Items
theorem Oth.same(g:Same H H')(h:Oth H v):Oth H' v:=let(k,z,r):=h;(k,z.same g,r)
mutual
theorem LitAt.same(g:Same H H'):∀{l:Lit} {v:V},LitAt H l v->LitAt H' l v
 |.str z,_,h=>h
 |.oth,_,h=>Oth.same g h
 |.tnil,_,(a,e,h)=>(a,e,g _ _ h)
 |.tcons x r,_,(a,y,ys,e,h,j,M,J)=>(a,y,ys,e,g _ _ h,j,LitAt.same g M,Items.same g J)
theorem Items.same(g:Same H H'):∀{l:Lit} {ys:List V},Items H l ys->Items H' l ys
 |.tcons x r,_,(z,zs,e,M,J)=>(z,zs,e,LitAt.same g M,Items.same g J)
 |.tnil,_,h=>h
 |.str _,_,h=>h
 |.oth,_,h=>h
end
theorem LitAt.thing:∀{l:Lit} {v:V},LitAt H l v->Thing H v
 |.str z,_,(e,h)=>by subst e;show .str h
 |.oth,v,(k,h,M,_)=>((k,h),λz e=>by subst e;cases h;show Xa R M)
 |.tnil,_,(a,e,h)=>by subst e;show .tup h
 |.tcons x r,_,(a,y,ys,e,h,_,_,_)=>by subst e;show .tup h
mutual
theorem LitAt.exp:∀(n:Nat) {l:Lit} {v:V},LitAt H l v->Exp H n v
 |0,_,_,h=>h.thing
 |n+1,.str z,_,h=>(h.thing,λa xs e _=>by rw[h.1]at e;cases e)
 |n+1,.oth,v,h=>⟨h.thing,λa xs e D=>by
  subst e;let(k,C,_,J):=h;show Xa (C.inj<|.tup D) J⟩
 |n+1,.tnil,_,h=>⟨h.thing,λa xs e D=>by
  let(g,e1,L):=h;rw[e]at e1;cases e1;rw[L]at D;cases D;show(y1g _,λx O=>nomatch O)⟩
 |n+1,.tcons x r,_,h=>⟨h.thing,λa xs e D=>by
  let(g,y,ys,e1,L,j,M,J):=h;rw[e]at e1;cases e1;rw[L]at D;cases D;apply(by rw[y0b];omega,λf O=>?_);rcases y06.mp O with rfl|O
  .exact LitAt.exp n M
  .exact Items.exp n J f O⟩
theorem Items.exp:∀(n:Nat) {l:Lit} {ys:List V},Items H l ys->∀y∈ys,Exp H n y
 |n,.tcons x r,_,(z,zs,e,M,J),y,I=>by
  subst e;rcases y06.mp I with rfl|I
  .exact LitAt.exp n M
  .exact Items.exp n J y I
 |n,.tnil,_,h,y,I=>by rw[show _=[]from h]at I;show nomatch I
 |n,.str _,_,h,y,I=>False.elim h
 |n,.oth,_,h,y,I=>False.elim h
end
theorem zfp(h:isNm (.str z) l=N):z.length<=4:=by
 let(c,r,e,j,_):=zzh h;rw[zlj,e,y0b];omega
theorem zvs(h:isName (.str z)=N):z.length<=4:=(zpl h).elim zfp zfp
theorem zli:∀w∈bareWords,w.length<=1000:=by decide+kernel
theorem zty(h:wfB (.bare w n m)=N):n.length<=4/\m.length<=4:=by
 let h':(if w=("in":Str)then isPl n&&isSt m else if w=("within":Str)then isSt n&&isSt m else isPl n&&isPl m)=N:=h;split at h'
 .rw[y07]at h';show(zfp h'.1,zfp h'.2)
 .split at h'
  .rw[y07]at h';show(zfp h'.1,zfp h'.2)
  .rw[y07]at h';show(zfp h'.1,zfp h'.2)
theorem Exp.str(h:z.length<=1000):∀n,Exp H n (.str z)
 |0=>Thing.str h
 |n+1=>(Thing.str h,λa xs e=>by cases e)
theorem Exp.tup(e:H a=G 015)(j:xs.length<=1000)(h:∀x∈xs,Exp H n x):Exp H (n+1) 09 :=
 (Thing.tup e,λg c J D=>by cases J;rw[e]at D;cases D;show(j,h))
theorem Rep.exp(r:Rep H v s):wfB s=N->∀n,Exp H n v:=by
 induction r with
 |bare C e =>
  intro h n;let(l1,l2):=zty h;cases n with
  |zero=>show Thing.tup e
  |succ n =>
   apply Exp.tup e 06 λx O=>?_;simp only[y06,y0l,or_false]at O;rcases O with rfl|rfl|rfl
   .exact Exp.str (zli _ C) n
   .exact Exp.str 00 n
   .exact Exp.str 00 n
 |neg e _ E =>
  intro h n;cases n with
  |zero=>show Thing.tup e
  |succ n =>
   apply Exp.tup e 06 λx O=>?_;simp only[y06,y0l,or_false]at O;rcases O with rfl|rfl
   .exact Exp.str 43 n
   .exact E h n
 |two C e _ _ j i =>
  rename_i w _ _ s t _ _;intro h n;let h':(wfB s&&wfB t)=N:=h;rw[y07]at h';cases n with
  |zero=>show Thing.tup e
  |succ n =>
   apply Exp.tup e 06 λx O=>?_;simp only[y06,y0l,or_false]at O;rcases O with rfl|rfl|rfl
   .refine Exp.str ?_ n;let:∀w∈(["and","or"]:List Str),w.length<=1000:=by decide+kernel
    show this w C
   .exact j h'.1 n
   .exact i h'.2 n
 |qu C e _ E =>
  rename_i w nm _ s _;intro h n;let h':(isName (.str nm)&&wfB s)=N:=h;rw[y07]at h';cases n with
  |zero=>show Thing.tup e
  |succ n =>
   apply Exp.tup e 06 λx O=>?_;simp only[y06,y0l,or_false]at O;rcases O with rfl|rfl|rfl
   .refine Exp.str ?_ n;let:∀w∈(["some","all"]:List Str),w.length<=1000:=by decide+kernel
    show this w C
   .exact Exp.str (by have:=zvs h'.1;omega) n
   .exact E h'.2 n
theorem zgd{tl:List Str}(j:tl.length<=1000)(h:∀z∈tl,z.length<=1000):Things H 018:=by
 apply(by rw[y00];show j,λy I=>?_);let(z,L,rfl):=y0g.mp I;show .str<|h z L
section
variable {K:Frag}{w:World}{h:Heap}{mg:Y1}
theorem sqt_mk(l:K.lookup p=G (.type "tuple",M,.seq its n,f))(z:its.size<=ij)(r:Vals xs its.toList):∀H,SqT K H p xs :=
 λH=>.inr (_,its,n,l,R,R,z,r)
def Entry(K:Frag)(e:DictEntry)(p:Str×List Str):Prop:=(∃t,e.key=.str p.1 t)/\∃b,e.val=.ref b/\∀H,SqT K H b<|List.map V.str p.2
theorem zdo:∀{es:List DictEntry} {ps:List (Str×List Str)},io (Entry K) es ps->∀x,(∃ss b,ps.lookup x=G ss/\jM Va.isStrOf es.toArray x=G 94/\∀H,SqT K H b<|List.map V.str ss)\/(ps.lookup x=B/\jM Va.isStrOf es.toArray x=B)
 |_,_,.nil,x=>.inr (R,by simp[jM])
 |e::es,p::ps,.cons ((t,ek),b,J,Y) r,x=>by
  let E:=zdo r x;unfold jM at E ⊢;rw[List.find?_toArray]at E ⊢;rw[y13,y1v];by_cases h:x=p.1
  .subst h;let e1:Va.isStrOf p.1 e.key=N:=by rw[ek];simp[Va.isStrOf]
   rw[e1,beq_self_eq_true];show .inl (_,b,R,congrArg G J,Y)
  .let h':¬p.1=x:=λq=>h q.symm;let e1:Va.isStrOf x e.key=Fa:=by rw[ek];simp[Va.isStrOf,h']
   let L:(x==p.1)=Fa:=by simp[h]
   rw[e1,L];show E
theorem forms_mk(X:K.In h)(Gq:h.Ns iu mg)(a:PySem.W.nsIn K iu "FORMS"=G (G 91))(lo:(p==iC)=Fa)(l:K.lookup p=G (.type "dict",B,.dict es n,#[]))
  (C:PySem.W.KeysLit w.params es.toList) (d:io (Entry K) es.toList forms):∃q,GlV mg "FORMS" (.ref q)/\Forms K w q:=by
 apply(p,(_,PySem.W.mg_of X Gq a,R),(λx=>match jM Va.isStrOf es x with|some (.ref b)=>G 94|_=>B,(lo,es,n,l,C,λx=>?_),λx=>?_))
 .rcases zdo d x with⟨ss,b,e1,L,_⟩|⟨e1,L⟩
  .simp only[L];show R
  .simp only[L];show trivial
 .rcases zdo d x with⟨ss,b,e1,L,Y⟩|⟨e1,L⟩
  .exact .inl (ss,b,e1,by simp only[L],Y)
  .exact .inr (e1,by simp only[L])
end
inductive Reps(H:Hp):List V->List Sy->Prop
 |nil:Reps H [] []
 |cons {v:V} {s:Sy} {vs:List V} {ss:List Sy} (r:Rep H v s) (q:Reps H vs ss):Reps H (v::vs) (s::ss)
end SS
namespace SM
structure Mc where
 w:Nat
 ways:List<|List Nat
 ends:List Bool
noncomputable def Mc.fin(m:Mc)(r:Nat):Bool:=m.ends.getD r Fa
theorem zyg(n:Nat):(2:Int)^n=((2^n:Nat):Int):=by
 induction n with
 |zero=>rfl
 |succ n E=>rw[Int.pow_succ,y3k,E];omega
theorem zkg(h:w<=4):1<=2^w/\2^w<=16:=by
 let:w=0\/w=1\/w=2\/w=3\/w=4:=by omega
 rcases this with rfl|rfl|rfl|rfl|rfl<;>decide
section
variable {α:Type}[DecidableEq α]
noncomputable def nOf(ds:List α)(x:α):Nat:=ds.idxOf x
noncomputable def nxt(ds:List α)(x:α):List α:=if x∈ds then ds else ds++[x]
theorem zko{ds:List α}{x:α}(h:x∈ds):nxt ds x=ds:=Xq h
theorem ze8{ds:List α}{x:α}(h:¬x∈ds):nxt ds x=ds++[x]:=Xp h
end
open PySem PySem.Spec PyProof.Rows L2 SS
noncomputable abbrev nV(n:Nat):V:=.int (n:Int)
theorem Paired.at2:∀{xs:List d} {ys:List q} {i:Nat} {y:q},io Rq xs ys->ys[i]?=G y->∃x,xs[i]?=G x/\Rq x y
 |_,_,_,_,.nil,h=>by simp at h
 |_,_,0,_,.cons h _,e=>by simp at e;subst e;show(_,R,h)
 |_,_,i+1,_,.cons _ h,e=>by simp only[y1j]at e ⊢;show Paired.at2 h e
theorem Paired.snoc:∀{xs:List d} {ys:List q} {x:d} {y:q},io Rq xs ys->Rq x y->io Rq (xs++[x]) (ys++[y])
 |_,_,_,_,.nil,h=>.cons h .nil
 |_,_,_,_,.cons h t,z=>.cons h<|Paired.snoc t z
theorem map_nV(l:List Nat):l.map nV=(l.map λ(n:Nat)=>(n:Int)).map V.int:=by rw[y0w];rfl
theorem TupS.wrT(h:H p=G (.dT L))(o:HO):TupS H (upd H p o):=λb ys e=>by rw[zan<|zcq e h (by intro z;cases z)];show e
def zqk(K:Frag)(ts:List<|Ad×List (Pos×Str)):Sp:=λvs H Q _=>∃(a:Ad) (ns:List Int),vs=[.ref a]/\SqL K H a 035/\ns.length<=63/\OnlyT ts H/\∀H',Q (.bl N) H'
inductive Tr where
 |nil
 |node (l:Nat) (a b:Tr)
noncomputable def Tr.size:Tr->Nat
 |.nil=>0
 |.node _ a b=>1+a.size+b.size
noncomputable def Tr.depth:Tr->Nat
 |.nil=>0
 |.node _ a b=>1+max a.depth b.depth
def Tr.Let(n:Nat):Tr->Prop
 |.nil=>True
 |.node l a b=>l<n/\a.Let n/\b.Let n
theorem Tr.depth_le:∀t:Tr,t.depth<=t.size
 |.nil=>y05 _
 |.node _ a b=>by
  let:=Tr.depth_le a;let:=Tr.depth_le b;change 1+max a.depth b.depth<=1+a.size+b.size;omega
def TreeV(H:Hp):V->Tr->Prop
 |v,.nil=>v=.non
 |v,.node l a b=>∃p x C,v=.ref p/\H p=G (.tup [nV l,x,C])/\TreeV H x a/\TreeV H C b
theorem TreeV.ts(g:TupS H H'):∀{v:V} {t:Tr},TreeV H v t->TreeV H' v t
 |_,.nil,h=>h
 |_,.node _ _ _,(p,x,C,e,z,M,J)=>(p,x,C,e,g _ _ z,TreeV.ts g M,TreeV.ts g J)
theorem TreeV.same(h:TreeV H v t)(g:Same H H'):TreeV H' v t:=h.ts g.tups
inductive zii(d:Nat)(vs:List V)(H:Hp)(Q:VK)(_E:XK):Prop
 |mk (v:V) (t:Tr):(vs=[v])->(TreeV H v t)->(t.depth<d)->(Q (nV t.size) H)->zii d vs H Q _E
noncomputable def back(bs:List Nat):Nat:=bs.reverse.foldl (λf b=>2*f+b) 0
noncomputable def cnt(m:Mc):Nat->Nat->Nat
 |0,r=>if m.fin r=N then 1 else 0
 |k+1,r=>((m.ways.getD r []).map<|cnt m k).sum
def cl(m:Mc)(k:Nat):List Nat:=(List.range m.ends.length).map<|cnt m k
abbrev veM:List Va:=[.type "ValueError",.type "Exception",.type "BaseException",.type "object"]
def NoLen(H:Hp)(v:V)(n:Int):Prop:=(∃r:Int,v=.int r/\¬(0<=r/\r<n))\/∃k,Kd H v k/\k≠"int"
def zj3:Sp:=λvs H Q _=>∃v,vs=[v]/\((∃r:Int,v=.int r/\Q (.bl N) H)\/∃k,Kd H v k/\k≠"int"/\Q (.bl Fa) H)
inductive zgj(vs:List V)(H:Hp)(Q:VK)(_E:XK):Prop
 |mk (v:V) (n:Int):(vs=[v,.int n])->(((∃r:Int,v=.int r/\0<=r/\r<n/\Q (.bl N) H)\/(NoLen H v n/\Q (.bl Fa) H)))->zgj vs H Q _E
end SM
namespace L2
section
variable {tn:List Str}{cp:Y6}{g:TG}{tif:TT}{te:TE}{σ0:St}{Q:VK}{H1:Hp}
theorem cef_map{K:Frag}{a:Ad}{xs:List V}(S:St->Prop)(p:Nat->Bool)(f:Nat->V)(o:xs.length<=1000)(L:SqL K H1 a xs)(Y:S 051)
  (hs:∀D i U H x pt H2,xs[i]?=G x->Same H1 H->H1 D=B->H D=G (.lst<|((031).filter p).map f)->S U->New H pt (.tup [.int (i:Int),x]) H2->g (.ref pt) U H2 λd H3=>tif d H3 λc H4 =>
   if c=N then te d H4 λv H5=>CStep D xs.length i (PRnF S p f H1) d v H5 else CSkip D xs.length i (PRnF S p f H1) d H4)
  (hd:∀D H,H1 D=B->Same H1 H->H D=G (.lst<|((062).filter p).map f)->Q 95 H):cBody tn cp g tif te σ0 Q (Ite K a) H1:=by
 apply ztk xs.length (λD=>PRnF S p f H1) (zah o) (λD l=>(za7 l _,Y,R)) (λD i ys U H _ hi _ q=>(xs,xs[i],q.1.seq L,y0e hi)) (λD ys U H _ _ q=>(xs,q.1.seq L,y05 _)) ?_ ?_
 .rintro D i ys U H x H' l hi J j ⟨M,r,rfl⟩ ⟨pt,u,e,n1,ex⟩;subst e;show hs D i U H u pt H' (ex xs<|M.seq L) M l J r n1
 .rintro D ys U H l J j ⟨M,r,rfl⟩;show hd D H l M J
end
end L2
namespace SM
open PySem PySem.Spec PyProof.Rows L2 SS
noncomputable def cw(row:List Nat)(k:Nat):Nat:=(row.filter λl=>l/2^k%2==1).length
def isP(z:Str):Bool:=isNm (.str z) SMALL
def fitB(names:List Str)(row:List Nat):Bool:=(List.range names.length).all λk=>!isP (names.getD k<|Str.ofString "")||cw row k==1
def NmOk(z:Str):Prop:=Nam z SMALL\/Nam z GREAT
def FrOk(names:List Str):Prop:=names.length<=4/\∀z∈names,NmOk z
inductive zd8(vs:List V)(H:Hp)(Q:VK)(_E:XK):Prop
 |mk (r:Int) (k:Nat):(vs=[.int r,nV k])->(k<=4)->(Q (.bl<|decide (0<=r/\r<2^k)) H)->zd8 vs H Q _E
inductive zgi(vs:List V)(H:Hp)(Q:VK)(_E:XK):Prop
 |mk (r:Ad) (row:List Nat) (k:Nat):(vs=[.ref r,nV k])->(H r=G (.lst<|row.map nV))->(row.length<=200)->((∀l∈row,l<32))->(k<=4)->(∀H',Same H H'->Q (nV<|cw row k) H')->zgi vs H Q _E
inductive zlm(vs:List V)(H:Hp)(Q:VK)(_E:XK):Prop
 |mk (f r:Ad) (names:List Str) (row:List Nat):(vs=[.ref f,.ref r])->(H f=G (.lst<|names.map V.str))->(FrOk names)->(H r=G (.lst<|row.map nV))->(row.length<=200)->((∀l∈row,l<32))->(∀H',Same H H'->Q (.bl<|fitB names row) H')->zlm vs H Q _E
theorem bit_is:∀l,l<32->∀t,t<5->Builtin.bitAnd (((l:Nat):Int)/2^t) 1=if(l/2^t%2==1)=N then 1 else 0:=by decide+kernel
theorem zxm(k:Nat)(C:k<=4):∀(row:List Nat),(∀l∈row,l<32)->(row.map λ(l:Nat)=>Builtin.bitAnd ((l:Int)/2^k) 1).sum=((cw row k:Nat):Int)
 |[],_=>rfl
 |l::row,h=>by
  let E:=zxm k C row λx O=>h x<|y08 _ O;rw[y0p,y3e,E,bit_is l (h l<|y04 ..) k 00];unfold cw;rw[y45];split
  .rw[y0b];omega
  .omega
theorem zvr(h:NmOk z):z.length<=1000:=by
 let a:∀l,Nam z l->z.length<=1000:=λl j=>by
  let(d,ds,e,_,U,_):=j.ex;let:z.length=z.cps.toList.length:=by simp[Str.length]
  rw[this,e,y0b];omega
 rcases h with h|h
 .exact a _ h
 .exact a _ h
theorem dec_one(c:Nat):decide (nV c=V.int 1)=(c==1):=by
 by_cases h:c=1
 .subst h;rfl
 .rw[Xf λe=>h<|by injection e with e;omega];simp[h]
theorem zl2:∀d∈SMALL.cps.toList,101=N/\(!decide ((Str.ofString "z").cps.toList<[d]))=N:=by decide+kernel
theorem zg2:∀d∈GREAT.cps.toList,101=Fa/\signIn d SMALL=Fa:=by decide+kernel
theorem zjd(h:NmOk z):∃d ds,z.cps.toList=d::ds/\(isP z=N->101=N/\(!decide ((Str.ofString "z").cps.toList<[d]))=N)/\(isP z=Fa->101=Fa):=by
 rcases h with h|h
 .let(d,ds,e,M,_):=h.ex;apply(d,ds,e,λ_=>zl2 d M,λl=>?_);let:isP z=N:=zgw zew h;rw[this]at l;cases l
 .let(d,ds,e,M,_):=h.ex;apply(d,ds,e,λl=>?_,λ_=>(zg2 d M).1);let:isP z=Fa:=by simp[isP,isNm,nameB,e,(zg2 d M).2]
  rw[this]at l;cases l
theorem zh6(e:z.cps.toList=d::ds)(M:d∈l.cps.toList)(J:ds.length<=3)(U:∀x∈ds,x∈FIGS.cps.toList):Nam z l:=(d,ds,e,M,J,U)
theorem zgb(a b:Str):(a++b).cps.toList=a.cps.toList++b.cps.toList:=by
 change(Str.append a b).cps.toList=_;simp[Str.append]
theorem len_list(z:Str):z.length=z.cps.toList.length:=by simp[Str.length]
inductive TrZ where
 |nil
 |node (l:Int) (a b:TrZ)
noncomputable def TrZ.size:TrZ->Nat
 |.nil=>0
 |.node _ a b=>1+a.size+b.size
noncomputable def TrZ.lets:TrZ->List Int
 |.nil=>[]
 |.node l a b=>l::(b.lets++a.lets)
def TreeZ(H:Hp):V->TrZ->Prop
 |v,.nil=>v=.non
 |v,.node l a b=>∃p x C,v=.ref p/\H p=G (.tup [.int l,x,C])/\TreeZ H x a/\TreeZ H C b
theorem TreeZ.ts(g:TupS H H'):∀{v:V} {t:TrZ},TreeZ H v t->TreeZ H' v t
 |_,.nil,h=>h
 |_,.node _ _ _,(p,x,C,e,z,M,J)=>(p,x,C,e,g _ _ z,TreeZ.ts g M,TreeZ.ts g J)
theorem TreeZ.same(h:TreeZ H v t)(g:Same H H'):TreeZ H' v t:=h.ts g.tups
noncomputable def Tr.z:Tr->TrZ
 |.nil=>.nil
 |.node l a b=>.node l a.z b.z
theorem TreeV.z:∀{v:V} {t:Tr},TreeV H v t->TreeZ H v t.z
 |_,.nil,h=>h
 |_,.node _ _ _,(p,x,C,e,z,M,J)=>(p,x,C,e,z,TreeV.z M,TreeV.z J)
theorem Tr.z_size:∀t:Tr,t.z.size=t.size
 |.nil=>rfl
 |.node _ a b=>by change 1+a.z.size+b.z.size=1+a.size+b.size;rw[Tr.z_size a,Tr.z_size b]
noncomputable def Tr.lets:Tr->List Nat
 |.nil=>[]
 |.node l a b=>l::(b.lets++a.lets)
noncomputable def Tr.lets2:Tr->List Nat
 |.nil=>[]
 |.node l a b=>l::(a.lets2++b.lets2)
theorem Tr.z_lets:∀t:Tr,t.z.lets=t.lets.map λ(n:Nat)=>(n:Int)
 |.nil=>rfl
 |.node l a b=>by
  change(l:Int)::(b.z.lets++a.z.lets)=_;rw[Tr.z_lets a,Tr.z_lets b,←y0t];rfl
theorem TrZ.lets_len:∀t:TrZ,t.lets.length=t.size
 |.nil=>rfl
 |.node _ a b=>by change(b.lets++a.lets).length+1=1+a.size+b.size;rw[y02,TrZ.lets_len a,TrZ.lets_len b];omega
theorem Tr.lets2_len:∀t:Tr,t.lets2.length=t.size
 |.nil=>rfl
 |.node _ a b=>by change(a.lets2++b.lets2).length+1=1+a.size+b.size;rw[y02,Tr.lets2_len a,Tr.lets2_len b];omega
theorem Tr.lets_let:∀t:Tr,t.Let L->∀l∈t.lets,l<L
 |.nil,_,l,h=>nomatch h
 |.node x a b,h,l,j=>by
  rcases y06.mp j with rfl|j
  .exact h.1
  .rcases y0o.mp j with j|j
   .exact Tr.lets_let b h.2.2 l j
   .exact Tr.lets_let a h.2.1 l j
theorem Tr.lets2_let:∀t:Tr,t.Let L->∀l∈t.lets2,l<L
 |.nil,_,l,h=>nomatch h
 |.node x a b,h,l,j=>by
  rcases y06.mp j with rfl|j
  .exact h.1
  .rcases y0o.mp j with j|j
   .exact Tr.lets2_let a h.2.1 l j
   .exact Tr.lets2_let b h.2.2 l j
theorem ztc(xs ys:List Nat)(k:Nat):cw (xs++ys) k=cw xs k+cw ys k:=by unfold cw;rw[y1o,y02]
theorem ztb(x:Nat)(xs:List Nat)(k:Nat):cw (x::xs) k=cw [x] k+cw xs k:=by rw[←ztc];rfl
theorem Tr.cw_same(k:Nat):∀t:Tr,cw t.lets k=cw t.lets2 k
 |.nil=>rfl
 |.node l a b=>by
  change cw (l::(b.lets++a.lets)) k=cw (l::(a.lets2++b.lets2)) k;rw[ztb,ztc,ztb l<|a.lets2++b.lets2,ztc,Tr.cw_same k a,Tr.cw_same k b];omega
theorem Tr.fit_same(names:List Str)(t:Tr):fitB names t.lets=fitB names t.lets2:=by
 unfold fitB;congr 1;funext k;rw[Tr.cw_same]
def stk(ts:List TrZ):List Int:=ts.reverse.flatMap TrZ.lets
noncomputable def stw(ts:List TrZ):Nat:=(ts.map λt=>2*t.size+1).sum
theorem zig(ts:List TrZ)(t:TrZ):stk (ts++[t])=t.lets++stk ts:=by unfold stk;rw[List.reverse_append];simp
theorem zei(ts:List TrZ)(t:TrZ):stw (ts++[t])=stw ts+(2*t.size+1):=by unfold stw;rw[y0t,List.sum_append];simp
theorem zwt(ts:List TrZ):ts.length<=stw ts:=by
 induction ts with
 |nil=>simp[stw]
 |cons t ts E=>unfold stw at E ⊢;rw[y0p,y3e,y0b];omega
theorem zgv{d:Type}(l:List d):l=[]\/∃L b,l=L++[b]:=by
 rcases List.eq_nil_or_concat l with h|⟨L,b,h⟩
 .exact .inl h
 .exact .inr (L,b,by rw[h,List.concat_eq_append])
theorem zec:∀{ys:List q} {xs:List d},io Rq xs (ys++[y])->∃a x,xs=a++[x]/\io Rq a ys/\Rq x y
 |[],_,.cons h .nil=>([],_,R,.nil,h)
 |_::ys,_,.cons h t=>let(a,x,e,p,r):=zec (ys:=ys) t;(_::a,x,by rw[e];rfl,.cons h p,r)
inductive zc8(vs:List V)(H:Hp)(Q:VK)(_E:XK):Prop
 |mk (v:V) (t:TrZ):(vs=[v])->(TreeZ H v t)->(t.size<=100)->(∀D H',H D=B->Same H H'->H' D=G (.lst<|t.lets.map V.int)->Q (.ref D) H')->zc8 vs H Q _E
inductive zd5(C:Ad)(vs:List V)(H:Hp)(Q:VK)(E:XK):Prop
 |mk (f:Ad) (v:V) (names:List Str) (t:TrZ):(vs=[.ref f,v])->(H f=G (.lst<|names.map V.str))->(FrOk names)->(TreeZ H v t)->(t.size<=100)->(((∃row:List Nat,t.lets=row.map (λ(n:Nat)=>(n:Int))/\(∀l∈row,l<2^names.length)/\∀H',Same H H'->Q (.bl<|fitB names row) H')\/((∃x∈t.lets,¬(0<=x/\x<2^names.length))/\∀e H',Same H H'->H' e=B->E 84 (G e) H')))->zd5 C vs H Q E
inductive zf3(vs:List V)(H:Hp)(Q:VK)(_E:XK):Prop
 |mk (c:Ad) (ns:List Int) (L mo:Nat):(vs=[.ref c,nV L,nV mo])->(H c=G (.lst<|ns.map V.int))->(ns.length<=63)->(1<=L)->(mo<=60)->(∀D xs ts H',H D=B->Same H H'->H' D=G (.lst xs)->io (TreeV H') xs ts->ts.length<=64->(∀t∈ts,t.Let L/\t.size<=mo)->Q (.ref D) H')->zf3 vs H Q _E
open PySem
noncomputable def rowWords:List Str:=["in","same","within","ahead","next"]
noncomputable def bst(wd:Str)(l:Nat)(one c:Bool):Nat :=
 if l<=1 then l else if l=2 then
  (if wd="within" then(if one && !c then 0 else 2)
  else if !one&&(!c||decide (wd="in"))then 2
  else if decide (wd="in")||decide (wd="same")then(if one&&c then 1 else 0)
  else if c then 0 else if wd="ahead" then 1 else 3)
 else if one then 1 else 0
noncomputable def bit(c k:Nat):Bool:=c/2^k%2==1
def bstep(wd:Str)(i j:Nat)(l c:Nat):Nat:=if l<=1 then l else if l=2 then bst wd 2 (bit c i) (bit c j)else bst wd 3 (bit c j) (bit c j)
def brun(wd:Str)(i j:Nat)(l:Nat)(row:List Nat):Nat:=row.foldl (bstep wd i j) l
noncomputable def aend(wd:Str)(l:Nat):Bool:=decide (l=1)||(decide (l=2)&&decide (wd="within"))
def plc(k:Nat):Nat->List Nat->List Nat
 |_,[]=>[]
 |o,c::r=>if bit c k then o::plc k (o+1) r else plc k (o+1) r
theorem zhx:∀(row:List Nat) (o:Nat),plc k o row=(((List.range row.length).filter λx=>bit (row.getD x 0) k).map (· + o))
 |[],o=>rfl
 |c::r,o=>by
  rw[y0b,y1r,y45,y3n];let E:=zhx (k:=k) r<|o+1;let e:(((List.range r.length).filter<|(λx=>bit ((c::r).getD x 0) k)∘Nat.succ).map Nat.succ).map (· + o)=plc k (o+1) r:=by
   rw[E,y0w];apply(y29 λx _=>?_).trans rfl;change x+1+o=x+(o+1);omega
  change plc k o (c::r)=_;unfold plc;rw[List.getD_cons_zero];cases h:bit c k
  .simp only[y1b,if_false];show e.symm
  .simp only[if_true,y0p,y41];rw[e]
def wth(row:List Nat)(k:Nat):List Nat:=(List.range row.length).filter λx=>bit (row.getD x 0) k
theorem zyh(row:List Nat):plc k 0 row=wth row k:=by
 rw[zhx];change List.map (λx=>x+0) _=_;simp[wth]
theorem zq8:∀(row:List Nat) (o:Nat),(plc k o row).length=(row.filter λc=>bit c k).length
 |[],o=>rfl
 |c::r,o=>by
  unfold plc;rw[y45];cases bit c k<;>simp[zq8 r<|o+1]
abbrev Rd:=List Bool
noncomputable def mkRel(wd:Str)(one c:Bool)(l r:Nat):Nat :=
 if one=N then(if(if wd="left" then l=1 else if wd="right" then r=1 else(l=1\/r=1))then 2 else 3)
 else if c=N then 1 else if l≠1/\r≠1 then 0 else if wd="above" then 1 else 3
def mkN(wd:Str)(one c:Bool)(l r:Nat):Nat :=
 if l=2\/r=2 then 2 else if l=3\/r=3 then 3 else
 if wd="within" then(if one=N/\c=Fa then 3 else 0)else
 if wd="in" then(if one=N then(if c=N then 2 else 3)else 0)else
 if wd="same" then(if one=N\/c=N then(if one=N/\c=N then 2 else 3)else 0)else mkRel wd one c l r
theorem zvu(wd:Str)(one c:Bool)(l r:Nat):mkRel wd one c l r<4:=by
 unfold mkRel
 repeat' split
 all_goals omega
theorem mkN_lt(wd:Str)(one c:Bool)(l r:Nat):mkN wd one c l r<4:=by
 unfold mkN;split;omega;split;omega;split
 .split<;>omega
 split
 .repeat' split
  all_goals omega
 split
 .repeat' split
  all_goals omega
 .exact zvu _ _ _ _ _
noncomputable def holdM(wd:Str)(m:Nat):Bool:=decide (m=2)||(decide (wd="within")&&decide (m=0))
noncomputable def rds:Tr->Rd->List Rd
 |.nil,_=>[]
 |.node _ a b,p=>p::(rds a 19++rds b 34)
theorem zbk:∀(t:Tr) (p:Rd),(rds t p).length=t.size
 |.nil,_=>rfl
 |.node _ a b,p=>by change(rds a _++rds b _).length+1=1+a.size+b.size;rw[y02,zbk a,zbk b];omega
theorem zcb:∀{t:Tr} {p q:Rd},q∈rds t p->p <+:q
 |.nil,_,_,h=>nomatch h
 |.node _ a b,p,q,h=>by
  rcases y06.mp h with rfl|h
  .exact y2a _
  .rcases y0o.mp h with h|h
   .exact(y1x _ _).trans<|zcb h
   .exact(y1x _ _).trans<|zcb h
theorem zgp{p q:Rd}{b c:Bool}(M:p++[b] <+:q)(J:p++[c] <+:q):b=c:=by
 let(r1,rfl):=M;let(r2,e):=J;rw[y27,y27]at e;let:=y4e e;injection this with e1 _
 show e1.symm
theorem zgq{p:Rd}{b:Bool}(h:p++[b] <+:p):False:=by
 let:=h.length_le;rw[y02,y0i]at this;omega
theorem za0:¬p∈rds t (p++[b]):=λh=>zgq<|zcb h
theorem zb0(M:q∈rds a 19)(J:q∈rds b 34):False:=Bool.noConfusion<|zgp (zcb M) (zcb J)
theorem zq0:∀(t:Tr) (p:Rd),(rds t p).Nodup
 |.nil,_=>y2b
 |.node _ a b,p=>by
  apply y1t.mpr (λh=>?_,y3y.mpr (zq0 a _,zq0 b _,λx O y I e=>?_))
  .rcases y0o.mp h with h|h
   .exact za0 h
   .exact za0 h
  .subst e;show zb0 O I
theorem rds_node:q∈rds 010 p↔q=p\/q∈rds a 19\/q∈rds b 34:=by
 change q∈p::(rds a _++rds b _)↔_;rw[y06,y0o]
def upM(wd:Str)(A Bq:Rd->Bool):Tr->Rd->Nat
 |.nil,_=>0
 |.node _ a b,p=>mkN wd (A p) (Bq p) (upM wd A Bq a 19)<|upM wd A Bq b 34
theorem w_in:¬(("in":Str)="within")/\¬(("same":Str)="within")/\¬(("same":Str)="in"):=by decide
theorem zdt(A Bq:Rd->Bool):∀(t:Tr) (p:Rd),upM "within" A Bq t p=if(rds t p).all (λq=>!A q||Bq q)=N then 0 else 3
 |.nil,_=>rfl
 |.node l a b,p=>by
  let r:=zdt A Bq a 19;let eb:=zdt A Bq b 34;change mkN "within" (A p) (Bq p) (upM "within" A Bq a 19) (upM "within" A Bq b 34)=if(p::(rds a 19++rds b 34)).all _=N then 0 else 3
  rw[r,eb,y1z,List.all_append];generalize(rds a 19).all _=u;generalize(rds b 34).all _=v;cases A p<;>cases Bq p<;>cases u<;>cases v<;>rfl
theorem zjy(x:Rd)(A Bq:Rd->Bool)(hA:∀q,A q=decide (q=x)):∀(t:Tr) (p:Rd),upM "in" A Bq t p=if x∈rds t p then(if Bq x=N then 2 else 3)else 0
 |.nil,_=>rfl
 |.node l a b,p=>by
  let ea:=zjy x A Bq hA a 19;let eb:=zjy x A Bq hA b 34;change mkN "in" (A p) (Bq p) (upM "in" A Bq a 19) (upM "in" A Bq b 34)=_;rw[ea,eb,hA];by_cases h0:p=x
  .subst h0;rw[Xp za0,Xp za0,Xq 028,Xg rfl];unfold mkN;rw[Xp 02,Xp 02,Xp w_in.1,Xq R,Xq rfl]
  rw[Xf h0];by_cases h1:x∈rds a 19
  .rw[Xq h1,Xp λh2=>zb0 h1 h2,Xq<|rds_node.mpr (.inr<|.inl h1)];by_cases hb:Bq x=N
   .rw[Xq hb];rfl
   .rw[Xp hb];rfl
  by_cases h2:x∈rds b 34
  .rw[Xp h1,Xq h2,Xq<|rds_node.mpr (.inr<|.inr h2)];by_cases hb:Bq x=N
   .rw[Xq hb];rfl
   .rw[Xp hb];rfl
  .rw[Xp h1,Xp h2,Xp λh=>(rds_node.mp h).elim (λe=>h0 e.symm) λh=>h.elim h1 h2];cases Bq p<;>decide+kernel
theorem zf1(x y:Rd)(A Bq:Rd->Bool)(i:∀q,A q=decide (q=x))(o:∀q,Bq q=decide (q=y)):∀(t:Tr) (p:Rd),upM "same" A Bq t p=if x∈rds t p\/y∈rds t p then(if x=y then 2 else 3)else 0
 |.nil,_=>by rw[Xp λh=>h.elim (λh=>nomatch h) λh=>nomatch h];rfl
 |.node l a b,p=>by
  let r:=zf1 x y A Bq i o a 19;let eb:=zf1 x y A Bq i o b 34;change mkN "same" (A p) (Bq p) (upM "same" A Bq a 19) (upM "same" A Bq b 34)=_;rw[r,eb,i,o];let f:(x∈rds 010 p\/y∈rds 010 p)↔(p=x\/p=y)\/(x∈rds a 19\/y∈rds a 19)\/(x∈rds b 34\/y∈rds b 34):=by
   rw[rds_node,rds_node,eq_comm (a:=x),eq_comm (a:=y)];constructor
   .rintro((h|h|h)|(h|h|h))<;>simp[h]
   .rintro((h|h)|(h|h)|(h|h))<;>simp[h]
  by_cases j:x=y
  .subst j;rw[Xq (c:=x=x) rfl];let:∀u v:Prop,[Decidable u]->[Decidable v]->∀c:Bool,mkN "same" c c (if u then 2 else 0) (if v then 2 else 0)=if c=N\/u\/v then 2 else 0:=by
    intro u v _ _ c;by_cases g:u<;>by_cases D:v<;>cases c<;>simp only[g,D,if_true,if_false]<;>decide+kernel
   rw[this];simp only[f,decide_eq_true_eq,or_self]
  .rw[Xp j];let:∀u v:Prop,[Decidable u]->[Decidable v]->∀c d:Bool,(c&&d)=Fa->mkN "same" c d (if u then 3 else 0) (if v then 3 else 0)=if(c=N\/d=N)\/u\/v then 3 else 0:=by
    intro u v _ _ c d O;by_cases g:u<;>by_cases D:v<;>cases c<;>cases d<;>first|show Bool.noConfusion O|(simp only[g,D,if_true,if_false];decide+kernel)
   rw[this _ _ _ _ (by rw[Bool.and_eq_false_iff];by_cases h:p=x;show .inr<|Xf λe=>j<|h.symm.trans e;show .inl<|Xf h)];simp only[f,decide_eq_true_eq]
def relP(wd:Str)(x y:Rd):Prop:=if wd="left" then y=x++[Fa]else if wd="right" then y=x++[N]else(x <+:y/\x≠y)
theorem relP.pre(h:relP wd x y):x <+:y/\x≠y:=by
 unfold relP at h;split at h
 .subst h;show(y1x _ _,λe=>by have:=congrArg List.length e;rw[y02,y0i]at this;omega)
 split at h
 .subst h;show(y1x _ _,λe=>by have:=congrArg List.length e;rw[y02,y0i]at this;omega)
 .exact h
open Classical in
noncomputable def mkUp(wd:Str)(x y:Rd)(t:Tr)(p:Rd):Nat:=if x∈rds t p then(if relP wd x y then 2 else 3)else if y∈rds t p then(if wd="above"\/y=p then 1 else 3)else 0
section
variable {wd:Str}{x y p:Rd}{t:Tr}
theorem mu0(h:¬x∈rds t p)(J:¬y∈rds t p):mkUp wd x y t p=0:=by unfold mkUp;rw[Xp h,Xp J]
theorem mu1(h:¬x∈rds t p)(J:y∈rds t p)(U:wd="above"\/y=p):mkUp wd x y t p=1:=by unfold mkUp;rw[Xp h,Xq J,Xq U]
theorem mu3(h:¬x∈rds t p)(J:y∈rds t p)(U:¬(wd="above"\/y=p)):mkUp wd x y t p=3:=by unfold mkUp;rw[Xp h,Xq J,Xp U]
theorem mu2(h:x∈rds t p)(J:relP wd x y):mkUp wd x y t p=2:=by unfold mkUp;rw[Xq h,Xq J]
theorem mu4(h:x∈rds t p)(J:¬relP wd x y):mkUp wd x y t p=3:=by unfold mkUp;rw[Xq h,Xp J]
theorem mu5(h:¬x∈rds t p):mkUp wd x y t p=0\/mkUp wd x y t p=1\/mkUp wd x y t p=3:=by
 by_cases J:y∈rds t p
 .by_cases U:wd="above"\/y=p
  .exact .inr<|.inl (mu1 h J U)
  .exact .inr<|.inr (mu3 h J U)
 .exact .inl<|mu0 h J
theorem mu6(h:x∈rds t p):mkUp wd x y t p=2\/mkUp wd x y t p=3:=by
 by_cases J:relP wd x y
 .exact .inl<|mu2 h J
 .exact .inr<|mu4 h J
theorem mu7(h:¬x∈rds t p)(J:y∈rds t p):mkUp wd x y t p=1\/mkUp wd x y t p=3:=by
 by_cases U:wd="above"\/y=p
 .exact .inl<|mu1 h J U
 .exact .inr<|mu3 h J U
end
theorem mkRelN{wd:Str}(C:wd="left"\/wd="right"\/wd="above")(one c:Bool)(l r:Nat):mkN wd one c l r=if l=2\/r=2 then 2 else if l=3\/r=3 then 3 else mkRel wd one c l r:=by
 unfold mkN;let M:¬wd="within":=by rcases C with rfl|rfl|rfl<;>decide
 let J:¬wd="in":=by rcases C with rfl|rfl|rfl<;>decide
 let U:¬wd="same":=by rcases C with rfl|rfl|rfl<;>decide
 rw[Xp M,Xp J,Xp U]
theorem zie{wd:Str}(C:wd="left"\/wd="right"\/wd="above")(x y:Rd)(A Bq:Rd->Bool)(i:∀q,A q=decide (q=x))(o:∀q,Bq q=decide (q=y)):∀(t:Tr) (p:Rd),(x∈rds t p->relP wd x y->y∈rds t p)->upM wd A Bq t p=mkUp wd x y t p
 |.nil,p,_=>by
  unfold mkUp;rw[Xp (λh=>nomatch h),Xp λh=>nomatch h];rfl
 |.node l a b,p,I=>by
  let s:x∈rds a 19->relP wd x y->y∈rds a 19:=λM J=>by
   let U:=(zcb M).trans J.pre.1;rcases rds_node.mp (I (rds_node.mpr<|.inr (.inl M)) J)with rfl|h|h
   .exact(zgq U).elim
   .exact h
   .exact Bool.noConfusion<|zgp U (zcb h)
  let u:x∈rds b 34->relP wd x y->y∈rds b 34:=λM J=>by
   let U:=(zcb M).trans J.pre.1;rcases rds_node.mp (I (rds_node.mpr<|.inr (.inr M)) J)with rfl|h|h
   .exact(zgq U).elim
   .exact Bool.noConfusion<|zgp U (zcb h)
   .exact h
  let r:=zie C x y A Bq i o a 19 s;let eb:=zie C x y A Bq i o b 34 u;change mkN wd (A p) (Bq p) (upM wd A Bq a 19) (upM wd A Bq b 34)=_;rw[r,eb,i,o,mkRelN C];by_cases Y:p=x
  .subst Y;rw[Xg rfl];by_cases M:y∈rds a 19
   .let J:¬y∈rds b 34:=λJ=>zb0 M J;let c:=zcb M;let T:¬y=p++[N]:=λe=>by rw[e]at c;show Bool.noConfusion<|zgp c (y2a _)
    rw[mu0 (t:=b) za0 J];rcases C with rfl|rfl|rfl
    .by_cases e:y=p++[Fa]
     .rw[mu1 (t:=a) za0 M<|.inr e,mu2 028<|show relP "left" p y by unfold relP;rw[Xq rfl];show e];generalize decide (p=y)=dd;cases dd<;>decide+kernel
     .rw[mu3 (t:=a) za0 M λh=>h.elim 02 e,mu4 028<|show¬relP "left" p y by unfold relP;rw[Xq rfl];show e];rfl
    .rw[mu4 (t:=.node l a b) 028<|show¬relP "right" p y by unfold relP;rw[Xp 02,Xq rfl];show T];by_cases e:y=p++[Fa]
     .rw[mu1 (t:=a) za0 M<|.inr e];generalize decide (p=y)=dd;cases dd<;>decide+kernel
     .rw[mu3 (t:=a) za0 M λh=>h.elim 02 e];rfl
    .rw[mu1 (t:=a) za0 M 85,mu2 028<|show relP "above" p y by unfold relP;rw[Xp 02,Xp 02];show((y1x _ _).trans c,λe=>by rw[←e]at c;show zgq c)];generalize decide (p=y)=dd;cases dd<;>decide+kernel
   by_cases J:y∈rds b 34
   .let c:=zcb J;let T:¬y=p++[Fa]:=λe=>by rw[e]at c;show Bool.noConfusion<|zgp c (y2a _)
    rw[mu0 (t:=a) za0 M];rcases C with rfl|rfl|rfl
    .rw[mu4 (t:=.node l a b) 028<|show¬relP "left" p y by unfold relP;rw[Xq rfl];show T];by_cases e:y=p++[N]
     .rw[mu1 (t:=b) za0 J<|.inr e];generalize decide (p=y)=dd;cases dd<;>decide+kernel
     .rw[mu3 (t:=b) za0 J λh=>h.elim 02 e];rfl
    .by_cases e:y=p++[N]
     .rw[mu1 (t:=b) za0 J<|.inr e,mu2 028<|show relP "right" p y by unfold relP;rw[Xp 02,Xq rfl];show e];generalize decide (p=y)=dd;cases dd<;>decide+kernel
     .rw[mu3 (t:=b) za0 J λh=>h.elim 02 e,mu4 028<|show¬relP "right" p y by unfold relP;rw[Xp 02,Xq rfl];show e];rfl
    .rw[mu1 (t:=b) za0 J 85,mu2 028<|show relP "above" p y by unfold relP;rw[Xp 02,Xp 02];show((y1x _ _).trans c,λe=>by rw[←e]at c;show zgq c)];generalize decide (p=y)=dd;cases dd<;>decide+kernel
   .rw[mu0 (t:=a) za0 M,mu0 (t:=b) za0 J,mu4 028 (λh=>by
     rcases rds_node.mp (I (rds_node.mpr<|.inl R) h)with e|h'|h'
     .exact h.pre.2 e.symm
     .exact M h'
     .exact J h')]
    rcases C with rfl|rfl|rfl<;>cases decide (p=y)<;>decide+kernel
  rw[Xf Y];by_cases M:x∈rds a 19
  .let g:=mu5 (wd:=wd) (y:=y) λJ:x∈rds b (p++[N])=>zb0 M J;let d:mkUp wd x y a 19=mkUp wd x y 010 p:=by unfold mkUp;rw[Xq M,Xq<|rds_node.mpr (.inr<|.inl M)]
   let L:=mu6 (wd:=wd) (y:=y) (rds_node.mpr (.inr<|.inl M):x∈rds 010 p);rw[d];rcases L with L|L<;>rcases g with e|e|e<;>rw[L,e]<;>rfl
  by_cases J:x∈rds b 34
  .let g:=mu5 (wd:=wd) (y:=y) M;let d:mkUp wd x y b 34=mkUp wd x y 010 p:=by unfold mkUp;rw[Xq J,Xq<|rds_node.mpr (.inr<|.inr J)]
   let L:=mu6 (wd:=wd) (y:=y) (rds_node.mpr (.inr<|.inr J):x∈rds 010 p);rw[d];rcases L with L|L<;>rcases g with e|e|e<;>rw[L,e]<;>rfl
  let O:¬x∈rds 010 p:=λh=>(rds_node.mp h).elim (λe=>Y e.symm) λh=>h.elim M J;by_cases k0:p=y
  .subst k0;rw[mu0 M za0,mu0 J za0,mu1 O 028<|.inr R,Xg rfl];rcases C with rfl|rfl|rfl<;>decide+kernel
  rw[Xf k0];let j:¬y=p:=λe=>k0 e.symm;by_cases k1:y∈rds a 19
  .rw[mu0 J λk2=>zb0 k1 k2];let f:y∈rds 010 p:=rds_node.mpr<|.inr (.inl k1);rcases C with rfl|rfl|rfl
   .rw[mu3 O f λh=>h.elim 02 j];rcases mu7 (wd:="left") M k1 with e|e<;>rw[e]<;>decide+kernel
   .rw[mu3 O f λh=>h.elim 02 j];rcases mu7 (wd:="right") M k1 with e|e<;>rw[e]<;>decide+kernel
   .rw[mu1 M k1 85,mu1 O f 85];decide+kernel
  by_cases k2:y∈rds b 34
  .rw[mu0 M k1];let f:y∈rds 010 p:=rds_node.mpr<|.inr (.inr k2);rcases C with rfl|rfl|rfl
   .rw[mu3 O f λh=>h.elim 02 j];rcases mu7 (wd:="left") J k2 with e|e<;>rw[e]<;>decide+kernel
   .rw[mu3 O f λh=>h.elim 02 j];rcases mu7 (wd:="right") J k2 with e|e<;>rw[e]<;>decide+kernel
   .rw[mu1 J k2 85,mu1 O f 85];decide+kernel
  .rw[mu0 M k1,mu0 J k2,mu0 O λh=>(rds_node.mp h).elim j λh=>h.elim k1 k2];rcases C with rfl|rfl|rfl<;>decide+kernel
end SM
namespace L2
def gLst(K:Frag)(n:Nat)(t:TGs):TG:=λv U H Q=>∃a xs,v=.ref a/\SqL K H a xs/\xs.length=n/\t xs U H Q
end L2
namespace SM
structure Thg where
 w:Nat
 step:List Nat->List (List Nat)
 fin:List Nat->Bool
section
variable {T:Thg}{Gq:List Nat->Prop}{first:List Nat}{fs:List (List Nat)}
theorem zca{d:Type}[DecidableEq d]:∀{xs:List d} {x:d},x∈xs->xs[nOf xs x]?=G x
 |y::ys,x,h=>by
  by_cases e:y=x
  .subst e;simp[nOf]
  .let h':x∈ys:=by
    rcases y06.mp h with z|z
    .exact Xa z.symm e
    .exact z
   change(y::ys)[List.idxOf x (y::ys)]?=G x;rw[y36,show(y==x)=Fa by simp[e],cond_false,y1j];show zca h'
end
open PySem PySem.Spec PyProof.Rows L2 SS
theorem zot{c a:Nat}(g:c<32)(L:a<=4):(!decide (Builtin.bitAnd (c:Int) ((2^a:Nat):Int)=0))=bit c a:=by
 let h:∀(c:Fin 32) (a:Fin 5),(!decide (Builtin.bitAnd ((c:Nat):Int) ((2^(a:Nat):Nat):Int)=0))=bit c a:=by decide+kernel
 show h (c,g) (a,by omega)
theorem zcn{f g:Str}{v:V}{r:List (Str×V)}(h:(f==g)=Fa):List.lookup f ((g,v)::r)=List.lookup f r:=by simp only[List.lookup,h]
theorem zoi{f:Str}{v:V}{r:List (Str×V)}:List.lookup f ((f,v)::r)=G v:=by simp only[List.lookup,BEq.rfl]
inductive ze3(vs:List V)(H:Hp)(Q:VK)(_E:XK):Prop
 |mk (b:Ad) (tl:List Str):(vs=[.ref b])->(H b=G (.lst<|tl.map V.str))->(tl.length<=4)->((∀z∈tl,z.length<=4))->(frameB (tl.map V.str)=N)->(∀H',Same H H'->Q .non H')->ze3 vs H Q _E
end SM
namespace SS
open PySem PySem.Spec PyProof.Rows L2
noncomputable abbrev ch(s:Str):List Nat:=s.cps.toList
theorem ch_inj(h:ch a=ch b):a=b:=Str.ext'<|Array.toList_inj.mp h
end SS
namespace SM
open PySem PySem.Spec PyProof.Rows L2 SS
noncomputable def tx(q:Rd):Str:=⟨(q.map λb=>if b=N then 114 else 108).toArray⟩
noncomputable def toldN(b:Bool):Nat:=if b=N then 2 else 3
noncomputable def sidesN(wd:Str)(l r:Nat):List Nat:=if wd="left" then[l]else if wd="right" then[r]else[l,r]
inductive zcu(vs:List V)(H:Hp)(Q:VK)(_E:XK):Prop
 |mk (b:Bool):(vs=[.bl b])->(Q (nV<|toldN b) H)->zcu vs H Q _E
inductive zij(vs:List V)(H:Hp)(Q:VK)(_E:XK):Prop
 |mk (wd:Str) (l r:Nat):(vs=[.str wd,nV l,nV r])->(∀p H',Same H H'->H' p=G (.tup<|(sidesN wd l r).map nV)->Q (.ref p) H')->zij vs H Q _E
inductive zlp(vs:List V)(H:Hp)(Q:VK)(_E:XK):Prop
 |mk (wd:Str) (one other:Bool) (l r:Nat):(vs=[.str wd,.bl one,.bl other,nV l,nV r])->(∀H',Same H H'->Q (nV<|mkRel wd one other l r) H')->zlp vs H Q _E
inductive zim(vs:List V)(H:Hp)(Q:VK)(_E:XK):Prop
 |mk (wd:Str) (one other:Bool) (l r:Nat):(vs=[.str wd,.bl one,.bl other,nV l,nV r])->(∀H',Same H H'->Q (nV<|mkN wd one other l r) H')->zim vs H Q _E
inductive zit(vs:List V)(H:Hp)(Q:VK)(_E:XK):Prop
 |mk (wd:Str) (m:Nat):(vs=[.str wd,nV m])->(Q (.bl<|holdM wd m) H)->zit vs H Q _E
theorem zey(xs:List Nat):(xs.map nV).all flatV=N:=by
 rw[y0u];intro v D;let(_,_,rfl):=y0g.mp D;rfl
theorem zwc(l k:Nat):eqV (nV l) (nV k)=decide (l=k):=by
 change((l:Int)==(k:Int))=_;rw[y1w,beq_iff_eq,decide_eq_true_iff];omega
theorem in2(l r k:Nat):inV (nV k) [nV l,nV r]=decide (l=k\/r=k):=by
 change(eqV (nV l) (nV k)||(eqV (nV r) (nV k)||false))=_;rw[zwc,zwc,y2h,Bool.decide_or]
theorem in1(l k:Nat):inV (nV k) [nV l]=decide (l=k):=by
 change(eqV (nV l) (nV k)||false)=_;rw[zwc,y2h]
theorem zv4(wd:Str)(l r:Nat):inV (nV 1) ((sidesN wd l r).map nV)=decide (if wd="left" then l=1 else if wd="right" then r=1 else(l=1\/r=1)):=by
 unfold sidesN;by_cases M:wd="left"
 .rw[Xq M];rw[decide_eq_decide.mpr<|show(if wd="left" then l=1 else if wd="right" then r=1 else(l=1\/r=1))↔l=1 by rw[Xq M]];show in1 l 1
 .rw[Xp M];by_cases J:wd="right"
  .rw[Xq J];rw[decide_eq_decide.mpr<|show(if wd="left" then l=1 else if wd="right" then r=1 else(l=1\/r=1))↔r=1 by rw[Xp M,Xq J]];show in1 r 1
  .rw[Xp J];rw[decide_eq_decide.mpr<|show(if wd="left" then l=1 else if wd="right" then r=1 else(l=1\/r=1))↔(l=1\/r=1) by rw[Xp M,Xp J]];show in2 l r 1
structure SA where
 p:Ad
 dx:Ad
 pp:Ad
 pf:Ad
 pn:Ad
 ps:Ad
noncomputable abbrev fl4(x y z t:V):List (Str×V):=[("parts",x),("forms",y),("numbers",z),("steps",t)]
abbrev SA.fl(A:SA):List (Str×V):=fl4 (.ref A.pp) (.ref A.pf) (.ref A.pn)<|.ref A.ps
theorem zdn:List.lookup ("parts":Str) (fl4 x y z t)=G x:=zoi
theorem zbv:List.lookup ("forms":Str) (fl4 x y z t)=G y:=(zcn 02).trans zoi
theorem zg3:List.lookup ("steps":Str) (fl4 x y z t)=G t:=(zcn 02).trans<|(zcn 02).trans ((zcn 02).trans zoi)
theorem zbj(M:(f==("parts":Str))=Fa)(J:(f==("forms":Str))=Fa)(U:(f==("numbers":Str))=Fa)(C:(f==("steps":Str))=Fa):List.lookup f (fl4 x y z t)=B:=(zcn M).trans<|(zcn J).trans ((zcn U).trans<|(zcn C).trans R)
theorem fl4_put(x y z t:V):putF "steps" t (putF "numbers" z<|putF "forms" y (putF "parts" x []))=fl4 x y z t:=by
 change putF "steps" t (putF "numbers" z<|putF "forms" y [("parts",x)])=_;let e1:putF "forms" y [("parts",x)]=([("parts",x),("forms",y)]:List<|Str×V):=by
  change(if("parts":Str)="forms" then _ else _)=_;rw[Xp 02];rfl
 rw[e1];let L:putF "numbers" z [("parts",x),("forms",y)]=([("parts",x),("forms",y),("numbers",z)]:List<|Str×V):=by
  change(if("parts":Str)="numbers" then _ else _::(if("forms":Str)="numbers" then _ else _))=_;rw[Xp 02,Xp 02];rfl
 rw[L];change(if("parts":Str)="steps" then _ else _::(if("forms":Str)="steps" then _ else _::(if("numbers":Str)="steps" then _ else _::_)))=_;rw[Xp 02,Xp 02,Xp 02];rfl
theorem drop_at(ad:Adopted X U H1 Hq)(e:H1 b=G u):dropX X H2 b=H2 b:=by
 let g:¬CellOf X b:=λg=>by rw[ad.2.1 b g]at e;cases e
 show Xp g
noncomputable def treeW:List Str:=["in","same","within","left","right","above"]
theorem zb8(h:wd∈treeW):∀z:Str,z∈(["not","and","some set","some place","or","all","some"]:List Str)->¬V.str wd=V.str z:=λz hz e=>by
 let:=V.str.inj e;subst this;revert h hz;simp only[treeW,y06,y0l,or_false];rintro h hz;rcases hz with rfl|rfl|rfl|rfl|rfl|rfl|rfl<;>show Xa h (by decide)
inductive zik(vs:List V)(H:Hp)(Q:VK)(_E:XK):Prop
 |mk (b:Ad) (tl:List Str):(vs=[.ref b])->(H b=G (.lst<|tl.map V.str))->(tl.length<=3)->((∀z∈tl,z.length<=4))->(frameB (tl.map V.str)=N)->(∀H',Same H H'->Q .non H')->zik vs H Q _E
end SM
namespace L2
abbrev Key2:=Key ⊕ List Key
section
variable {prog:ik}{w:World}
def Is2(prog:ik)(w:World)(h:Heap):Key2->Va->Prop
 |.inl k,v=>(049).is k v=N
 |.inr l,v=>∃b,v=.ref b/\IsTupleKey 049 h l b
inductive Its2(prog:ik)(w:World)(h:Heap):List Key2->List Va->Prop
 |nil:Its2 prog w h [] []
 |cons {k:Key2} {v:Va} {ks:List Key2} {vs:List Va}:Is2 prog w h k v->Its2 prog w h ks vs->Its2 prog w h (k::ks) (v::vs)
def IsNest(prog:ik)(w:World)(h:Heap)(ks:List Key2)(a:Ad):Prop:=∃o items n,h.get? a=G o/\o.cls=.type "tuple"/\o.data=.seq items n/\Its2 prog w h ks items.toList
theorem zjs(h:(049).is k v=N):carriedByValue v=N:=(049).byValue _ _ h
theorem Is2.inj(O:Is2 prog w h x v)(I:Is2 prog w h y v):x=y:=by
 cases x with
 |inl k =>
  cases y with
  |inl j=>rw[(049).inj _ _ _ O I]
  |inr l =>
   let(b,rfl,_):=I;show Xa (zjs O) (by simp[carriedByValue])
 |inr l =>
  let(b,rfl,Y):=O;cases y with
  |inl j=>show Xa (zjs I) (by simp[carriedByValue])
  |inr f =>
   let(T,e,D):=I;cases e;rw[Y.inj D]
theorem Its2.inj:∀{x y:List Key2},Its2 prog w h x vs->Its2 prog w h y vs->x=y:=by
 intro x y O
 induction O generalizing y with
 |nil=>intro I;cases I;rfl
 |cons M _ E =>
  intro I;cases I with
  |cons J C=>rw[M.inj J,E C]
theorem IsNest.ty{s:ii}(x:IsNest prog w s.heap ks a):s.TypeIs 09 "tuple":=let(o,_,_,T,g,_):=x;(o,T,g)
theorem IsNest.inj(O:IsNest prog w h x a)(I:IsNest prog w h y a):x=y:=by
 let(o,its,n,T,_,hd,hi):=O;let(c,its',n',q,_,i,d):=I;rw[T]at q;cases q;rw[hd]at i;cases i;show hi.inj d
theorem Is2.keeps(x:Is2 prog w h k v)(T:h.get? d=G o)(hd:o.data=.dict es ep)(hs:Heap.SameBut d h h'):Is2 prog w h' k v:=by
 cases k with
 |inl k=>show x
 |inr l =>
  let(b,e,Y):=x;show(b,e,Y.keeps T hd hs)
theorem Its2.keeps(T:h.get? d=G o)(hd:o.data=.dict es ep)(hs:Heap.SameBut d h h')(x:Its2 prog w h ks vs):Its2 prog w h' ks vs:=by
 induction x with
 |nil=>show .nil
 |cons M _ E=>show .cons (M.keeps T hd hs) E
theorem IsNest.keeps(x:IsNest prog w h ks a)(T:h.get? d=G o)(hd:o.data=.dict es ep)(hs:Heap.SameBut d h h'):IsNest prog w h' ks a:=by
 let(y,its,n,q,g,i,hi):=x;let ne:a≠d:=λe=>by
  subst e;rw[T]at q;cases q;rw[hd]at i;cases i
 show(y,its,n,(hs.2 a ne).trans q,g,i,hi.keeps T hd hs)
def hash2(prog:ik)(w:World):Key2->Int
 |.inl k=>(049).hash k
 |.inr l=>tupleKeyHash 049 l
noncomputable def draws2:Key2->Nat
 |.inl _=>1
 |.inr l=>l.length+1
def drawsN(ks:List Key2):Nat:=(ks.map draws2).foldr (· + ·) 0
theorem zmw(ks:List Key2)(k:Key2):drawsN (ks++[k])=drawsN ks+draws2 k:=by
 unfold drawsN
 induction ks with
 |nil=>simp
 |cons x r E =>
  rw[y2n,y0p,List.foldr_cons,E,y0p,List.foldr_cons];omega
variable {A:iq}{E:Y0}{s:ii}
theorem zsu(g:A.units<cLine)(x:Is2 prog w s.heap k v)(q:Q (hash2 prog w k) {s with toks:=s.toks+draws2 k}):wpAny (model prog w) A (pyHash v) Q E s:=by
 cases k with
 |inl k=>show(049).pyHash x q
 |inr l =>
  let(b,rfl,Y):=x;show wpAny_pyHash_tuple g Y q
def nestHash(prog:ik)(w:World)(ks:List Key2):Int:=reduceHash<|Builtin.Tuple.tupleHashOf (ks.map<|hash2 prog w)
theorem zst(D:A.units+1<cLine)(C:IsNest prog w s.heap ks a)(q:Q (nestHash prog w ks) {s with toks:=s.toks+(drawsN ks+1)}):
  wpAny 87 A (pyHash 09) Q E s:=by
 let ty:=C.ty;let(o,its,n,T,_,hd,hi):=C;unfold pyHash
 first|unfold pyHashByItsType|skip
 first|apply ie (wpAny_cRoomFor_or (.inr<|Nat.lt_of_succ_lt D) ?_)|skip
 apply ie<|iI ty PySem.F.slot_tuple_hash.lookup ?_;change wpAny _ _ (if(G (Va.builtin "tuple.__hash__")==G Va.none)=N then _ else _) Q _ s;rw[Xp<|by rw[beq_builtin_none];showλz=>nomatch z];apply ie<|iI ty PySem.F.slot_tuple_hash.lookup ?_;change wpAny _ _ (callSpecialIfBoundUnlessNone? 09 "__hash__" _>>=λ_=>_) Q _ s;apply ie<|wpAny_callSpecialIfBoundUnlessNone?_slot ty PySem.F.slot_tuple_hash (iw PySem.F.slot_tuple_hash ty PySem.F.entry_tuple_hash ?_<|PySem.F.args_tuple_hash_1 _);change wpAny _ _ (Builtin.Tuple.tupleItemsOf 09>>=λ_=>_) _ _ s;apply ie<|wpAny_tupleItemsOf T hd (ie ?_);rw[←y2u];apply wpAny_forIn_list _ (λleft (b:Array Int) s'=>∃d l,ks=d++l/\Its2 prog w s.heap l left/\b.toList=d.map (hash2 prog w)/\s'={s with toks:=s.toks+drawsN d}) _ ?_ ?_ _ _ ([],ks,R,hi,R,R)
 .rintro x left b s' ⟨d,l,rfl,j,Y,rfl⟩;cases j with
  |@cons k _ f _ M v =>
   apply ie<|zsu (s:={s with toks:=s.toks+drawsN d}) D M ?_;let e1:({s with toks:=s.toks+drawsN d+draws2 k}:ii)={s with toks:=s.toks+drawsN (d++[k])}:=by rw[zmw,y3w]
   first
    |show ig (d++[k],f,by simp,v,by simp[Y],e1)
    |show ie (ig<|ig (d++[k],f,by simp,v,by simp[Y],e1))
 .rintro b s' ⟨d,l,rfl,j,Y,rfl⟩;cases j;rw[y1k]at q;change wpAny _ _ (retInt<|Builtin.Tuple.tupleHashOf b.toList) _ _ _;rw[Y];apply wpAny_ret_mkInt ?_;generalize J:Builtin.Tuple.tupleHashOf (d.map<|hash2 prog w)=z;unfold nestHash reduceHash at q;rw[J]at q;change wpAny _ _ (if(decide (-(2:Int)^63<=z)&&decide (z<2^63))=N then _ else _) Q _ _;by_cases g:(decide (-(2:Int)^63<=z)&&decide (z<2^63))=N
  .rw[Xq g]at q ⊢;show ig (by simpa[y3w]using q)
  .rw[Xp g]at q ⊢;show ie<|iX (ig<|by simpa[y3w]using q)
theorem dec_l:decide ((Sum.inl a:Key2)=Sum.inl b)=decide (a=b):=by
 by_cases e:a=b
 .rw[e];simp
 .rw[Xf e,Xf λq=>e<|Sum.inl.inj q]
theorem dec_r:decide ((Sum.inr a:Key2)=Sum.inr b)=decide (a=b):=by
 by_cases e:a=b
 .rw[e];simp
 .rw[Xf e,Xf λq=>e<|Sum.inr.inj q]
theorem zog(x:IsTupleKey 049 h l b):∃its,h.IsTuple b its:=by
 let(o,its,n,T,g,hd,_):=x;show(its,o,T,g,n,hd)
theorem eq_item(g:A.units<cLine)(O:Is2 prog w s.heap x u)(I:Is2 prog w s.heap y v)(q:Q (decide (x=y)) s):wpAny 87 A (eqBool u v) Q E s:=by
 cases x with
 |inl k =>
  cases y with
  |inl j=>rw[dec_l]at q;show(049).eqBool O I q
  |inr l =>
   let(b,rfl,Y):=I;let(its,o):=zog Y;rw[Xf λz=>nomatch z]at q;rcases za3 O with⟨i,t,rfl,rfl⟩|⟨z,t,rfl,rfl⟩|⟨c,rfl,rfl⟩
   .exact SeqAt.EqAt.int_tuple i t o g prog w E Q q
   .exact SeqAt.EqAt.str_tuple z t o g prog w E Q q
   .exact SeqAt.EqAt.bool_tuple c o g prog w E Q q
 |inr l =>
  let(b,rfl,Y):=O;cases y with
  |inl j =>
   let(its,o):=zog Y;rw[Xf λz=>nomatch z]at q;rcases za3 I with⟨i,t,rfl,rfl⟩|⟨z,t,rfl,rfl⟩|⟨c,rfl,rfl⟩
   .exact SeqAt.EqAt.tuple_int i t o g prog w E Q q
   .exact SeqAt.EqAt.tuple_str z t o g prog w E Q q
   .exact SeqAt.EqAt.tuple_bool c o g prog w E Q q
  |inr f =>
   let(T,rfl,D):=I;rw[dec_r]at q;show wpAny_eqBool_tuple g Y D q
theorem zr1(hu:A.units<cLine)(O:IsNest prog w s.heap x a)(I:IsNest prog w s.heap y b)(q:Rq (.done<|.ret (.bool<|decide (x=y))) s):
  wpAny 87 A (Builtin.«tuple.__eq__» ([.ref a,.ref b],[])) Rq E s:=by
 let o:=I.ty;let(T,xs,na,hoa,_,hda,hia):=O;let(ob,ys,nb,hob,_,i,hib):=I;change wpAny _ _ (isInstance 94 (.type "tuple")>>=λ_=>_) _ _ s;apply ie<|iO o isSubtype_tuple_tuple ?_;simp only[if_false,y1b,y2t];apply ie<|wpAny_tupleItemsOf hoa hda (ie<|wpAny_tupleItemsOf hob i (ie ?_));apply wpAny_forIn_list _ (λleft r s'=>r.1=B/\s'=s/\∃f Q D j,left=List.zip D j/\Its2 prog w s.heap f D/\Its2 prog w s.heap Q j/\decide (f=Q)=decide (x=y)/\(D.length==j.length)=(xs.size==ys.size)) _ ?_ ?_ _ _
  (R,R,x,y,xs.toList,ys.toList,R,hia,hib,R,by simp)
 .rintro⟨u,v⟩ left r s' ⟨g,rfl,f,Q,D,j,hz,d,c,l,a6⟩;cases d with
  |nil=>simp at hz
  |@cons k1 L H xs2 M hx2 =>
   cases c with
   |nil=>simp at hz
   |@cons k2 p Y ys2 J hy2 =>
    rw[List.zip_cons_cons]at hz;cases hz;apply ie<|eq_item hu M J ?_;by_cases C:k1=k2
    .subst C;rw[Xg rfl];simp only[if_false,y1b,y2t];apply ig (R,R,H,Y,xs2,ys2,R,hx2,hy2,?_,by simpa using a6);rw[←l];by_cases hxy:H=Y<;>simp[hxy]
    .rw[Xf C];simp only[if_true,Bool.not_false];let U:decide (x=y)=Fa:=by rw[←l];simp[C]
     rw[U]at q;show ie<|ig (ig<|ig q)
 .rintro⟨r1,r2⟩ s' ⟨g,rfl,f,Q,D,j,hz,d,c,l,a6⟩;simp only at g;subst g;apply ig ?_;let e:(xs.size==ys.size)=decide (x=y):=by
   rw[←l,←a6];cases d with
   |nil=>cases c<;>simp
   |cons _ _ =>
    cases c with
    |nil=>simp
    |cons _ _=>simp at hz
  change Rq (.done<|.ret (.bool<|xs.size==ys.size)) s';rw[e];show q
theorem eq_nest(g:A.units+1<cLine)(O:IsNest prog w s.heap x a)(I:IsNest prog w s.heap y b)(q:Q (decide (x=y)) s):wpAny 87 A (eqBool 09 94) Q E s:=by
 unfold eqBool
 try with_reducible apply iA ?_
 change wpAny _ _ (if(Va.ref a==Va.ref b)=N then _ else _) Q E s;by_cases d:(Va.ref a==Va.ref b)=N
 .rw[Xq d];cases eq_of_beq d;cases O.inj I;show ie<|iX (ig<|by simpa using q)
 .rw[Xp d];show ie (wpAny_richCompare_same_room (op:=.Eq) O.ty I.ty PySem.F.slot_tuple_eq
   (iw PySem.F.slot_tuple_eq O.ty PySem.F.entry_tuple_eq (zr1 g O I (_,R,(λe=>nomatch e),iy q))<|PySem.F.args_tuple_eq_2 _ _) (Nat.lt_of_succ_lt g))
theorem zq3(C:IsTupleKey 049 s.heap l a)(q:Q N s):wpAny 87 A (eqIsQuiet (n+1) 09) Q E s:=by
 let ty:=C.typeIs;let(o,its,m,T,_,hd,hi):=C;unfold eqIsQuiet;apply ie<|iI ty PySem.F.slot_tuple_eq.lookup ?_;change wpAny _ _ (isInstance 09 (.type "tuple")>>=λ_=>_) _ _ s;apply ie<|iO ty isSubtype_tuple_tuple ?_;simp only[if_false,y1b,y2t];apply ie<|iD T hd (ie ?_);change wpAny _ _ (forIn its _ _) _ _ s;rw[←y2u];apply wpAny_forIn_list _ (λleft r s'=>r.1=B/\s'=s/\∀v∈left,carriedByValue v=N) _ ?_ ?_ _ _ (R,R,hi.byValue)
 .rintro v left r s' ⟨g,rfl,c⟩;rw[eqIsQuiet_byValue _<|c v y04];apply ie<|ig ?_;simp only[if_false,y1b,y2t];show ig (R,R,λu J=>c u<|y08 _ J)
 .rintro⟨r1,r2⟩ s' ⟨g,rfl,_⟩;simp only at g;subst g;show ig q
theorem zpa(h:Is2 prog w s.heap k v)(q:Q N s):wpAny 87 A (eqIsQuiet (n+1) v) Q E s:=by
 cases k with
 |inl k =>
  rw[eqIsQuiet_byValue _<|zjs h];show ig q
 |inr l =>
  let(b,rfl,Y):=h;show zq3 Y q
theorem Its2.mem(x:Its2 prog w h ks vs):∀v∈vs,∃k,Is2 prog w h k v:=by
 induction x with
 |nil=>intro v D;cases D
 |@cons k p ks vs M _ g =>
  intro v D;rcases y06.mp D with rfl|D
  .exact(k,M)
  .exact g v D
theorem zo9(C:IsNest prog w s.heap ks a)(q:Q N s):wpAny 87 A (eqIsQuiet 8 09) Q E s:=by
 let ty:=C.ty;let(o,its,m,T,_,hd,hi):=C;unfold eqIsQuiet;apply ie<|iI ty PySem.F.slot_tuple_eq.lookup ?_;change wpAny _ _ (isInstance 09 (.type "tuple")>>=λ_=>_) _ _ s;apply ie<|iO ty isSubtype_tuple_tuple ?_;simp only[if_false,y1b,y2t];apply ie<|iD T hd (ie ?_);change wpAny _ _ (forIn its _ _) _ _ s;rw[←y2u];apply wpAny_forIn_list _ (λleft r s'=>r.1=B/\s'=s/\∀v∈left,∃k,Is2 prog w s.heap k v) _ ?_ ?_ _ _ (R,R,hi.mem)
 .rintro v left r s' ⟨g,rfl,c⟩;let(k,M):=c v y04;apply ie<|zpa M ?_;simp only[if_false,y1b,y2t];show ig (R,R,λu l=>c u<|y08 _ l)
 .rintro⟨r1,r2⟩ s' ⟨g,rfl,_⟩;simp only at g;subst g;show ig q
end
def nestKind(prog:ik)(w:World):HeapKind prog w (List Key2) where
 is:=IsNest prog w
 hash:=nestHash prog w
 draws:=λks=>drawsN ks+1
 room:=λA=>A.units+1<cLine
 inj:=λO I=>O.inj I
 keeps:=λx T hd hs=>x.keeps T hd hs
 pyHash:=λg C h=>zst g C h
 eqBool:=λg O I h=>eq_nest g O I h
 quiet:=λC h=>zo9 C h
abbrev NRow:=List Key2×Ad×V
def rowR(y:NRow)(x:List Key2×Ad×Va):Prop:=y.1=x.1/\y.2.1=x.2.1/\RelV y.2.2 x.2.2
def dN(P:ik)(w:World)(a:Ad)(ys:List NRow):HO:=.ext λh=>(a==iC)=Fa/\ys.length<=ij/\∃xs:List<|List Key2×Ad×Va,io rowR ys xs/\
 ∃o es ep,h.get? a=G o/\o.ExactDict/\o.data=.dict es ep/\es.toList=xs.map (entryOfKey<|nestKind P w)/\(xs.map (·.1)).Nodup
def N2(H:Hp)(v:V):Key2->Prop
 |.inl k=>v=kV k
 |.inr l=>∃c,v=.ref c/\H c=G (.tup<|l.map kV)
def NestAt(H:Hp)(b:Ad)(ks:List Key2):Prop:=∃vs,H b=G (.tup vs)/\io (N2 H) vs ks
def Keys(H:Hp)(ys:List NRow):Prop:=∀y∈ys,NestAt H y.2.1 y.1
theorem N2.ts(ts:TupS H H')(x:N2 H v k):N2 H' v k:=by
 cases k with
 |inl k=>show x
 |inr l =>
  let(c,e,g):=x;show(c,e,ts _ _ g)
theorem NestAt.ts(x:NestAt H b ks)(ts:TupS H H'):NestAt H' b ks:=by
 let(vs,e,p):=x;show(vs,ts _ _ e,L2.Paired.mapP p λ_ _ z=>z.ts ts)
theorem Keys.ts(x:Keys H ys)(ts:TupS H H'):Keys H' ys:=λy I=>(x y I).ts ts
section
variable {P:ik}{w:World}{H:Hp}{h:Heap}{a b:Ad}
theorem NestAt.is(ok:HOk P w H h)(x:NestAt H b ks):IsNest P w h ks b:=by
 let(vs,e,p):=x;let(_,its,r,o,M,J,n,U):=(show ObjOk P w H h b (.tup vs)from ok b _ e);apply(o,its.toArray,n,M,J,U,?_);let all:∀{vs:List V} {ks:List Key2},io (N2 H) vs ks->∀{us:List Va},Vals vs us->Its2 P w h ks us:=by
  intro vs ks q
  induction q with
  |nil=>intro us r;cases r;show .nil
  |@cons v k vs ks D _ E =>
   intro us r;cases r with
   |cons f rs =>
    apply .cons ?_<|E rs;cases k with
    |inl k=>cases(show v=kV k from D);show zv2 f
    |inr l =>
     let(c,rfl,g):=D;show(c,f,zkr ok g)
 simpa using all p r
theorem dn_of(ok:HOk P w H h)(e:H a=G (dN P w a ys))(f:Keys H ys):(a==iC)=Fa/\ys.length<=ij/\∃xs,io rowR ys xs/\h.DictOfH (nestKind P w) a xs:=by
 let((hd,hz,xs,c,o,es,ep,M,J,U,C,g),_,_):=(show ObjOk P w H h a (dN P w a ys)from ok a _ e);apply(hd,hz,xs,c,o,es,ep,M,J,U,C,λx O=>?_,g);let all:∀{ys:List NRow} {xs:List (List Key2×Ad×Va)},io rowR ys xs->Keys H ys->∀x∈xs,(nestKind P w).is h x.1 x.2.1:=by
  intro ys xs q
  induction q with
  |nil=>intro _ x O;cases O
  |@cons y x ys xs D _ E =>
   intro f z hz;rcases y06.mp hz with e|hz
   .subst e;let:=(f y y04).is ok;rw[D.1,D.2.1]at this;show this
   .exact E (λy I=>f y<|y08 _ I) z hz
 show all c f x O
noncomputable def valN(ys:List NRow)(k:List Key2):Option V:=(ys.find? λy=>decide (y.1=k)).map (·.2.2)
theorem zi2(r:io rowR ys xs)(k:List Key2):RelO (valN ys k) ((atKey xs k).map (·.2)):=by
 unfold valN atKey
 induction r with
 |nil=>show True.intro
 |@cons y x ys xs D _ E =>
  rw[y1v,y1v,←D.1];by_cases e:y.1=k
  .rw[Xg e];show D.2.2
  .rw[Xf e];show E
theorem zxj(hd:(a==iC)=Fa)(hz:ys.length<=ij)(r:io rowR ys xs)(dd:h'.DictOfH (nestKind P w) a xs):ObjOk P w H' h' a (dN P w a ys):=by
 let(o,es,ep,M,J,U,C,_,g):=dd;apply((hd,hz,xs,r,o,es,ep,M,J,U,C,g),(o,M),λg1 p x kp=>?_);let(L,i,D,l,y,j,v,d,c):=x;show(L,i,D,l,y,j,v,kp _ d,c)
theorem zqz(r:io rowR ys xs)(f:RelV v u):io rowR (ys++[(k,b,v)]) (xs++[(k,b,u)]):=by
 induction r with
 |nil=>show .cons (R,R,f) .nil
 |cons h _ E=>show .cons h E
end
section
variable {X:Cx}
def rNotInN(P:ik)(w:World):R2:=λy x H Q=>∃a b ys k,x=.ref a/\y=.ref b/\H a=G (dN P w a ys)/\Keys H ys/\NestAt H b k/\Q (.bl<|!(valN ys k).isSome) H
theorem zri(g:X.A.units+8<cLine):OpR X (im .NotIn) (rNotInN X.prog X.w):=by
 intro Y s U H y x v u Q I O d h;let(a,b,ys,k,rfl,rfl,e,f,nb,q):=h;obtain rfl:u=Va.ref a:=d;obtain rfl:v=Va.ref b:=O;let(hd,hz,xs,M,dd):=dn_of I.hok e f;apply wpAny_notIn_heap (knd:=nestKind X.prog X.w) (show X.A.units+1+1<cLine by omega) (nb.is I.hok) hd dd ?_;let z:=(zi2 M k).isSome_eq;rw[y3c]at z;rw[←z];show(.bl<|!(valN ys k).isSome,H,I.tok _,R,q)
def sDPutN(P:ik)(w:World)(r ty tv:TE):TS:=λD U H=>tv U H λv H1=>r U H1 λx H2=>ty U H2 λy H3=>∃a b ys k,x=.ref a/\y=.ref b/\H3 a=G (dN P w a ys)/\Keys H3 ys/\NestAt H3 b k/\valN ys k=B/\ys.length<ij/\
 ∀H4,H4=upd H3 a (dN P w a<|ys++[(k,b,v)])->D.nx U H4
theorem zus{td ty tv:TE}(g:X.A.units+8<cLine)(T:PE X o td)(hi:PE X i ty)(hv:PE X l tv)(hs:jd l (G<|.Subscript o i c) pos.line X.env=pure Fa):
  PS X (.Assign [.Subscript o i c] l pos) (sDPutN X.prog X.w td ty tv):=by
 intro Y s U H D I h;apply wpAny_Assign_Subscript (thn (hv Y s U H _ I h) λr s1 E=>ex5 E λv H1 A f J=>thn (T Y s1 U H1 _ A J) λu s2 E=>ex5 E λx H2 I2 d q2=>thn (hi Y s2 U H2 _ I2 q2) λiv s3 (y,H3,L,O,a,b,ys,k,ex,ey,e,kk,nb,hn,j,C)=>?_) hs;subst ex ey;obtain rfl:u=Va.ref a:=d;obtain rfl:iv=Va.ref b:=O;let(hd,hz,xs,M,dd):=dn_of L.hok e kk;let Q:xs.length<=ij:=by rw[←Paired.length M];show hz
 apply wpAny_setItem_heap (knd:=nestKind X.prog X.w) (hsz:=Q) (show X.A.units+1+1<cLine by omega) (nb.is L.hok) dd λh' dd' ss=>?_;let z:=(zi2 M k).isSome_eq;rw[hn,y3c]at z;let ek:atKey xs k=B:=by
  cases q:atKey xs k with
  |none=>rfl
  |some p=>rw[q]at z;cases z
 rw[storedH_new ek]at dd';let dd2:=dd';let(q,es,ep,hq,_):=dd2;apply(U,_,zmy L (by rw[e];show True.intro) ss (q,hq)<|zxj hd ?_ (zqz M f) dd',C _ R);rw[y02,y0i];omega
def tDGetN(P:ik)(w:World)(r ty:TE):TE:=λU H Q=>r U H λx H1=>ty U H1 λy H2=>∃a b ys k v,x=.ref a/\y=.ref b/\H2 a=G (dN P w a ys)/\Keys H2 ys/\NestAt H2 b k/\valN ys k=G v/\Q v H2
def tDNew2(P:ik)(w:World):TE:=λ_ H Q=>∀p H',New H p (dN P w p []) H'->Q 91 H'
theorem zwg(h:Heap)(Y:iC<h.objs.size):ObjOk P w H (h.push {cls:=.type "dict",data:=.dict #[]}) h.objs.size (dN P w h.objs.size []):=by
 apply zxj (xs:=[]) (beq_eq_false_iff_ne.mpr<|y28 Y) (y1g _) .nil ?_;show(_,#[],_,y0c _ R,(R,R,R),R,R,λx O=>(nomatch O),y2b)
theorem zu2:PE X (.Dict [] [] pos) (tDNew2 X.prog X.w):=λY s U H Q I h =>
 wpAny_Dict_empty (.ref s.heap.objs.size,_,I.laid (a:=s.heap.objs.size) (o:=dN X.prog X.w s.heap.objs.size []) (t':=s.toks) (λ_ _ q=>y01 _ q) 37<|zwg s.heap I.big,R,h _ _<|.mk' 069 _)
theorem zu3(g:X.A.units+8<cLine)(T:PE X o r)(hi:PE X i ty)(hs:NoSl i):PE X (.Subscript o i pos) (tDGetN X.prog X.w r ty):=by
 intro Y s U H Q I h;apply zqg PySem.F.slot_dict_getitem.lookup hs<|thn (T Y s U H _ I h) λu s1 E=>ex5 E λx H1 A d J=>thn (hi Y s1 U H1 _ A J) λiv s2 E=>ex5 E λy H2 j ry zq=>?_;let(a,b,ys,k,v,ex,ey,e,f,nb,D,q2):=zq;subst ex ey;obtain rfl:u=Va.ref a:=d;obtain rfl:iv=Va.ref b:=ry;let(hd,hz,xs,M,dd):=dn_of j.hok e f;let(w',C,c):=RelO.some_of (v:=v) (o:=(atKey xs k).map (·.2)) (by rw[←D];show zi2 M k);let(p,l,L):=y18.mp C;let ty:s2.TypeIs 09 "dict":=by
  let(ob,_,_,q,O,_):=id dd;show(ob,q,O.1)
 apply(ty,wpAny_getItem_heap (knd:=nestKind X.prog X.w) (show X.A.units+1+1<cLine by omega) (nb.is j.hok) dd l ?_);rw[L];show(v,H2,j.tok _,c,q2)
end
open PySem
abbrev Rise(xs:Array Nat):Prop:=xs.toList.Pairwise (· < ·)
theorem zi3(h:Rise xs)(a:i<j)(f:j<xs.size):xs.getD i 0<xs.getD j 0:=by
 let:=y4c.mp h i j (by simpa using y2c a f) (by simpa using f) a;simp only[Array.getElem_toList]at this;rw[Array.getD,Array.getD,dif_pos<|y2c a f,dif_pos f];show this
theorem zjt(h:Rise xs)(j:Nat):∀(a lo hi:Nat),lo<=hi->hi<=xs.size->hi-lo<=a->(∀i,i<lo->xs.getD i 0<j)->(∀i,hi<=i->i<xs.size->j<=xs.getD i 0)->
  SetTable.below.go xs j a lo hi<=xs.size/\(∀i,i<SetTable.below.go xs j a lo hi->xs.getD i 0<j)/\∀i,SetTable.below.go xs j a lo hi<=i->i<xs.size->j<=xs.getD i 0
 |0,lo,hi,M,J,U,C,g=>by
  let e:lo=hi:=by omega
  unfold SetTable.below.go;show(by omega,C,λi d=>g i 00)
 |a+1,lo,hi,M,J,U,C,g=>by
  unfold SetTable.below.go;by_cases c:lo<hi
  .rw[Xq c];let l:(lo+hi)/2<xs.size:=by omega
   let e:xs.getD ((lo+hi)/2) j=xs.getD ((lo+hi)/2) 0:=by rw[Array.getD,Array.getD,dif_pos l,dif_pos l]
   change _/\_/\_;simp only;by_cases Q:xs.getD ((lo+hi)/2) j<j
   .rw[Xq Q];apply zjt h j a ((lo+hi)/2+1) hi 00 J 00 (λi d=>?_) g;by_cases r:i=(lo+hi)/2
    .rw[r,←e];show Q
    .exact y2c (zi3 h (j:=(lo+hi)/2) 00 l) (by rw[←e];show Q)
   .rw[Xp Q];apply zjt h j a lo ((lo+hi)/2) 00 00 00 C λi d hs=>?_;by_cases r:i=(lo+hi)/2
    .rw[r,←e];omega
    .let:=zi3 h (i:=(lo+hi)/2) (j:=i) 00 hs;rw[e]at Q;omega
  .rw[Xp c];show(by omega,C,λi d=>g i 00)
theorem zfh(h:Rise xs)(j:Nat):SetTable.below xs j<=xs.size/\(∀i,i<SetTable.below xs j->xs.getD i 0<j)/\∀i,SetTable.below xs j<=i->i<xs.size->j<=xs.getD i 0 :=
 zjt h j xs.size 0 xs.size (y1g _) 37 00 (λi hi=>Xa hi<|y1h _) λi M J=>by omega
theorem zp6(h:Rise xs)(hi:i<xs.size):SetTable.below xs (xs.getD i 0+1)=i+1:=by
 let(M,J,U):=zfh h<|xs.getD i 0+1;by_cases c:SetTable.below xs (xs.getD i 0+1)<=i
 .let:=U i c hi;omega
 .by_cases Q:SetTable.below xs (xs.getD i 0+1)=i+1
  .exact Q
  .let:=J (i+1) 00;let:=zi3 h (i:=i) (j:=i+1) 00 00;omega
theorem zp5(h:Rise xs):SetTable.below xs 0=0:=by
 let(M,J,U):=zfh h 0;by_cases c:SetTable.below xs 0=0
 .exact c
 .let:=J 0 00;omega
theorem zjg(xs:Array d)(p:Nat)(x:d):(SetTable.insertAt xs p x).toList=xs.toList.take p++x::xs.toList.drop p:=by
 unfold SetTable.insertAt;rw[Array.toList_append,y40,Array.toList_extract,Array.toList_extract];simp;show y0v 06
theorem zma(h:Rise xs)(f:xs[SetTable.below xs j]? ≠ G j):Rise (SetTable.insertAt xs (SetTable.below xs j) j):=by
 let(M,J,U):=zfh h j;change(SetTable.insertAt xs (SetTable.below xs j) j).toList.Pairwise (· < ·);rw[zjg];generalize SetTable.below xs j=p at *;let at':∀i (hi:i<xs.size),xs.getD i 0=xs.toList[i]'(by simpa using hi):=λi hi=>by rw[Array.getD,dif_pos hi];simp
 let g:∀i,p<=i->i<xs.size->j<xs.getD i 0:=λi l hi=>by
  let o:=U i l hi;by_cases c:i=p
  .subst c;let T:xs.getD i 0≠j:=λe=>f (by rw[y1l hi,←e,Array.getD,dif_pos hi];rfl);omega
  .let C:=U p 37 00;let:=zi3 h (i:=p) (j:=i) 00 hi;omega
 apply List.pairwise_append.mpr (h.sublist<|List.take_sublist _ _,y3x.mpr (λy I=>?_,h.sublist<|List.drop_sublist _ _),λx O y I=>?_)
 .let(i,hi,e):=y2o I;rw[List.getElem_drop]at e;let d:p+i<xs.size:=by rw[y2m]at hi;simp at hi;omega
  rw[←e,←at' _ d];show g _ 00 d
 .let a:x<j:=by
   let(i,hi,e):=y2o O;rw[List.getElem_take]at e;let d:i<p/\i<xs.size:=by rw[y19]at hi;simp at hi;omega
   rw[←e,←at' _ d.2];show J i d.1
  rcases y06.mp I with rfl|I
  .exact a
  .let(i,hi,e):=y2o I;rw[List.getElem_drop]at e;let d:p+i<xs.size:=by rw[y2m]at hi;simp at hi;omega
   rw[←e,←at' _ d];let:=g (p+i) 00 d;omega
structure Tb(led:Bool)(t:iY):Prop where
 rise:Rise t.place
 led:t.led=led
 dum:t.dummies=#[]
theorem zt7(f m:Nat)(led:Bool):Tb led (.fresh f m led):=(List.Pairwise.nil,R,R)
theorem zdv(h:Tb led t)(n:Nat):Tb led (t.standIn n):=⟨by
 change(Array.range n).toList.Pairwise (· < ·);rw[Array.toList_range];show y4f,h.led,R⟩
theorem tb_or(h:Tb led t)(n:Nat):Tb led (t.orStandIn n):=by
 unfold SetTable.orStandIn;split
 .exact h
 .exact zdv h n
theorem zw5{t:iY}(h:t.dummies=#[])(j:Nat):SetTable.has t.dummies j=Fa:=by
 rw[h];unfold SetTable.has;rfl
theorem zgo{t:iY}(hd:t.dummies=#[])(hashAt:Nat->Int)(h:Int):∀(a:Nat) (p:SetTable.Probe) (j:Nat) (d:Option Nat),p.dummy=B->SetTable.probe.go t hashAt h a p=G (.empty j d)->d=B/\t.slot j=.empty
 |0,p,j,d,_,e=>by unfold SetTable.probe.go at e;cases e
 |a+1,p,j,d,l,e=>by
  unfold SetTable.probe.go at e;let f:∀q:SetTable.Probe,(t.advance q).dummy=q.dummy:=λq=>by unfold SetTable.advance;split<;>rfl
  cases c:t.slot p.j with
  |empty =>
   rw[c]at e;simp only[Option.some.injEq,SetTable.Met.empty.injEq]at e;let(rfl,rfl):=e;show(l,c)
  |dummy =>
   exfalso;unfold SetTable.slot at c;simp only[zw5 hd]at c;split at c<;>cases c
  |live i =>
   rw[c]at e;simp only at e;split at e
   .cases e
   .exact zgo hd hashAt h a _ j d (by rw[f];show l) e
theorem tb_put{t:iY}(h:Tb led t)(f:t.slot j=.empty):Tb led (t.put j).1:=by
 apply(zma h.rise λe=>?_,h.led,?_)
 .unfold SetTable.slot at f;simp only[e,beq_self_eq_true,if_true]at f;cases f
 .change(if SetTable.has t.dummies j then _ else t.dummies)=#[];rw[zw5 h.dum];show h.dum
theorem zqf(h:Tb led t)(es:Array<|Int×Va)(k:Int)(x:Va):Tb led (layNew t es k x).2.1/\(layNew t es k x).2.2.1=Fa:=by
 unfold layNew;cases c:t.freeSlot k with
 |none=>show(zdv h _,R)
 |some p =>
  let(slot,wd):=p;unfold SetTable.freeSlot at c;cases Q:t.probe (λ_=>k+1) k (t.probeStart k)with
  |none=>rw[Q]at c;cases c
  |some m =>
   rw[Q]at c;cases m with
   |candidate j i nx=>cases c
   |empty j d =>
    let(rfl,D):=zgo h.dum _ _ _ _ _ _ R Q;simp only[Option.some.injEq,Prod.mk.injEq]at c;let(rfl,rfl):=c;show(tb_or (tb_put h D) _,R)
theorem zsh{led plain:Bool}(e:SetTable.laid d f g led plain hs=G (t,o)):Tb led t:=by
 unfold SetTable.laid at e;cases c:SetTable.layClean d hs with
 |none=>rw[c]at e;cases e
 |some owner =>
  rw[c]at e;simp only[Option.bind_eq_bind,Option.bind_some,Option.pure_def,Option.some.injEq,Prod.mk.injEq]at e;let(rfl,rfl):=e;apply(?_,R,R);change List.Pairwise (· < ·) (List.map (λx:Nat×Nat=>x.1)<|(List.range<|d+1).filterMap λj=>(owner.getD j B).map<|Prod.mk j);let:∀l:List Nat,((l.filterMap λj=>(owner.getD j B).map<|Prod.mk j).map (·.1)).Sublist l:=λl=>by
   induction l with
   |nil=>show List.Sublist.refl _
   |cons a l E =>
    rw[y21];cases r:owner.getD a B with
    |none=>show .cons _ E
    |some v=>show .cons_cons _ E
  show y4f.sublist<|this _
theorem zt2(h:Tb led t)(es:Array<|Int×Va)(n:Nat):Tb led (jF t es n).2.1:=by
 unfold jF;cases c:t.relaid (es.map (·.1)) n with
 |none=>show zdv h _
 |some p =>
  let(t',o):=p;let:=zsh c;rw[h.led]at this;simp only;split
  .exact this
  .exact zdv h _
theorem zra(next:Nat->Nat):∀(a k:Nat) (left:List d) (out:Array d),left.length=a->(pickOrder.go next a k left out).toList.Perm (out.toList++left)
 |0,k,left,out,h=>by
  unfold pickOrder.go;rw[List.length_eq_zero_iff.mp h,y1k]
 |a+1,k,left,out,h=>by
  unfold pickOrder.go;let r:next k%left.length<left.length:=Nat.mod_lt _ 00
  rw[y0e r];simp only;apply(zra next a (k+1) (left.eraseIdx (next k%left.length)) (out.push left[next k%left.length])<|by rw[y4a r];omega).trans ?_;rw[y40,y27,List.singleton_append];apply List.Perm.append_left _ ?_;generalize next k%left.length=i at r
  let e:left=left.take i++left[i]::left.drop (i+1):=by rw[y4h,y4k]
  conv=>rhs;rw[e]
  rw[y3z];show(List.perm_middle).symm
theorem zq9(next:Nat->Nat)(xs:Array d):(pickOrder next xs).toList.Perm xs.toList:=by
 let:=zra next xs.size 0 xs.toList #[] (by simp)
 rw[show(#[]:Array d).toList=[]from rfl,y47]at this;show this
section
variable {P:ik}{w:World}{T:Type}[DecidableEq T]{knd:KeyKind P w T}{A:iq}{E:Y0}{s:ii}{led:Bool}
def SetT(knd:KeyKind P w T)(led:Bool)(h:Heap)(a:Ad)(S:T->Bool)(n:Nat):Prop :=
 ∃o es ep t,h.get? a=G o/\o.ExactSet/\o.data=.set es ep t/\(ElemsOf knd es.toList/\∀k,S k=N↔∃e∈es.toList,knd.is k e.2=N)/\(es.size<iJ/\t.fits es.size=N/\es.size=n)/\Tb led t/\es.toList.Pairwise λx y=>∀k,knd.is k x.2=N->knd.is k y.2=Fa
theorem SetT.kept(x:SetT knd led h a S n)(k:∀o,h.get? a=G o->h'.get? a=G o):SetT knd led h' a S n :=
 let(o,es,ep,t,e,r):=x;(o,es,ep,t,k o e,r)
theorem SetT.congr(x:SetT knd led h a S n)(e:∀k,S k=S' k)(en:n=n'):SetT knd led h a S' n':=by
 let:S=S':=funext e;subst this;subst en;show x
theorem zt6(h:Tb led t):Tb led {t with plain:=Fa}:=(h.rise,h.led,h.dum)
theorem zic{l f:List (Int×Va)}(h:l.Pairwise λx y=>∀k,knd.is k x.2=N->knd.is k y.2=Fa)(p:f.Perm l):f.Pairwise λx y=>∀k,knd.is k x.2=N->knd.is k y.2=Fa :=
 p.symm.pairwise h λ{x y} z k C=>by
  cases c:knd.is k x.2 with
  |false=>rfl
  |true=>rw[z k c]at C;cases C
theorem zno{h:Heap}{o:Obj}(D:h.get? a=G o)(O:o.ExactSet)(hd:o.data=.set es ep t){fs:Array (Int×Va)}{u:iY}
  (M:ElemsOf knd fs.toList) (J:∀k,S k=N↔∃e∈fs.toList,knd.is k e.2=N) (U:fs.size<iJ) (C:u.fits fs.size=N) (L:Tb led u) (d:fs.toList.Pairwise λx y=>∀k,knd.is k x.2=N->knd.is k y.2=Fa) :
  (h.update a<|Obj.putSet fs u).get? a=G {o with data:=.set fs (ep+1) u}/\SetT knd led (h.update a<|Obj.putSet fs u) a S fs.size :=
 let z:=(SetOf_store (knd:=knd) (S':=S) D O hd M J U C).1
 (z,_,fs,ep+1,u,z,O,R,(M,J),(U,C,R),L,d)
theorem znn{g:Bool->Sem Unit}(hg:∀(b:Bool) (s1:ii) (Rq:Unit->ii->Prop),Rq () s1->wpAny 011 A (g b) Rq E s1){a:Ad}{o:Obj}{es:Array (Int×Va)}{ep:Nat}{t:iY}
  (I:s.heap.get? a=G o) (O:o.ExactSet) (hd:o.data=.set es ep t) {fs:Array (Int×Va)} {u:iY} {S:T->Bool} (M:ElemsOf knd fs.toList) (J:∀k,S k=N↔∃e∈fs.toList,knd.is k e.2=N)
  (U:fs.size<iJ) (C:u.fits fs.size=N) (L:Tb led u) (d:fs.toList.Pairwise λx y=>∀k,knd.is k x.2=N->knd.is k y.2=Fa) {wd:Bool} {Rq:Option Bool->ii->Prop}
  (h:∀h',Heap.SameBut a s.heap h'->SetT knd led h' a S fs.size->Rq (G N) {s with heap:=h'}) :
  wpAny 011 A (do
    storeSet a fs u
    if(!wd&&u.tooFull)=N then do
      g (jF u fs 077).2.2
      storeSet a (jF u fs 077).1 (jF u fs 077).2.1
      pure (G N)
     else pure (G N)) Rq E s:=by
 apply ie<|wpAny_storeSet_of I hd ?_ (fits_of_scanBound U);let(Y,j):=zno (S:=S) I O hd M J U C L d;let l:=Heap.SameBut.update s.heap a<|Obj.putSet fs u;split
 .let p:=relayAll_perm u fs 077;let f:=relayAll_fits u fs 077;let c:=zt2 L fs 077;generalize jF u fs 077=Z at p f c ⊢;let(i,v,D):=Z;dsimp only at p f c ⊢;let sz:i.size=fs.size:=by rw[←y1i,p.length_eq,y1i]
  let r:i.size<iJ:=by rw[sz];show U
  apply ie<|hg _ _ _ (ie<|wpAny_storeSet_of Y R ?_ (fits_of_scanBound r));let(_,H):=zno (knd:=knd) (S:=S) Y O R (M.perm p) (λk'=>(J k').trans (λ(e,m,q)=>(e,p.mem_iff.mpr m,q),λ(e,m,q)=>(e,p.mem_iff.mp m,q))) r f c<|zic d p;rw[sz]at H;show ig<|h _ (l.trans<|Heap.SameBut.update _ a _) H
 .exact ig<|h _ l j
theorem zx8{a:Ad}{S:T->Bool}{n:Nat}{k:T}{x:Va}{Q:Bool->ii->Prop}(C:knd.is k x=N)(hs:x.scannable=N)(x0:SetT knd led s.heap a S n)(room:n+1<iJ)
  (h:∀h',Heap.SameBut a s.heap h'->SetT knd led h' a (λk'=>S k'||decide (k'=k)) (if S k then n else n+1)->Q (!S k) {s with heap:=h'}):wpAny (model P w) A (setAddHashed a x<|knd.hash k) Q E s:=by
 let(o,es,ep,t,ho,O,hd,(M,J),(U,h4,hn),tb,d):=id x0;unfold setAddHashed setAddHashedIn;apply iA<|ie (iH ho hd h4 ?_);dsimp only;rw[byScan_of hs U M];simp only[↓reduceIte];unfold setAddByScan;apply ie<|ie (iX<|ie (wpAny_setScan_of C ho hd h4 M ?_));cases c:List.findIdx? (λe=>knd.is k e.2) es.toList with
 |some j =>
  dsimp only;let(f,l,_):=List.findIdx?_eq_some_iff_getElem.mp c;let p:S k=N:=(J k).mpr (_,y16 f,l);let z:=h s.heap (Heap.SameBut.refl a s.heap) (x0.congr (λk'=>by
   cases e:S k' with
   |true=>rfl
   |false=>rw[y3g,eq_comm,decide_eq_false_iff_not];intro q;rw[q,p]at e;cases e) (by rw[p];rfl))
  rw[p]at z;apply ig<|ig ?_;cases s;show z
 |none =>
  dsimp only;let no:=List.findIdx?_eq_none_iff.mp c;let p:S k=Fa:=y1e.mpr λz=>by
   let(e,m,q):=(J k).mp z;rw[no e m]at q;cases q
  let g:=layNew_perm t es (knd.hash k) x;let lf:=layNew_fits t es (knd.hash k) x;let(lt,ld):=zqf tb es (knd.hash k) x;generalize layNew t es (knd.hash k) x=Z at g lf lt ld ⊢;let(fs,u,wd,D):=Z;dsimp only at g lf lt ld ⊢;rw[y40]at g;let H:ElemsOf knd fs.toList:=(M.push C hs).perm g;let Y:∀k',(S k'||decide (k'=k))=N↔∃e∈fs.toList,knd.is k' e.2=N:=mem_push_iff C J g;let sz:fs.size=n+1:=by rw[←y1i,g.length_eq,y02,y1i,hn];rfl
  let r:fs.size<iJ:=by rw[sz];show room
  let L:fs.toList.Pairwise λx y=>∀k,knd.is k x.2=N->knd.is k y.2=Fa:=by
   apply zic (List.pairwise_append.mpr (d,List.pairwise_singleton _ _,λy I z hz k' i=>?_)) g;rw[y03.mp hz];cases q:knd.is k' x with
   |false=>rfl
   |true =>
    let e:=knd.inj x k' k q C;rw[e,no y I]at i;cases i
  let fin:∀h',Heap.SameBut a s.heap h'->SetT knd led h' a (λk'=>S k'||decide (k'=k)) fs.size->Q N {s with heap:=h'}:=λh' b z=>by
   let:=h h' b;rw[p]at this;rw[sz]at z;show this z
  apply ie ?_;let v:∀(b:Bool) (s1:ii) (Rq:Unit->ii->Prop),Rq () s1->wpAny 011 A (match b with|true=>rule "set.scan.the-table-gave-way"|false=>pure ()) Rq E s1:=λb s1 Rq q=>by cases b<;>first|show ig q|show iX q
  apply v _ _ _ ?_;split
  .refine ie ?_;rw[hashByValue_scannable 8 hs];apply ig<|znn (led:=led) v ho O hd H Y r ?_ ?_ L λh' b z=>?_
   .split
    .exact lf
    .exact SetTable.fits_plain_off lf
   .split
    .exact lt
    .exact zt6 lt
   .dsimp only;show ig<|fin h' b z
  .refine ie<|ig ?_;simp only[↓reduceIte];apply znn (led:=led) v ho O hd H Y r lf lt L λh' b z=>?_;dsimp only;show ig<|fin h' b z
end
theorem slot_setit_next:Slot "set_iterator" "__next__" "set_iterator.__next__" :=
 .of (owner:="set_iterator") (n:="__next__") (by rw[typeLookup_type,builtinLookup_eq_fast];kernel_rfl) 43 43 43 (by first|show .inl (by decide+kernel)|show .inr (by decide+kernel)) (by rw[jG];kernel_rfl)
theorem zc7:entryFor table "set_iterator.__next__"=G Builtin.«set_iterator.__next__»:=entryFor_of_fast (by kernel_rfl)
theorem zdq(v:Va):argsOk "set_iterator.__next__" ([v],[]):=by unfold argsOk;kernel_rfl
theorem zhk:entryFor table "set.__iter__"=G Builtin.«frozenset.__iter__»:=entryFor_alias (id':="frozenset.__iter__") (by kernel_rfl) R 43 (by kernel_rfl)
noncomputable def byT(w:World):Bool:=w.params.followText "set-order"
inductive Way where
 |text
 |drawn (pt:Ad) (pl:List Nat)
 |place
noncomputable def ordOf(w:World)(a:Ad)(es:Array<|Int×Va)(ep:Nat):Way->List (Int×Va)
 |.text=>(pickOrder (w.params.setOrder a ep) es).toList
 |.drawn _ pl=>pl.filterMap λi=>es[i]?
 |.place=>es.toList
def WayOk(w:World)(es:Array<|Int×Va)(t:iY):Way->Prop
 |.text=>byT w=N
 |.drawn _ pl=>byT w=Fa/\091=N/\pl.Perm (List.range es.size)
 |.place=>byT w=Fa/\091=Fa
def FirstIs(h:Heap)(t:iY)(i:Nat)(v:Va):Way->Prop
 |.text=>v=.int 0 0
 |.drawn pt pl=>v=.ref pt/\∃o n,h.get? pt=G o/\o.data=.seq (pl.map λj:Nat=>i6 j).toArray n
 |.place=>∃j:Nat,v=.int j 0/\SetTable.below t.place j=i
structure SetSt(w:World)(it a:Ad)(es:Array<|Int×Va)(ep:Nat)(t:iY)(y:Way)(i:Nat)(h:Heap):Prop where
 st:∃o,h.get? a=G o/\o.data=.set es ep t
 it:∃o v,h.get? it=G o/\o.cls=.type "set_iterator"/\o.data=.fields #[v,.int i 0,.ref a,.int es.size 0,.int ep 0]/\FirstIs h t i v y
theorem zs1{d q:Type}{f:d->Option q}{g:d->q}:∀(l:List d),(∀x∈l,f x=G (g x))->l.filterMap f=l.map g
 |[],_=>rfl
 |x::l,h=>by rw[y21,h x y04,y0p,zs1 l λy I=>h y<|y08 _ I]
section
variable {P:ik}{w:World}{A:iq}{E:Y0}{s:ii}
theorem zi9(h:WayOk w es t y):(ordOf w a es ep y).Perm es.toList:=by
 cases y with
 |text=>show zq9 _ _
 |place=>show .refl _
 |drawn pt pl =>
  let e:es.toList=(List.range es.size).filterMap λi=>es[i]?:=by
   apply List.ext_getElem? λi=>?_;let:((List.range es.size).filterMap λi=>es[i]?)=(List.range es.size).map λi=>es.getD i default:=by
    apply zs1 _ λi hi=>?_;rw[y1l<|y11.mp hi,Array.getD,dif_pos<|y11.mp hi];rfl
   rw[this,y0r];by_cases hi:i<es.size
   .rw[List.getElem?_range hi,y2f,y1l hi,y2q,Array.getD,dif_pos hi];rfl
   .rw[y1u (by simpa using hi),y1u<|by simpa using hi];rfl
  rw[e];show h.2.2.filterMap _
theorem zp4(o:n≠0)(h:∀i d,i<n->Q i {s with drawn:=d}):wpAny M A (choose c n) Q E s :=
 λe p a=>(o,h _ _<|Nat.mod_lt _ (Nat.pos_of_ne_zero o))
theorem zwf(n:Nat):∀(xs:List a) (s:ii) (Q:List a->ii->Prop),xs.length=n->(∀ys d,ys.Perm xs->Q ys {s with drawn:=d})->wpAny M A (drawOrder n xs) Q E s:=by
 induction n with
 |zero =>
  intro xs s Q o h;cases List.eq_nil_of_length_eq_zero o;unfold drawOrder;show ig<|h [] s.drawn (.refl _)
 |succ n g =>
  intro xs s Q o h;cases xs with
  |nil=>cases o
  |cons x xs =>
   unfold drawOrder;apply ie<|zp4 06 λi d hi=>?_;rw[y0e hi];simp only;apply ie<|g _ _ _ (by rw[y4a hi];omega) λys d' p=>?_;apply ig<|h _ d' ?_;generalize j:x::xs=l at hi p ⊢;let e:l=l.take i++l[i]::l.drop (i+1):=by rw[y4h,y4k]
   rw[y3z]at p
   conv=>rhs;rw[e]
   show(List.Perm.cons _ p).trans List.perm_middle.symm
theorem SetSt.ty{it a:Ad}{es:Array (Int×Va)}{ep:Nat}{t:iY}{y:Way}{i:Nat}(x:SetSt w it a es ep t y i s.heap):s.TypeIs 025 "set_iterator":=let(o,_,T,g,_):=x.it;(o,T,g)
theorem zb9{h:Heap}{o:Obj}{vs:Array Va}(T:h.get? a=G o)(hd:o.data=.fields vs)(i:Nat)(x:Va):∃y,(h.update a (Obj.mapFields (·.setIfInBounds i x))).get? a=G y/\y.cls=o.cls/\y.data=.fields (vs.setIfInBounds i x) :=
 (_,y24 _ T<|Obj.isFreed_of_fields (Obj.data_mapFields hd _),Obj.cls_mapFields ..,by rw[Obj.data_mapFields hd])
theorem zxw{M:Model}{d:Type}{c:Prop}[Decidable c]{x y:Sem d}{Q:d->ii->Prop}(g:c)(h:wpAny M A x Q E s):wpAny M A (if c then x else y) Q E s:=by rw[Xq g];show h
theorem zp9{M:Model}{d:Type}{c:Prop}[Decidable c]{x y:Sem d}{Q:d->ii->Prop}(g:¬c)(h:wpAny M A y Q E s):wpAny M A (if c then x else y) Q E s:=by rw[Xp g];show h
theorem zfl(T:s.heap.get? a=G o)(hd:o.data=.set es ep t)(U:t.fits es.size=N)(Y:byT w=N)
  (q:Q (((ordOf w a es ep .text)[i]?).map λe=>(e.2,j)) s):wpAny 011 A (setNext a j i ep) Q E s:=by
 unfold setNext;apply ie<|iH T hd U ?_;dsimp only;unfold jQ;apply ie<|ie (iP<|ig ?_);apply zxw Y<|zp9 06 ?_;unfold setWalk;apply ie<|ie (iH T hd U ?_);dsimp only;unfold jQ;apply ie<|ie (iP<|ig ?_);apply zxw Y ?_;apply ie<|iP (ig<|ig ?_);let e:(ordOf w a es ep .text)[i]?=(pickOrder (w.params.setOrder a ep) es)[i]?:=by change(pickOrder (w.params.setOrder a ep) es).toList[i]?=_;rw[y2f]
 rw[e]at q;show q
theorem zel(T:s.heap.get? a=G o)(hd:o.data=.set es ep t)(U:t.fits es.size=N)(Y:byT w=Fa)(l:091=Fa)(L:Tb (!byT w) t)
  (q:Q (match es[SetTable.below t.place j]?,t.place[SetTable.below t.place j]? with|some (_,x),G j=>G (x,j+1)|_,_=>B) s):wpAny 011 A (setNext a j i ep) Q E s:=by
 unfold setNext;apply ie<|iH T hd U ?_;dsimp only;unfold jQ;apply ie<|ie (iP<|ig ?_);apply zp9 (λz=>by rw[show byT w=N from z]at Y;cases Y)<|zp9 (λz=>by rw[show(091)=N from z]at l;cases l) ?_;let r:t.led=N:=by rw[L.led,Y];rfl
 apply ie ?_;apply zp9 (c:=(!t.led && !es.isEmpty)=N) (by rw[r];simp)<|ig (ig q)
theorem zuk(I:WayOk w es t y)(o:Tb (!byT w) t)(U:t.fits es.size=N)(st:SetSt w it a es ep t y i s.heap)(T:a≠it)(hpt:∀pt pl,y=.drawn pt pl->pt≠it)(O:(ordOf w a es ep y)[i]?=G (k,x))
  (q:∀h',SetSt w it a es ep t y (i+1) h'->Heap.SameBut it s.heap h'->Q (G x) {s with heap:=h'}):wpAny (model P w) A (jz<|.ref it) Q E s:=by
 let ty:=st.ty;let((oa,L,D),oi,v,hi,ci,C,fi):=st;unfold jz;apply ie<|j6 (i9 (name:=Str.ofString "__next__") ty slot_setit_next<|iw slot_setit_next ty zc7 ?_ (zdq _));unfold Builtin.«set_iterator.__next__»;apply ie<|ig ?_;apply ie<|jt hi C ?_;dsimp only;apply ie<|jn L D U ?_;rw[Xp 06];simp only[y0y];cases y with
 |text =>
  let c:v=.int 0 0:=fi;subst c;dsimp only;apply ie<|zfl L D U I ?_;rw[O];dsimp only[y2q];apply ie<|i7 hi C 06 ?_;let(o1,M,c1,p):=zb9 hi C 0<|i6 ((0:Int).toNat:Int);apply ie<|i7 M p 06 ?_;let(H,J,c2,u):=zb9 M p 1<|i6 ((i:Int)+1);let g:=(Heap.SameBut.update s.heap it (Obj.mapFields (·.setIfInBounds 0 (i6 ((0:Int).toNat:Int))))).trans (Heap.SameBut.update _ it (Obj.mapFields (·.setIfInBounds 1 (i6<|(i:Int)+1))));apply ig (x,R,ig<|q _ ((oa,by rw[g.2 a T];show L,D),H,.int 0 0,J,by rw[c2,c1,ci],by rw[u];rfl,R) g)
 |drawn pt pl =>
  let(c,op,n,l,dp):=fi;subst c;dsimp only;apply ie<|iD l dp ?_;dsimp only;obtain⟨j,f,hjx⟩:∃j,pl[i]?=G j/\es[j]?=G (k,x):=by
   let e:ordOf w a es ep (.drawn pt pl)=pl.map λj=>es.getD j default:=zs1 _ λj f=>by
    let:=y11.mp<|I.2.2.mem_iff.mp f;rw[y1l this,Array.getD,dif_pos this];rfl
   rw[e,y0r]at O;let(j,f,Y):=y18.mp O;let r:=y11.mp<|I.2.2.mem_iff.mp (y0d f);apply(j,f,?_);rw[y1l r];rw[Array.getD,dif_pos r]at Y;show congrArg G Y
  let hj':(pl.map λj:Nat=>i6 j).toArray[i]?=G (.int j 0):=by
   rw[List.getElem?_toArray,y0r,f];rfl
  rw[hj'];dsimp only;unfold setNextDrawn;apply ie<|ie (iH L D U ?_);dsimp only;apply zp9 06 ?_;simp only[y0y,hjx];apply ig ?_;apply ie<|i7 hi C 06 ?_;let(H,J,c2,u):=zb9 hi C 1<|i6 ((i:Int)+1);let g:=Heap.SameBut.update s.heap it (Obj.mapFields (·.setIfInBounds 1 (i6<|(i:Int)+1)));apply ig (x,R,ig<|q _ ((oa,by rw[g.2 a T];show L,D),H,.ref pt,J,by rw[c2,ci],by rw[u];rfl,R,op,n,by rw[g.2 pt<|hpt pt pl R];show l,dp) g)
 |place =>
  let(j,c,fb):=fi;subst c;dsimp only;apply ie<|zel L D U I.1 I.2 o ?_;let d:es[i]?=G (k,x):=by
   let:es.toList[i]?=G (k,x):=O;rw[y2f]at this;show this
  let r:i<es.size:=(y2i.mp d).1;let hpz:t.place.size=es.size:=by
   simp only[SetTable.fits,y07,beq_iff_eq]at U;show U.1
  let ar:t.place[i]?=G (t.place.getD i 0):=by rw[y1l 00,Array.getD,dif_pos 00];rfl
  rw[y0y,fb,d,ar];dsimp only;apply ie<|i7 hi C 06 ?_;let(o1,M,c1,p):=zb9 hi C 0<|i6 ((t.place.getD i 0+1:Nat):Int);apply ie<|i7 M p 06 ?_;let(H,J,c2,u):=zb9 M p 1<|i6 ((i:Int)+1);let g:=(Heap.SameBut.update s.heap it (Obj.mapFields (·.setIfInBounds 0 (i6 ((t.place.getD i 0+1:Nat):Int))))).trans (Heap.SameBut.update _ it (Obj.mapFields (·.setIfInBounds 1 (i6<|(i:Int)+1))));apply ig (x,R,ig<|q _ ((oa,by rw[g.2 a T];show L,D),H,_,J,by rw[c2,c1,ci],by rw[u];rfl,t.place.getD i 0+1,R,zp6 o.rise 00) g)
theorem zix{it:Ad}{M:Heap}{Q:Y9}{Rq:Fin->ii->Prop}(hh:A.handled=B)(e1:Heap.ExtBut it s.heap M)(q:∀h',Heap.ExtBut it s.heap h'->Q B {s with heap:=h'}):
  wpAny 011 A.in1 (newExc (.type "StopIteration") []>>=raiseNew) Rq (λe s'=>wpAny 011 A (isInstance e (.type "StopIteration")>>=λb=>if b=N then pure B else throw e) Q E s') {s with heap:=M}:=by
 apply ie ?_;simp only[newExc,newTuple];apply ie<|iz (ie (m:=js _ _)<|wpAny_of_eq (a:=Va.none) (by first|rfl|(simp only[js];rfl)) (iz ?_<|by size_fits)) (by size_fits);simp only[raiseNew];apply ie<|wpAny_handled ?_;rw[show A.in1.handled=B from hh];apply ie<|ig (wpAny_throw ?_);apply ie<|iO (s:={s with heap:=_}) (T:="StopIteration") (b:=N) (_,y0c _ R,R) isSubtype_stop ?_;show ig<|q _ ((e1.push _).push _)
theorem zx7(hh:A.handled=B)(I:WayOk w es t y)(o:Tb (!byT w) t)(U:t.fits es.size=N)(st:SetSt w it a es ep t y es.size s.heap)
  (q:∀h',Heap.ExtBut it s.heap h'->Q B {s with heap:=h'}):wpAny (model P w) A (jz<|.ref it) Q E s:=by
 let ty:=st.ty;let((T,L,D),r,v,hi,e,C,d):=st;unfold jz;apply ie<|j6 (i9 (name:=Str.ofString "__next__") ty slot_setit_next<|iw slot_setit_next ty zc7 ?_ (zdq _));unfold Builtin.«set_iterator.__next__»;apply ie<|ig ?_;apply ie<|jt hi C ?_;dsimp only;apply ie<|jn L D U ?_;rw[Xp 06];simp only[y0y];let i:t.place.size=es.size:=by
  simp only[SetTable.fits,y07,beq_iff_eq]at U;show U.1
 cases y with
 |text =>
  let c:v=.int 0 0:=d;subst c;dsimp only;apply ie<|zfl L D U I ?_;rw[y1u<|by rw[(zi9 (a:=a) (ep:=ep) I).length_eq];simp];dsimp only[Option.map_none];show ie<|i7 hi C 06 (zix hh (Heap.SameBut.update ..).extBut q)
 |drawn pt pl =>
  let(c,op,n,l,dp):=d;subst c;dsimp only;apply ie<|iD l dp ?_;dsimp only;rw[y3j<|by rw[y0a,y00,I.2.2.length_eq,y20];show y05 _];dsimp only;change wpAny _ _ (setField 025 0 (i6 0)>>=λ_=>setField 025 2 Va.none>>=λ_=>(newExc (.type "StopIteration") []>>=raiseNew)) _ _ s;let(Y,M,f,p):=zb9 hi C 0<|i6 0;apply ie<|i7 hi C 06 ?_;apply ie<|i7 M p 06 ?_;show zix (s:=s) hh ((Heap.SameBut.update s.heap it _).trans<|Heap.SameBut.update _ it _).extBut q
 |place =>
  let(j,c,g):=d;subst c;dsimp only;apply ie<|zel L D U I.1 I.2 o ?_;rw[y0y,g,y3j 37];dsimp only;show ie<|i7 hi C 06 (zix hh (Heap.SameBut.update ..).extBut q)
theorem SetSt.kept{it a:Ad}{es:Array (Int×Va)}{ep:Nat}{t:iY}{y:Way}{i:Nat}{h h':Heap}(x:SetSt w it a es ep t y i h)(k:∀b o,(b=it\/b=a\/∃pl,y=.drawn b pl)->h.get? b=G o->h'.get? b=G o):SetSt w it a es ep t y i h':=by
 let((T,L,D),r,v,hi,e,C,d):=x;apply((T,k a T (.inr 85) L,D),r,v,k it r 85 hi,e,C,?_);cases y with
 |text=>show d
 |place=>show d
 |drawn pt pl =>
  let(c,op,n,l,dp):=d;show(c,op,n,k pt op (.inr<|.inr (pl,R)) l,dp)
noncomputable def Way.fp:Way->List Ad
 |.drawn pt _=>[pt]
 |_=>[]
theorem Way.mem_fp{y:Way}:(∃pl,y=.drawn b pl)↔b∈y.fp:=by
 cases y with
 |text=>show(λ(_,h)=>(nomatch h),λh=>(nomatch h))
 |place=>show(λ(_,h)=>(nomatch h),λh=>(nomatch h))
 |drawn pt pl =>
  constructor
  .rintro⟨a,h⟩;cases h;show y03.mpr R
  .intro h;rw[y03.mp h];show(pl,R)
theorem Walks.set(hh:A.handled=B)(T:a≠it)(c:∀pt pl,y=.drawn pt pl->pt≠it)(I:WayOk w es t y)(L:Tb (!byT w) t)(U:t.fits es.size=N)(d:∀(s:ii) (Q:Y0) (E:Y0),s.TypeIs 025 "set_iterator"->Q 025 s->wpAny 011 A (jB 025) Q E s):
  Walks P w A it (it::a::y.fp) [it] es.size (λi v=>∃k,(ordOf w a es ep y)[i]?=G (k,v)) (λi h=>SetSt w it a es ep t y i h) where
 sub:=λb Y=>by rw[y03.mp Y];show y04
 frame:=λi h h' x k=>x.kept λb o Y e=>k b (by
  rcases Y with rfl|rfl|Y
  .exact y04
  .exact y08 _ y04
  .exact y08 _<|y08 _ (Way.mem_fp.mp Y)) o e
 item:=λi s Q E hi x q=>by
  let j:i<(ordOf w a es ep y).length:=by rw[(zi9 (a:=a) (ep:=ep) I).length_eq];simpa using hi
  apply zuk I L U x T c (y0e j) λh' f g=>q _ h' s.toks (_,y0e j) f λb o Y e=>?_;rw[g.2 b λz=>Y<|by rw[z];show y03.mpr R];show e
 done:=λs Q E x q=>zx7 hh I L U x λh' e1=>q h' s.toks λb o Y e=>e1 b o (λz=>Y<|by rw[z];show y03.mpr R) e
 self:=λi s Q E x q=>d s Q E x.ty q
end
local instance (priority:=10000):BEq Key:=instBEqOfDecidableEq
section
variable {prog:ik}{w:World}{A:iq}{E:Y0}{s:ii}
theorem zl4(a:Va)
  (h:Q₁ 034 {s with heap:=s.heap.push {cls:=.type "set",dict:=B,data:=.set #[] 0 (.fresh 0 0<|!byT w)} }) :
  iZ 87 A (.call (.builtin "set.__new__") ([.type "set",a],[])) (wants Q₁ E) s:=by
 apply codeAny_of_tree ?_;change wpAny _ A.in1 (do checkBuiltinCall "set.__new__" ([.type "set",a],[]);again (.builtin "set.__new__" ([.type "set",a],[]))) _ _ s;apply ie<|wpAny_of_eq (F.newCall_set_1 a) (ig (j5 F.plain_set_new _,iT F.entry_set_new ?_));rw[Around.under_plainId F.plain_set_new _];unfold Builtin.«set.__new__» Builtin.Frozenset.newClass;let hsub:=sub_set_self;let(hp,g,d,tk,os):=s;dsimp only
 wp_walk
 apply iP<|ig ?_;dsimp only;simp only[newObj];apply ie<|wpAny_alloc (ig ?_);show ig h
end
section
variable {P:ik}{w:World}{A:iq}{Rq:Result->ii->Prop}{it:Ad}{fp wr:List Ad}{Gq:Array jp->Array jp->Prop}{n:Nat}{Pv:Nat->Va->Prop}{St:Nat->ii->Prop}
def SetTs(P:ik)(w:World)(h:Heap)(a:Ad)(ks:List Int):Prop:=∃n,n<=ks.length/\SetT (j7 P w) (!byT w) h a (λk=>decide (k∈ks)) n
theorem SetTs.kept(x:SetTs P w h a ks)(k:∀o,h.get? a=G o->h'.get? a=G o):SetTs P w h' a ks:=let(n,l,x):=x;(n,l,SetT.kept x k)
theorem zul(h:(j7 P w).is k v=N):v.scannable=N:=by
 let(t,rfl):=Va.isInt_shape h;rfl
theorem zx4(a:Ad)(l:m<iJ):SetR (j7 P w) a m (λh ks=>SetTs P w h a ks):=⟨λx k=>x.kept k,λ{A E s ks k v Q} is j (u,c,x) q=>by
 apply zx8 (knd:=j7 P w) is (zul is) x 00 λh' g H=>q h' _ g (_,?_,SetT.congr H (λk'=>?_) R)
 .rw[y02,y0i];split<;>omega
 .rw[y1w];simp only[y3p,decide_eq_true_eq,y0o,y03]⟩
end
section
variable {P:ik}{w:World}{A:iq}{E:Y0}{s:ii}
theorem zj9(hh:A.handled=B)(j:s.heap.IsList l its)(C:ks.length=its.size)(hi:∀(i:Nat) v k,its[i]?=G v->ks[i]?=G k->(j7 P w).is k v=N)
  (Y:its.size+1<iJ)
  (h:∀(h':Heap) (tk:Nat),SetTs P w h' s.heap.objs.size ks->093->Q 034 {s with heap:=h',toks:=tk}) :
  wpAny 011 A (call (.type "set") [.ref l]) Q E s :=
 zqu (Lp:=λled=>led=!byT w) hh j C hi (zx4 _ Y) (λh led e a=>by
  subst e;let(o,es,ep,t,T,O,hd,d,U):=(setObjOf_fresh (knd:=j7 P w)<|!byT w).setOf a (by unfold iJ;omega);let c:o=_:=(Option.some.inj<|a.symm.trans T).symm;subst c;let f:Data.set #[] 0 (.fresh 0 0<|!byT w)=Data.set es ep t:=hd;injection f with e1 L r
  subst e1;subst L;subst r;show(0,y05 _,_,_,_,_,a,O,R,(d,λk=>by simp),U.2,zt7 _ _ _,.nil)) (zl4 (.ref l) (_,R,R,R)) h
end
section
variable {P:ik}{w:World}{A:iq}{E:Y0}{s:ii}
theorem zju(v:Va):argsOk "set.__iter__" ([v],[]):=by unfold argsOk;kernel_rfl
theorem zpb(T:s.heap.get? a=G o)(O:o.ExactSet)(g:o.cls=.type "set")(hd:o.data=.set es ep t)(U:t.fits es.size=N)(tb:Tb (!byT w) t)(hn:es.size<=ij)
  (q:∀(it:Ad) (y:Way) (h':Heap) (d:Drawn),WayOk w es t y->a≠it->(∀pt pl,y=.drawn pt pl->pt≠it/\s.heap.objs.size<=pt)->s.heap.objs.size<=it->SetSt w it a es ep t y 0 h'->(∀b u,s.heap.get? b=G u->h'.get? b=G u)->Q 025 {s with heap:=h',drawn:=d}) :
  wpAny 011 A (jB 09) Q E s:=by
 let hT:s.TypeIs 09 "set":=(o,T,g);apply jy hT F.slot_set_iter<|iw F.slot_set_iter hT zhk ?_ (zju _);unfold Builtin.«frozenset.__iter__» Builtin.Frozenset.slot0 slotArgs;apply ie<|ie (ig ?_);unfold Builtin.Frozenset.addrOf;apply ig ?_;unfold Builtin.Frozenset.sizeOf;apply ie<|ie (jn T hd U<|ig ?_);unfold setDrawn;apply ie<|ie (iH T hd U ?_);dsimp only;unfold jQ;apply ie<|ie (iP<|ig (ig ?_));let fin:∀(s2:ii) (v:Va) (y:Way),WayOk w es t y->(∀b u,s.heap.get? b=G u->s2.heap.get? b=G u)->s2={s with heap:=s2.heap,drawn:=s2.drawn}->s.heap.objs.size<=s2.heap.objs.size->FirstIs s2.heap t 0 v y->(∀pt pl,y=.drawn pt pl->s.heap.objs.size<=pt/\pt<s2.heap.objs.size)->
   wpAny 011 A.in1 (do let e ←setEpoch a;let f ←newFields "set_iterator" [v,i6 0,.ref a,i6 es.size,i6 e];ret f) (λfin s'=>∃v,fin=PySem.Fin.done (.ret v)/\∃T' r,s'.TypeIs v T'/\jP (Va.type T') (Str.ofString "__next__")=pure (G r)/\Q v s') E s2:=by
  intro s2 v y I C j le D c;let(J,p,d2,x,os2):=s2;let e1:p=s.gens:=congrArg Shared.gens j;let L:x=s.toks:=congrArg Shared.toks j;let e3:os2=s.os:=congrArg Shared.os j;subst e1;subst L;subst e3;unfold setEpoch;apply ie<|ie (iH (C a o T) hd U<|ig ?_);unfold newFields;apply ie<|iz (ig (_,R,"set_iterator",_,(_,y0c _ R,R),slot_setit_next.lookup,?_));let lt:a<J.objs.size:=y0h<|C a o T;let i:∀b u,J.get? b=G u->(J.push {cls:=.type "set_iterator",data:=.fields #[v,.int 0 0,.ref a,.int es.size 0,.int ep 0]}).get? b=G u:=λb u e=>y01 _ e;apply q _ y _ d2 I (y0m lt) (λpt pl e=>(y0m (c pt pl e).2,(c pt pl e).1)) le ((o,i a o<|C a o T,hd),(_,v,y0c _ R,R,R,?_)) λb u e=>i b u<|C b u e;cases y with
  |text=>show D
  |place=>show D
  |drawn pt pl =>
   let(e,o2,n2,M,H):=D;show(e,o2,n2,i _ _ M,H)
 change wpAny _ _ (if(!byT w&&091)=N then _ else _) _ _ _;cases Y:byT w with
 |true =>
  rw[Xp 06];apply ie<|ig ?_;show fin s _ .text Y (λ_ _ e=>e) R 37 R λ_ _ e=>nomatch e
 |false =>
  cases l:(!t.plain&&decide (es.size>1))with
  |false =>
   rw[Xp 06];apply ie<|ig ?_;show fin s _ .place (Y,l) (λ_ _ e=>e) R 37 (0,R,zp5 tb.rise) λ_ _ e=>nomatch e
  |true =>
   rw[Xq 06];apply ie<|zwf es.size (List.range es.size) s _ y20 λys d pm=>?_;let yl:ys.length=es.size:=by rw[pm.length_eq,y20]
   apply ie<|jE ?_ (by rw[y00,yl];show hn);apply fin _ _ (.drawn s.heap.objs.size ys) (Y,l,pm) (λ_ _ e=>y01 _ e) R ?_ (R,_,_,y0c _ R,R) λpt pl e=>?_
   .change _<=(Heap.push _ _).objs.size;rw[y12];show y3t _
   .cases e;apply(y05 _,?_);change _<(Heap.push _ _).objs.size;rw[y12];show y23 _
end
section
variable {P:ik}{w:World}{A:iq}{E:Y0}{s:ii}
theorem zda:Slot "set_iterator" "__iter__" "set_iterator.__iter__" :=
 .of (owner:="set_iterator") (n:="__iter__") (by rw[typeLookup_type,builtinLookup_eq_fast];kernel_rfl) 43 43 43 (by first|show .inl (by decide+kernel)|show .inr (by decide+kernel)) (by rw[jG];kernel_rfl)
theorem zfy:entryFor table "set_iterator.__iter__"=G Builtin.«dict_keyiterator.__iter__» :=
 entryFor_alias (id':="dict_keyiterator.__iter__") (by kernel_rfl) R 43 (by kernel_rfl)
theorem zhb(v:Va):argsOk "set_iterator.__iter__" ([v],[]):=by unfold argsOk;kernel_rfl
theorem zo4:jP (.type "set") (Str.ofString "__len__")=pure (G<|.builtin "set.__len__"):=F.slot_set_len.lookup
theorem zm1(hh:A.handled=B)(ho:s.heap.get? a=G o)(hx:o.ExactSet)(hc:o.cls=.type "set")(hd:o.data=.set es ep t)(hf:t.fits es.size=N)(tb:Tb (!byT w) t)(hn:es.size<=ij)
  (q:∀(vs:List Va) (h':Heap) (d:Drawn) (tk:Nat),vs.Perm (es.toList.map (·.2))->s.heap.objs.size<=h'.objs.size->s.toks<=tk->(∀b u,s.heap.get? b=G u->h'.get? b=G u)->Q vs {s with heap:=h',drawn:=d,toks:=tk}) :
  wpAny 011 A (collect 09) Q E s:=by
 let la:a<s.heap.objs.size:=y0h ho;unfold collect;apply ie<|wpAny_runValue (iT F.entry_proto_collect ?_);rw[Around.under_plainId F.plain_proto_collect _];change wpAny _ A.in1 (newList []>>=λl=>again<|.builtin "list.__iadd__" ([l,.ref a],[])) _ _ s;apply ie<|iz ?_;apply ig (j5 F.plain_list_iadd _,iT F.entry_list_iadd ?_);rw[Around.under_plainId F.plain_list_iadd _];let hS₁:(119).get? s.heap.objs.size=G {cls:=.type "list",data:=.seq ([]:List Va).toArray}:=y0c _ rfl;let ha₁:(119).get? a=G o:=y01 _ ho;let h1:Builtin.List.listSameRef 034 09=Fa:=by simp[Builtin.List.listSameRef,y28 la]
 change wpAny _ A.in1 (Builtin.List.listExtendWith 034 09 034) _ _ _;unfold Builtin.List.listExtendWith;let hT:Shared.TypeIs {s with heap:=s.heap.push {cls:=.type "list",data:=.seq ([]:List Va).toArray} } (.ref a) "set":=(o,ha₁,hc);apply ie<|wpAny_typeOf hT ?_;rw[Xp<|by rw[h1];decide];apply ie<|zpb (s:={s with heap:=s.heap.push {cls:=.type "list",data:=.seq ([]:List Va).toArray} }) ha₁ hx hc hd hf tb hn λit y h2 d wo hne hpt hit st k2=>?_;apply ie<|iA ?_;let hT2:Shared.TypeIs {s with heap:=h2,drawn:=d} (.ref a) "set":=(o,k2 a o ha₁,hc);unfold Builtin.List.listLengthHint;apply ie<|iI hT2 zo4 ?_;generalize hid:("set.__len__":String)=id0
 (fail_if_success (clear hid id0))
 wp_delta
 rw[show splitId id0=G ("set","__len__")from by subst hid;decide+kernel];subst hid;apply ie<|iO (b:=N) hT2 (by rw[jG];kernel_rfl) ?_;rw[Xp 02];apply zxw 43 ?_;apply ie<|wpAny_typeOf hT2 (ig ?_);change wpAny _ A.in1 (rule "list.extend.makes-room">>=λ_=>Builtin.List.listTouch 034>>=λ_ =>
  again (.builtin "list.extend.loop" ([.ref s.heap.objs.size,.ref it,.ref s.heap.objs.size],[]))) _ _ _
 apply ie<|iX ?_;let hS2:=k2 _ _ hS₁;apply ie ?_;change wpAny _ A.in1 (updateSeq s.heap.objs.size (·.push .none)>>=λ_=>updateSeq s.heap.objs.size (·.pop)) _ _ _;apply ie<|jA hS2 R ?_;let hS₂:=y24 (Obj.mapSeq (·.push Va.none)) hS2 rfl;apply jA hS₂ R ?_;let hS₃:=y24 (Obj.mapSeq (·.pop)) hS₂ rfl;let oth:∀b o,b≠s.heap.objs.size->h2.get? b=G o->((h2.update s.heap.objs.size (Obj.mapSeq (·.push Va.none))).update s.heap.objs.size (Obj.mapSeq (·.pop))).get? b=G o :=
  λb o hb e=>(y22 _ _<|Ne.symm hb).trans<|(y22 _ _<|Ne.symm hb).trans e
 let hself:∀(s:ii) (Q:Y0) (E:Y0),s.TypeIs 025 "set_iterator"->Q 025 s->wpAny 011 A.in1 (jB 025) Q E s:=λs Q E hT q=>by
  apply jy hT zda<|iw zda hT zfy ?_ (zhb _);change wpAny _ _ (ret 025) _ _ s;show ig (_,R,"set_iterator",_,hT,slot_setit_next.lookup,q)
 let sz1:(119).objs.size=s.heap.objs.size+1:=y12 ..;let hit':s.heap.objs.size+1<=it:=by rw[←sz1];show hit
 let ptne:∀b,b∈y.fp->b≠s.heap.objs.size:=λb hb=>by
  let(pl,e):=Way.mem_fp.mpr hb;let:=(hpt b pl e).2;let z:s.heap.objs.size+1<=b:=by rw[←sz1];show this
  show y28 z
 let W:=(Walks.set (P:=P) (A:=A.in1) (ep:=ep) hh hne (λpt pl e=>(hpt pt pl e).1) wo tb hf hself).toS;let hSf:s.heap.objs.size∉it::a::y.fp:=λhm=>by
  rcases y06.mp hm with z|hm
  .exact y0m hit' z
  rcases y06.mp hm with z|hm
  .exact y28 la z
  .exact ptne _ hm R
 apply ig (j5 F.plain_extend_loop _,codeAny_extend_loopS W hn _ hSf _ es.size 0 _ _ _ R (y1g _) ?_ hS₃ (ItemsOf.nil _) λs' acc' c' hm hS' hacc=>?_)
 .refine st.kept λb u hb e=>oth b u ?_ e;rcases hb with rfl|rfl|hb
  .exact y28 hit'
  .exact y0m la
  .exact ptne b<|Way.mem_fp.mp hb
 change wpAny _ A (load s.heap.objs.size>>=_) _ _ s';apply ie<|wpAny_load hS' (ig ?_);let(h',g',d',tk',os'):=s';let eg:g'=s.gens:=hm.gens;let ed:d'=d:=hm.drawn;let eo:os'=s.os:=hm.os;subst eg;subst ed;subst eo;let op:=zi9 (a:=a) (ep:=ep) wo;let ol:(ordOf w a es ep y).length=es.size:=by rw[op.length_eq,y1i]
 let hacc':acc'.toList=(ordOf w a es ep y).map (·.2):=by
  apply List.ext_getElem? λj=>?_;rw[y0r,y2f];cases e:acc'[j]? with
  |none =>
   let:acc'.size<=j:=Array.getElem?_eq_none_iff.mp e;rw[hacc.1]at this;rw[y1u 00];rfl
  |some v =>
   let(k,hk):=hacc.2 j v e;rw[hk];rfl
 apply q _ h' d' tk' (by rw[hacc'];show op.map _) (y1s<|y0h hS') hm.toks λb u e=>?_;let lb:b<s.heap.objs.size:=y0h e;apply hm.heap b u (λhb=>?_)<|oth b u (y0m lb) (k2 b u<|y01 _ e);rcases y06.mp hb with z|z
 .exact y0m lb z
 .rw[y03.mp z]at lb;show Xa (y2c lb hit')<|y1n _
end
noncomputable def iv:Va->Int
 |.int i _=>i
 |_=>0
theorem zsq:∀{l:List Va},(∀v∈l,∃i t,v=.int i t)->jx l (l.map iv)
 |[],_=>.nil
 |v::r,h=>by
  let(i,t,rfl):=h v y04;show .cons i t<|zsq λv D=>h v<|y08 _ D
section
variable {P:ik}{w:World}{A:iq}{E:Y0}{s:ii}
theorem zhj{l:List Int}(M:l.Pairwise (·<=·))(J:l.Nodup):l.Pairwise (· < ·):=by
 let:=List.Pairwise.and M J;show this.imp λ(a,b)=>by omega
end
theorem Inv.drew{X:Cx}{pins:Y2}{σ:St}{H:Hp}{s:ii}(I:03 H s)(d:Drawn):03 H {s with drawn:=d}:=by
 let(M,J,U,C,g,a,q,f,l,c,u):=I;show(M,J,U,C,g,a,q,f,l,c,u)
noncomputable def setI(P:ik)(w:World)(a:Ad)(ns:List Int):HO:=.ext λh=>SetTs P w h a ns
theorem zk3(hc:X.calm=N):CallR X (.type "set") (λxs H Q=>∃(p:Ad) (ns:List Int),xs=[.ref p]/\SqL X.K H p 035/\ns.length<=1000/\∀a,H a=B->Q 09 (upd H a<|setI X.prog X.w a ns)):=by
 intro Y s U H xs us Q I r h;let(p,ks,rfl,O,hz,q):=h;let(u,rfl,d):=vals1 r;cases(show u=Va.ref p from d);let(vs,f,pl,_):=I.list O;let lv:=f.length;rw[y00]at lv;apply zj9 (ks:=ks) 037 pl.isList (by rw[y0a];show lv) (λi v k e1 L=>?_) (by rw[y0a];unfold iJ;omega) λh' tk x k=>?_
 .let c:vs[i]?=G v:=by simpa using e1
  let(u,e,q):=f.get (i:=i) (x:=V.int k) (by rw[y0r,L];rfl);rw[c]at e;cases e;let(t,rfl):=q;change Va.isInt k (.int k t)=N;unfold Va.isInt;simp
 .refine(.ref s.heap.objs.size,_,I.laid (t':=tk) (λb u e=>k b u (y0h e) e) 37 ?_,R,q _ I.fresh);let(n,y,o,es,ep,t,T,rest):=id x;show(x,(o,T),λM J j k1=>j.kept k1)
theorem zho:∀{vs:List Va} {ns:List Int},jx vs ns->Vals 035 vs
 |_,_,.nil=>.nil
 |_,_,.cons n t h=>.cons (t,R)<|zho h
end L2
namespace SM
open PySem PySem.Spec PyProof.Rows L2 SS
noncomputable abbrev kI(n:Nat):Key2:=.inl<|.inl (n:Int)
structure LA where
 p:Ad
 dx:Ad
 pf:Ad
 pn:Ad
 ps:Ad
def FL2(H:Hp)(v:V)(k:List Key2):Prop:=∃a,v=.ref a/\NestAt H a k
section
variable {P:ik}{w:World}{C:Ad}{A:LA}{fs:List (List Key2)}{sts:List (List Key×V)}{H H':Hp}
theorem FL2.ts(h:FL2 H v k)(g:TupS H H'):FL2 H' v k:=let(a,e,n):=h;(a,e,n.ts g)
theorem zje{d:Type}[DecidableEq d](x:d)(xs:List d)(k:d):nOf (x::xs) k=if x=k then 0 else 1+nOf xs k:=by
 unfold nOf;rw[y36];by_cases e:x=k
 .rw[Xq e,beq_iff_eq.mpr e];rfl
 .rw[Xp e,beq_eq_false_iff_ne.mpr e];simp only[cond_false];omega
theorem tabN:∀{ys:List NRow} {fs:List (List Key2)} (d:Nat),ys.map (·.1)=fs->(∀i y,ys[i]?=G y->y.2.2=nV (d+i))->∀k,(k∈fs->valN ys k=G (nV<|d+nOf fs k))/\(¬k∈fs->valN ys k=B)
 |[],_,d,rfl,_,k=>(λh=>by simp at h,λ_=>rfl)
 |y::ys,_,d,rfl,D,k=>by
  let Y:=D 0 y rfl;let E:=tabN (ys:=ys) (d+1) R (λi z hz=>by rw[D (i+1) z (by simpa using hz),show d+(i+1)=d+1+i by omega]) k;let J:valN (y::ys) k=if y.1=k then G y.2.2 else valN ys k:=by
   unfold valN;rw[y1v];by_cases e:y.1=k
   .rw[Xg e,Xq e];rfl
   .rw[Xf e,Xp e]
  rw[J,y0p,zje];by_cases e:y.1=k
  .rw[Xq e,Xq e];show(λ_=>by rw[Y],λh=>Xa (by rw[e];show y04) h)
  .rw[Xp e,Xp e];apply(λh=>?_,λh=>E.2 λz=>h<|y08 _ z);rw[E.1<|(y06.mp h).resolve_left λz=>e z.symm,show d+(1+nOf (ys.map (·.1)) k)=d+1+nOf (ys.map (·.1)) k by omega]
end
inductive Co where
 |bare (wd:Str) (i j:Nat)
 |neg (c:Co)
 |con (c e:Co)
 |so (st:Bool) (i:Nat) (c:Co)
noncomputable def Co.hgt:Co->Nat
 |.bare _ _ _=>0
 |.neg c=>c.hgt+1
 |.con c e=>max c.hgt e.hgt+1
 |.so _ _ c=>c.hgt+1
noncomputable def Co.cost:Co->Nat
 |.bare _ _ _=>2
 |.neg c=>c.cost+2
 |.con c e=>c.cost+e.cost+2
 |.so _ _ c=>4*c.cost+2
def tv:Co->Bool
 |.bare wd _ _=>holdM wd 0
 |.neg c=>!tv c
 |.con c e=>tv c&&tv e
 |.so st _ c=>st&&tv c
noncomputable def soW(st:Bool):Str:=if st=N then "some set" else "some place"
def PtOf(cs:List Co)(vs:List V):Co->Prop
 |.bare wd i j=>wd∈treeW/\i<=4/\j<=4/\vs=[.str wd,nV<|2^i,nV<|2^j]
 |.neg c=>∃a,vs=[.str "not",nV a]/\cs[a]?=G c
 |.con c e=>∃a b,vs=[.str "and",nV a,nV b]/\cs[a]?=G c/\cs[b]?=G e
 |.so st i c=>∃a,i<=4/\vs=[.str<|soW st,nV<|2^i,nV a]/\cs[a]?=G c
theorem zhw{d:Type}{xs ys:List d}(h:xs <+:ys){a:Nat}{c:d}(e:xs[a]?=G c):ys[a]?=G c:=by
 let(zs,rfl):=h;rw[y0q (y09.mp e).1];show e
theorem PtOf.more(h:cs <+:d)(p:PtOf cs vs c):PtOf d vs c:=by
 cases c with
 |bare wd i j=>show p
 |neg c=>let(a,e,q):=p;show(a,e,zhw h q)
 |con c e=>let(a,b,e,q,r):=p;show(a,b,e,zhw h q,zhw h r)
 |so st i c=>let(a,hi,e,q):=p;show(a,hi,e,zhw h q)
def four:List (List Key2):=[[kI 0],[kI 1],[kI 2],[kI 3]]
section
variable {F F':List (List Key2)}{d d':Nat}
noncomputable def trn(n:Nat):Nat:=if n=2 then 3 else if n=3 then 2 else n
end
def PL(H:Hp)(cs:List Co)(v:V)(c:Co):Prop:=∃a vs,v=.ref a/\H a=G (.tup vs)/\PtOf cs vs c
def Up4(A:SA)(H H':Hp):Prop:=∀b o,b≠A.pp->b≠A.pf->b≠A.pn->b≠A.ps->H b=G o->H' b=G o
theorem Up4.refl(A:SA)(H:Hp):Up4 A H H:=λ_ _ _ _ _ _ e=>e
theorem Same.up4(g:Same H H'):Up4 A H H':=λb o _ _ _ _ e=>g b o e
theorem Up4.trans(a:Up4 A H H1)(b:Up4 A H1 H2):Up4 A H H2:=λc o n1 n2 I L e=>b c o n1 n2 I L<|a c o n1 n2 I L e
section
variable {P:ik}{w:World}{C:Ad}{A:SA}{cs cs':List Co}{fs fs' fs2:List (List Key2)}{sts sts' sts2:List (List Key×V)}{H H' H2:Hp}
theorem PL.ts(h:PL H cs v c)(g:TupS H H'):PL H' cs v c:=let(a,vs,e,n,p):=h;(a,vs,e,g _ _ n,p)
theorem Up4.same(r:D A.pp=B)(U:D A.pf=B)(E:D A.pn=B)(Q:D A.ps=B)(g:Same D H)(u:Up4 A H H'):Same D H':=λb o h=>u b o (λe=>by rw[e,r]at h;cases h) (λe=>by rw[e,U]at h;cases h) (λe=>by rw[e,E]at h;cases h) (λe=>by rw[e,Q]at h;cases h)<|g b o h
end
inductive zj4(vs:List V)(H:Hp)(Q:VK)(_E:XK):Prop
 |mk (n:Nat):(vs=[nV n])->(∀H',Same H H'->Q (nV<|trn n) H')->zj4 vs H Q _E
def coreS:List Str->Sy->Co
 |tl,.bare wd n m=>.bare wd 052<|tl.idxOf m
 |tl,.neg s=>.neg 44
 |tl,.two wd s t=>if wd="or" then .neg (.con (.neg 44)<|.neg (coreS tl t))else .con 44 (coreS tl t)
 |tl,.qu wd n s=>if wd="all" then .neg (.so (!isP n) tl.length<|.neg 020)else .so (!isP n) tl.length 020
noncomputable def lvS:Sy->Nat
 |.bare _ _ _=>0
 |.neg s=>lvS s+1
 |.two wd s t=>max (lvS s) (lvS t)+(if wd="or" then 4 else 1)
 |.qu wd _ s=>lvS s+(if wd="all" then 4 else 1)
noncomputable def szS:Sy->Nat
 |.bare _ _ _=>1
 |.neg s=>szS s+1
 |.two wd s t=>szS s+szS t+(if wd="or" then 4 else 1)
 |.qu wd _ s=>szS s+(if wd="all" then 3 else 1)
def OkS:List Str->Sy->Prop
 |tl,.bare wd n m=>wd∈treeW/\n∈tl/\m∈tl/\tl.length<=4
 |tl,.neg s=>OkS tl s
 |tl,.two _ s t=>OkS tl s/\OkS tl t
 |tl,.qu _ n s=>n.length<=4/\tl.length<=3/\OkS 024 s
theorem zee:List.lookup ("numbers":Str) (fl4 x y z t)=G z:=(zcn 02).trans<|(zcn 02).trans zoi
theorem inN(xs:List Nat)(k:Nat):inV (nV k) (xs.map nV)=decide (k∈xs):=by
 induction xs with
 |nil=>rfl
 |cons x xs E =>
  change(eqV (nV x) (nV k)||inV (nV k) (xs.map nV))=_;rw[E,zwc,←Bool.decide_or];show decide_eq_decide.mpr (λh=>h.elim (λe=>by rw[e];show y04)<|y08 _,λh=>(y06.mp h).imp Eq.symm id)
abbrev As:=Nat->Rd->Bool
noncomputable def As.put(A:As)(i:Nat)(S:Rd->Bool):As:=λk=>if k=i then S else A k
noncomputable def noR:Rd->Bool:=λ_=>Fa
noncomputable def oneR(x:Rd):Rd->Bool:=λq=>decide (q=x)
def Ch(st:Bool)(S:Rd->Bool)(t:Tr)(p:Rd):Prop:=if st=N then∀q,S q=N->q∈rds t p else∃x∈rds t p,S=oneR x
def Sdl:Co->Bool->As->Tr->Rd->Prop
 |.bare wd i j,y,A,t,p=>upM wd (A i) (A j) t p=if y=N then 2 else 3
 |.neg c,y,A,t,p=>Sdl c (!y) A t p
 |.con c e,y,A,t,p=>if y=N then Sdl c N A t p/\Sdl e N A t p else Sdl c Fa A t p\/Sdl e Fa A t p
 |.so st i c,y,A,t,p=>if y=N then∃S,Ch st S t p/\Sdl c N 012 t p else(∀S,Ch st S t p->Sdl c Fa 012 t p)/\(st=Fa->Sdl c Fa (A.put i noR) t p)
inductive Tf where
 |two (x y:Nat)
 |set (ks:List Nat)
 |plc (u:Nat) (ks:List Nat)
deriving DecidableEq
noncomputable def frm(st:Bool)(u:Nat)(ks:List Nat):Tf:=if st=N then .set ks else .plc u ks
def S3(n:Nat)(Y Nq U:Prop):Prop:=(n=2/\Y)\/(n=3/\Nq)\/(n≠2/\n≠3/\¬Y/\¬Nq/\U)
def Ut(fs:List Tf):Co->As->Tr->Rd->Nat->Prop
 |.bare wd i j,A,t,p,n=>n=upM wd (A i) (A j) t p
 |.neg c,A,t,p,n=>Ut fs c A t p n
 |.con c e,A,t,p,n=>∃m x y,n=m+4/\fs[m]?=G (.two x y)/\S3 x (Sdl c N A t p) (Sdl c Fa A t p) (Ut fs c A t p x)/\S3 y (Sdl e N A t p) (Sdl e Fa A t p) (Ut fs e A t p y)
 |.so st i c,A,t,p,n=>∃m u ks,n=m+4/\fs[m]?=G (frm st u ks)/\ks.Pairwise (· < ·)/\(∀S,Ch st S t p->∃k,S3 k (Sdl c N 012 t p) (Sdl c Fa 012 t p)<|Ut fs c 012 t p k)/\
  (∀k,k∈ks↔k≠3/\∃S,Ch st S t p/\S3 k (Sdl c N 012 t p) (Sdl c Fa 012 t p) (Ut fs c 012 t p k))/\(st=Fa->S3 u (Sdl c N (A.put i noR) t p) (Sdl c Fa (A.put i noR) t p) (Ut fs c (A.put i noR) t p u))
def Stg(fs:List Tf)(c:Co)(A:As)(t:Tr)(p:Rd)(n:Nat):Prop:=S3 n (Sdl c N A t p) (Sdl c Fa A t p)<|Ut fs c A t p n
def Agr(A Bq:As)(t:Tr)(p:Rd):Prop:=∀k q,q∈rds t p->A k q=Bq k q
theorem Agr.put{A Bq:As}{t:Tr}{p:Rd}(h:Agr A Bq t p)(i:Nat)(S:Rd->Bool):Agr 012 (Bq.put i S) t p:=λk q D=>by
 unfold As.put;split
 .rfl
 .exact h k q D
theorem Agr.symm{A Bq:As}{t:Tr}{p:Rd}(h:Agr A Bq t p):Agr Bq A t p:=λk q D=>(h k q D).symm
theorem ze2{wd:Str}{A A' Bq B':Rd->Bool}:∀{t:Tr} {p:Rd},(∀q∈rds t p,A q=A' q/\Bq q=B' q)->upM wd A Bq t p=upM wd A' B' t p
 |.nil,_,_=>rfl
 |.node l a b,p,h=>by
  let Y:=h p 028;unfold upM;rw[Y.1,Y.2,ze2 (t:=a) λq hq=>h q 090,ze2 (t:=b) λq hq=>h q<|rds_node.mpr (.inr<|.inr hq)]
theorem Sdl.agr:∀{c:Co} {y:Bool} {A Bq:As} {t:Tr} {p:Rd},Agr A Bq t p->Sdl c y A t p->Sdl c y Bq t p
 |.bare wd i j,y,A,Bq,t,p,h,z=>by
  change upM wd (Bq i) (Bq j) t p=_;rw[←ze2 (A:=A i) (Bq:=A j) λq D=>(h i q D,h j q D)];show z
 |.neg c,y,A,Bq,t,p,h,z=>Sdl.agr (c:=c) h z
 |.con c e,N,A,Bq,t,p,h,(U,E)=>(Sdl.agr h U,Sdl.agr h E)
 |.con c e,Fa,A,Bq,t,p,h,z=>Or.imp (Sdl.agr h) (Sdl.agr h) z
 |.so st i c,N,A,Bq,t,p,h,(S,I,z)=>(S,I,Sdl.agr (h.put i S) z)
 |.so st i c,Fa,A,Bq,t,p,h,z=>(λS I=>Sdl.agr (h.put i S)<|z.1 S I,λe=>Sdl.agr (h.put i noR)<|z.2 e)
theorem S3.imp{n:Nat}{Y Nq U Y' f U':Prop}(h:S3 n Y Nq U)(y:Y->Y')(Q:Y'->Y)(n1:Nq->f)(n2:f->Nq)(u:U->U'):S3 n Y' f U':=by
 rcases h with⟨a,b⟩|⟨a,b⟩|⟨a,b,c,d,e⟩
 .exact .inl (a,y b)
 .exact .inr<|.inl (a,n1 b)
 .exact .inr<|.inr (a,b,λz=>c<|Q z,λz=>d<|n2 z,u e)
theorem Ut.agr{fs:List Tf}:∀{c:Co} {A Bq:As} {t:Tr} {p:Rd} {n:Nat},Agr A Bq t p->Ut fs c A t p n->Ut fs c Bq t p n
 |.bare wd i j,A,Bq,t,p,n,h,z=>by
  change n=upM wd (Bq i) (Bq j) t p;rw[←ze2 (A:=A i) (Bq:=A j) λq D=>(h i q D,h j q D)];show z
 |.neg c,A,Bq,t,p,n,h,z=>Ut.agr (c:=c) h z
 |.con c e,A,Bq,t,p,n,h,(m,x,y,e1,L,U,E)=>(m,x,y,e1,L,U.imp (Sdl.agr h) (Sdl.agr h.symm) (Sdl.agr h) (Sdl.agr h.symm)<|Ut.agr h,E.imp (Sdl.agr h) (Sdl.agr h.symm) (Sdl.agr h) (Sdl.agr h.symm)<|Ut.agr h)
 |.so st i c,A,Bq,t,p,n,h,(m,u,ks,e1,L,a,d,iff,un)=>by
  let go:∀S k,S3 k (Sdl c N 012 t p) (Sdl c Fa 012 t p) (Ut fs c 012 t p k)->S3 k (Sdl c N (Bq.put i S) t p) (Sdl c Fa (Bq.put i S) t p) (Ut fs c (Bq.put i S) t p k):=λS k z=>z.imp (Sdl.agr<|h.put i S) (Sdl.agr (h.put i S).symm) (Sdl.agr<|h.put i S) (Sdl.agr (h.put i S).symm)<|Ut.agr (h.put i S);let back:∀S k,S3 k (Sdl c N (Bq.put i S) t p) (Sdl c Fa (Bq.put i S) t p) (Ut fs c (Bq.put i S) t p k)->S3 k (Sdl c N 012 t p) (Sdl c Fa 012 t p) (Ut fs c 012 t p k):=λS k z=>z.imp (Sdl.agr (h.put i S).symm) (Sdl.agr<|h.put i S) (Sdl.agr (h.put i S).symm) (Sdl.agr<|h.put i S)<|Ut.agr (h.put i S).symm;show(m,u,ks,e1,L,a,λS I=>let(k,z):=d S I;(k,go S k z),λk=>(iff k).trans<|and_congr Iff.rfl (λ(S,I,z)=>(S,I,go S k z),λ(S,I,z)=>(S,I,back S k z)),λe=>go noR u<|un e)
theorem Stg.agr{fs:List Tf}{c:Co}{A Bq:As}{t:Tr}{p:Rd}{n:Nat}(h:Agr A Bq t p)(z:Stg fs c A t p n):Stg fs c Bq t p n:=S3.imp z (Sdl.agr h) (Sdl.agr h.symm) (Sdl.agr h) (Sdl.agr h.symm)<|Ut.agr h
def Has(A:Rd->Bool)(t:Tr)(p:Rd):Prop:=∃q∈rds t p,A q=N
theorem zn9{wd:Str}{A Bq:Rd->Bool}:∀{t:Tr} {p:Rd},(wd="in"->upM wd A Bq t p=2\/upM wd A Bq t p=3->Has A t p)/\(¬wd="in"->¬wd="within"->(upM wd A Bq t p=2->Has A t p/\Has Bq t p)/\(upM wd A Bq t p=3->Has A t p\/Has Bq t p)/\(upM wd A Bq t p=1->Has Bq t p))/\(wd="within"->¬upM wd A Bq t p=2)
 |.nil,p=>by simp[upM]
 |.node l a b,p=>by
  let u:=zn9 (wd:=wd) (A:=A) (Bq:=Bq) (t:=a) (p:=p++[Fa]);let v:=zn9 (wd:=wd) (A:=A) (Bq:=Bq) (t:=b) (p:=p++[N]);let i:∀{X:Rd->Bool},Has X a 19->Has X 010 p:=λ(q,D,e)=>(q,rds_node.mpr<|.inr (.inl D),e);let d:∀{X:Rd->Bool},Has X b 34->Has X 010 p:=λ(q,D,e)=>(q,rds_node.mpr<|.inr (.inr D),e);let up:∀{X:Rd->Bool},X p=N->Has X 010 p:=λe=>(p,rds_node.mpr 85,e);let T:upM wd A Bq 010 p=mkN wd (A p) (Bq p) (upM wd A Bq a 19) (upM wd A Bq b 34):=rfl;rw[T];generalize upM wd A Bq a 19=x at u ⊢;generalize upM wd A Bq b 34=y at v ⊢;apply(λC=>?_,λM J=>?_,λC=>?_)
  .intro h;unfold mkN at h;by_cases f:x=2\/y=2
   .exact f.elim (λe=>i<|u.1 C (.inl e)) λe=>d<|v.1 C (.inl e)
   by_cases Q:x=3\/y=3
   .exact Q.elim (λe=>i<|u.1 C (.inr e)) λe=>d<|v.1 C (.inr e)
   rw[Xp f,Xp Q,Xp (by rw[C];decide),Xq C]at h;cases L:A p with
   |true=>show up L
   |false=>rw[L]at h;simp at h
  .let s:=u.2.1 M J;let j:=v.2.1 M J;unfold mkN;by_cases f:x=2\/y=2
   .rw[Xq f];apply(λ_=>?_,(λh=>Xa h 02),(λh=>Xa h 02));show f.elim (λe=>(i (s.1 e).1,i (s.1 e).2)) λe=>(d (j.1 e).1,d (j.1 e).2)
   rw[Xp f];by_cases Q:x=3\/y=3
   .rw[Xq Q];apply((λh=>Xa h 02),λ_=>?_,(λh=>Xa h 02));show Q.elim (λe=>(s.2.1 e).imp i i) λe=>(j.2.1 e).imp d d
   rw[Xp Q,Xp J,Xp M];split
   .cases L:A p<;>cases Y:Bq p<;>simp
    .exact .inr<|up Y
    .exact .inl<|up L
    .exact(up L,up Y)
   .unfold mkRel;let one:x=1\/y=1->Has Bq 010 p:=λc=>c.elim (λe=>i<|s.2.2 e) λe=>d<|j.2.2 e;cases L:A p with
    |true =>
     rw[Xq rfl];by_cases g:(if wd="left" then x=1 else if wd="right" then y=1 else(x=1\/y=1))
     .rw[Xq g];apply(λ_=>(up L,one ?_),(λh=>Xa h 02),(λh=>Xa h 02));by_cases w1:wd="left"
      .rw[Xq w1]at g;show .inl g
      .rw[Xp w1]at g;by_cases w2:wd="right"
       .rw[Xq w2]at g;show .inr g
       .rw[Xp w2]at g;show g
     .rw[Xp g];show((λh=>Xa h 02),λ_=>.inl<|up L,(λh=>Xa h 02))
    |false =>
     simp only[y1b,if_false];cases Y:Bq p with
     |true=>simp;show up Y
     |false =>
      simp only[y1b,if_false];by_cases r:x≠1/\y≠1
      .rw[Xq r];simp
      .rw[Xp r];let o:=one<|Classical.byContradiction λz=>r (λe=>z<|.inl e,λe=>z<|.inr e);split
       .exact((λh=>Xa h 02),(λh=>Xa h 02),λ_=>o)
       .exact((λh=>Xa h 02),λ_=>.inr o,(λh=>Xa h 02))
  .let s:=u.2.2 C;let j:=v.2.2 C;unfold mkN;rw[Xp λz=>z.elim s j];by_cases Q:x=3\/y=3
   .rw[Xq Q];decide
   rw[Xp Q,Xq C];split<;>decide
noncomputable def plU(pl:Nat->Bool)(i:Nat)(b:Bool):Nat->Bool:=λk=>if k=i then b else pl k
def wt:(Nat->Bool)->Co->Prop
 |pl,.bare wd i j=>(wd="in"->pl i=N)/\(¬wd="in"->¬wd="within"->pl i=N/\pl j=N)
 |pl,.neg c=>wt pl c
 |pl,.con c e=>wt pl c/\wt pl e
 |pl,.so st i c=>wt (plU pl i<|!st) c
def Vl(pl:Nat->Bool)(A:As)(t:Tr)(p:Rd):Prop:=∀k,pl k=N->∀q q',q∈rds t p->q'∈rds t p->A k q=N->A k q'=N->q=q'
section
variable {pl:Nat->Bool}{A:As}{t a b:Tr}{p:Rd}{l i:Nat}{st:Bool}{S:Rd->Bool}
theorem zjn(h:Ch st S t p):∀q,S q=N->q∈rds t p:=by
 unfold Ch at h;cases st with
 |true=>rw[Xq rfl]at h;show h
 |false =>
  rw[Xp 02]at h;let(x,O,rfl):=h;intro q D;rw[of_decide_eq_true D];show O
theorem Vl.put(v:Vl pl A t p)(h:Ch st S t p\/S=noR):Vl (plU pl i<|!st) 012 t p:=λk C q q' o c e D=>by
 unfold plU at C;unfold As.put at e D;by_cases d:k=i
 .rw[Xq d]at C e D;rcases h with h|h
  .unfold Ch at h;cases st with
   |true=>cases C
   |false =>
    rw[Xp 02]at h;let(x,O,rfl):=h;rw[of_decide_eq_true e,of_decide_eq_true D]
  .rw[h]at e;cases e
 .rw[Xp d]at C e D;show v k C q q' o c e D
theorem Vl.lft(v:Vl pl A 010 p):Vl pl A a 19:=λk C q q' hq c=>v k C q q' 090<|rds_node.mpr (.inr<|.inl c)
theorem Vl.rgt(v:Vl pl A 010 p):Vl pl A b 34:=λk C q q' D c=>v k C q q' (rds_node.mpr<|.inr (.inr D))<|rds_node.mpr (.inr<|.inr c)
theorem Vl.two(v:Vl pl A 010 p){k:Nat}(C:pl k=N)(M:Has (A k) a 19)(J:Has (A k) b 34):False:=by
 let(q,hq,e):=M;let(q',c,D):=J;let:=v k C q q' 090 (rds_node.mpr<|.inr (.inr c)) e D;subst this;show zb0 hq c
theorem ztj(h:Ch st S a 19):Ch st S 010 p:=by
 unfold Ch at h ⊢;cases st with
 |true=>rw[Xq rfl]at h ⊢;showλq D=>rds_node.mpr<|.inr (.inl<|h q D)
 |false=>rw[Xp 02]at h ⊢;let(x,O,e):=h;show(x,rds_node.mpr<|.inr (.inl O),e)
theorem zti(h:Ch st S b 34):Ch st S 010 p:=by
 unfold Ch at h ⊢;cases st with
 |true=>rw[Xq rfl]at h ⊢;showλq D=>rds_node.mpr<|.inr (.inr<|h q D)
 |false=>rw[Xp 02]at h ⊢;let(x,O,e):=h;show(x,rds_node.mpr<|.inr (.inr O),e)
theorem zop(t:Tr)(p:Rd):Ch N noR t p:=by unfold Ch;rw[Xq rfl];showλq h=>by cases h
def cutR(S:Rd->Bool)(t:Tr)(p:Rd):Rd->Bool:=λq=>S q&&decide (q∈rds t p)
theorem zjv(A:As)(i:Nat)(S:Rd->Bool)(t:Tr)(p:Rd):Agr (A.put i<|cutR S t p) 012 t p:=λk q D=>by
 unfold As.put cutR;split
 .change(S q&&decide (q∈rds t p))=S q;rw[Xg D,y31]
 .rfl
theorem zgc{A:As}{i:Nat}(h:∀q∈rds t p,S q=Fa):Agr (A.put i noR) 012 t p:=λk q D=>by
 unfold As.put;split
 .rw[h q D];rfl
 .rfl
theorem zkv(h:Ch st S a 19):∀q∈rds b (p++[N]),S q=Fa:=λq D=>by
 cases e:S q with
 |false=>rfl
 |true=>show(zb0 (zjn h q e) D).elim
theorem zkw(h:Ch st S b 34):∀q∈rds a (p++[Fa]),S q=Fa:=λq D=>by
 cases e:S q with
 |false=>rfl
 |true=>show(zb0 D<|zjn h q e).elim
theorem zoj{t':Tr}{p':Rd}(h:Ch st S t p):Ch st (cutR S t' p') t' p'\/(st=Fa/\∀q∈rds t' p',S q=Fa):=by
 unfold Ch at h ⊢;cases st with
 |true =>
  rw[Xq rfl]at h ⊢;apply .inl λq D=>?_;unfold cutR at D;rw[y07]at D;show of_decide_eq_true D.2
 |false =>
  rw[Xp 02]at h ⊢;let(x,O,rfl):=h;by_cases d:x∈rds t' p'
  .refine .inl (x,d,?_);funext q;unfold cutR oneR;by_cases e:q=x
   .rw[e,Xg R,Xg d];rfl
   .rw[Xf e];rfl
  .refine .inr (R,λq D=>?_);unfold oneR;show Xf λe=>d<|e▸D
end
theorem ze4:∀{c:Co} {A:As} {t:Tr} {p:Rd},Sdl c N A t p->Sdl c Fa A t p->False
 |.bare wd i j,A,t,p,M,J=>by
  let M:upM wd (A i) (A j) t p=2:=M;let J:upM wd (A i) (A j) t p=3:=J;omega
 |.neg c,A,t,p,M,J=>ze4 (c:=c) J M
 |.con c e,A,t,p,(M,J),U=>U.elim (ze4 M)<|ze4 J
 |.so st i c,A,t,p,(S,I,h),U=>ze4 h<|U.1 S I
theorem zem:∀{c:Co} {pl:Nat->Bool} {A:As} {l:Nat} {a b:Tr} {p:Rd} (y:Bool),wt pl c->Vl pl A 010 p->Sdl c y A a 19->Sdl c (!y) A b 34->False
 |.bare wd i j,pl,A,l,a,b,p,y,w,v,M,J=>by
  let d:=zn9 (wd:=wd) (A:=A i) (Bq:=A j) (t:=a) (p:=p++[Fa]);let mb:=zn9 (wd:=wd) (A:=A i) (Bq:=A j) (t:=b) (p:=p++[N]);let M:upM wd (A i) (A j) a 19=if y=N then 2 else 3:=M
  let J:upM wd (A i) (A j) b 34=if(!y)=N then 2 else 3:=J
  by_cases w1:wd="in"
  .refine v.two (w.1 w1) (d.1 w1 ?_)<|mb.1 w1 ?_
   .cases y<;>simp at M<;>omega
   .cases y<;>simp at J<;>omega
  by_cases w2:wd="within"
  .cases y with
   |true=>show d.2.2 w2 M
   |false=>show mb.2.2 w2 J
  let f:=w.2 w1 w2;cases y with
  |true =>
   let L:=(d.2.1 w1 w2).1 M;let Y:=(mb.2.1 w1 w2).2.1 J;show Y.elim (v.two f.1 L.1)<|v.two f.2 L.2
  |false =>
   let L:=(d.2.1 w1 w2).2.1 M;let Y:=(mb.2.1 w1 w2).1 J;show L.elim (λz=>v.two f.1 z Y.1) λz=>v.two f.2 z Y.2
 |.neg c,pl,A,l,a,b,p,y,w,v,M,J=>zem (c:=c) (!y) w v M J
 |.con c e,pl,A,l,a,b,p,N,w,v,M,J=>Or.elim J (zem N w.1 v M.1)<|zem N w.2 v M.2
 |.con c e,pl,A,l,a,b,p,Fa,w,v,M,J=>Or.elim M (λz=>zem Fa w.1 v z J.1) λz=>zem Fa w.2 v z J.2
 |.so st i c,pl,A,l,a,b,p,N,w,v,(S,I,M),J=>by
  apply zem (c:=c) N w (v.put<|.inl (ztj I)) M<|Sdl.agr (zgc<|zkv I) ?_;cases st with
  |true=>show J.1 noR<|zop _ _
  |false=>show J.2 R
 |.so st i c,pl,A,l,a,b,p,Fa,w,v,M,(S,I,J)=>by
  apply zem (c:=c) Fa w (v.put<|.inl (zti I)) (Sdl.agr (zgc<|zkw I) ?_) J;cases st with
  |true=>show M.1 noR<|zop _ _
  |false=>show M.2 R
theorem zb3:∀{c:Co} {pl:Nat->Bool} {A:As} {l:Nat} {a b:Tr} {p:Rd} {y:Bool},wt pl c->Vl pl A 010 p->Sdl c y A a 19->Sdl c y A 010 p
 |.bare wd i j,pl,A,l,a,b,p,y,w,v,h=>by
  let M:upM wd (A i) (A j) a 19=if y=N then 2 else 3:=h
  change mkN wd (A i p) (A j p) (upM wd (A i) (A j) a 19) (upM wd (A i) (A j) b 34)=_;unfold mkN;cases y with
  |true=>rw[Xq<|.inl M];rfl
  |false =>
   let M:upM wd (A i) (A j) a 19=3:=M;rw[Xp λz=>z.elim (λz=>by omega) λz=>zem (c:=.bare wd i j) Fa w v h z,Xq<|.inl M];rfl
 |.neg c,pl,A,l,a,b,p,y,w,v,h=>zb3 (c:=c) w v h
 |.con c e,pl,A,l,a,b,p,N,w,v,h=>(zb3 w.1 v h.1,zb3 w.2 v h.2)
 |.con c e,pl,A,l,a,b,p,Fa,w,v,h=>Or.imp (zb3 w.1 v) (zb3 w.2 v) h
 |.so st i c,pl,A,l,a,b,p,N,w,v,(S,I,h)=>(S,ztj I,zb3 w (v.put<|.inl (ztj I)) h)
 |.so st i c,pl,A,l,a,b,p,Fa,w,v,h=>by
  apply(λS I=>zb3 w (v.put<|.inl I) ?_,λe=>zb3 w (v.put<|.inr R)<|h.2 e);rcases zoj (t':=a) (p':=p++[Fa]) I with k|⟨e,k⟩
  .exact Sdl.agr (zjv A i S _ _)<|h.1 _ k
  .exact Sdl.agr (zgc k)<|h.2 e
theorem zb2:∀{c:Co} {pl:Nat->Bool} {A:As} {l:Nat} {a b:Tr} {p:Rd} {y:Bool},wt pl c->Vl pl A 010 p->Sdl c y A b 34->Sdl c y A 010 p
 |.bare wd i j,pl,A,l,a,b,p,y,w,v,h=>by
  let M:upM wd (A i) (A j) b 34=if y=N then 2 else 3:=h
  change mkN wd (A i p) (A j p) (upM wd (A i) (A j) a 19) (upM wd (A i) (A j) b 34)=_;unfold mkN;cases y with
  |true=>rw[Xq<|.inr M];rfl
  |false =>
   let M:upM wd (A i) (A j) b 34=3:=M;rw[Xp (λz=>z.elim (λz=>zem (c:=.bare wd i j) N w v z h) λz=>by omega),Xq<|.inr M];rfl
 |.neg c,pl,A,l,a,b,p,y,w,v,h=>zb2 (c:=c) w v h
 |.con c e,pl,A,l,a,b,p,N,w,v,h=>(zb2 w.1 v h.1,zb2 w.2 v h.2)
 |.con c e,pl,A,l,a,b,p,Fa,w,v,h=>Or.imp (zb2 w.1 v) (zb2 w.2 v) h
 |.so st i c,pl,A,l,a,b,p,N,w,v,(S,I,h)=>(S,zti I,zb2 w (v.put<|.inl (zti I)) h)
 |.so st i c,pl,A,l,a,b,p,Fa,w,v,h=>by
  apply(λS I=>zb2 w (v.put<|.inl I) ?_,λe=>zb2 w (v.put<|.inr R)<|h.2 e);rcases zoj (t':=b) (p':=p++[N]) I with k|⟨e,k⟩
  .exact Sdl.agr (zjv A i S _ _)<|h.1 _ k
  .exact Sdl.agr (zgc k)<|h.2 e
def Tf.okAt(m:Nat):Tf->Prop
 |.two x y=>x<m+4/\y<m+4
 |.set ks=>ks.Pairwise (· < ·)/\∀k∈ks,k<m+4
 |.plc u ks=>u<m+4/\ks.Pairwise (· < ·)/\∀k∈ks,k<m+4
structure TTb(fs:List Tf):Prop where
 at_:∀(m:Nat) (f:Tf),fs[m]?=G f->Tf.okAt m f
 nd:fs.Nodup
section
variable {fs fs' fs2:List Tf}{c e:Co}{A:As}{t:Tr}{p:Rd}{n k m x y u:Nat}{st:Bool}{ks:List Nat}
theorem Stg.tt(h:Stg fs c A t p n):n=2↔Sdl c N A t p:=by
 rcases h with⟨a,b⟩|⟨a,b⟩|⟨a,b,f,d,_⟩
 .exact(λ_=>b,λ_=>a)
 .exact(λz=>by omega,λz=>(ze4 z b).elim)
 .exact(λz=>Xa z a,λz=>Xa z f)
theorem Stg.ff(h:Stg fs c A t p n):n=3↔Sdl c Fa A t p:=by
 rcases h with⟨a,b⟩|⟨a,b⟩|⟨a,b,f,d,_⟩
 .exact(λz=>by omega,λz=>(ze4 b z).elim)
 .exact(λ_=>b,λ_=>a)
 .exact(λz=>Xa z b,λz=>Xa z d)
theorem zo1(h:Sdl c N A t p):Stg fs c A t p 2:=.inl (R,h)
theorem zge(h:Sdl c Fa A t p):Stg fs c A t p 3:=.inr<|.inl (R,h)
theorem Stg.un(h:Stg fs c A t p n)(J:n≠2)(U:n≠3):Ut fs c A t p n:=by
 rcases h with⟨a,_⟩|⟨a,_⟩|⟨_,_,_,_,z⟩
 .exact Xa a J
 .exact Xa a U
 .exact z
theorem zyb{xs ys:List Nat}(M:xs.Pairwise (· < ·))(J:ys.Pairwise (· < ·))(h:∀k,k∈xs↔k∈ys):xs=ys:=by
 induction xs generalizing ys with
 |nil =>
  cases ys with
  |nil=>rfl
  |cons y ys=>show Xa ((h y).mpr y04) 06
 |cons x xs E =>
  cases ys with
  |nil=>show Xa ((h x).mp y04) 06
  |cons y ys =>
   let O:=y3x.mp M;let I:=y3x.mp J;let j:x=y:=by
    rcases y06.mp ((h x).mp y04)with e|e
    .exact e
    .rcases y06.mp ((h y).mpr y04)with D|D
     .exact D.symm
     .let:=O.1 y D;let:=I.1 x e;omega
   subst j;rw[E O.2 I.2 λk=>?_];constructor
   .intro C;rcases y06.mp ((h k).mp<|y08 _ C)with e|e
    .let:=O.1 k C;omega
    .exact e
   .intro C;rcases y06.mp ((h k).mpr<|y08 _ C)with e|e
    .let:=I.1 k C;omega
    .exact e
theorem zxe(nd:fs.Nodup){m m':Nat}{f:Tf}(h:fs[m]?=G f)(h':fs[m']?=G f):m=m':=(y2y (y09.mp h).1 nd).mp<|h.trans h'.symm
theorem zqc(n:Nat):trn (trn n)=n:=by
 unfold trn;by_cases L:n=2
 .rw[Xq L,Xp 02,Xq R,L]
 .by_cases r:n=3
  .rw[Xp L,Xq r,Xq R,r]
  .rw[Xp L,Xp r,Xp L,Xp r]
theorem zj0(J:n≠2)(U:n≠3):trn n=n:=by unfold trn;rw[Xp J,Xp U]
theorem Stg.neg(h:Stg fs c A t p n):Stg fs (.neg c) A t p (trn n):=by
 rcases h with⟨a,b⟩|⟨a,b⟩|⟨a,b,f,d,z⟩
 .rw[a];show zge b
 .rw[a];show zo1 b
 .rw[zj0 a b];show .inr<|.inr (a,b,d,f,z)
theorem Stg.pos(h:Stg fs (.neg c) A t p n):Stg fs c A t p (trn n):=by
 rcases h with⟨a,b⟩|⟨a,b⟩|⟨a,b,f,d,z⟩
 .rw[a];show zge b
 .rw[a];show zo1 b
 .rw[zj0 a b];show .inr<|.inr (a,b,d,f,z)
theorem zqj{n':Nat}(E:Ut fs c A t p n->Ut fs c A t p n'->n=n')(h:Stg fs c A t p n)(h':Stg fs c A t p n'):n=n':=by
 by_cases L:n=2
 .rw[L,h'.tt.mpr<|h.tt.mp L]
 by_cases r:n=3
 .rw[r,h'.ff.mpr<|h.ff.mp r]
 show E (h.un L r)<|h'.un (λz=>L<|h.tt.mpr (h'.tt.mp z)) λz=>r<|h.ff.mpr (h'.ff.mp z)
theorem Stg.det(nd:fs.Nodup):∀{c:Co} {A:As} {t:Tr} {p:Rd} {n n':Nat},Stg fs c A t p n->Stg fs c A t p n'->n=n'
 |.bare wd i j,A,t,p,n,n',h,h'=>by
  apply zqj (λa b=>?_) h h';show(show n=upM wd (A i) (A j) t p from a).trans (show n'=upM wd (A i) (A j) t p from b).symm
 |.neg c,A,t,p,n,n',h,h'=>by
  let:=Stg.det nd h.pos h'.pos;rw[←zqc n,this,zqc]
 |.con c e,A,t,p,n,n',h,h'=>by
  apply zqj (λh h'=>?_) h h';let(m,x,y,rfl,e1,Y,g):=h;let(m',f,Q,rfl,J,O,b2):=h';rw[Stg.det nd Y O,Stg.det nd g b2]at e1;rw[zxe nd e1 J]
 |.so st i c,A,t,p,n,n',h,h'=>by
  apply zqj (λh h'=>?_) h h';let(m,u,ks,rfl,e1,q,d,iff,un):=h;let(m',L,ks',rfl,J,o,T,H,v):=h';let ek:ks=ks':=zyb q o λk=>(iff k).trans (H k).symm;subst ek;let:frm st u ks=frm st L ks:=by
   cases st with
   |true=>rfl
   |false=>rw[Stg.det nd (un R)<|v R]
  rw[this]at e1;rw[zxe nd e1 J]
theorem zqd{f:Tf}(h:fs <+:fs')(e1:fs[m]?=G f):fs'[m]?=G f:=zhw h e1
theorem zj1{f:Tf}(h:fs <+:fs')(l:m<fs.length)(e1:fs'[m]?=G f):fs[m]?=G f:=by
 let(z,rfl):=h;rwa[y0q l]at e1
theorem s3_u{Y Nq U U':Prop}(h:S3 n Y Nq U)(f:U->U'):S3 n Y Nq U':=h.imp id id id id f
theorem Ut.ext(nd:fs'.Nodup)(pr:fs <+:fs'):∀{c:Co} {A:As} {t:Tr} {p:Rd} {n:Nat},Ut fs c A t p n->Ut fs' c A t p n
 |.bare _ _ _,A,t,p,n,h=>h
 |.neg c,A,t,p,n,h=>Ut.ext nd pr (c:=c) h
 |.con c e,A,t,p,n,(m,x,y,M,e1,Y,g)=>(m,x,y,M,zqd pr e1,s3_u Y<|Ut.ext nd pr,s3_u g<|Ut.ext nd pr)
 |.so st i c,A,t,p,n,(m,u,ks,M,e1,q,d,iff,un)=>by
  apply(m,u,ks,M,zqd pr e1,q,λS I=>let(k,z):=d S I;(k,s3_u z<|Ut.ext nd pr),λk=>?_,λe=>s3_u (un e)<|Ut.ext nd pr);constructor
  .intro C;let(U,S,I,z):=(iff k).mp C;show(U,S,I,s3_u z<|Ut.ext nd pr)
  .rintro⟨U,S,I,z⟩;let(k0,r):=d S I;let:k=k0:=Stg.det nd (c:=c) z<|s3_u r (Ut.ext nd pr);subst this;show(iff k).mpr (U,S,I,r)
theorem Stg.ext(nd:fs'.Nodup)(pr:fs <+:fs')(h:Stg fs c A t p n):Stg fs' c A t p n:=s3_u h<|Ut.ext nd pr
theorem Ut.cut(T:TTb fs)(nd:fs'.Nodup)(pr:fs <+:fs'):∀{c:Co} {A:As} {t:Tr} {p:Rd} {n:Nat},n<fs.length+4->Ut fs' c A t p n->Ut fs c A t p n
 |.bare _ _ _,A,t,p,n,o,h=>h
 |.neg c,A,t,p,n,o,h=>Ut.cut T nd pr (c:=c) o h
 |.con c e,A,t,p,n,o,(m,x,y,M,e1,Y,g)=>by
  let e1:=zj1 pr 00 e1;let ok:=T.at_ _ _ e1;let l:=(y09.mp e1).1;show(m,x,y,M,e1,s3_u Y<|Ut.cut T nd pr (by have:=ok.1;omega),s3_u g<|Ut.cut T nd pr (by have:=ok.2;omega))
 |.so st i c,A,t,p,n,o,(m,u,ks,M,e1,q,d,iff,un)=>by
  let e1:=zj1 pr 00 e1;let ok:=T.at_ _ _ e1;let l:=(y09.mp e1).1;let a:∀k∈ks,k<fs.length+4:=λk C=>by
   cases st with
   |true=>have:=ok.2 k C;omega
   |false=>have:=ok.2.2 k C;omega
  apply(m,u,ks,M,e1,q,λS I=>?_,λk=>?_,λe=>?_)
  .let(k,z):=d S I;apply(k,?_);by_cases U:k=3
   .exact zge (c:=c) ((Stg.ff (c:=c) z).mp U)|> λw=>U▸w
   .exact s3_u z<|Ut.cut T nd pr (a k<|(iff k).mpr (U,S,I,z))
  .constructor
   .intro C;let(U,S,I,z):=(iff k).mp C;show(U,S,I,s3_u z<|Ut.cut T nd pr (a k C))
   .rintro⟨U,S,I,z⟩;show(iff k).mpr (U,S,I,s3_u z<|Ut.ext nd pr)
  .subst e;show s3_u (un R)<|Ut.cut T nd pr (by have:=ok.1;omega)
theorem Stg.cut(T:TTb fs)(nd:fs'.Nodup)(pr:fs <+:fs')(o:n<fs.length+4)(h:Stg fs' c A t p n):Stg fs c A t p n:=s3_u h<|Ut.cut T nd pr o
end
def jN(fs:List Tf)(f:Tf):List Tf×Nat:=(nxt fs f,4+nOf (nxt fs f) f)
def jAnd(fs:List Tf)(x y:Nat):List Tf×Nat:=if x=3\/y=3 then(fs,3)else if x=2/\y=2 then(fs,2)else jN fs (.two x y)
def jSo(fs:List Tf)(st:Bool)(u:Nat)(ks:List Nat):List Tf×Nat:=if 2∈ks then(fs,2)else if ks=[]/\(st=Fa->u=3)then(fs,3)else jN fs (frm st u ks)
structure Tx(fs fs':List Tf)(k:Nat):Prop where
 T:TTb fs'
 p:fs <+:fs'
 n:fs'.length<=fs.length+k
structure Kp3(found ks:List Nat):Prop where
 rise:ks.Pairwise (· < ·)
 iff:∀k,k∈ks↔k∈found/\k≠3
section
variable {fs fs' fs1 fs2:List Tf}{f:Tf}{c e:Co}{A:As}{t:Tr}{p:Rd}{n k k' m x y u i:Nat}{st:Bool}{ks found:List Nat}
theorem Tx.refl(T:TTb fs)(k:Nat):Tx fs fs k:=(T,y2a _,by omega)
theorem Tx.trans(a:Tx fs fs' k)(b:Tx fs' fs2 k'):Tx fs fs2 (k+k'):=(b.T,a.p.trans b.p,by have:=a.n;have:=b.n;omega)
theorem Tx.le(a:Tx fs fs' k)(h:k<=k'):Tx fs fs' k':=(a.T,a.p,by have:=a.n;omega)
theorem Tx.len(a:Tx fs fs' k):fs.length<=fs'.length:=a.p.length_le
theorem upM_lt(wd:Str)(X Y:Rd->Bool):∀(t:Tr) (p:Rd),upM wd X Y t p<4
 |.nil,_=>by change 0<4;decide
 |.node _ _ _,_=>mkN_lt _ _ _ _ _
theorem Stg.lt:∀{c:Co} {A:As} {t:Tr} {p:Rd} {n:Nat},Stg fs c A t p n->n<fs.length+4
 |c,A,t,p,n,h=>by
  let a:∀{c:Co} {n:Nat},Ut fs c A t p n->n<fs.length+4:=λ{c}=>by
   induction c with
   |bare wd i j=>intro n (h:n=upM wd (A i) (A j) t p);have:=upM_lt wd (A i) (A j) t p;omega
   |neg c E=>showλ{n} h=>E h
   |con c e _ _=>intro n h;let(m,x,y,rfl,e1,_):=h;have:=(y09.mp e1).1;omega
   |so st i c _=>intro n h;let(m,u,ks,rfl,e1,_):=h;have:=(y09.mp e1).1;omega
  by_cases L:n=2
  .omega
  by_cases r:n=3
  .omega
  show a<|h.un L r
theorem jN_ok(T:TTb fs)(ok:Tf.okAt fs.length f):Tx fs (jN fs f).1 1/\∃m,(jN fs f).2=m+4/\(jN fs f).1[m]?=G f:=by
 let O:Tx fs (jN fs f).1 1/\f∈(jN fs f).1:=by
  change Tx fs (nxt fs f) 1/\f∈nxt fs f;by_cases U:f∈fs
  .rw[zko U];show(Tx.refl T 1,U)
  .rw[ze8 U];apply(((λm d e=>?_,?_),y1x _ _,by simp),by simp)
   .by_cases l:m<fs.length
    .rw[y0q l]at e;show T.at_ _ _ e
    .let:m=fs.length:=by have:=(y09.mp e).1;simp at this;omega
     subst this;rw[y0n 00,y43]at e;cases e;show ok
   .rw[y3y];show(T.nd,by simp,λa L b Y e=>by rw[y03.mp Y]at e;subst e;show U L)
 show(O.1,nOf (nxt fs f) f,by change 4+_=_;omega,zca O.2)
theorem zsx(K:Kp3 found ks)(U:∀k∈found,k<fs.length+4)(g:st=Fa->u<fs.length+4):Tf.okAt fs.length (frm st u ks):=by
 cases st with
 |true=>show(K.rise,λk C=>U k ((K.iff k).mp C).1)
 |false=>show(g R,K.rise,λk C=>U k ((K.iff k).mp C).1)
theorem zsn(T:TTb fs)(O:Stg fs c A t p x)(I:Stg fs e A t p y):Stg (jAnd fs x y).1 (.con c e) A t p (jAnd fs x y).2:=by
 unfold jAnd;split
 .rename_i h;show zge<|h.elim (λz=>.inl<|O.ff.mp z) λz=>.inr<|I.ff.mp z
 split
 .rename_i M h;show zo1 (O.tt.mp h.1,I.tt.mp h.2)
 .rename_i M J;let(X,m,em,ef):=jN_ok (f:=.two x y) T (O.lt,I.lt);rw[em];show .inr<|.inr (by omega,by omega,λz=>J (O.tt.mpr z.1,I.tt.mpr z.2),λz=>M<|Or.imp O.ff.mpr I.ff.mpr z,m,x,y,R,ef,O.ext X.T.nd X.p,I.ext X.T.nd X.p)
theorem zoe(T:TTb fs)(K:Kp3 found ks)(d:∀S,Ch st S t p->∃k,(k∈found\/k=3)/\Stg fs c 012 t p k)(snd:∀k∈found,∃S,Ch st S t p/\Stg fs c 012 t p k)(un:st=Fa->Stg fs c (A.put i noR) t p u):Stg (jSo fs st u ks).1 (.so st i c) A t p (jSo fs st u ks).2:=by
 unfold jSo;by_cases M:2∈ks
 .rw[Xq M];let(S,I,z):=snd 2 ((K.iff 2).mp M).1;show zo1 (S,I,z.tt.mp R)
 rw[Xp M];by_cases J:ks=[]/\(st=Fa->u=3)
 .rw[Xq J];apply zge (λS I=>?_,λe=>(un e).ff.mp<|J.2 e);let(k,C,z):=d S I;apply z.ff.mp ?_;rcases C with C|C
  .exact Classical.byContradiction λQ=>by have:=(K.iff k).mpr (C,Q);rw[J.1]at this;cases this
  .exact C
 .rw[Xp J];let(X,m,em,ef):=jN_ok T<|zsx (u:=u) (st:=st) K (λk C=>let(_,_,z):=snd k C;z.lt) λe=>(un e).lt;rw[em];apply .inr<|.inr (by omega,by omega,λz=>?_,λz=>?_,m,u,ks,R,ef,K.rise,λS I=>?_,λk=>?_,λe=>(un e).ext X.T.nd X.p)
  .let(S,I,z):=z;let(k,C,w):=d S I;let:=w.tt.mpr z;subst this;show M<|(K.iff 2).mpr (C.resolve_right 02,by decide)
  .refine J (List.eq_nil_iff_forall_not_mem.mpr λk C=>?_,λe=>(un e).ff.mpr<|z.2 e);let(g,a):=(K.iff k).mp C;let(S,I,w):=snd k g;show a<|w.ff.mpr (z.1 S I)
  .let(k,_,w):=d S I;show(k,w.ext X.T.nd X.p)
  .constructor
   .intro C;let(g,a):=(K.iff k).mp C;let(S,I,w):=snd k g;show(a,S,I,w.ext X.T.nd X.p)
   .rintro⟨U,S,I,z⟩;let(k0,j,w):=d S I;let:k=k0:=Stg.det X.T.nd (c:=c) z<|w.ext X.T.nd X.p;subst this;show(K.iff k).mpr (j.resolve_right U,U)
end
def LetA(l:Nat)(A:As)(p:Rd):Prop:=∀k,k<=4->bit l k=A k p
def Fr0(b:Nat)(A:As):Prop:=∀k q,b<=k->A k q=Fa
def wl:Nat->Co->Prop
 |b,.bare _ i j=>i<=4/\j<=4
 |b,.neg c=>wl b c
 |b,.con c e=>wl b c/\wl b e
 |b,.so _ i c=>i=b/\b<=4/\wl (b+1) c
def Stpt(fs o:List Tf)(b:Nat)(c:Co)(l k1 k2 n:Nat):Prop:=∀(pl:Nat->Bool) (A:As) (lab:Nat) (a E:Tr) (p:Rd),wt pl c->wl b c->Fr0 b A->Vl pl A (.node lab a E) p->LetA l A p->Stg fs c A a 19 k1->Stg fs c A E 34 k2->Stg o c A (.node lab a E) p n
section
variable {fs fs' fs1 fs2:List Tf}{c e:Co}{A:As}{p:Rd}{b l n k k1 k2 m1 m2 i:Nat}{st:Bool}
theorem Stpt.ext(nd:fs2.Nodup)(h:Stpt fs fs1 b c l k1 k2 n)(pr:fs1 <+:fs2):Stpt fs fs2 b c l k1 k2 n:=λpl A lab a E p w1 w2 f v la s1 s2=>(h pl A lab a E p w1 w2 f v la s1 s2).ext nd pr
theorem Stpt.pre(nd:fs1.Nodup)(h:Stpt fs1 fs2 b c l k1 k2 n)(pr:fs <+:fs1):Stpt fs fs2 b c l k1 k2 n:=λpl A lab a E p w1 w2 f v la s1 s2=>h pl A lab a E p w1 w2 f v la (s1.ext nd pr)<|s2.ext nd pr
theorem Stpt.up(T:TTb fs)(nd:fs'.Nodup)(pr:fs <+:fs')(h:Stpt fs fs b c l k1 k2 n)(M:k1<fs.length+4)(J:k2<fs.length+4):Stpt fs' fs' b c l k1 k2 n:=λpl A lab a E p w1 w2 f v la s1 s2=>(h pl A lab a E p w1 w2 f v la (s1.cut T nd pr M)<|s2.cut T nd pr J).ext nd pr
theorem stpt_y(h:k1=2\/k2=2):Stpt fs fs b c l k1 k2 2:=λpl A lab a E p w1 w2 f v la s1 s2=>zo1<|h.elim (λz=>zb3 w1 v<|s1.tt.mp z) λz=>zb2 w1 v<|s2.tt.mp z
theorem stpt_n(h:k1=3\/k2=3):Stpt fs fs b c l k1 k2 3:=λpl A lab a E p w1 w2 f v la s1 s2=>zge<|h.elim (λz=>zb3 w1 v<|s1.ff.mp z) λz=>zb2 w1 v<|s2.ff.mp z
theorem zud(g:k1≠2)(J:k1≠3)(b2:k2≠2)(Q:k2≠3)(h:Stpt fs fs1 b c l k1 k2 n):Stpt fs fs1 b (.neg c) l k1 k2 (trn n):=λpl A lab a E p w1 w2 f v la s1 s2=>by
 let x:=s1.pos;let C:=s2.pos;rw[zj0 g J]at x;rw[zj0 b2 Q]at C;show(h pl A lab a E p w1 w2 f v la x C).neg
theorem zqh{wd:Str}{i j:Nat}(g:k1≠2)(J:k1≠3)(b2:k2≠2)(Q:k2≠3):Stpt fs fs b (.bare wd i j) l k1 k2 (mkN wd (bit l i) (bit l j) k1 k2):=λpl A lab a E p w1 w2 f v la s1 s2=>by
 let o:k1=upM wd (A i) (A j) a 19:=s1.un g J;let d:k2=upM wd (A i) (A j) E 34:=s2.un b2 Q;let y:upM wd (A i) (A j) (.node lab a E) p=mkN wd (bit l i) (bit l j) k1 k2:=by
  change mkN wd (A i p) (A j p) _ _=_;rw[←o,←d,la i w2.1,la j w2.2]
 by_cases L:mkN wd (bit l i) (bit l j) k1 k2=2
 .rw[L];show zo1<|y.trans L
 by_cases r:mkN wd (bit l i) (bit l j) k1 k2=3
 .rw[r];show zge<|y.trans r
 show .inr<|.inr (L,r,λz=>L<|y.symm.trans z,λz=>r<|y.symm.trans z,y.symm)
theorem zue{j d H u x y:Nat}(T:TTb fs1)(e1:fs[m1]?=G (.two j d))(L:fs[m2]?=G (.two H u))(M:Stpt fs fs1 b c l j H x)(J:Stpt fs fs1 b e l d u y):Stpt fs (jAnd fs1 x y).1 b (.con c e) l (m1+4) (m2+4) (jAnd fs1 x y).2:=λpl A lab a E p w1 w2 f v la s1 s2=>by
 let(m,s,Q,em,D,Y,g):=s1.un 00 00;let(m',q,o,C,r,O,b2):=s2.un 00 00;obtain rfl:m1=m:=by omega
 obtain rfl:m2=m':=by omega
 rw[e1]at D;rw[L]at r;cases D;cases r;show zsn T (M pl A lab a E p w1.1 w2.1 f v la Y O)<|J pl A lab a E p w1.2 w2.2 f v la g b2
end
inductive Fm where
 |bare (w:Str) (i j:Nat)
 |neg (n:Nat)
 |two (a b:Nat)
 |set (b:Nat) (ks:List Nat)
 |plc (b u:Nat) (ks:List Nat)
deriving DecidableEq
inductive Chs(b:Nat):List Nat->List Nat->Prop
 |nil:Chs b [] []
 |out {c:Nat} {r r':List Nat}:Chs b r r'->Chs b (c::r) (c::r')
 |inn {c:Nat} {r r':List Nat}:Chs b r r'->Chs b (c::r) ((c|||2^b)::r')
inductive Put(b:Nat):List Nat->List Nat->Prop
 |here {c:Nat} {r:List Nat}:Put b (c::r) ((c|||2^b)::r)
 |next {c:Nat} {r r':List Nat}:Put b r r'->Put b (c::r) (c::r')
section
variable {fs fs' Bq:List Fm}{h h' t t' g g' l:Nat}{φ φ':List Nat->Prop}
def Fm.okAt(m:Nat):Fm->Prop
 |.bare w _ _=>w∈rowWords\/w="here"
 |.neg n=>2<=n/\n<m+2
 |.two a b=>2<=a/\a<b/\b<m+2
 |.set _ ks=>ks.Pairwise (· < ·)/\∀k∈ks,2<=k/\k<m+2
 |.plc _ u ks=>u<m+2/\ks.Pairwise (· < ·)/\∀k∈ks,2<=k/\k<m+2
structure FTb(fs:List Fm):Prop where
 at_:∀(m:Nat) (f:Fm),fs[m]?=G f->Fm.okAt m f
 nd:fs.Nodup
end
structure Ex(fs fs':List Fm)(k:Nat):Prop where
 T:FTb fs'
 p:fs <+:fs'
 n:fs'.length<=fs.length+k
def Cho(n:Str)(b:Nat)(r r':List Nat):Prop:=if isPl n=N then Put b r r' else Chs b r r'
def hs:List Str->Sy->List Nat->Prop
 |tl,.bare w n m,r=>aend w (brun w 052 (tl.idxOf m) 2 r)=N
 |tl,.neg s,r=>¬hs tl s r
 |tl,.two w s t,r=>if w="and" then hs tl s r/\hs tl t r else hs tl s r\/hs tl t r
 |tl,.qu w n s,r=>if w="some" then∃r',Cho n tl.length r r'/\hs 024 s r' else∀r',Cho n tl.length r r'->hs 024 s r'
end SM
namespace L2
section
variable {P:ik}{w:World}{A:iq}{E:Y0}{s:ii}
theorem zl1{F:List Int}(hh:A.handled=B)(x:SetTs P w s.heap a ks)(h64:F.length<64)(j:∀k∈ks,k∈F)
  (q:∀(L:Ad) (vs:List Va) (ns:List Int) (n:Nat) (h':Heap) (d:Drawn) (tk:Nat),jx vs ns->ns.Pairwise (· < ·)->(∀k,k∈ns↔k∈ks)->s.heap.objs.size<=L->h'.get? L=G (seqObj "list" vs.toArray n)->s.toks<=tk->(∀b u,s.heap.get? b=G u->h'.get? b=G u)->Q (.ref L) {s with heap:=h',drawn:=d,toks:=tk}) :
  wpAny 011 A (call (.builtin "sorted") [.ref a]) Q E s:=by
 let(n,hn,o,es,ep,t,T,O,hd,(M,J),(U,h4,hsz),tb,ap):=x;apply Calls.call_function_entry kind_sorted plain_sorted entry_sorted (args_sorted1 _) ?_;unfold Builtin.«sorted»;apply ie (m:=checkCount "sorted" 1 1 _)<|ig ?_;let l:∀e∈es.toList,(j7 P w).is (iv e.2) e.2=N:=λe he=>by
  let((k,C,_),_):=M e he;let(t,D):=Va.isInt_shape C;rw[D]at C ⊢;show C
 let ivn:(es.toList.map λe=>iv e.2).Nodup:=by
  rw[List.Nodup,List.pairwise_map];apply List.Pairwise.imp_of_mem (λ{x y} O I z e=>?_) ap;let h:=z _<|l x O;rw[e,l y I]at h;cases h
 let hes:es.size<=F.length:=by
  rw[←y1i,←y00 (f:=λe:Int×Va=>iv e.2)];apply ivn.length_le_of_subset λy I=>?_;let(e,he,rfl):=y0g.mp I;show j _<|of_decide_eq_true ((J _).mpr (e,he,l e he))
 apply ie<|zm1 hh T O O.1 hd h4 tb (show es.size<=ij by unfold ij;omega) λvs h' d tk pm le htk C=>?_;let H:∀v∈vs,∃i t,v=.int i t:=λv hv=>by
  let(e,he,rfl):=y0g.mp<|pm.mem_iff.mp hv;let((k,C,_),_):=M e he;let(t,e):=Va.isInt_shape C;show(k,t,e)
 let hI:=zsq H;let c:vs.length<64:=by
  rw[pm.length_eq,y00,y1i];omega
 apply ie<|wpAny_newList ?_;let p:(h'.push<|seqObj "list" vs.toArray 0).get? h'.objs.size=G (seqObj "list" vs.toArray 0):=y0c _ rfl;change wpAny _ _ _ _ _ {s with heap:=h'.push<|seqObj "list" vs.toArray 0,drawn:=d,toks:=tk};apply ie<|iA (iw slot_list_sort (_,p,R) entry_list_sort (list_sort_tree p hI c λout r Y g a3=>(_,R,?_))<|args_list_sort _);let pe:r.Perm (es.toList.map λe=>iv e.2):=by
  apply g.trans ?_;let:=pm.map iv;rwa[y0w]at this
 let(ne,hat):=sortedHeap_at (out:=out) p;apply ig (_,R,q _ out.toList r ne _ d tk Y (zhj a3 ?_) (λk=>?_) le hat htk λb u e=>?_)
 .exact pe.nodup_iff.mpr ivn
 .rw[pe.mem_iff,y0g];let:=J k;rw[decide_eq_true_eq]at this;rw[this];constructor
  .rintro⟨e,he,rfl⟩;show(e,he,l e he)
  .rintro⟨e,he,C⟩;let(t,D):=Va.isInt_shape C;show(e,he,by rw[D];rfl)
 .let lb:b<h'.objs.size:=y0k (y0h e) le;apply(sortedHeap_old (y0m lb) ?_).trans<|y01 _ (C b u e);rw[y12];show y2x lb
end
def rSortF(P:ik)(w:World):List V->Hp->VK->Prop:=λxs H Q=>∃(p:Ad) (ns F:List Int),xs=[.ref p]/\H p=G (setI P w p ns)/\F.length<64/\(∀k∈ns,k∈F)/\∀(ms:List Int),ms.Pairwise (· < ·)->(∀k,k∈ms↔k∈ns)->∀L H',New H L (.lst<|ms.map V.int) H'->Q (.ref L) H'
theorem zfz{X:Cx}(hc:X.calm=N):CallR X (.builtin "sorted") (rSortF X.prog X.w):=by
 intro Y s U H xs us Q I r h;let(p,ns,F,rfl,O,hz,j,q):=h;let(u,rfl,A):=vals1 r;cases(show u=Va.ref p from A);let(x,_):=I.hok p _ O;apply zl1 037 x hz j λL vs ms n h' d tk e g J le a f k=>?_;let c:Vals (ms.map V.int) vs:=zho e;let nf:H L=B:=I.hok.fresh le;apply(.ref L,_,(I.laid (t':=tk) (o:=.lst<|ms.map V.int) k le (?_,vs,n,c,a)).drew d,R,q ms g J L _<|New.mk' nf _);rw[y00];let nd:ms.Nodup:=g.imp λh=>by omega
 let:ms.length<=F.length:=nd.length_le_of_subset λy i=>j y<|(J y).mp i;show zah 00
open PyProof.Rows.LSm
end L2
namespace SM
open PySem PySem.Spec PyProof.Rows L2 SS
noncomputable def kL(ks:List Nat):Key2:=.inr (ks.map λn:Nat=>(.inl (n:Int):Key))
theorem zsl{a b:Nat}(h:kI a=kI b):a=b:=by injection h with h;injection h with h;omega
theorem zsk:∀{a b:List Nat},kL a=kL b->a=b
 |[],[],_=>rfl
 |[],_::_,h=>by simp[kL]at h
 |_::_,[],h=>by simp[kL]at h
 |x::a,y::b,h=>by
  let M:=Sum.inr.inj h;rw[y0p,y0p]at M;injection M with J U
  let e:a=b:=zsk<|congrArg Sum.inr U;let:(x:Int)=y:=Sum.inl.inj J;rw[e,show x=y by omega]
theorem zoa{n:Nat}(h:n<1000000):n<ij:=y2c h 02
section
variable {P:ik}{w:World}{C:Ad}{A:LA}{fs fs' fs2:List Fm}{sts sts' sts2:List (List Key×V)}{H0 H H' H2:Hp}{k k':Nat}{D:Ad}
theorem kLv(ks:List Nat):(ks.map λn:Nat=>(.inl (n:Int):Key)).map kV=ks.map nV:=by rw[y0w];rfl
theorem lor_c{c b:Nat}(g:c<32)(Y:b<=4):Builtin.bitOr (c:Int) ((2^b:Nat):Int)=((c|||2^b:Nat):Int)/\c|||2^b<32:=by
 let h:∀(c:Fin 32) (a:Fin 5),Builtin.bitOr ((c:Nat):Int) ((2^(a:Nat):Nat):Int)=(((c:Nat)|||2^(a:Nat):Nat):Int)/\((c:Nat)|||2^(a:Nat):Nat)<32:=by decide+kernel
 show h (c,g) (b,by omega)
end
theorem zp8(row:List Nat)(k:Nat):(wth row k).length=cw row k:=by rw[←zyh,zq8];rfl
theorem bit_lor{c b k:Nat}(g:c<32)(Y:b<=4)(C:k<=4):bit (c|||2^b) k=(bit c k||decide (k=b)):=by
 let h:∀(c:Fin 32) (b k:Fin 5),bit ((c:Nat)|||2^(b:Nat)) k=(bit c k||decide ((k:Nat)=b)):=by decide+kernel
 show h (c,g) (b,by omega) (k,by omega)
theorem bit_low{c b:Nat}(h:c<2^b):bit c b=Fa:=by
 unfold bit;rw[Nat.div_eq_of_lt h];rfl
noncomputable def subs:Nat->List (List Nat)
 |0=>[[]]
 |n+1=>subs n++(subs n).map (· ++ [n])
def chos(z:Str)(n:Nat):List (List Nat):=if isPl z=N then(List.range n).map λp=>[p]else subs n
theorem zua(n:Nat):(subs n).length=2^n:=by
 induction n with
 |zero=>rfl
 |succ n E=>unfold subs;rw[y02,y00,E,y3k];omega
theorem zjj(p:Nat->Bool):∀n,(List.range n).filter p∈subs n
 |0=>by simp[subs]
 |n+1=>by
  rw[y2d,y1o];unfold subs;cases h:p n with
  |true =>
   rw[show[n].filter p=[n] by simp[h]];show y0o.mpr<|.inr (y0g.mpr (_,zjj p n,R))
  |false =>
   rw[show[n].filter p=[] by simp[h],y1k];show y0o.mpr<|.inl (zjj p n)
theorem zf2:∀(n:Nat) (cs:List Nat),cs∈subs n->∃p,cs=(List.range n).filter p
 |0,cs,h=>(λ_=>Fa,by simp[subs]at h;simp[h])
 |n+1,cs,h=>by
  let a:∀(p q:Nat->Bool),(∀x,x<n->p x=q x)->(List.range n).filter p=(List.range n).filter q:=λp q h=>y2g λx O=>h x<|y11.mp O;unfold subs at h;rcases y0o.mp h with h|h
  .let(p,rfl):=zf2 n cs h;apply(λx=>if x=n then Fa else p x,?_);rw[y2d,y1o,a _ p λx O=>Xp 00];simp
  .let(ds,hd,rfl):=y0g.mp h;let(p,rfl):=zf2 n ds hd;apply(λx=>if x=n then N else p x,?_);rw[y2d,y1o,a _ p λx O=>Xp 00];simp
theorem zwb{i n:Nat}(h:i<n):(List.range n).filter (λx=>decide (x=i+0))=[i]:=by
 induction n with
 |zero=>cases h
 |succ n E =>
  rw[y2d,y1o];by_cases e:i=n
  .subst e;rw[y4j.mpr λx O=>by have:=y11.mp O;simp;omega];simp
  .rw[E 00];simp[show¬n=i by omega]
section
variable {fs fs1:List Tf}{c:Co}{A:As}{p:Rd}{b l lab:Nat}{a bt:Tr}{S:Rd->Bool}
theorem zep(A:As)(i:Nat)(S:Rd->Bool)(q:Rd):012 i q=S q:=by unfold As.put;rw[Xq rfl]
theorem zhu{A:As}{i k:Nat}{S:Rd->Bool}(h:k≠i):012 k=A k:=by unfold As.put;rw[Xp h]
theorem zkt(f:Fr0 b A)(S:Rd->Bool):Fr0 (b+1) 022:=λk q C=>by rw[zhu 00];show f k q 00
theorem zjf(f:Fr0 b A)(la:LetA l A p)(h:S p=Fa):LetA l 022 p:=λk C=>by
 by_cases e:k=b
 .subst e;rw[zep,h,la k C,f k p 37]
 .rw[zhu e];show la k C
theorem zw8(j:l<32)(Y:b<=4)(la:LetA l A p)(h:S p=N):LetA (l|||2^b) (A.put b S) p:=λk C=>by
 rw[bit_lor j Y C];by_cases e:k=b
 .subst e;rw[zep,h,Xg R,y4l]
 .rw[zhu e,Xf e,y2h];show la k C
theorem zdk{q:Rd}(h:q∈rds a 19):q≠p:=λe=>za0<|e▸h
theorem zdj{q:Rd}(h:q∈rds bt 34):q≠p:=λe=>za0<|e▸h
theorem zfj{t:Tr}{q0:Rd}{S':Rd->Bool}(h:∀q∈rds t q0,S q=S' q):Agr 022 (A.put b S') t q0:=λk q D=>by
 by_cases e:k=b
 .subst e;rw[zep,zep];show h q D
 .rw[zhu e,zhu e]
structure Rdx(fs:List Tf)(b:Nat)(c:Co)(l k1 k2 s:Nat)(pl:Nat->Bool)(A:As)(lab:Nat)(a bt:Tr)(p:Rd):Prop where
 w1:wt pl c
 w2:wl b c
 f:Fr0 b A
 v:Vl pl A (.node lab a bt) p
 la:LetA l A p
 s1:Stg fs c A a 19 k1
 s2:Stg fs c A bt 34 k2
 sz:a.size+bt.size+1<=s
variable {pl:Nat->Bool}{k1 k2 m1 m2 n s u u1 u2:Nat}{S1 S2:Rd->Bool}{ks ks1 ks2 found:List Nat}
theorem Stpt.by(q:Stpt fs fs1 b c l k1 k2 n)(X:Rdx fs b c l k1 k2 s pl A lab a bt p):Stg fs1 c A (.node lab a bt) p n:=q pl A lab a bt p X.w1 X.w2 X.f X.v X.la X.s1 X.s2
theorem set_go(f:Ch N S1 a 19)(Q:Ch N S2 bt 34)(U:Stg fs c (A.put b S1) a 19 k1)(E:Stg fs c (A.put b S2) bt 34 k2)(fl:Bool):∃S,Ch N S (.node lab a bt) p/\S p=fl/\Stg fs c 022 a 19 k1/\Stg fs c 022 bt 34 k2:=by
 apply(λq=>S1 q||S2 q||(fl&&decide (q=p)),?_,?_,Stg.agr (zfj λq D=>?_) U,Stg.agr (zfj λq D=>?_) E)
 .unfold Ch;rw[Xq rfl];intro q D;simp only[y3p,y07,decide_eq_true_eq]at D;rcases D with(h|h)|h
  .exact rds_node.mpr<|.inr (.inl<|zjn f q h)
  .exact rds_node.mpr<|.inr (.inr<|zjn Q q h)
  .exact rds_node.mpr<|.inl h.2
 .let M:S1 p=Fa:=by
   cases e:S1 p with
   |false=>rfl
   |true=>show(za0<|zjn f p e).elim
  let J:S2 p=Fa:=by
   cases e:S2 p with
   |false=>rfl
   |true=>show(za0<|zjn Q p e).elim
  change(S1 p||S2 p||(fl&&decide (p=p)))=fl;rw[M,J,Xg R,y31];rfl
 .change S1 q=(S1 q||S2 q||(fl&&decide (q=p)));rw[zkw Q q D,Xf<|zdk D,y2j,y2h,y2h]
 .change S2 q=(S1 q||S2 q||(fl&&decide (q=p)));rw[zkv f q D,Xf<|zdj D,y2j,y2h,y3g]
theorem Rdx.set(j:l<32)(X:Rdx fs b (.so N b c) l n k s pl A lab a bt p){S:Rd->Bool}(I:Ch N S (.node lab a bt) p)(d:Stg fs c 022 a 19 k1)(Y:Stg fs c 022 bt 34 k2):Rdx fs (b+1) c (if S p=N then l|||2^b else l) k1 k2 s (plU pl b<|!N) (A.put b S) lab a bt p :=
 ⟨X.w1,X.w2.2.2,zkt X.f S,X.v.put<|.inl I,by
  by_cases U:S p=N
  .rw[Xq U];show zw8 j X.w2.2.1 X.la U
  .rw[Xp U];show zjf X.f X.la (by cases e:S p with|false=>rfl|true=>show Xa e U),d,Y,X.sz⟩
theorem Rdx.sets(j:l<32)(X:Rdx fs b (.so N b c) l (m1+4) (m2+4) s pl A lab a bt p)(e1:fs[m1]?=G (.set ks1))(L:fs[m2]?=G (.set ks2)):∀x∈ks1,∀y∈ks2,∀fl:Bool,∃S,Ch N S (.node lab a bt) p/\Rdx fs (b+1) c (if fl=N then l|||2^b else l) x y s (plU pl b<|!N) (A.put b S) lab a bt p:=by
 let(m,u,ks',em,D,q,d,iff,_):=X.s1.un 00 00;let(m',e,g,C,r,o,T,H,_):=X.s2.un 00 00;obtain rfl:m1=m:=by omega
 obtain rfl:m2=m':=by omega
 rw[e1]at D;rw[L]at r;cases D;cases r;intro x O y I fl;let(_,S1,f,U):=(iff x).mp O;let(_,S2,Q,E):=(H y).mp I;let(S,J,v,i,Y):=set_go (fs:=fs) (c:=c) (lab:=lab) f Q U E fl;let:=X.set j J i Y;rw[v]at this;show(S,J,this)
theorem Rdx.set_snd(j:l<32)(X:Rdx fs b (.so N b c) l (m1+4) (m2+4) s pl A lab a bt p)(e1:fs[m1]?=G (.set ks1))(L:fs[m2]?=G (.set ks2))(y:∃k1∈ks1,∃k2∈ks2,Stpt fs fs1 (b+1) c l k1 k2 n\/Stpt fs fs1 (b+1) c (l|||2^b) k1 k2 n):∃S,Ch N S (.node lab a bt) p/\Stg fs1 c (A.put b S) (.node lab a bt) p n:=by
 let(k1,g,k2,d,q):=y;rcases q with q|q
 .let(S,I,Y):=X.sets j e1 L k1 g k2 d Fa;show(S,I,q.by Y)
 .let(S,I,Y):=X.sets j e1 L k1 g k2 d N;show(S,I,q.by Y)
theorem zub(j:l<32)(T:TTb fs1)(e1:fs[m1]?=G (.set ks1))(L:fs[m2]?=G (.set ks2))(K:Kp3 found ks)
  (f1:∀k1∈ks1,∀k2∈ks2,(∃n∈found,Stpt fs fs1 (b+1) c l k1 k2 n)/\∃n∈found,Stpt fs fs1 (b+1) c (l|||2^b) k1 k2 n)
  (y:∀n∈found,∃k1∈ks1,∃k2∈ks2,Stpt fs fs1 (b+1) c l k1 k2 n\/Stpt fs fs1 (b+1) c (l|||2^b) k1 k2 n) :
  Stpt fs (jSo fs1 N 0 ks).1 b (.so N b c) l (m1+4) (m2+4) (jSo fs1 N 0 ks).2:=λpl A lab a bt p w1 w2 f v la s1 s2=>by
 let X:Rdx fs b (.so N b c) l (m1+4) (m2+4) _ pl A lab a bt p:=(w1,w2,f,v,la,s1,s2,y05 _);apply zoe T K (λS I=>?_) (λn o=>X.set_snd j e1 L<|y n o) λe=>by cases e
 let(m,u,ks',em,D,pw,d,iff,_):=s1.un 00 00;let(m',u',g,C,r,pw',tot',H,_):=s2.un 00 00;obtain rfl:m1=m:=by omega
 obtain rfl:m2=m':=by omega
 rw[e1]at D;rw[L]at r;cases D;cases r;let ca:Ch N (cutR S a 19) a 19:=(zoj I).resolve_right λz=>by cases z.1
 let O:Ch N (cutR S bt 34) bt 34:=(zoj I).resolve_right λz=>by cases z.1
 let(k1,U):=d _ ca;let(k2,E):=tot' _ O;let y1:Stg fs c 022 a 19 k1:=Stg.agr (zjv A b S _ _) U;let y2:Stg fs c 022 bt 34 k2:=Stg.agr (zjv A b S _ _) E;let Q:=v.put (i:=b)<|.inl I;by_cases M:k1=3
 .exact(3,.inr R,zge<|zb3 w1 Q (y1.ff.mp M))
 by_cases J:k2=3
 .exact(3,.inr R,zge<|zb2 w1 Q (y2.ff.mp J))
 let((n,o,q),n',x,q'):=f1 k1 ((iff k1).mpr (M,_,ca,U)) k2<|(H k2).mpr (J,_,O,E);let Y:=X.set j I y1 y2;by_cases hp:S p=N
 .rw[Xq hp]at Y;show(n',.inl x,q'.by Y)
 .rw[Xp hp]at Y;show(n,.inl o,q.by Y)
theorem ze1{t:Tr}{q0 x:Rd}(h:x∈rds t q0):Ch Fa (oneR x) t q0:=by unfold Ch;rw[Xp 02];show(x,h,R)
theorem znz{t:Tr}{q0 x:Rd}(h:¬x∈rds t q0):∀q∈rds t q0,noR q=oneR x q:=λq D=>by
 change Fa=decide (q=x);show(Xf λe:q=x=>h<|e▸D).symm
structure Plc4(fs:List Tf)(b:Nat)(c:Co)(l u1 u2 s:Nat)(ks1 ks2:List Nat)(pl:Nat->Bool)(A:As)(lab:Nat)(a bt:Tr)(p:Rd):Prop where
 no:Rdx fs (b+1) c l u1 u2 s (plU pl b<|!Fa) (A.put b noR) lab a bt p
 me:Rdx fs (b+1) c (l|||2^b) u1 u2 s (plU pl b<|!Fa) (A.put b<|oneR p) lab a bt p
 lf:∀x∈rds a (p++[Fa]),∀k,Stg fs c 063 a 19 k->Rdx fs (b+1) c l k u2 s (plU pl b<|!Fa) 063 lab a bt p
 rg:∀x∈rds bt (p++[N]),∀k,Stg fs c 063 bt 34 k->Rdx fs (b+1) c l u1 k s (plU pl b<|!Fa) 063 lab a bt p
 l1:∀k∈ks1,∃x∈rds a (p++[Fa]),Stg fs c 063 a 19 k
 r1:∀k∈ks2,∃x∈rds bt (p++[N]),Stg fs c 063 bt 34 k
 l2:∀x∈rds a (p++[Fa]),∃k,(k∈ks1\/k=3)/\Stg fs c 063 a 19 k
 r2:∀x∈rds bt (p++[N]),∃k,(k∈ks2\/k=3)/\Stg fs c 063 bt 34 k
theorem Rdx.plcs(j:l<32)(X:Rdx fs b (.so Fa b c) l (m1+4) (m2+4) s pl A lab a bt p)(e1:fs[m1]?=G (.plc u1 ks1))(L:fs[m2]?=G (.plc u2 ks2)):Plc4 fs b c l u1 u2 s ks1 ks2 pl A lab a bt p:=by
 let(m,Q,ks',em,D,q,d,iff,un):=X.s1.un 00 00;let(m',J,g,M,r,o,T,H,v):=X.s2.un 00 00;obtain rfl:m1=m:=by omega
 obtain rfl:m2=m':=by omega
 rw[e1]at D;rw[L]at r;cases D;cases r;let un:=un rfl;let v:=v rfl;let w2:=X.w2.2.2;let y:¬p∈rds a 19:=za0;let E:¬p∈rds bt 34:=za0;let back:∀{t:Tr} {q0:Rd} {ks:List Nat} (z:∀k,k∈ks↔k≠3/\∃S,Ch Fa S t q0/\S3 k (Sdl c N 022 t q0) (Sdl c Fa 022 t q0) (Ut fs c 022 t q0 k)),∀k∈ks,∃x∈rds t q0,Stg fs c 063 t q0 k:=λz k C=>by
  let(_,S,I,w):=(z k).mp C;unfold Ch at I;rw[Xp 02]at I;let(x,O,rfl):=I;show(x,O,w)
 let i:∀{t:Tr} {q0:Rd} {ks:List Nat} (f:∀S,Ch Fa S t q0->∃k,S3 k (Sdl c N 022 t q0) (Sdl c Fa 022 t q0)<|Ut fs c 022 t q0 k) (z:∀k,k∈ks↔k≠3/\∃S,Ch Fa S t q0/\S3 k (Sdl c N 022 t q0) (Sdl c Fa 022 t q0) (Ut fs c 022 t q0 k)),∀x∈rds t q0,∃k,(k∈ks\/k=3)/\Stg fs c 063 t q0 k:=λf z x O=>by
  let(k,w):=f _<|ze1 O;apply(k,?_,w);by_cases U:k=3
  .exact .inr U
  .exact .inl<|(z k).mpr (U,_,ze1 O,w)
 show⟨(X.w1,w2,zkt X.f _,X.v.put<|.inr R,zjf X.f X.la R,un,v,X.sz),
  (X.w1,w2,zkt X.f _,X.v.put<|.inl (ze1 028),zw8 j X.w2.2.1 X.la<|Xg R,Stg.agr (zfj<|znz y) un,Stg.agr (zfj<|znz E) v,X.sz),
  λx O k z=>(X.w1,w2,zkt X.f _,X.v.put<|.inl (ze1<|rds_node.mpr (.inr<|.inl O)),zjf X.f X.la<|Xf λe=>zdk O e.symm,z,Stg.agr (zfj<|znz λz=>zb0 O z) v,X.sz),
  λx O k z=>(X.w1,w2,zkt X.f _,X.v.put<|.inl (ze1<|rds_node.mpr (.inr<|.inr O)),zjf X.f X.la<|Xf λe=>zdj O e.symm,Stg.agr (zfj<|znz λz=>zb0 z O) un,z,X.sz),
  back iff,back H,i d iff,i T H⟩
theorem Plc4.snd(Y:Plc4 fs b c l u1 u2 s ks1 ks2 pl A lab a bt p)(y:(∃k1∈ks1,Stpt fs fs1 (b+1) c l k1 u2 n)\/(∃k2∈ks2,Stpt fs fs1 (b+1) c l u1 k2 n)\/Stpt fs fs1 (b+1) c (l|||2^b) u1 u2 n):∃S,Ch Fa S (.node lab a bt) p/\Stg fs1 c (A.put b S) (.node lab a bt) p n:=by
 rcases y with⟨k,C,q⟩|⟨k,C,q⟩|q
 .let(x,O,z):=Y.l1 k C;show(_,ze1<|rds_node.mpr (.inr<|.inl O),q.by<|Y.lf x O k z)
 .let(x,O,z):=Y.r1 k C;show(_,ze1<|rds_node.mpr (.inr<|.inr O),q.by<|Y.rg x O k z)
 .exact(_,ze1 028,q.by Y.me)
theorem zuc(j:l<32)(T:TTb fs1)(e1:fs[m1]?=G (.plc u1 ks1))(L:fs[m2]?=G (.plc u2 ks2))(K:Kp3 found ks)
  (e:Stpt fs fs1 (b+1) c l u1 u2 u) (fp:∃n∈found,Stpt fs fs1 (b+1) c (l|||2^b) u1 u2 n)
  (r:∀k1∈ks1,∃n∈found,Stpt fs fs1 (b+1) c l k1 u2 n) (g:∀k2∈ks2,∃n∈found,Stpt fs fs1 (b+1) c l u1 k2 n)
  (y:∀n∈found,(∃k1∈ks1,Stpt fs fs1 (b+1) c l k1 u2 n)\/(∃k2∈ks2,Stpt fs fs1 (b+1) c l u1 k2 n)\/Stpt fs fs1 (b+1) c (l|||2^b) u1 u2 n) :
  Stpt fs (jSo fs1 Fa u ks).1 b (.so Fa b c) l (m1+4) (m2+4) (jSo fs1 Fa u ks).2:=λpl A lab a bt p w1 w2 f v la s1 s2=>by
 let X:Rdx fs b (.so Fa b c) l (m1+4) (m2+4) _ pl A lab a bt p:=(w1,w2,f,v,la,s1,s2,y05 _);let Y:=X.plcs j e1 L;apply zoe T K (λS I=>?_) (λn o=>Y.snd<|y n o) λ_=>e.by Y.no;unfold Ch at I;rw[Xp 02]at I;let(x,O,rfl):=I;let d:=v.put (i:=b)<|.inl (ze1 O);rcases rds_node.mp O with rfl|O|O
 .let(n,o,q):=fp;show(n,.inl o,q.by Y.me)
 .let(k,U,z):=Y.l2 x O;rcases U with U|U
  .let(n,o,q):=r k U;show(n,.inl o,q.by<|Y.lf x O k z)
  .exact(3,.inr R,zge<|zb3 w1 d (z.ff.mp U))
 .let(k,U,z):=Y.r2 x O;rcases U with U|U
  .let(n,o,q):=g k U;show(n,.inl o,q.by<|Y.rg x O k z)
  .exact(3,.inr R,zge<|zb2 w1 d (z.ff.mp U))
theorem ch_nil{st:Bool}{q0:Rd}(h:Ch st S .nil q0):st=N/\S=noR:=by
 cases st with
 |true=>show(R,funext λq=>by cases e:S q with|false=>rfl|true=>show nomatch zjn h q e)
 |false=>unfold Ch at h;rw[Xp 02]at h;let(x,O,_):=h;show nomatch O
def hT:Co->As->Tr->Prop
 |.bare wd i j,A,t=>holdM wd (upM wd (A i) (A j) t [])=N
 |.neg c,A,t=>¬hT c A t
 |.con c e,A,t=>hT c A t/\hT e A t
 |.so st i c,A,t=>∃S,Ch st S t []/\hT c 012 t
theorem sdl_hT:∀{c:Co} {A:As} {t:Tr},(Sdl c N A t []->hT c A t)/\(Sdl c Fa A t []->¬hT c A t)
 |.bare wd i j,A,t=>by
  apply(λh=>?_,λh z=>?_)
  .change holdM wd (upM wd (A i) (A j) t [])=N;rw[show upM wd (A i) (A j) t []=2 from h];unfold holdM;simp
  .let z:holdM wd (upM wd (A i) (A j) t [])=N:=z;rw[show upM wd (A i) (A j) t []=3 from h]at z;unfold holdM at z;simp at z
 |.neg c,A,t=>(λh=>(sdl_hT (c:=c)).2 h,λh z=>z<|(sdl_hT (c:=c)).1 h)
 |.con c e,A,t=>(λh=>(sdl_hT.1 h.1,sdl_hT.1 h.2),λh z=>Or.elim h (λw=>sdl_hT.2 w z.1) λw=>sdl_hT.2 w z.2)
 |.so st i c,A,t=>(λ(S,I,h)=>(S,I,sdl_hT.1 h),λh (S,I,z)=>sdl_hT.2 (h.1 S I) z)
end
def ans(fs:List Tf):Co->Nat->Bool
 |.bare wd _ _,n=>if n=2 then N else if n=3 then Fa else holdM wd n
 |.neg c,n=>if n=2 then N else if n=3 then Fa else !ans fs c n
 |.con c e,n=>if n=2 then N else if n=3 then Fa else match fs[n-4]? with
  |some (.two x y)=>ans fs c x&&ans fs e y
  |_=>Fa
 |.so _ _ c,n=>if n=2 then N else if n=3 then Fa else match fs[n-4]? with
  |some (.set ks)=>ks.any<|ans fs c
  |some (.plc _ ks)=>ks.any<|ans fs c
  |_=>Fa
section
variable {fs fs':List Tf}{c e:Co}{A Bq:As}{t:Tr}{p:Rd}{n i:Nat}{st:Bool}
theorem ans_2:ans fs c 2=N:=by cases c<;>rfl
theorem ans_3:ans fs c 3=Fa:=by cases c<;>rfl
theorem zou{wd:Str}{i j:Nat}(J:n≠2)(U:n≠3):ans fs (.bare wd i j) n=holdM wd n:=by change(if _ then _ else _)=_;rw[Xp J,Xp U]
theorem ztt(J:n≠2)(U:n≠3):ans fs (.neg c) n=!ans fs c n:=by change(if _ then _ else _)=_;rw[Xp J,Xp U]
theorem ztu{m x y:Nat}(h:fs[m]?=G (.two x y)):ans fs (.con c e) (m+4)=(ans fs c x&&ans fs e y):=by
 change(if _ then _ else _)=_;rw[Xp 00,Xp 00,y3v,h]
theorem zxr{m u:Nat}{ks:List Nat}(h:fs[m]?=G (frm st u ks)):ans fs (.so st i c) (m+4)=ks.any (ans fs c):=by
 change(if _ then _ else _)=_;rw[Xp 00,Xp 00,y3v,h];cases st<;>rfl
theorem zid:∀{c:Co} {A:As} {n:Nat},Stg fs c A t [] n->(ans fs c n=N↔hT c A t)
 |c,A,n,h=>by
  by_cases L:n=2
  .subst L;show(λ_=>sdl_hT.1<|h.tt.mp R,λ_=>ans_2)
  by_cases r:n=3
  .subst r;show(λz=>(by rw[ans_3]at z;cases z),λz=>(sdl_hT.2 (h.ff.mp R) z).elim)
  let u:=h.un L r;cases c with
  |bare wd i j =>
   rw[zou L r];let u:n=upM wd (A i) (A j) t []:=u;rw[u];show Iff.rfl
  |neg c =>
   rw[ztt L r];let:=h.pos;rw[zj0 L r]at this;let E:=zid this;change _ ↔ ¬hT c A t;rw[←E];simp
  |con c e =>
   let(m,x,y,rfl,e1,Y,g):=u;rw[ztu e1,y07];show and_congr (zid Y)<|zid g
  |so st i c =>
   let(m,u,ks,rfl,e1,q,d,iff,un):=u;rw[zxr e1,y46];constructor
   .rintro⟨k,C,z⟩;let(_,S,I,w):=(iff k).mp C;show(S,I,(zid (c:=c) w).mp z)
   .rintro⟨S,I,z⟩;let(k,w):=d S I;let w:Stg fs c 012 t [] k:=w;show(k,(iff k).mpr (λU=>sdl_hT.2 (w.ff.mp U) z,S,I,w),(zid w).mpr z)
def Nth(fs:List Tf)(c:Co)(n:Nat):Prop:=∀A p,Stg fs c A .nil p n
theorem Nth.lt(h:Nth fs c n):n<fs.length+4:=(h (λ_=>noR) []).lt
theorem Nth.ext(nd:fs'.Nodup)(pr:fs <+:fs')(h:Nth fs c n):Nth fs' c n:=λA p=>(h A p).ext nd pr
theorem zvo{wd:Str}{i j:Nat}:Nth fs (.bare wd i j) 0:=λA p=>.inr<|.inr (by decide,by decide,(λz=>by have z:(0:Nat)=2:=z;cases z),(λz=>by have z:(0:Nat)=3:=z;cases z),R)
theorem zzf(h:Nth fs c n):Nth fs (.neg c) (trn n):=λA p=>(h A p).neg
theorem zzg{x y:Nat}(T:TTb fs)(O:Nth fs c x)(I:Nth fs e y):Nth (jAnd fs x y).1 (.con c e) (jAnd fs x y).2:=λA p=>zsn T (O A p)<|I A p
theorem zzd{ks:List Nat}(T:TTb fs)(K:Kp3 [n] ks)(h:Nth fs c n):Nth (jSo fs N 0 ks).1 (.so N i c) (jSo fs N 0 ks).2:=λA p=>zoe T K (λS I=>(n,.inl y04,h _ p)) (λk C=>(noR,zop _ _,by rw[y03.mp C];show h _ p)) λz=>by cases z
theorem zze{ks:List Nat}(T:TTb fs)(K:Kp3 [] ks)(h:Nth fs c n):Nth (jSo fs Fa n ks).1 (.so Fa i c) (jSo fs Fa n ks).2:=λA p=>zoe T K (λS I=>by cases(ch_nil I).1) (λk C=>nomatch C) λ_=>h _ p
def Alk(t:Tr)(p:Rd):Co->As->As->Prop
 |.bare wd i j,A,Bq=>upM wd (A i) (A j) t p=upM wd (Bq i) (Bq j) t p
 |.neg c,A,Bq=>Alk t p c A Bq
 |.con c e,A,Bq=>Alk t p c A Bq/\Alk t p e A Bq
 |.so st i c,A,Bq=>(∀S,Ch st S t p->∃S',Ch st S' t p/\Alk t p c 012 (Bq.put i S'))/\(∀S',Ch st S' t p->∃S,Ch st S t p/\Alk t p c 012 (Bq.put i S'))/\(st=Fa->Alk t p c (A.put i noR) (Bq.put i noR))
theorem Alk.symm:∀{c:Co} {A Bq:As},Alk t p c A Bq->Alk t p c Bq A
 |.bare _ _ _,A,Bq,h=>Eq.symm h
 |.neg c,A,Bq,h=>Alk.symm (c:=c) h
 |.con c e,A,Bq,h=>(Alk.symm h.1,Alk.symm h.2)
 |.so st i c,A,Bq,h=>(λS I=>let(S',a,z):=h.2.1 S I;(S',a,Alk.symm z),λS I=>let(S',a,z):=h.1 S I;(S',a,Alk.symm z),λz=>Alk.symm<|h.2.2 z)
theorem Sdl.alk:∀{c:Co} {y:Bool} {A Bq:As},Alk t p c A Bq->Sdl c y A t p->Sdl c y Bq t p
 |.bare wd i j,y,A,Bq,h,z=>Eq.trans (Eq.symm h) z
 |.neg c,y,A,Bq,h,z=>Sdl.alk (c:=c) h z
 |.con c e,N,A,Bq,h,z=>(Sdl.alk h.1 z.1,Sdl.alk h.2 z.2)
 |.con c e,Fa,A,Bq,h,z=>Or.imp (Sdl.alk h.1) (Sdl.alk h.2) z
 |.so st i c,N,A,Bq,h,(S,I,z)=>let(S',a,w):=h.1 S I;(S',a,Sdl.alk w z)
 |.so st i c,Fa,A,Bq,h,z=>(λS' a=>let(S,I,w):=h.2.1 S' a;Sdl.alk w (z.1 S I),λe=>Sdl.alk (h.2.2 e)<|z.2 e)
theorem Ut.alk:∀{c:Co} {A Bq:As} {n:Nat},Alk t p c A Bq->Ut fs c A t p n->Ut fs c Bq t p n
 |.bare wd i j,A,Bq,n,h,z=>Eq.trans z h
 |.neg c,A,Bq,n,h,z=>Ut.alk (c:=c) h z
 |.con c e,A,Bq,n,h,(m,x,y,e1,L,U,E)=>(m,x,y,e1,L,U.imp (Sdl.alk h.1) (Sdl.alk h.1.symm) (Sdl.alk h.1) (Sdl.alk h.1.symm)<|Ut.alk h.1,E.imp (Sdl.alk h.2) (Sdl.alk h.2.symm) (Sdl.alk h.2) (Sdl.alk h.2.symm)<|Ut.alk h.2)
 |.so st i c,A,Bq,n,h,(m,u,ks,e1,L,q,d,iff,un)=>by
  let go:∀{A Bq:As} (k:Nat),Alk t p c A Bq->S3 k (Sdl c N A t p) (Sdl c Fa A t p) (Ut fs c A t p k)->S3 k (Sdl c N Bq t p) (Sdl c Fa Bq t p) (Ut fs c Bq t p k):=λk w z=>z.imp (Sdl.alk w) (Sdl.alk w.symm) (Sdl.alk w) (Sdl.alk w.symm)<|Ut.alk w;apply(m,u,ks,e1,L,q,λS' a=>?_,λk=>(iff k).trans<|and_congr Iff.rfl (?_,?_),λe=>go u (h.2.2 e)<|un e)
  .let(S,I,w):=h.2.1 S' a;let(k,z):=d S I;show(k,go k w z)
  .rintro⟨S,I,z⟩;let(S',a,w):=h.1 S I;show(S',a,go k w z)
  .rintro⟨S',a,z⟩;let(S,I,w):=h.2.1 S' a;show(S,I,z.imp (Sdl.alk w.symm) (Sdl.alk w) (Sdl.alk w.symm) (Sdl.alk w)<|Ut.alk w.symm)
theorem Stg.alk(w:Alk t p c A Bq)(z:Stg fs c A t p n):Stg fs c Bq t p n:=S3.imp z (Sdl.alk w) (Sdl.alk w.symm) (Sdl.alk w) (Sdl.alk w.symm)<|Ut.alk w
end
def rsubs:List Rd->List (Rd->Bool)
 |[]=>[noR]
 |q::qs=>rsubs qs++(rsubs qs).map λS r=>S r||decide (r=q)
theorem zkb:∀qs,(rsubs qs).length=2^qs.length
 |[]=>rfl
 |q::qs=>by change(rsubs qs++(rsubs qs).map _).length=2^(qs.length+1);rw[y02,y00,zkb qs,y3k];omega
theorem zkc:∀{qs:List Rd} {S:Rd->Bool},(∀q,S q=N->q∈qs)->S∈rsubs qs
 |[],S,h=>by
  rw[show S=noR from funext λq=>by cases e:S q with|false=>rfl|true=>show nomatch h q e];show y03.mpr R
 |x::qs,S,h=>by
  let g:=zkc (qs:=qs) (S:=λr=>S r&&decide (r≠x)) λq D=>by
   rw[y07,decide_eq_true_eq]at D;show(y06.mp<|h q D.1).resolve_left D.2
  cases e:S x with
  |false =>
   apply y1f _ ?_;rwa[show(λr=>S r&&decide (r≠x))=S from funext λr=>?_]at g;by_cases l:r=x
   .rw[l,e];rfl
   .rw[Xg l,y31]
  |true =>
   apply y0s _<|y0g.mpr (_,g,funext λr=>?_);by_cases l:r=x
   .subst l;rw[e,Xg R,y4l]
   .change(S r&&decide (r≠x)||decide (r=x))=S r;rw[Xg l,Xf l,y31,y2h]
theorem zon{d:Type}{L:List d}{ks:List Nat}{Rq:Nat->d->Prop}(nd:ks.Nodup)(h:∀k∈ks,∃S∈L,Rq k S)(one:∀k k' S,Rq k S->Rq k' S->k=k'):ks.length<=L.length:=by
 classical
 let:ks⊆L.map λS=>if h:∃k,Rq k S then h.choose else 0:=λk C=>by
  let(S,I,r):=h k C;apply y0g.mpr (S,I,?_);let O:∃k,Rq k S:=(k,r);rw[dif_pos O];show one _ _ S O.choose_spec r
 let:=nd.length_le_of_subset this;rwa[y00]at this
theorem zgn{ks:List Nat}(h:ks.Pairwise (· < ·)):ks.Nodup:=h.imp λz=>y0m z
section
variable {fs:List Tf}{c:Co}{A:As}{t:Tr}{p:Rd}{i:Nat}{st:Bool}{ks:List Nat}
def chs(st:Bool)(t:Tr)(p:Rd):List (Rd->Bool):=if st=N then rsubs (rds t p)else(rds t p).map oneR
theorem zjm{S:Rd->Bool}(h:Ch st S t p):S∈chs st t p:=by
 unfold chs;cases st with
 |true=>rw[Xq rfl];show zkc<|zjn h
 |false =>
  rw[Xp 02];unfold Ch at h;rw[Xp 02]at h;let(x,O,rfl):=h;show y0g.mpr (x,O,R)
theorem zth:(chs st t p).length=if st=N then 2^t.size else t.size:=by
 unfold chs;cases st with
 |true=>rw[Xq R,Xq R,zkb,zbk]
 |false=>rw[Xp 02,Xp 02,y00,zbk]
theorem zfb(nd:fs.Nodup)(q:ks.Nodup)(h:∀k∈ks,∃S,Ch st S t p/\Stg fs c 012 t p k):ks.length<=if st=N then 2^t.size else t.size:=by
 rw[←zth (p:=p)];show zon (Rq:=λk S=>Stg fs c 012 t p k) q (λk C=>let(S,I,z):=h k C;(S,zjm I,z)) λk k' S z O=>z.det nd O
theorem kept_lt{o d:Rd->Bool}(nd:fs.Nodup)(q:ks.Nodup)(h:∀k∈ks,∃S,Ch st S t p/\Stg fs c 012 t p k)(T:o≠d)(M:Ch st o t p)(J:Ch st d t p)(w:Alk t p c (A.put i d)<|A.put i o):ks.length<if st=N then 2^t.size else t.size:=by
 classical
 rw[←zth (p:=p)];let l:=zjm J;let:=zon (L:=(chs st t p).filter λS=>decide (S≠d)) (Rq:=λk S=>Stg fs c 012 t p k) q (λk C=>?_) λk k' S z O=>z.det nd O
 .exact y38 this<|List.length_filter_lt_length_iff_exists.mpr (d,l,by simp)
 .let(S,I,z):=h k C;by_cases e:S=d
  .subst e;show(o,y1a.mpr (zjm M,Xg T),z.alk w)
  .exact(S,y1a.mpr (zjm I,Xg e),z)
end
def Rdg(fs:List Tf)(b:Nat)(c:Co)(l k1 k2 s:Nat):Prop:=∃pl A lab a E p,Rdx fs b c l k1 k2 s pl A lab a E p
def Twn(b:Nat)(c:Co):Prop:=∀(pl:Nat->Bool) (A:As) (t:Tr) (p:Rd),t.size=6->wt pl (.so N b c)->Fr0 b A->Vl pl A t p->∃o d,o≠d/\Ch N o t p/\Ch N d t p/\Alk t p c (A.put b d) (A.put b o)
def Smal(s:Nat):Co->Prop
 |.bare _ _ _=>True
 |.neg c=>Smal s c
 |.con c e=>Smal s c/\Smal s e
 |.so st i c=>Smal s c/\if st=N then s<=5\/(s=6/\Twn i c)else s<=60
noncomputable def ct(s:Nat):Co->Nat
 |.bare _ _ _=>1
 |.neg c=>ct s c+1
 |.con c e=>ct s c+ct s e+2
 |.so st _ c=>(if st=N then 2^s else s+1)*ct s c+2
theorem ct_pos(s:Nat)(c:Co):1<=ct s c:=by cases c<;>simp only[ct]<;>omega
section
variable {fs fs' fs1:List Tf}{c e:Co}{A:As}{t:Tr}{p:Rd}{b i l k1 k2 s:Nat}{st:Bool}{found:List Nat}{pl:Nat->Bool}
theorem Rdg.ext(nd:fs'.Nodup)(pr:fs <+:fs')(h:Rdg fs b c l k1 k2 s):Rdg fs' b c l k1 k2 s:=let(pl,A,lab,a,E,p,X):=h;(pl,A,lab,a,E,p,X.w1,X.w2,X.f,X.v,X.la,X.s1.ext nd pr,X.s2.ext nd pr,X.sz)
theorem Rdg.lt(h:Rdg fs b c l k1 k2 s):k1<fs.length+4/\k2<fs.length+4:=let(_,_,_,_,_,_,X):=h;(X.s1.lt,X.s2.lt)
theorem Rdx.neg{lab:Nat}{a E:Tr}(g:k1≠2)(J:k1≠3)(b2:k2≠2)(Q:k2≠3)(X:Rdx fs b (.neg c) l k1 k2 s pl A lab a E p):Rdx fs b c l k1 k2 s pl A lab a E p:=by
 let x:=X.s1.pos;let C:=X.s2.pos;rw[zj0 g J]at x;rw[zj0 b2 Q]at C;show(X.w1,X.w2,X.f,X.v,X.la,x,C,X.sz)
theorem Rdg.neg(g:k1≠2)(J:k1≠3)(b2:k2≠2)(Q:k2≠3)(h:Rdg fs b (.neg c) l k1 k2 s):Rdg fs b c l k1 k2 s:=let(pl,A,lab,a,E,p,X):=h;(pl,A,lab,a,E,p,X.neg g J b2 Q)
theorem Rdg.con(g:k1≠2)(J:k1≠3)(b2:k2≠2)(Q:k2≠3)(h:Rdg fs b (.con c e) l k1 k2 s):∃I M j d H Y,k1=I+4/\k2=M+4/\fs[I]?=G (.two j d)/\fs[M]?=G (.two H Y)/\Rdg fs b c l j H s/\Rdg fs b e l d Y s:=by
 let(pl,A,lab,a,E,p,X):=h;let(m,x,y,em,D,o,L):=X.s1.un g J;let(m',f,q,C,r,U,u):=X.s2.un b2 Q;show(m,m',x,y,f,q,em,C,D,r,(pl,A,lab,a,E,p,X.w1.1,X.w2.1,X.f,X.v,X.la,o,U,X.sz),(pl,A,lab,a,E,p,X.w1.2,X.w2.2,X.f,X.v,X.la,L,u,X.sz))
theorem zys(ns:List Nat):∃F:List Nat,F.Nodup/\∀k,k∈F↔k∈ns:=by
 induction ns with
 |nil=>show([],y2b,λ_=>Iff.rfl)
 |cons n ns E =>
  let(F,nd,h):=E;by_cases o:n∈ns
  .exact(F,nd,λk=>(h k).trans (y08 _,λz=>(y06.mp z).elim (λe=>e▸o) id))
  .exact(n::F,y1t.mpr (λz=>o<|(h n).mp z,nd),λk=>by rw[y06,y06,h k])
theorem zxf(nd:fs.Nodup)(sm:Smal s<|.so st b c)(ht:t.size<=s)(w:wt pl<|.so st b c)(f:Fr0 b A)(v:Vl pl A t p)(h:∀k∈found,∃S,Ch st S t p/\Stg fs c 022 t p k):∃F:List Nat,F.length<64/\∀k∈found,k∈F:=by
 let(F,q,j):=zys found;apply(F,?_,λk C=>(j k).mpr C);let h':∀k∈F,∃S,Ch st S t p/\Stg fs c 022 t p k:=λk C=>h k<|(j k).mp C;let le:=zfb nd q h';let sm:=sm.2;cases st with
 |false =>
  let sm:s<=60:=sm;let le:F.length<=t.size:=le;omega
 |true =>
  let sm:s<=5\/(s=6/\Twn b c):=sm;let le:F.length<=2^t.size:=le;let U:∀n,n<=5->2^n<=32:=by decide
  by_cases g:t.size<=5
  .let:=U _ g;omega
  .let(rfl,r):=sm.resolve_left 00;let a:t.size=6:=by omega
   let(o,d,T,M,J,z):=r pl A t p a w f v;let lt:F.length<2^t.size:=kept_lt nd q h' T M J z;rw[a]at lt;show lt
theorem zyf{a b s:Nat}{x y:Nat}(O:x<=2^a)(I:y<=2^b)(h:a+b+1<=s):2*(x*y)<=2^s:=by
 let M:x*y<=2^a*2^b:=y3s O I;let J:2^(a+b+1)<=2^s:=y1q 02 h;rw[y3k,Nat.pow_add]at J;omega
theorem Rdg.set(nd:fs.Nodup)(j:l<32)(g:k1≠2)(J:k1≠3)(b2:k2≠2)(Q:k2≠3)(h:Rdg fs b (.so N i c) l k1 k2 s):i=b/\b<=4/\∃(m1 M:Nat) (v f:List Nat),k1=m1+4/\k2=M+4/\fs[m1]?=G (.set v)/\fs[M]?=G (.set f)/\2*(v.length*f.length)<=2^s/\(∀x∈v,∀y∈f,Rdg fs (b+1) c l x y s/\Rdg fs (b+1) c (l|||2^b) x y s)/\
  ∀(fs1:List Tf) (found:List Nat),fs1.Nodup->Smal s (.so N b c)->(∀n∈found,∃k1∈v,∃k2∈f,Stpt fs fs1 (b+1) c l k1 k2 n\/Stpt fs fs1 (b+1) c (l|||2^b) k1 k2 n)->∃F:List Nat,F.length<64/\∀k∈found,k∈F:=by
 let(pl,A,lab,a,E,p,X):=h;obtain rfl:=X.w2.1;let(m,u,v,em,D,q,d,iff,_):=X.s1.un g J;let(m',L,f,em',r,pw',T,H,_):=X.s2.un b2 Q;subst em em';let U:v.length<=2^a.size:=zfb (st:=N) nd (zgn q) λk C=>((iff k).mp C).2;let L2:f.length<=2^E.size:=zfb (st:=N) nd (zgn pw') λk C=>((H k).mp C).2;apply(R,X.w2.2.1,m,m',v,f,R,R,D,r,zyf U L2 X.sz,λx O y I=>(?_,?_),λfs1 found gi sm f2=>?_)
 .let(S,_,Y):=X.sets j D r x O y I Fa;show(_,_,_,_,_,_,Y)
 .let(S,_,Y):=X.sets j D r x O y I N;show(_,_,_,_,_,_,Y)
 .exact zxf (t:=.node lab a E) gi sm (by have:=X.sz;change 1+a.size+E.size<=s;omega) X.w1 X.f X.v λn o=>X.set_snd j D r<|f2 n o
theorem Rdg.plc(nd:fs.Nodup)(j:l<32)(g:k1≠2)(J:k1≠3)(b2:k2≠2)(Q:k2≠3)(h:Rdg fs b (.so Fa i c) l k1 k2 s):i=b/\b<=4/\∃(m1 M u1 L:Nat) (v f:List Nat),k1=m1+4/\k2=M+4/\fs[m1]?=G (.plc u1 v)/\fs[M]?=G (.plc L f)/\v.length+f.length+1<=s/\Rdg fs (b+1) c l u1 L s/\Rdg fs (b+1) c (l|||2^b) u1 L s/\(∀x∈v,Rdg fs (b+1) c l x L s)/\(∀y∈f,Rdg fs (b+1) c l u1 y s)/\
  ∀(fs1:List Tf) (found:List Nat),fs1.Nodup->Smal s (.so Fa b c)->(∀n∈found,(∃k1∈v,Stpt fs fs1 (b+1) c l k1 L n)\/(∃k2∈f,Stpt fs fs1 (b+1) c l u1 k2 n)\/Stpt fs fs1 (b+1) c (l|||2^b) u1 L n)->∃F:List Nat,F.length<64/\∀k∈found,k∈F:=by
 let(pl,A,lab,a,E,p,X):=h;obtain rfl:=X.w2.1;let(m,u,v,em,D,pw,d,iff,_):=X.s1.un g J;let(m',u',f,em',r,pw',T,H,_):=X.s2.un b2 Q;subst em em';let U:v.length<=a.size:=zfb (st:=Fa) nd (zgn pw) λk C=>((iff k).mp C).2;let L2:f.length<=E.size:=zfb (st:=Fa) nd (zgn pw') λk C=>((H k).mp C).2;let Y:=X.plcs j D r;let sz:=X.sz;apply(R,X.w2.2.1,m,m',u,u',v,f,R,R,D,r,by omega,(_,_,_,_,_,_,Y.no),(_,_,_,_,_,_,Y.me),λx O=>?_,λy I=>?_,λfs1 found gi sm f2=>?_)
 .let(q,hq,z):=Y.l1 x O;show(_,_,_,_,_,_,Y.lf q hq x z)
 .let(q,hq,z):=Y.r1 y I;show(_,_,_,_,_,_,Y.rg q hq y z)
 .exact zxf (t:=.node lab a E) gi sm (by change 1+a.size+E.size<=s;omega) X.w1 X.f X.v λn o=>Y.snd<|f2 n o
structure Sz(fs:List Tf)(c:Co)(n s:Nat):Prop where
 ex:∃A t p,Stg fs c A t p n/\t.size<=s
theorem Sz.neg(J:k1≠2)(U:k1≠3)(h:Sz fs (.neg c) k1 s):Sz fs c k1 s:=by
 let(A,t,p,z,ht):=h.ex;let:=z.pos;rw[zj0 J U]at this;show(A,t,p,this,ht)
theorem Sz.con(J:k1≠2)(U:k1≠3)(h:Sz fs (.con c e) k1 s):∃m x y,k1=m+4/\fs[m]?=G (.two x y)/\Sz fs c x s/\Sz fs e y s:=by
 let(A,t,p,z,ht):=h.ex;let(m,x,y,em,e1,Y,g):=z.un J U;show(m,x,y,em,e1,(A,t,p,Y,ht),(A,t,p,g,ht))
theorem Sz.lt(h:Sz fs c k1 s):k1<fs.length+4:=let(_,_,_,z,_):=h.ex;z.lt
theorem Smal.le(h:Smal s<|.so st i c):(if st=N then 2^s else s)<=64:=by
 let h:=h.2;cases st with
 |false=>have h:s<=60:=h;change s<=64;omega
 |true =>
  let h:s<=5\/(s=6/\Twn i c):=h;let a:∀n,n<=6->2^n<=64:=by decide
  show a s 00
theorem Sz.so(nd:fs.Nodup)(sm:Smal s<|.so st i c)(J:k1≠2)(U:k1≠3)(h:Sz fs (.so st i c) k1 s):∃m u ks,k1=m+4/\fs[m]?=G (frm st u ks)/\ks.length<=64/\∀k∈ks,Sz fs c k s:=by
 let(A,t,p,z,ht):=h.ex;let(m,u,ks,em,e1,q,d,iff,_):=z.un J U;apply(m,u,ks,em,e1,?_,λk C=>?_)
 .let le:=zfb (c:=c) (A:=A) (i:=i) nd (zgn q) λk C=>((iff k).mp C).2;apply y0z le<|y0z ?_ sm.le;cases st with
  |true=>show y1q 02 ht
  |false=>show ht
 .let(_,S,_,w):=(iff k).mp C;show(_,t,p,w,ht)
end
section
variable {P:ik}{w:World}{C:Ad}{A:SA}{cs cs':List Co}{fs fs' fs2:List (List Key2)}{sts sts' sts2:List (List Key×V)}{H0 H H' H2:Hp}{D:Ad}
theorem Up4.wr(u:Up4 A H0 H)(l:H0 D=B)(o:HO):Up4 A H0 (upd H D o):=λb x n1 n2 I L e=>by
 rw[zan λz=>by rw[z,l]at e;cases e];show u b x n1 n2 I L e
end
noncomputable def wordS:Sy->Str
 |.bare wd _ _=>wd
 |.neg _=>"not"
 |.two wd _ _=>wd
 |.qu wd _ _=>wd
theorem zf7(r:Rep H v s):∃a xs,v=.ref a/\H a=G (.tup (.str (wordS s)::xs)):=by
 cases r with
 |bare C e=>show(_,_,R,e)
 |neg e _=>show(_,_,R,e)
 |two C e _ _=>show(_,_,R,e)
 |qu C e _=>show(_,_,R,e)
theorem zkd(r:Rep H v s)(g:TupS H H'):Rep H' v s:=by
 induction r with
 |bare C e=>show .bare C<|g _ _ e
 |neg e _ E=>show .neg (g _ _ e) E
 |two C e _ _ j i=>show .two C (g _ _ e) j i
 |qu C e _ E=>show .qu C (g _ _ e) E
theorem core_or(tl:List Str)(s t:Sy):coreS tl (.two "or" s t)=coreS tl (.neg<|.two "and" (.neg s) (.neg t)):=by
 simp only[coreS];rw[Xq trivial,Xp 02]
theorem zwk(tl:List Str)(n:Str)(s:Sy):coreS tl (.qu "all" n s)=coreS tl (.neg<|.qu "some" n (.neg s)):=by
 simp only[coreS];rw[Xq trivial,Xp 02]
def szL(ss:List Sy):Nat:=(ss.map szS).sum
structure Many(H:Hp)(a:Ad)(tl:List Str)(lv:Nat)(sy:Sy)(its:List V)(ss:List Sy):Prop where
 e:H a=G (.tup (.str (wordS sy)::its))
 rs:Reps H its ss
 ok:∀s∈ss,OkS tl s/\lvS s<lv
 sz:szL ss+1=szS sy
 nb:sy.isBare=Fa
 ns:wordS sy≠"some"
 ne:its≠[]
 ln:its.length<=2
 core:∀(co':List Co) (ks:List Nat),ks.length=its.length->(∀(j k:Nat),ks[j]?=G k->∃s,ss[j]?=G s/\co'[k]?=G 44)->PtOf co' (.str (wordS sy)::ks.map nV) (coreS tl sy)
theorem many_of(r:Rep H 09 sy)(ok:OkS tl sy)(g:lvS sy<lv+1)(f:wordS sy≠"or")(d:wordS sy≠"all"):
  (∃wd n m,sy=.bare wd n m)\/(∃n s,sy=.qu "some" n s)\/∃its ss,Many H a tl lv sy its ss:=by
 cases r with
 |bare C e=>show .inl (_,_,_,R)
 |neg e r1 =>
  rename_i x s;apply .inr<|.inr ([x],[s],e,.cons r1 .nil,λz hz=>?_,by simp only[szL,szS,y0p,y39,y3e,List.sum_nil];omega,R,(show¬("not":Str)="some" by decide),06,06,λc ks j h=>?_)
  .rw[y03.mp hz];show(ok,by have:lvS s+1<lv+1:=g;omega)
  .match ks,j with
   |[k],_ =>
    let(s',es,ek):=h 0 k rfl;cases es;show(k,R,ek)
 |two C e r1 r2 =>
  rename_i wd x y s t;obtain rfl:wd="and":=by
   rcases y06.mp C with h|h
   .exact h
   .exact Xa (y03.mp h) f
  let M:max (lvS s) (lvS t)+1<lv+1:=by have:max (lvS s) (lvS t)+(if("and":Str)="or" then 4 else 1)<lv+1:=g;rwa[Xp 02]at this
  apply .inr<|.inr ([x,y],[s,t],e,.cons r1<|.cons r2 .nil,λz hz=>?_,?_,R,(show¬("and":Str)="some" by decide),06,06,λc ks j h=>?_)
  .rcases y06.mp hz with rfl|hz
   .exact(ok.1,by omega)
   .rw[y03.mp hz];show(ok.2,by omega)
  .simp only[szL,szS,y0p,y39,y3e,List.sum_nil];rw[Xp 02];omega
  .match ks,j with
   |[k,l],_ =>
    let(s',es,ek):=h 0 k rfl;cases es;let(s',es,I):=h 1 l rfl;cases es;simp only[coreS];rw[Xp 02];show(k,l,R,ek,I)
 |qu C e r1 =>
  rename_i wd n x s;obtain rfl:wd="some":=by
   rcases y06.mp C with h|h
   .exact h
   .exact Xa (y03.mp h) d
  show .inr<|.inl (_,_,R)
theorem Reps.at:∀{vs:List V} {ss:List Sy},Reps H vs ss->∀{i:Nat} {v:V},vs[i]?=G v->∃s,ss[i]?=G s/\Rep H v s
 |_,_,.nil,i,v,h=>by simp at h
 |_,_,.cons r q,0,v,h=>by cases h;show(_,R,r)
 |_,_,.cons r q,i+1,v,h=>Reps.at q (i:=i) h
theorem zt9{ss:List Sy}(h:ss[i]?=G s):szL (ss.take<|i+1)=szL (ss.take i)+szS s:=by
 unfold szL;rw[y1d,h,y0t,List.sum_append];rfl
theorem zwr(ss:List Sy)(i:Nat):szL (ss.take i)<=szL ss:=by
 induction ss generalizing i with
 |nil=>simp[szL]
 |cons s ss E=>cases i with
  |zero=>simp[szL]
  |succ i =>
   let:=E i;simp only[szL,List.take_succ_cons,y0p,y3e]at this ⊢;omega
def tk:Tf->List Key2
 |.two x y=>[kI x,kI y]
 |.set ks=>[kL ks]
 |.plc u ks=>[kI u,kL ks]
theorem zwq{f g:Tf}(e:tk f=tk g):f=g:=by
 cases f<;>cases g<;>simp only[tk,List.cons.injEq,and_true,reduceCtorEq,and_false,List.nil_eq,List.cons_ne_nil]at e
 .let(a,b):=e;rw[zsl a,zsl b]
 .let(a,b):=e;simp[kL]at b
 .rw[zsk e]
 .let(a,b):=e;simp[kL]at b
 .let(a,b):=e;rw[zsl a,zsk b]
theorem mem_tk{fs:List Tf}{f:Tf}:tk f∈fs.map tk↔f∈fs :=
 (λz=>let(g,hg,e):=y0g.mp z;zwq e▸hg,λz=>y0g.mpr (f,z,R))
theorem zw6:∀{fs:List Tf} {f:Tf},nOf (fs.map tk) (tk f)=nOf fs f
 |[],_=>rfl
 |g::fs,f=>by
  rw[y0p,zje,zje];by_cases e:g=f
  .rw[Xq e,Xq<|by rw[e]]
  .rw[Xp e,Xp λz=>e<|zwq z,zw6]
theorem zw3{fs:List Tf}{f:Tf}:nxt (fs.map tk) (tk f)=(nxt fs f).map tk:=by
 by_cases h:f∈fs
 .rw[zko h,zko<|mem_tk.mpr h]
 .rw[ze8 h,ze8 λz=>h<|mem_tk.mp z,y0t];rfl
def StJ(cs:List Co)(fs:List Tf)(sts:List<|List Key×V):Prop:=∀(k l x y:Nat) v,valV sts [.inl (k:Int),.inl (l:Int),.inl (x:Int),.inl (y:Int)]=G v->∃co m,cs[k]?=G co/\v=nV m/\x<fs.length+4/\y<fs.length+4/\∀b,Stpt fs fs b co l x y m
theorem StJ.up{cs:List Co}{fs o:List Tf}{sts:List (List Key×V)}{k:Nat}(S:StJ cs fs sts)(T:TTb fs)(x:Tx fs o k):StJ cs o sts:=λk l a b v e =>
 let(co,m,M,J,U,C,g):=S k l a b v e
 (co,m,M,J,y0k U<|y25 x.len 4,y0k C<|y25 x.len 4,λb=>(g b).up T x.T.nd x.p U C)
structure Sj(P:ik)(w:World)(C:Ad)(A:SA)(cs:List Co)(fs:List Tf)(sts:List<|List Key×V)(H:Hp):Prop where
 e1:H A.p=G (.ins C A.dx A.fl)
 ep:∃rs,H A.pp=G (.lst rs)/\io (PL H cs) rs cs
 ef:∃rs,H A.pf=G (.lst rs)/\io (FL2 H) rs (four++fs.map tk)
 en:∃ys,H A.pn=G (dN P w A.pn ys)/\Keys H ys/\ys.map (·.1)=fs.map tk/\∀i y,ys[i]?=G y->y.2.2=nV (4+i)
 es:H A.ps=G (.dT sts)
 T:TTb fs
 st:StJ cs fs sts
 nf:A.pp≠A.pf
structure Nj(P:ik)(w:World)(C:Ad)(A:SA)(cs:List Co)(fs:List Tf)(sts:List<|List Key×V)(k:Nat)(H:Hp)(fs':List Tf)(sts':List<|List Key×V)(H':Hp):Prop where
 up:Up4 A H H'
 sn:Sj P w C A cs fs' sts' H'
 ex:Tx fs fs' k
 ls:sts'.length<=sts.length+k
section
variable {P:ik}{w:World}{C:Ad}{A:SA}{cs cs':List Co}{fs fs' fs2:List Tf}{sts sts' sts2:List (List Key×V)}{H0 H H' H2:Hp}{k k':Nat}{D:Ad}
theorem Sj.tups(L:Sj P w C A cs fs sts H)(u:Up4 A H H'):TupS H H':=λb o h=>by
 let(rs,e1,_):=L.ep;let(qs,O,_):=L.ef;let(ys,r,_):=L.en;show u b _ (λz=>by rw[z,e1]at h;cases h) (λz=>by rw[z,O]at h;cases h) (λz=>by rw[z,r]at h;cases h) (λz=>by rw[z,L.es]at h;cases h) h
theorem Sj.lst(L:Sj P w C A cs fs sts H)(u:Up4 A H H'){b:Ad}{xs:List V}(n1:b≠A.pp)(n2:b≠A.pf)(h:H b=G 98):H' b=G 98:=by
 let(ys,r,_):=L.en;show u b _ n1 n2 (λz=>by rw[z,r]at h;cases h) (λz=>by rw[z,L.es]at h;cases h) h
theorem Sj.ts(L:Sj P w C A cs fs sts H)(g:TupS H H')(M:∀b o,(b=A.p\/b=A.pp\/b=A.pf\/b=A.pn\/b=A.ps)->H b=G o->H' b=G o):Sj P w C A cs fs sts H':=by
 let(rs,e1,J):=L.ep;let(qs,O,d):=L.ef;let(ys,r,j,y,c):=L.en;show(M _ _ 85 L.e1,(rs,M _ _ (.inr 85) e1,L2.Paired.mapP J λ_ _ z=>z.ts g),(qs,M _ _ (.inr<|.inr 85) O,L2.Paired.mapP d λ_ _ z=>z.ts g),(ys,M _ _ (.inr<|.inr (.inr 85)) r,j.ts g,y,c),M _ _ (.inr<|.inr (.inr<|.inr R)) L.es,L.T,L.st,L.nf)
theorem Sj.same(L:Sj P w C A cs fs sts H)(g:Same H H'):Sj P w C A cs fs sts H':=L.ts g.tups λb o _ e=>g b o e
theorem Sj.wr(L:Sj P w C A cs fs sts H){ys zs:List V}(u:H D=G 82)(n1:D≠A.pp)(n2:D≠A.pf):Sj P w C A cs fs sts (upd H D<|.lst zs):=by
 let(l,r,_):=L.en;apply L.ts (TupS.wr u _) λb o Y e=>?_;rw[zan ?_];show e;rcases Y with rfl|rfl|rfl|rfl|rfl
 .exact zcq L.e1 u (by intro z;cases z)
 .exact Ne.symm n1
 .exact Ne.symm n2
 .exact zcq r u (by intro z;cases z)
 .exact zcq L.es u (by intro z;cases z)
theorem Sj.nD(L:Sj P w C A cs fs sts H)(h:H D=B):D≠A.pp/\D≠A.pf:=by
 let(rs,e1,_):=L.ep;let(qs,O,_):=L.ef;show((zap e1 h).symm,(zap O h).symm)
theorem Sj.part(L:Sj P w C A cs fs sts H){k:Nat}{c:Co}(h:cs[k]?=G c):∃rs a vs,H A.pp=G (.lst rs)/\rs[k]?=G 09/\H a=G (.tup vs)/\PtOf cs vs c:=by
 let(rs,O,d):=L.ep;let(v,J,a,vs,rfl,nb,p):=Paired.at2 d h;show(rs,a,vs,O,J,nb,p)
theorem Sj.formK(L:Sj P w C A cs fs sts H){n:Nat}{k:List Key2}(h:(four++fs.map tk)[n]?=G k):∃rs a,H A.pf=G (.lst rs)/\rs[n]?=G 09/\NestAt H a k:=by
 let(rs,O,d):=L.ef;let(v,J,a,rfl,nb):=Paired.at2 d h;show(rs,a,O,J,nb)
def TAt(H:Hp)(b:Ad):Tf->Prop
 |.two x y=>H b=G (.tup [nV x,nV y])
 |.set ks=>∃c,H b=G (.tup [.ref c])/\H c=G (.tup<|ks.map nV)
 |.plc u ks=>∃c,H b=G (.tup [nV u,.ref c])/\H c=G (.tup<|ks.map nV)
theorem tAt{b:Ad}{f:Tf}(h:NestAt H b<|tk f):TAt H b f:=by
 let(vs,e,p):=h;cases f with
 |two x y=>cases p with|cons J p=>cases p with|cons U p=>cases p;change H b=_;rw[e,show _=nV x from J,show _=nV y from U]
 |set ks =>
  cases p with|cons U p =>
   cases p;let(c,j,g):=U;show(c,by rw[e,j],by rw[g,kLv])
 |plc u ks =>
  cases p with|cons U p=>cases p with|cons Q p =>
   cases p;let(c,j,g):=Q;show(c,by rw[e,show _=nV u from U,j],by rw[g,kLv])
theorem Sj.form(L:Sj P w C A cs fs sts H){m:Nat}{f:Tf}(h:fs[m]?=G f):∃rs b,H A.pf=G (.lst rs)/\rs[m+4]?=G 94/\TAt H b f:=by
 let(rs,b,e,c,nb):=L.formK (n:=m+4) (k:=tk f) (by rw[y0n (show four.length<=m+4 by change 4<=_;omega),show four.length=4 from rfl,y3v,y0r,h];rfl);show(rs,b,e,c,tAt nb)
theorem Sj.any(L:Sj P w C A cs fs sts H){n:Nat}(h:n<fs.length+4):∃rs b,H A.pf=G (.lst rs)/\rs[n]?=G 94:=by
 let(rs,b,e,c,_):=L.formK (n:=n)<|y0e (by rw[y02,y00];change n<4+_;omega);show(rs,b,e,c)
theorem Nj.trans(a:Nj P w C A cs fs sts k H fs' sts' H')(b:Nj P w C A cs fs' sts' k' H' fs2 sts2 H2):Nj P w C A cs fs sts (k+k') H fs2 sts2 H2:=(a.up.trans b.up,b.sn,a.ex.trans b.ex,by have:=a.ls;have:=b.ls;omega)
theorem Nj.le(a:Nj P w C A cs fs sts k H fs' sts' H')(h:k<=k'):Nj P w C A cs fs sts k' H fs' sts' H':=(a.up,a.sn,a.ex.le h,by have:=a.ls;omega)
theorem Nj.same0(L:Sj P w C A cs fs sts H)(g:Same H H'){k:Nat}:Nj P w C A cs fs sts k H fs sts H':=(Same.up4 g,L.same g,Tx.refl L.T k,by omega)
theorem Nj.bef(a:Nj P w C A cs fs sts k H' fs' sts' H2)(g:Same H H'):Nj P w C A cs fs sts k H fs' sts' H2:=((Same.up4 g).trans a.up,a.sn,a.ex,a.ls)
theorem Nj.aft(a:Nj P w C A cs fs sts k H fs' sts' H')(g:Same H' H2):Nj P w C A cs fs sts k H fs' sts' H2:=(a.up.trans<|Same.up4 g,a.sn.same g,a.ex,a.ls)
theorem Nj.wr(Nq:Nj P w C A cs fs sts k H0 fs' sts' H)(Y:H0 D=B){ys zs:List V}(u:H D=G 82)(n1:D≠A.pp)(n2:D≠A.pf):Nj P w C A cs fs sts k H0 fs' sts' (upd H D<|.lst zs):=(Nq.up.wr Y _,Nq.sn.wr u n1 n2,Nq.ex,Nq.ls)
theorem Nj.lf(a:Nj P w C A cs fs sts k H fs' sts' H'):fs'.length<=fs.length+k:=a.ex.n
end
section
variable (P:ik)(w:World)(C:Ad)
inductive ziq(vs:List V)(H:Hp)(Q:VK)(_E:XK):Prop
 |mk (p dx:Ad) (H0:Hp):(vs=[.ref p])->(H=upd (upd H0 dx<|.own p) p (.ins C dx []))->(H0 p=B)->(H0 dx=B)->(dx≠p)->(∀(A:SA) H',A.p=p->Sj P w C A [] [] [] H'->Same H0 H'->H0 A.pp=B->H0 A.pf=B->H0 A.pn=B->H0 A.ps=B->Q .non H')->ziq vs H Q _E
inductive zd7(vs:List V)(H:Hp)(Q:VK)(_E:XK):Prop
 |mk (A:SA) (a:Ad) (cs:List Co) (fs:List Tf) (sts:List<|List Key×V) (f:Tf):(vs=[.ref A.p,.ref a])->(Sj P w C A cs fs sts H)->(fs.length<1000000)->(NestAt H a<|tk f)->(Tf.okAt fs.length f)->(∀H',Nj P w C A cs fs sts 1 H (jN fs f).1 sts H'->Q (nV (jN fs f).2) H')->zd7 vs H Q _E
inductive zf4(vs:List V)(H:Hp)(Q:VK)(_E:XK):Prop
 |mk (b:Ad) (ns F:List Nat):(vs=[.ref b])->(H b=G (.lst<|ns.map nV))->(ns.length<=1000)->(F.length<64)->((∀k∈ns,k∈F))->(∀t ks H',Kp3 ns ks->Same H H'->H' t=G (.tup<|ks.map nV)->Q (.ref t) H')->zf4 vs H Q _E
inductive zgh(vs:List V)(H:Hp)(Q:VK)(_E:XK):Prop
 |mk (A:SA) (cs:List Co) (fs:List Tf) (sts:List<|List Key×V) (x y:Nat):(vs=[.ref A.p,nV x,nV y])->(Sj P w C A cs fs sts H)->(fs.length<1000000)->(x<fs.length+4)->(y<fs.length+4)->(∀H',Nj P w C A cs fs sts 1 H (jAnd fs x y).1 sts H'->Q (nV (jAnd fs x y).2) H')->zgh vs H Q _E
inductive zgf(vs:List V)(H:Hp)(Q:VK)(_E:XK):Prop
 |mk (A:SA) (a:Ad) (cs:List Co) (fs:List Tf) (sts:List<|List Key×V) (ns F:List Nat):(vs=[.ref A.p,.ref a])->(Sj P w C A cs fs sts H)->(fs.length<1000000)->(H a=G (.lst<|ns.map nV))->(ns.length<=1000)->(F.length<64)->((∀k∈ns,k∈F))->((∀k∈ns,k<fs.length+4))->(∀ks H',Kp3 ns ks->Nj P w C A cs fs sts 1 H (jSo fs N 0 ks).1 sts H'->Q (nV (jSo fs N 0 ks).2) H')->zgf vs H Q _E
inductive zgg(vs:List V)(H:Hp)(Q:VK)(_E:XK):Prop
 |mk (A:SA) (a:Ad) (cs:List Co) (fs:List Tf) (sts:List<|List Key×V) (u:Nat) (ns F:List Nat):(vs=[.ref A.p,nV u,.ref a])->(Sj P w C A cs fs sts H)->(fs.length<1000000)->(H a=G (.lst<|ns.map nV))->(ns.length<=1000)->(F.length<64)->((∀k∈ns,k∈F))->((∀k∈ns,k<fs.length+4))->(u<fs.length+4)->(∀ks H',Kp3 ns ks->Nj P w C A cs fs sts 1 H (jSo fs Fa u ks).1 sts H'->Q (nV (jSo fs Fa u ks).2) H')->zgg vs H Q _E
inductive zio(lv:Nat)(vs:List V)(H:Hp)(Q:VK)(_E:XK):Prop
 |mk (A:SA) (cs:List Co) (fs:List Tf) (sts:List<|List Key×V) (k:Nat) (c:Co):(vs=[.ref A.p,nV k])->(Sj P w C A cs fs sts H)->(cs[k]?=G c)->(c.hgt<lv)->(fs.length+c.cost<1000000)->(∀fs' H' (n:Nat),Nj P w C A cs fs sts c.cost H fs' sts H'->Nth fs' c n->Q (nV n) H')->zio lv vs H Q _E
inductive zql(lv:Nat)(vs:List V)(H:Hp)(Q:VK)(_E:XK):Prop
 |mk (A:SA) (cs:List Co) (fs:List Tf) (sts:List<|List Key×V) (k n s:Nat) (c:Co):(vs=[.ref A.p,nV k,nV n])->(Sj P w C A cs fs sts H)->(cs[k]?=G c)->(c.hgt<lv)->(Sz fs c n s)->(Smal s c)->(∀H',Same H H'->Q (.bl<|ans fs c n) H')->zql lv vs H Q _E
inductive zin(lv:Nat)(vs:List V)(H:Hp)(Q:VK)(_E:XK):Prop
 |mk (A:SA) (b:Ad) (v:V) (s:Sy) (tl:List Str) (cs:List Co):(vs=[.ref A.p,v,.ref b])->(Sj P w C A cs [] [] H)->(Rep H v s)->(OkS tl s)->(lvS s<lv)->(H b=G (.lst<|tl.map V.str))->(b≠A.pp)->(b≠A.pf)->(cs.length+szS s<=500)->(∀cs' H' (k:Nat),Up4 A H H'->Sj P w C A cs' [] [] H'->cs <+:cs'->cs'.length<=cs.length+szS s->cs'[k]?=G (coreS tl s)->Q (nV k) H')->zin lv vs H Q _E
structure Abv(cs:List Co)(fs:List Tf)(sts:List<|List Key×V)(k t l r b s lv:Nat)(c:Co):Prop where
 ek:cs[k]?=G c
 hh:c.hgt<lv
 ht:t<32
 rd:Rdg fs b c t l r s
 sm:Smal s c
 lf:fs.length+ct s c<1000000
 ls:sts.length+ct s c<1000000
inductive zej(lv:Nat)(vs:List V)(H:Hp)(Q:VK)(_E:XK):Prop
 |mk (A:SA) (cs:List Co) (fs:List Tf) (sts:List<|List Key×V) (k t l r b s:Nat) (c:Co):(vs=[.ref A.p,nV k,nV t,nV l,nV r])->(Sj P w C A cs fs sts H)->(Abv cs fs sts k t l r b s lv c)->(∀fs' sts' H' (n:Nat),Nj P w C A cs fs sts (ct s c) H fs' sts' H'->(∀b,Stpt fs fs' b c t l r n)->Q (nV n) H')->zej lv vs H Q _E
inductive zls(lv:Nat)(vs:List V)(H:Hp)(Q:VK)(_E:XK):Prop
 |mk (A:SA) (cs:List Co) (fs:List Tf) (sts:List<|List Key×V) (k t l r b s:Nat) (c:Co):(vs=[.ref A.p,nV k,nV t,nV l,nV r])->(Sj P w C A cs fs sts H)->(Abv cs fs sts k t l r b s lv c)->((l≠2/\l≠3/\r≠2/\r≠3))->(∀fs' sts' H' (n:Nat),Nj P w C A cs fs sts (ct s c-1) H fs' sts' H'->(∀b,Stpt fs fs' b c t l r n)->Q (nV n) H')->zls lv vs H Q _E
end
abbrev Lb:=Nat×Nat×Nat
def LbOk(fs o:List Tf)(c:Co)(q:Lb)(n:Nat):Prop:=∀b,Stpt fs o b c q.1 q.2.1 q.2.2 n
theorem zgr{d q:Type}{Rq:d->q->Prop}{xs:List d}{ys:List q}(h:io Rq xs ys):(∀x∈xs,∃y∈ys,Rq x y)/\∀y∈ys,∃x∈xs,Rq x y:=by
 induction h with
 |nil=>show(λ_ z=>(nomatch z),λ_ z=>nomatch z)
 |cons r _ E =>
  apply(λx O=>?_,λy I=>?_)
  .rcases y06.mp O with rfl|O
   .exact(_,y04,r)
   .let(y,I,z):=E.1 x O;show(y,y08 _ I,z)
  .rcases y06.mp I with rfl|I
   .exact(_,y04,r)
   .let(x,O,z):=E.2 y I;show(x,y08 _ O,z)
theorem zwx{d q:Type}{Rq:d->q->Prop}{xs D:List d}{ys j:List q}(h:io Rq xs ys)(h':io Rq D j):io Rq (xs++D) (ys++j):=by
 induction h with
 |nil=>show h'
 |cons r _ E=>show .cons r E
noncomputable def lbI(t C x:Nat)(ys:List Nat):List Lb:=ys.flatMap λy=>[(t,x,y),(C,x,y)]
def lbS(t C:Nat)(xs ys:List Nat):List Lb:=xs.flatMap λx=>lbI t C x ys
noncomputable def lbP(t C u v:Nat)(xs ys:List Nat):List Lb:=xs.map (λx=>(t,x,v))++ys.map (λy=>(t,u,y))++[(C,u,v)]
theorem zsf(t C x:Nat)(ys:List Nat):(lbI t C x ys).length=2*ys.length:=by
 induction ys with
 |nil=>rfl
 |cons y ys E=>change([_,_]++lbI t C x ys).length=_;rw[y02,E,y0b];simp only[y0b,y14];omega
theorem zsd(t C:Nat)(xs ys:List Nat):(lbS t C xs ys).length=2*(xs.length*ys.length):=by
 induction xs with
 |nil=>rw[y14,Nat.zero_mul];rfl
 |cons x xs E=>change(lbI t C x ys++lbS t C xs ys).length=_;rw[y02,E,zsf,y0b,y35,y33];omega
theorem zvz{t C x y j:Nat}{ys:List Nat}(h:ys[j]?=G y):lbI t C x (ys.take<|j+1)=lbI t C x (ys.take j)++[(t,x,y)]++[(C,x,y)]:=by
 unfold lbI;rw[y1d,h,List.flatMap_append];simp
theorem zvy{t C x j:Nat}{xs ys:List Nat}(h:xs[j]?=G x):lbS t C (xs.take<|j+1) ys=lbS t C (xs.take j) ys++lbI t C x ys:=by
 unfold lbS;rw[y1d,h,List.flatMap_append];simp
theorem lbS_mem{t C:Nat}{xs ys:List Nat}{q:Lb}:q∈lbS t C xs ys↔∃x∈xs,∃y∈ys,q=(t,x,y)\/q=(C,x,y):=by
 unfold lbS lbI;simp only[List.mem_flatMap,y06,y0l,or_false]
section
variable {P:ik}{w:World}{C:Ad}{A:SA}{co:List Co}{fs fs':List Tf}{sts sts':List (List Key×V)}{H H':Hp}{c:Co}{D D2:Ad}{lv a M m b s tt x y g:Nat}{ls ls2:List Lb}{X:List (Ad×List Lb)}
theorem zor{E:XK}{I:VK}(ek:co[a]?=G c)(hh:c.hgt<lv)(U:fs.length+M*ct s c<1000000)(hs:sts.length+M*ct s c<1000000)(v:tt<32)(l:m<M)(rd:Rdg fs b c tt x y s)(sm:Smal s c)(Nq:Nj P w C A co fs sts (m*ct s c) H fs' sts' H')
  (J:∀i e H2 n,Nj P w C A co fs' sts' (ct s c) H' i e H2->Nj P w C A co fs sts ((m+1)*ct s c) H i e H2->LbOk fs i c (tt,x,y) n->I (nV n) H2):zej P w C lv [.ref A.p,nV a,nV tt,nV x,nV y] H' I E:=by
 let d:(m+1)*ct s c<=M*ct s c:=y1y _ l;rw[y35,y33]at d;let l1:=Nq.lf;let l2:=Nq.ls;apply(A,co,fs',sts',a,tt,x,y,b,s,c,R,Nq.sn,(ek,hh,v,rd.ext Nq.ex.T.nd Nq.ex.p,sm,by omega,by omega),λi e H2 n N2 s2=>J i e H2 n N2 ?_ λb=>(s2 b).pre Nq.ex.T.nd Nq.ex.p);rw[y35,y33];show Nq.trans N2
def Gj(P:ik)(w:World)(C:Ad)(A:SA)(co:List Co)(fs:List Tf)(sts:List<|List Key×V)(c:Co)(g:Nat)(H:Hp)(m:Nat)(X:List<|Ad×List Lb)(H':Hp):Prop:=∃fs' sts',Nj P w C A co fs sts (m*g) H fs' sts' H'/\∀d∈X,∃zs:List Nat,H' d.1=G (.lst<|zs.map nV)/\io (LbOk fs fs' c) d.2 zs
theorem zg8{E:XK}{I:VK}(Y:H D=B)(k1:D≠A.pp)(k2:D≠A.pf)(f:∀d∈X,d.1≠D/\d.1≠A.pp/\d.1≠A.pf)(ek:co[a]?=G c)(hh:c.hgt<lv)(U:fs.length+M*ct s c<1000000)(hs:sts.length+M*ct s c<1000000)(v:tt<32)(l:m<M)(rd:Rdg fs b c tt x y s)(sm:Smal s c)(Gq:Gj P w C A co fs sts c (ct s c) H m ((D,ls)::X) H')
  (J:∀n H2 (j:List V),H2 D=G (.lst j)->j.length=ls.length->Gj P w C A co fs sts c (ct s c) H (m+1) ((D,ls++[(tt,x,y)])::X) (upd H2 D<|.lst (j++[nV n]))->I (nV n) H2):zej P w C lv [.ref A.p,nV a,nV tt,nV x,nV y] H' I E:=by
 let(fs',sts',Nq,h):=Gq;let(zs,o,r):=h _ y04;apply zor ek hh U hs v l rd sm Nq λi e H2 n N2 N3 s2=>?_;let L:=Nq.sn.lst N2.up k1 k2 o;let ext:∀q n,LbOk fs fs' c q n->LbOk fs i c q n:=λq n z b=>(z b).ext N2.ex.T.nd N2.ex.p;apply J n H2 _ L (by rw[y00];show(SS.Paired.len r).symm) (i,e,N3.wr Y L k1 k2,λd hd=>?_);rcases y06.mp hd with rfl|hd
 .exact(zs++[n],by rw[zao,y0t];rfl,SM.Paired.snoc (L2.Paired.mapP r ext) s2)
 .let(us,T,Q):=h d<|y08 _ hd;let(p,u,O):=f d hd;show(us,by rw[zan p];show Nq.sn.lst N2.up u O T,L2.Paired.mapP Q ext)
theorem Gj.up(Gq:Gj P w C A co fs sts c g H m X H'):Up4 A H H':=let(_,_,Nq,_):=Gq;Nq.up
theorem Gj.e1(Gq:Gj P w C A co fs sts c g H m X H'):H' A.p=G (.ins C A.dx A.fl):=let(_,_,Nq,_):=Gq;Nq.sn.e1
theorem Gj.at(Gq:Gj P w C A co fs sts c g H m ((D,ls)::X) H'):∃zs:List V,H' D=G (.lst zs)/\zs.length=ls.length:=let(_,_,_,h):=Gq;let(zs,e,p):=h _ y04;(_,e,by rw[y00];show(SS.Paired.len p).symm)
theorem Gj.no2(Gq:Gj P w C A co fs sts c g H m [(D,ls)] H')(h:H' D2=B):H D2=B/\D2≠A.pp/\D2≠A.pf/\D≠D2:=by
 let(fs',sts',Nq,f):=Gq;let(zs,e,_):=f _ y04;let(n1,n2):=Nq.sn.nD h;let(ys,r,_):=Nq.sn.en;apply(?_,n1,n2,zap e h);cases hh:H D2 with
 |none=>rfl
 |some o =>
  let:=Nq.up D2 o n1 n2 (zap r h).symm (zap Nq.sn.es h).symm hh;rw[h]at this;cases this
theorem Gj.two(Gq:Gj P w C A co fs sts c g H m [(D,ls)] H')(h:H' D2=B):Gj P w C A co fs sts c g H m [(D2,[]),(D,ls)] (upd H' D2<|.lst []):=by
 let(Y,n1,n2,I):=Gq.no2 h;let(fs',sts',Nq,f):=Gq;apply(fs',sts',Nq.aft<|za7 h _,λd hd=>?_);rcases y06.mp hd with rfl|hd
 .exact([],zao,.nil)
 .let(zs,e,r):=f d hd;rw[y03.mp hd]at e r ⊢;show(zs,by rw[zan I];show e,r)
theorem Gj.join(Y:H D=B)(k1:D≠A.pp)(k2:D≠A.pf)(Gq:Gj P w C A co fs sts c g H m [(D2,ls2),(D,ls)] H'):∃ys zs:List V,H' D=G 82/\H' D2=G (.lst zs)/\ys.length=ls.length/\zs.length=ls2.length/\Gj P w C A co fs sts c g H m [(D,ls++ls2)] (upd H' D<|.lst (ys++zs)):=by
 let(fs',sts',Nq,f):=Gq;let(zs,o,r):=f _ y04;let(ys,E,e):=f (D,ls)<|y08 _ y04;apply(_,_,E,o,by rw[y00];show(SS.Paired.len e).symm,by rw[y00];show(SS.Paired.len r).symm,fs',sts',Nq.wr Y E k1 k2,λd hd=>?_);rw[y03.mp hd];show(ys++zs,by rw[zao,y0t],zwx e r)
end
theorem Stpt.upX{fs o:List Tf}{b:Nat}{c:Co}{l k1 k2 n:Nat}(T:TTb fs)(nd:o.Nodup)(pr:fs <+:o)(h:Stpt fs o b c l k1 k2 n)(M:k1<fs.length+4)(J:k2<fs.length+4):Stpt o o b c l k1 k2 n:=λpl A lab a E p w1 w2 f v la s1 s2=>h pl A lab a E p w1 w2 f v la (s1.cut T nd pr M)<|s2.cut T nd pr J
section
variable (P:ik)(w:World)(C:Ad)
structure Ab2(cs:List Co)(fs:List Tf)(sts:List<|List Key×V)(a t i s M lv:Nat)(c:Co)(lbs:List Lb):Prop where
 ek:cs[a]?=G c
 hh:c.hgt<lv
 ht:t<32
 hi:i<=4
 rd:∀q∈lbs,Rdg fs (i+1) c q.1 q.2.1 q.2.2 s
 hM:M<=64
 sm:Smal s c
 lf:fs.length+(M*ct s c+1)<1000000
 ls:sts.length+(M*ct s c+1)<1000000
inductive zlu(lv:Nat)(vs:List V)(H:Hp)(Q:VK)(_E:XK):Prop
 |mk (A:SA) (cs:List Co) (fs:List Tf) (sts:List<|List Key×V) (a t i s M:Nat) (pa ta tb:Ad) (xs ys:List Nat) (c:Co):(vs=[.ref A.p,.ref pa,nV t,.ref ta,.ref tb])->(Sj P w C A cs fs sts H)->(H pa=G (.tup [.str "some set",nV<|2^i,nV a]))->(H ta=G (.tup<|xs.map nV))->(H tb=G (.tup<|ys.map nV))->(2*(xs.length*ys.length)<=M)->(Ab2 cs fs sts a t i s M lv c<|lbS t (t|||2^i) xs ys)->((∀(fs1:List Tf) (found:List Nat),fs1.Nodup->io (LbOk fs fs1 c) (lbS t (t|||2^i) xs ys) found->∃F:List Nat,F.length<64/\∀k∈found,k∈F))->(∀fs1 sts' H' found ks,TTb fs1->Kp3 found ks->io (LbOk fs fs1 c) (lbS t (t|||2^i) xs ys) found->Nj P w C A cs fs sts (M*ct s c+1) H (jSo fs1 N 0 ks).1 sts' H'->Q (nV (jSo fs1 N 0 ks).2) H')->zlu lv vs H Q _E
inductive zlv(lv:Nat)(vs:List V)(H:Hp)(Q:VK)(_E:XK):Prop
 |mk (A:SA) (cs:List Co) (fs:List Tf) (sts:List<|List Key×V) (a t i u v s M:Nat) (pa la ra ta tb:Ad) (xs ys:List Nat) (c:Co):(vs=[.ref A.p,.ref pa,nV t,.ref la,.ref ra])->(Sj P w C A cs fs sts H)->(H pa=G (.tup [.str "some place",nV<|2^i,nV a]))->(H la=G (.tup [nV u,.ref ta]))->(H ra=G (.tup [nV v,.ref tb]))->(H ta=G (.tup<|xs.map nV))->(H tb=G (.tup<|ys.map nV))->(xs.length+ys.length+2<=M)->(Ab2 cs fs sts a t i s M lv c ((t,u,v)::lbP t (t|||2^i) u v xs ys))->((∀(fs1:List Tf) (found:List Nat),fs1.Nodup->io (LbOk fs fs1 c) (lbP t (t|||2^i) u v xs ys) found->∃F:List Nat,F.length<64/\∀k∈found,k∈F))->(∀fs1 sts' H' n found ks,TTb fs1->Kp3 found ks->LbOk fs fs1 c (t,u,v) n->io (LbOk fs fs1 c) (lbP t (t|||2^i) u v xs ys) found->Nj P w C A cs fs sts (M*ct s c+1) H (jSo fs1 Fa n ks).1 sts' H'->Q (nV (jSo fs1 Fa n ks).2) H')->zlv lv vs H Q _E
end
theorem zsb{fs o:List Tf}{c:Co}{b s n:Nat}{q:Lb}(h:LbOk fs o c q n)(rd:Rdg fs b c q.1 q.2.1 q.2.2 s):n<o.length+4:=let(_,_,_,_,_,_,X):=rd;((h b).by X).lt
theorem zqi{fs o:List Tf}{st:Bool}{i:Nat}{c:Co}{l k1 k2 n:Nat}(h:Stpt fs o i (.so st i c) l k1 k2 n):∀b,Stpt fs o b (.so st i c) l k1 k2 n:=λb pl A lab a E p w1 w2 f v la s1 s2=>by
 obtain rfl:=w2.1;show h pl A lab a E p w1 w2 f v la s1 s2
theorem zsc{fs U:List Tf}{c:Co}{t C b:Nat}{xs ys g:List Nat}(r:io (LbOk fs U c) (lbS t C xs ys) g):
  (∀k1∈xs,∀k2∈ys,(∃n∈g,Stpt fs U b c t k1 k2 n)/\∃n∈g,Stpt fs U b c C k1 k2 n)/\∀n∈g,∃k1∈xs,∃k2∈ys,Stpt fs U b c t k1 k2 n\/Stpt fs U b c C k1 k2 n:=by
 apply(λx O y I=>(?_,?_),λn o=>?_)
 .let(n,o,z):=(zgr r).1 (t,x,y)<|lbS_mem.mpr (x,O,y,I,.inl R);show(n,o,z b)
 .let(n,o,z):=(zgr r).1 (C,x,y)<|lbS_mem.mpr (x,O,y,I,.inr R);show(n,o,z b)
 .let(q,D,z):=(zgr r).2 n o;obtain⟨x,O,y,I,rfl|rfl⟩:=lbS_mem.mp D
  .exact(x,O,y,I,.inl<|z b)
  .exact(x,O,y,I,.inr<|z b)
theorem lbP_mem{t C u v:Nat}{xs ys:List Nat}{q:Lb}:q∈lbP t C u v xs ys↔(∃x∈xs,q=(t,x,v))\/(∃y∈ys,q=(t,u,y))\/q=(C,u,v):=by
 unfold lbP;simp only[y0o,y0g,y03,or_assoc];show or_congr (λ(x,O,e)=>(x,O,e.symm),λ(x,O,e)=>(x,O,e.symm))<|or_congr (λ(x,O,e)=>(x,O,e.symm),λ(x,O,e)=>(x,O,e.symm)) Iff.rfl
theorem zw9{fs U:List Tf}{c:Co}{t C u v b:Nat}{xs ys g:List Nat}(r:io (LbOk fs U c) (lbP t C u v xs ys) g):∀n∈g,(∃k1∈xs,Stpt fs U b c t k1 v n)\/(∃k2∈ys,Stpt fs U b c t u k2 n)\/Stpt fs U b c C u v n:=λn o=>by
 let(q,D,z):=(zgr r).2 n o;rcases lbP_mem.mp D with⟨x,O,rfl⟩|⟨y,I,rfl⟩|rfl
 .exact .inl (x,O,z b)
 .exact .inr<|.inl (y,I,z b)
 .exact .inr<|.inr (z b)
theorem zse{fs U:List Tf}{c:Co}{t C u v b:Nat}{xs ys g:List Nat}(r:io (LbOk fs U c) (lbP t C u v xs ys) g):(∃n∈g,Stpt fs U b c C u v n)/\(∀k1∈xs,∃n∈g,Stpt fs U b c t k1 v n)/\∀k2∈ys,∃n∈g,Stpt fs U b c t u k2 n:=by
 let go:∀q∈lbP t C u v xs ys,∃n∈g,Stpt fs U b c q.1 q.2.1 q.2.2 n:=λq D=>let(n,o,z):=(zgr r).1 q D;(n,o,z b);show(go _<|lbP_mem.mpr (.inr<|.inr R),λx O=>go _<|lbP_mem.mpr (.inl (x,O,R)),λy I=>go _<|lbP_mem.mpr (.inr<|.inl (y,I,R)))
theorem _root_.L2.Made.up(M:Made X H H1 name qual params body scope f)(E:Frz H1 a):Made X (λ_=>B) a name qual params body scope f:=by
 let(cl,ct,c',oc,J,l1,l2,l3,l4,q):=M.ex;show((λb o e=>by cases e),R,cl,ct,c',oc,J,l1,l2,E _ _ _ l3,l4,E _ _ _ q)
theorem mix_up4{cl:Y4}{A:SA}{H H2:Hp}(u:Up4 A (dropL cl H) H2):Up4 A H (mixL cl H H2):=λb o M J U C e=>by
 classical
 change(if InCl cl b then H b else H2 b)=G o;by_cases g:InCl cl b
 .rw[Xq g];show e
 .rw[Xp g];show u b o M J U C (by change(if InCl cl b then B else H b)=G o;rw[Xp g];show e)
theorem dropX_n(ad:Adopted X U H1 Hq)(E:Frz Hq H5):SameN H5 (L2.dropX X H5):=λb u e n=>by
 classical
 change(if CellOf X b then B else H5 b)=G u;rw[Xp]
 .exact e
 rintro⟨x,O⟩;let(o,v,M,_):=ad.2.2.2 x b O;let:=E _ _ _ M;rw[e]at this;show n _ _<|Option.some.inj this
def lbl:Tr->Rd->Rd->Nat
 |.nil,_,_=>0
 |.node l a b,p,q=>if q=p then l else if q∈rds a (19)then lbl a 19 q else lbl b 34 q
def asT(n:Nat)(t:Tr):As:=λk q=>decide (k<n)&&bit (lbl t [] q) k
structure Prt(n:Nat)(pl:Nat->Bool)(T t:Tr)(p:Rd):Prop where
 lb:∀q∈rds t p,lbl T [] q=lbl t p q
 lt:t.Let<|2^n
 v:Vl pl (asT n T) t p
 sz:t.size<=T.size
section
variable {n l:Nat}{pl:Nat->Bool}{T a b:Tr}{p:Rd}
theorem Prt.both(h:Prt n pl T 010 p):Prt n pl T a 19/\Prt n pl T b 34:=by
 let sz:1+a.size+b.size<=T.size:=h.sz;apply((λq hq=>?_,h.lt.2.1,h.v.lft,by omega),(λq hq=>?_,h.lt.2.2,h.v.rgt,by omega))
 .rw[h.lb q 090];change(if q=p then _ else if q∈rds a (19)then _ else _)=_;rw[Xp<|zdk hq,Xq hq]
 .rw[h.lb q<|rds_node.mpr (.inr<|.inr hq)];change(if q=p then _ else if q∈rds a (19)then _ else _)=_;rw[Xp<|zdj hq,Xp λz=>zb0 z hq]
theorem Prt.here(h:Prt n pl T 010 p):LetA l (asT n T) p:=λk C=>by
 change bit l k=(decide (k<n)&&bit (lbl T [] p) k);rw[h.lb p 028,show lbl 010 p p=l by change(if p=p then _ else _)=_;rw[Xq rfl]];by_cases o:k<n
 .rw[Xg o,y17]
 .rw[Xf o,y15];show bit_low<|y0k h.lt.1 (y1q 02 00)
theorem asT_fr:Fr0 n (asT n T):=λk q C=>by change(decide (k<n)&&_)=Fa;rw[Xf 00,y15]
end
inductive zis(Rq:Nat->List Tf->Hp->Prop)(Z:List Tf->Tr->Rd->Nat->Prop)(Gq:Tr->Rd->Prop)(NN:Nat)(vs:List V)(H:Hp)(Q:VK)(_E:XK):Prop
 |mk (l x y k:Nat) (fs:List Tf) (a b:Tr) (p:Rd):(vs=[nV l,nV x,nV y])->(Rq k fs H)->(k<NN)->(Gq (.node l a b) p)->(Z fs a (p++[Fa]) x)->(Z fs b (p++[N]) y)->(∀n fs' H',Frz H H'->TupS H H'->Rq (k+1) fs' H'->(∀t p n,Z fs t p n->Z fs' t p n)->Z fs' (.node l a b) p n->Q (nV n) H')->zis Rq Z Gq NN vs H Q _E
inductive zir(P:ik)(w:World)(K:Frag)(mg:Y1)(base:Heap)(kc d:Nat)(vs:List V)(H:Hp)(Q:VK)(_E:XK):Prop
 |mk (Rq:Nat->List Tf->Hp->Prop) (Z:List Tf->Tr->Rd->Nat->Prop) (Gq:Tr->Rd->Prop) (NN:Nat) (v:V) (z:Nat) (f:Ad) (fd:i8) (t:Tr) (p:Rd) (k:Nat) (fs:List Tf):(vs=[v,nV z,.ref f])->(TreeV H v t)->(t.depth<d)->((∀l a b p,Gq (.node l a b) p->Gq a (p++[Fa])/\Gq b (p++[N])))->(Gq t p)->((∀p,Z fs .nil p z))->(H f=G (fnO fd f))->(CloH P w K mg base kc H f 3<|zis Rq Z Gq NN)->(Rq k fs H)->(k+t.size<=NN)->(∀n fs' H',Frz H H'->TupS H H'->Rq (k+t.size) fs' H'->(∀t p n,Z fs t p n->Z fs' t p n)->Z fs' t p n->Q (nV n) H')->zir P w K mg base kc d vs H Q _E
structure Sml43(tl:List Str)(s:Sy)(t:Tr):Prop where
 ok:OkS tl s
 lv:lvS s<30
 sz:szS s<=400
 hg:(44).hgt<24
 co:(44).cost+t.size*ct t.size 44<1000000
 sm:Smal t.size 44
 w1:wt (λk=>isP<|tl.getD k "") 44
 w2:wl tl.length 44
inductive zlq(Pt:Ad)(qs:Y3)(vs:List V)(H:Hp)(Q:VK)(_E:XK):Prop
 |mk (v b:V) (bf:Ad) (s:Sy) (tl:List Str) (t:Tr):(vs=[v,.ref bf,b])->(TabOk H Pt qs)->(Rep H v s)->(H bf=G (.lst<|tl.map V.str))->(tl.length<=3)->(Sml43 tl s t)->(TreeV H b t)->(t.Let<|2^tl.length)->(t.size<=14)->(Vl (λk=>isP<|tl.getD k "") (asT tl.length t) t [])->(∀bb H',Same H H'->(bb=N↔hT 44 (asT tl.length t) t)->Q (.bl bb) H')->zlq Pt qs vs H Q _E
section
variable {P:ik}{w:World}{C:Ad}{A:SA}{cs:List Co}{fs:List Tf}{sts:List (List Key×V)}{H H':Hp}
theorem Sj.frz(L:Sj P w C A cs fs sts H)(u:Up4 A H H'):Frz H H':=λb o x h=>by
 let(rs,e1,_):=L.ep;let(qs,O,_):=L.ef;let(ys,r,_):=L.en;show u b _ (λz=>by rw[z,e1]at h;cases h) (λz=>by rw[z,O]at h;cases h) (λz=>by rw[z,r]at h;cases h) (λz=>by rw[z,L.es]at h;cases h) h
theorem Sj.drop(L:Sj P w C A cs fs sts H)(g:SameN H H'):Sj P w C A cs fs sts H':=by
 let(rs,e1,J):=L.ep;let(qs,O,d):=L.ef;let(ys,r,j,y,c):=L.en;let ts:TupS H H':=λb o e=>g _ _ e λ_ _ z=>nomatch z;show(g _ _ L.e1 (λ_ _ z=>nomatch z),(rs,g _ _ e1 (λ_ _ z=>nomatch z),L2.Paired.mapP J λ_ _ z=>z.ts ts),(qs,g _ _ O (λ_ _ z=>nomatch z),L2.Paired.mapP d λ_ _ z=>z.ts ts),(ys,g _ _ r (λ_ _ z=>by cases z),j.ts ts,y,c),g _ _ L.es (λ_ _ z=>nomatch z),L.T,L.st,L.nf)
end
theorem zev:∀(t:Tr) (p:Rd),t.lets2=(rds t p).map (lbl t p)
 |.nil,_=>rfl
 |.node l a b,p=>by
  change l::(a.lets2++b.lets2)=(p::(rds a 19++rds b 34)).map _;rw[y0p,y0t,zev a 19,zev b 34];congr 1
  .change l=if p=p then l else _
   rw[Xq rfl]
  .congr 1
   .refine y29 λq D=>?_;change _=if q=p then _ else if q∈rds a (19)then _ else _
    rw[Xp<|zdk D,Xq D]
   .refine y29 λq D=>?_;change _=if q=p then _ else if q∈rds a (19)then _ else _
    rw[Xp<|zdj D,Xp λz=>zb0 z D]
theorem vl_fit{tl:List Str}{t:Tr}(h:fitB tl t.lets2=N):Vl (λk=>isP<|tl.getD k "") (asT tl.length t) t []:=λk C q q' o c e D=>by
 let e:(decide (k<tl.length)&&bit (lbl t [] q) k)=N:=e;let D:(decide (k<tl.length)&&bit (lbl t [] q') k)=N:=D;rw[y07,decide_eq_true_eq]at e D;let C:isP (tl.getD k "")=N:=C;unfold fitB at h;let M:=y0u.mp h k<|y11.mpr e.1;rw[C,y2t,y3g,beq_iff_eq]at M;unfold cw at M;rw[zev t [],y3n,y00]at M;let(x,O):=y4g.mp M;let I:q∈(88).filter ((λl=>l/2^k%2==1)∘lbl t []):=y1a.mpr (o,e.2);let a:q'∈(88).filter ((λl=>l/2^k%2==1)∘lbl t []):=y1a.mpr (c,D.2);rw[O]at I a;rw[y03.mp I,y03.mp a]
structure Gd43(H:Hp)(v:V)(b:Ad)(tl:List Str)(s:Sy):Prop where
 eb:H b=G (.lst 018)
 fo:FrOk tl
 l3:tl.length<=3
 l4:∀z∈tl,z.length<=4
 fr:frameB 018=N
 rp:Rep H v s
 wf:wfB s=N
 dp:s.depth<=12
 pt:s.parts<=60
 lt:letB SS.rowWords 3 tl s=N
theorem Gd43.same{H H':Hp}{v:V}{b:Ad}{tl:List Str}{s:Sy}(Gq:Gd43 H v b tl s)(g:Same H H'):Gd43 H' v b tl s:=(g _ _ Gq.eb,Gq.fo,Gq.l3,Gq.l4,Gq.fr,Gq.rp.same g,Gq.wf,Gq.dp,Gq.pt,Gq.lt)
inductive zlr(vs:List V)(H:Hp)(Q:VK)(_E:XK):Prop
 |mk (v:V) (b:Ad) (tl:List Str) (s:Sy):(vs=[v,.ref b])->(Gd43 H v b tl s)->(∀H',Same H H'->Q .non H')->zlr vs H Q _E
inductive znl(C:Ad)(Pt:Ad)(qs:Y3)(vs:List V)(H:Hp)(Q:VK)(E:XK):Prop
 |mk (v b:V) (bf:Ad) (tl:List Str) (s:Sy):(vs=[v,.ref bf,b])->(TabOk H Pt qs)->(Gd43 H v bf tl s)->(((∃t:TrZ,TreeZ H b t/\t.size<=100/\(∃x∈t.lets,¬(0<=x/\x<2^tl.length))/\∀a H',Same H H'->H' a=B->E (.ref C) (G a) H')\/(∃t:Tr,TreeV H b t/\t.Let (2^tl.length)/\t.size<=14/\Sml43 tl s t/\∀bb H',Same H H'->(bb=N↔fitB tl t.lets2=N/\hT (coreS tl s) (asT tl.length t) t)->Q (.bl bb) H')))->znl C Pt qs vs H Q E
end SM
namespace L2
def SameB(D:Ad)(H H':Hp):Prop:=∀b o,b≠D->H b=G o->H' b=G o
theorem Same.b(g:Same H H')(D:Ad):SameB D H H':=λb o _ e=>g b o e
theorem SameB.trans(a:SameB D H H1)(b:SameB D H1 H2):SameB D H H2:=λc o n e=>b c o n<|a c o n e
theorem SameB.wr(o:HO):SameB D H (upd H D o):=λb u n e=>by rw[zan n];show e
end L2
namespace SM
open PySem PySem.Spec PyProof.Rows L2 SS
noncomputable def bad4:List Str:=["q9","q8","Q9","Q8"]
def NG(tl:List Str):Prop:=∀z∈tl,NmOk z/\z∉bad4
noncomputable def tails51:List (List Nat):=[[],[48],[55],[52,50],[57,57,57]]
noncomputable def tails52:List (List Nat):=[[],[49],[49,50],[53],[51,48,53]]
def Nm51(n p:Int)(z:Str):Prop:=∃(a:Nat) (t:List Nat) (big:Bool),(a:Int)=(n+7*p)%26/\t∈tails51/\z.cps.toList=(if big=N then 65+a else 97+a)::t
theorem zuh:∀a:Fin 26,97+a.val∈SMALL.cps.toList/\65+a.val∈GREAT.cps.toList:=by decide+kernel
theorem zt8:∀t∈tails51++tails52,t.length<=3/\∀x∈t,x∈FIGS.cps.toList:=by decide+kernel
theorem ztq:∀z∈bad4,∀t∈tails51,z.cps.toList.drop 1≠t:=by decide+kernel
theorem nm51_ok(h:Nm51 n p z):NmOk z/\z∉bad4:=by
 let(a,t,big,r,ht,o):=h;let L:a<26:=by
  let:=y10 (n+7*p) (show(0:Int)<26 by decide);omega
 let(M,J):=zuh (a,L);let(x,C):=zt8 t<|y1f _ ht;apply(?_,λhz=>ztq z hz t ht<|by rw[o];rfl);cases big with
 |true=>show .inr<|zh6 o J x C
 |false=>show .inl<|zh6 o M x C
theorem nm51_ne(hz:Nm51 n p z)(I:Nm51 n q y)(c:0<=p)(l:p<=2)(i:0<=q)(D:q<=2)(T:p≠q):z≠y:=by
 rintro rfl;let(a,t,big,r,ht,o):=hz;let(b,u,f,eb,g,E):=I;rw[o]at E;let e1:=List.head_eq_of_cons_eq E;let L:=y10 (n+7*p) (show(0:Int)<26 by decide);let Y:=y10 (n+7*q) (show(0:Int)<26 by decide);let e:=y1c (n+7*p) (show(26:Int)≠0 by decide);let j:=y1c (n+7*q) (show(26:Int)≠0 by decide);let d:a=b:=by
  cases big<;>cases f<;>simp only[if_true,if_false,y1b]at e1<;>omega
 omega
theorem nodup51{tl:List Str}(E:tl.length<=3)(h:∀(i:Nat) z,tl[i]?=G z->Nm51 n (i:Int) z):tl.Nodup:=by
 rw[List.nodup_iff_pairwise_ne,y4c];intro i j hi f a;show nm51_ne (h i _<|y0e hi) (h j _<|y0e f) 00 00 00 00 00
theorem NG.len(h:NG tl):∀z∈tl,z.length<=4:=λz hz=>by
 rcases(h z hz).1 with h|h
 .exact(ze9 h).2
 .exact(ze9 h).2
theorem zkp(h:NmOk z):isName (.str z)=N:=by
 unfold isName;rcases h with h|h
 .rw[zgw zew h];rfl
 .rw[zgw zoh h,y4l]
theorem NG.frame(h:NG tl)(j:tl.length<=3)(nd:tl.Nodup):frameB 018=N:=by
 apply zpy (by rw[y00];omega) (y0u.mpr λy I=>?_)<|List.Pairwise.map V.str (λa b (h:a≠b) z=>h<|V.str.inj z) nd;let(z,L,rfl):=y0g.mp I;show zkp (h z L).1
inductive zlo(vs:List V)(H:Hp)(Q:VK)(_E:XK):Prop
 |mk (k n p:Int):(vs=[.int k,.int n,.int p])->(0<=p)->(p<=10)->(∀z H',Nm51 n p z->Same H H'->Q (.str z) H')->zlo vs H Q _E
inductive zlx(vs:List V)(H:Hp)(Q:VK)(_E:XK):Prop
 |mk (n:Int) (many:Nat):(vs=[.int n,nV many])->(many<=3)->(∀(D:Ad) (tl:List Str) (H':Hp),H D=B->Same H H'->H' D=G (.lst<|tl.map V.str)->NG tl->tl.Nodup->tl.length=many->Q (.ref D) H')->zlx vs H Q _E
def Leaf(tl:List Str)(s:Sy):Prop:=(tl=[]/\s=.qu "some" "k3" (.bare "same" "k3" "k3"))\/∃wd n m,s=.bare wd n m/\wd∈treeW/\n∈tl/\m∈tl/\wfB s=N
inductive zc9(vs:List V)(H:Hp)(Q:VK)(_E:XK):Prop
 |mk (n:Int) (b:Ad) (tl:List Str):(vs=[.int n,.ref b])->(H b=G (.lst<|tl.map V.str))->(NG tl)->(tl.length<=3)->(∀v s H',Same H H'->Rep H' v s->Leaf tl s->Q v H')->zc9 vs H Q _E
noncomputable def zB(d:Nat):Nat:=match d with|0=>2|1=>8|_=>20
noncomputable def cB(d:Nat):Nat:=match d with|0=>10|1=>52|_=>220
noncomputable def pB(d:Nat):Nat:=match d with|0=>2|1=>5|_=>11
structure Ds(d:Nat)(tl:List Str)(s:Sy):Prop where
 wf:wfB s=N
 lt:letB SS.rowWords 3 tl s=N
 ok:OkS tl s
 lv:lvS s<=1+4*d
 sz:szS s<=zB d
 hg:(44).hgt<=1+3*d
 co:(44).cost<=cB d
 dp:s.depth<=2+d
 pt:s.parts<=pB d
theorem Ds.leaf(hd:d<=2)(j:tl.length<=3)(h:Leaf tl s):Ds d tl s:=by
 let r:2<=zB d:=by rcases(show d=0\/d=1\/d=2 by omega)with rfl|rfl|rfl<;>decide
 let y:10<=cB d:=by rcases(show d=0\/d=1\/d=2 by omega)with rfl|rfl|rfl<;>decide
 let a:2<=pB d:=by rcases(show d=0\/d=1\/d=2 by omega)with rfl|rfl|rfl<;>decide
 rcases h with⟨rfl,rfl⟩|⟨wd,n,m,rfl,C,o,l,wf⟩
 .refine(by decide+kernel,by decide+kernel,(by decide+kernel,by decide,by decide+kernel,by decide+kernel,by decide+kernel,by decide),?_,?_,?_,?_,?_,?_)
  .change 0+(if("some":Str)="all" then 4 else 1)<=_;rw[Xp 02];omega
  .change 1+(if("some":Str)="all" then 3 else 1)<=_;rw[Xp 02];omega
  .simp only[coreS];rw[Xp 02];change 0+1<=_;omega
  .simp only[coreS];rw[Xp 02];change 4*2+2<=_;omega
  .change 1+1<=_;omega
  .change 2<=_;omega
 .refine(wf,?_,(C,o,l,by omega),by change 0<=_;omega,by change 1<=_;omega,by change 0<=_;omega,by change 2<=_;omega,by change 1<=_;omega,by change 1<=_;omega);simp only[letB,y07,decide_eq_true_eq];apply((j,?_),o,l);intro h;revert C;simp only[SS.rowWords,y06,y0l,or_false]at h;rcases h with rfl|rfl<;>decide
def BO(tl:List Str)(s:Sy):Prop:=∃wd n m,s=.bare wd n m/\wd∈treeW/\n∈tl/\m∈tl/\wfB s=N
theorem zo0(h:wd∈treeW):wd∈bareWords:=by
 revert h;simp only[treeW,bareWords,y06,y0l,or_false];rintro(h|h|h|h|h|h)<;>simp[h]
def Lst51(D:Hp)(tl:List Str)(a:Ad)(k:Nat)(ne:Prop)(H:Hp):Prop:=Same D H/\D a=B/\∃ys,H a=G 82/\ys.length<=k/\(∀y∈ys,∃s,Rep H y s/\BO tl s)/\(ne->ys≠[])
section
variable {H0 H H':Hp}{tl:List Str}{p3:Ad}{k:Nat}{ne:Prop}
theorem Lst51.app(L:Lst51 H0 tl p3 k ne H)(g:Same H H')(r:Rep H' y s)(b:BO tl s):∃ys,H' p3=G 82/\ys.length<=k/\Lst51 H0 tl p3 (k+1) True (upd H' p3<|.lst (ys++[y])):=by
 let(J,Y,ys,e,j,l,_):=L;let D:=g _ _ e;let ts:TupS H' (upd H' p3<|.lst (ys++[y])):=TupS.wr D _;apply(ys,D,j,(J.trans g).wr Y _,Y,ys++[y],zao,by rw[y02];simp only[y0b,y14];omega,λz hz=>?_,λ_=>by simp);rcases y0o.mp hz with h|h
 .let(s',r',T):=l z h;show(s',zkd (r'.same g) ts,T)
 .rw[y03.mp h];show(s,zkd r ts,b)
theorem Lst51.cat(L:Lst51 H0 tl p3 k ne H)(g:Same H H')(D:∀y∈us,∃s,Rep H' y s/\BO tl s)(U:us.length=3):∃ys,H' p3=G 82/\ys.length<=k/\∀H'',New H' p (.lst<|ys++us) H''->Lst51 H0 tl p (k+3) True H'':=by
 let(J,Y,ys,e,j,l,_):=L;apply(ys,g _ _ e,j,λH'' u=>(J.trans<|g.trans u.g,(J.trans g).free u.nil,ys++us,u.at',by rw[y02];omega,λz hz=>?_,λ_ z=>?_))
 .rcases y0o.mp hz with h|h
  .let(s',r',T):=l z h;show(s',(r'.same g).same u.g,T)
  .let(s',r',T):=D z h;show(s',r'.same u.g,T)
 .let:=(List.append_eq_nil_iff.mp z).2;rw[this]at U;cases U
theorem Lst51.le(L:Lst51 H0 tl p3 k ne H)(h:k<=k')(o:a->ne):Lst51 H0 tl p3 k' a H:=by
 let(J,Y,ys,e,j,g,T):=L;show(J,Y,ys,e,by omega,g,λz=>T<|o z)
end
theorem zrz(h:NmOk z)(l:isP z=Fa):isSt z=N:=by
 rcases h with h|h
 .let:isP z=N:=zgw zew h;rw[this]at l;cases l
 .exact zgw zoh h
theorem bo_mk(C:wd∈treeW)(O:x∈tl)(I:y∈tl)(wf:wfB (.bare wd x y)=N):BO tl (.bare wd x y):=(wd,x,y,R,C,O,I,wf)
end SM
set_option maxHeartbeats 2000000
namespace SM
open PySem PySem.Spec PyProof.Rows L2 SS
inductive Dw(mo:Nat):Nat->List Str->Sy->Prop
 |leaf {d:Nat} {tl:List Str} {s:Sy}:Leaf tl s->Dw mo d tl s
 |neg {d:Nat} {tl:List Str} {s:Sy}:Dw mo d tl s->Dw mo (d+1) tl (.neg s)
 |two {d:Nat} {tl:List Str} {wd:Str} {s t:Sy} (hw:wd="and"\/wd="or"):Dw mo d tl s->Dw mo d tl t->Dw mo (d+1) tl (.two wd s t)
 |qu {d:Nat} {tl:List Str} {wd n:Str} {s:Sy} (hw:wd="some"\/wd="all") (nz:NmOk n) (nt:n∉tl) (hl:tl.length<mo):Dw mo d (tl++[n]) s->Dw mo (d+1) tl (.qu wd n s)
noncomputable def ctq(Q:Nat):Co->Nat
 |.bare _ _ _=>1
 |.neg c=>ctq Q c+1
 |.con c e=>ctq Q c+ctq Q e+2
 |.so _ _ c=>Q*ctq Q c+2
noncomputable def nst:Co->Nat
 |.bare _ _ _=>0
 |.neg c=>nst c
 |.con c e=>nst c+nst e
 |.so st _ c=>nst c+if st=N then 1 else 0
theorem ct_q{s Q:Nat}(M:2^s<=Q)(J:s+1<=Q):∀c,ct s c<=ctq Q c
 |.bare _ _ _=>y05 _
 |.neg c=>y25 (ct_q M J c) 1
 |.con c e=>y25 (Nat.add_le_add (ct_q M J c)<|ct_q M J e) 2
 |.so st i c=>by
  apply y25 (y3s ?_<|ct_q M J c) 2;split
  .exact M
  .exact J
theorem ct_n{s:Nat}(hs:s<=6):∀c,ct s c<=10^nst c*ctq (s+1) c
 |.bare _ _ _=>y05 _
 |.neg c=>by
  let E:=ct_n hs c;change ct s c+1<=10^nst c*(ctq (s+1) c+1);let l:0<10^nst c:=y32 02;rw[y2w];omega
 |.con c e=>by
  let H:=ct_n hs c;let Y:=ct_n hs e;change ct s c+ct s e+2<=10^(nst c+nst e)*(ctq (s+1) c+ctq (s+1) e+2);let l:0<10^nst c:=y32 02;let D:0<10^nst e:=y32 02;let M:10^nst c*ctq (s+1) c<=10^(nst c+nst e)*ctq (s+1) c:=y1y _<|y1q 02 00;let J:10^nst e*ctq (s+1) e<=10^(nst c+nst e)*ctq (s+1) e:=y1y _<|y1q 02 00;let U:0<10^(nst c+nst e):=y32 02;rw[y2w,y2w];omega
 |.so st i c=>by
  let E:=ct_n hs c;let l:0<10^nst c:=y32 02;let d:∀n,n<=6->2^n<=10*(n+1):=by decide
  cases st with
  |true =>
   change 2^s*ct s c+2<=10^(nst c+1)*((s+1)*ctq (s+1) c+2);let M:2^s*ct s c<=10*(s+1)*(10^nst c*ctq (s+1) c):=y3s (d s hs) E;let J:10*(s+1)*(10^nst c*ctq (s+1) c)=10^(nst c+1)*((s+1)*ctq (s+1) c):=by rw[y3k];ac_rfl
   let U:0<10^(nst c+1):=y32 02;rw[y2w,←J];omega
  |false =>
   change(s+1)*ct s c+2<=10^nst c*((s+1)*ctq (s+1) c+2);let M:(s+1)*ct s c<=(s+1)*(10^nst c*ctq (s+1) c):=y34 _ E;let J:(s+1)*(10^nst c*ctq (s+1) c)=10^nst c*((s+1)*ctq (s+1) c):=by ac_rfl
   rw[y2w,←J];omega
theorem ct_0{s:Nat}:∀c,nst c=0->ct s c=ctq (s+1) c
 |.bare _ _ _,_=>rfl
 |.neg c,h=>by change ct s c+1=_;rw[ct_0 c h];rfl
 |.con c e,h=>by
  let h:nst c+nst e=0:=h;change ct s c+ct s e+2=_;rw[ct_0 c 00,ct_0 e 00];rfl
 |.so st i c,h=>by
  let h:nst c+(if st=N then 1 else 0)=0:=h;cases st with
  |true=>rw[Xq rfl]at h;omega
  |false=>change(s+1)*ct s c+2=_;rw[ct_0 c 00];rfl
noncomputable def cbq(Q:Nat):Nat->Nat->Nat
 |0,_=>Q+2
 |d+1,0=>2*cbq Q d 0+5
 |d+1,r+1=>2*cbq Q d (r+1)+5+(Q*(cbq Q d r+1)+3)
theorem zm4(Q d r:Nat):2*cbq Q d r+5<=cbq Q (d+1) r:=by
 cases r with
 |zero=>show y05 _
 |succ r=>change _<=2*cbq Q d (r+1)+5+_;omega
theorem zoq(Q r:Nat):∀d,Q+2<=cbq Q d r
 |0=>by cases r<;>show y05 _
 |d+1=>by have:=zoq Q r d;have:=zm4 Q d r;omega
theorem zdp{tl:List Str}{s:Sy}(h:Leaf tl s):(∃wd n m,s=.bare wd n m/\wd∈treeW/\n∈tl/\m∈tl/\wfB s=N/\coreS tl s=.bare wd 052 (tl.idxOf m))\/(tl=[]/\s=.qu "some" "k3" (.bare "same" "k3" "k3")/\coreS tl s=.so Fa 0 (.bare "same" 0 0)):=by
 rcases h with⟨rfl,rfl⟩|⟨wd,n,m,rfl,C,o,l,wf⟩
 .refine .inr (R,R,?_);simp only[coreS];rw[Xp 02];rw[show isP "k3"=N by decide+kernel];rfl
 .exact .inl (wd,n,m,R,C,o,l,wf,R)
theorem zc2{tl:List Str}{wd:Str}{s t:Sy}(C:wd="and"\/wd="or"):coreS tl (.two wd s t)=.con 44 (coreS tl t)\/coreS tl (.two wd s t)=.neg (.con (.neg 44)<|.neg (coreS tl t)):=by
 simp only[coreS];rcases C with rfl|rfl
 .rw[Xp 02];show .inl R
 .rw[Xq rfl];show .inr R
theorem zef{tl:List Str}{wd n:Str}{s:Sy}(C:wd="some"\/wd="all"):coreS tl (.qu wd n s)=.so (!isP n) tl.length 020\/coreS tl (.qu wd n s)=.neg (.so (!isP n) tl.length<|.neg 020):=by
 simp only[coreS];rcases C with rfl|rfl
 .rw[Xp 02];show .inl R
 .rw[Xq rfl];show .inr R
theorem Dw.ctq{mo Q d:Nat}{tl:List Str}{s:Sy}(h:Dw mo d tl s):SM.ctq Q 44<=cbq Q d (mo-tl.length):=by
 induction h with
 |@leaf d tl s h =>
  let:=zoq Q (mo-tl.length) d;rcases zdp h with⟨wd,n,m,_,_,_,_,_,e⟩|⟨_,_,e⟩
  .rw[e];change 1<=_;omega
  .rw[e];change Q*1+2<=_;omega
 |@neg d tl s _ E =>
  let:=zm4 Q d<|mo-tl.length;change SM.ctq Q 44+1<=_;omega
 |@two d tl wd s t C _ _ H Y =>
  let:=zm4 Q d<|mo-tl.length;rcases zc2 (tl:=tl) (s:=s) (t:=t) C with e|e
  .rw[e];change SM.ctq Q 44+SM.ctq Q (coreS tl t)+2<=_;omega
  .rw[e];change SM.ctq Q 44+1+(SM.ctq Q (coreS tl t)+1)+2+1<=_;omega
 |@qu d tl wd n s C i O j _ E =>
  obtain⟨r,g⟩:∃r,mo-tl.length=r+1:=(mo-tl.length-1,by omega);rw[y02,y0i,show mo-(tl.length+1)=r by omega]at E;rw[g];let M:Q*SM.ctq Q 020<=Q*cbq Q d r:=y34 _ E;let f:cbq Q (d+1) (r+1)=2*cbq Q d (r+1)+5+(Q*(cbq Q d r+1)+3):=rfl;rw[y2w,Nat.mul_one]at f;rcases zef (tl:=tl) (n:=n) (s:=s) C with e|e
  .rw[e];change Q*SM.ctq Q 020+2<=_;omega
  .rw[e];change Q*(SM.ctq Q 020+1)+2+1<=_;rw[y2w];omega
noncomputable def zB4:Nat->Nat|0=>2|d+1=>2*zB4 d+4
noncomputable def cB4:Nat->Nat|0=>10|d+1=>4*cB4 d+12
noncomputable def pB4:Nat->Nat|0=>2|d+1=>2*pB4 d+1
theorem zB4_2(d:Nat):2<=zB4 d:=by cases d<;>simp only[zB4]<;>omega
theorem cB4_2(d:Nat):10<=cB4 d:=by cases d<;>simp only[cB4]<;>omega
theorem pB4_2:∀d:Nat,2<=pB4 d
 |0=>y05 _
 |d+1=>by have:=pB4_2 d;change 2<=2*pB4 d+1;omega
structure Dz(d:Nat)(tl:List Str)(s:Sy):Prop where
 wf:wfB s=N
 lt:letB SS.rowWords 3 tl s=N
 ok:OkS tl s
 lv:lvS s<=1+4*d
 sz:szS s<=zB4 d
 hg:(44).hgt<=1+3*d
 co:(44).cost<=cB4 d
 dp:s.depth<=2+d
 pt:s.parts<=pB4 d
theorem Dw.dz{mo d:Nat}{tl:List Str}{s:Sy}(y:mo<=3)(h:Dw mo d tl s)(j:tl.length<=3):Dz d tl s:=by
 induction h with
 |@leaf d tl s h =>
  let r:=Ds.leaf (d:=0) 02 j h;let z:=zB4_2 d;let c:=cB4_2 d;let p:=pB4_2 d;show(r.wf,r.lt,r.ok,by have:=r.lv;omega,by have:_<=2:=r.sz;omega,by have:=r.hg;omega,by have:_<=10:=r.co;omega,by have:=r.dp;omega,by have:_<=2:=r.pt;omega)
 |@neg d tl s _ E =>
  let(M,J,U,Q,g,a,q,f,l):=E j;let z:=zB4_2 d;let c:=cB4_2 d;apply(M,?_,U,by change lvS s+1<=_;omega,by change szS s+1<=2*zB4 d+4;omega,by change(44).hgt+1<=_;omega,by change(44).cost+2<=4*cB4 d+12;omega,by change s.depth+1<=_;omega,by change s.parts+1<=2*pB4 d+1;omega);simp only[letB,y07,decide_eq_true_eq];show((j,by decide),J)
 |@two d tl wd s t C _ _ H Y =>
  let(M,J,U,Q,g,a,q,f,l):=H j;let(k1,k2,k3,u,k5,x,A,D,I):=Y j;apply(by simp only[wfB,M,k1,Bool.and_self],?_,(U,k3),?_,?_,?_,?_,by change max s.depth t.depth+1<=_;omega,by change s.parts+t.parts+1<=2*pB4 d+1;omega)
  .simp only[letB,y07,decide_eq_true_eq];apply((j,?_),J,k2);rcases C with rfl|rfl<;>decide
  .change max (lvS s) (lvS t)+(if wd="or" then 4 else 1)<=_;split<;>omega
  .change szS s+szS t+(if wd="or" then 4 else 1)<=2*zB4 d+4;split<;>omega
  .rcases zc2 (tl:=tl) (s:=s) (t:=t) C with e|e
   .rw[e];change max (44).hgt (coreS tl t).hgt+1<=_;omega
   .rw[e];change max ((44).hgt+1) ((coreS tl t).hgt+1)+1+1<=_;omega
  .rcases zc2 (tl:=tl) (s:=s) (t:=t) C with e|e
   .rw[e];change(44).cost+(coreS tl t).cost+2<=4*cB4 d+12;omega
   .rw[e];change(44).cost+2+((coreS tl t).cost+2)+2+2<=4*cB4 d+12;omega
 |@qu d tl wd n s C i O v _ E =>
  let(M,J,U,Q,g,a,q,f,l):=E (by rw[y02,y0i];omega);let o:n.length<=4:=by
   rcases i with h|h
   .exact(ze9 h).2
   .exact(ze9 h).2
  apply(by simp only[wfB,M,zkp i,Bool.and_self],?_,(o,by omega,U),?_,?_,?_,?_,by change s.depth+1<=_;omega,by change s.parts+1<=2*pB4 d+1;omega)
  .simp only[letB,y07,decide_eq_true_eq];apply((by omega,?_),O,J);rcases C with rfl|rfl<;>decide
  .change lvS s+(if wd="all" then 4 else 1)<=_;split<;>omega
  .change szS s+(if wd="all" then 3 else 1)<=2*zB4 d+4;split<;>omega
  .rcases zef (tl:=tl) (n:=n) (s:=s) C with e|e
   .rw[e];change(020).hgt+1<=_;omega
   .rw[e];change(020).hgt+1+1+1<=_;omega
  .rcases zef (tl:=tl) (n:=n) (s:=s) C with e|e
   .rw[e];change 4*(020).cost+2<=4*cB4 d+12;omega
   .rw[e];change 4*((020).cost+2)+2+2<=4*cB4 d+12;omega
def plT(tl:List Str):Nat->Bool:=λk=>isP<|tl.getD k ""
theorem zut(tl:List Str)(n:Str):plU (plT tl) tl.length (isP n)=plT 024:=funext λk=>by
 let a:isP ""=Fa:=by decide+kernel
 unfold plU plT;by_cases e:k=tl.length
 .rw[Xq e,e,y0j,y0n 37,y43];rfl
 .rw[Xp e,y0j,y0j];by_cases h:k<tl.length
  .rw[y0q h]
  .rw[y1u 00,y1u<|by rw[y02,y0i];omega]
theorem zmf{tl:List Str}{n:Str}(h:n∈tl):plT tl 052=isP n:=by
 unfold plT;let M:=y0x.mpr h;rw[y0j,y0e M,y3a M];rfl
theorem zxv{wd n m:Str}(h:wfB (.bare wd n m)=N):(wd="in"->isP n=N)/\(¬wd="in"->¬wd="within"->isP n=N/\isP m=N):=by
 let h':(if wd=("in":Str)then isPl n&&isSt m else if wd=("within":Str)then isSt n&&isSt m else isPl n&&isPl m)=N:=h;apply(λe=>?_,λe1 L=>?_)
 .rw[Xq e,y07]at h';show h'.1
 .rw[Xp e1,Xp L,y07]at h';show h'
theorem Dw.w{mo d:Nat}{tl:List Str}{s:Sy}(y:mo<=3)(h:Dw mo d tl s)(j:tl.length<=3):wt (plT tl) 44/\wl tl.length 44:=by
 induction h with
 |@leaf d tl s h =>
  rcases zdp h with⟨wd,n,m,rfl,_,o,l,wf,e⟩|⟨rfl,_,e⟩
  .rw[e];let hi:=y0x.mpr o;let f:=y0x.mpr l;let w:=zxv wf;show((λz=>by rw[zmf o];show w.1 z,λU c=>by rw[zmf o,zmf l];show w.2 U c),by omega,by omega)
  .rw[e];show((λz=>rfl,λ_ _=>(R,R)),R,by decide,by decide,by decide)
 |neg _ E=>show E j
 |@two d tl wd s t C _ _ H Y =>
  let M:=H j;let J:=Y j;rcases zc2 (tl:=tl) (s:=s) (t:=t) C with e|e<;>rw[e]<;>show((M.1,J.1),M.2,J.2)
 |@qu d tl wd n s C i O v _ E =>
  let M:=E (by rw[y02,y0i];omega);rw[y02,y0i,←zut]at M;let a:wt (plU (plT tl) tl.length<|! !isP n) 020:=by rw[Bool.not_not];show M.1
  rcases zef (tl:=tl) (n:=n) (s:=s) C with e|e<;>rw[e]<;>show(a,R,by omega,M.2)
theorem smal5{s:Nat}(h:s<=5):∀c,Smal s c
 |.bare _ _ _=>trivial
 |.neg c=>smal5 h c
 |.con c e=>(smal5 h c,smal5 h e)
 |.so st i c=>(smal5 h c,by cases st with|true=>show .inl h|false=>change s<=60;omega)
theorem smal0{s:Nat}(h:s<=60):∀c,nst c=0->Smal s c
 |.bare _ _ _,_=>trivial
 |.neg c,z=>smal0 h c z
 |.con c e,z=>by have z:nst c+nst e=0:=z;show(smal0 h c 00,smal0 h e 00)
 |.so st i c,z=>by
  let z:nst c+(if st=N then 1 else 0)=0:=z;cases st with
  |true=>rw[Xq rfl]at z;omega
  |false=>show(smal0 h c 00,h)
inductive znk(mo d:Nat)(vs:List V)(H:Hp)(Q:VK)(_E:XK):Prop
 |mk (l b:Ad) (ns:List Int) (tl:List Str):(vs=[.ref l,.ref b,nV d,nV mo])->(H l=G (.lst<|ns.map V.int))->(ns.length<=12)->(H b=G (.lst<|tl.map V.str))->(l≠b)->(NG tl)->(tl.length<=3)->(mo<=3)->(∀v s (ns':List Int) H',SameB l H H'->H' l=G (.lst<|ns'.map V.int)->ns'.length<=12->Rep H' v s->Dw mo d tl s->Q v H')->znk mo d vs H Q _E
inductive zcv(vs:List V)(H:Hp)(Q:VK)(_E:XK):Prop
 |mk (n:Int) (b:Ad) (tl:List Str):(vs=[.int n,.ref b])->(H b=G (.lst<|tl.map V.str))->(tl.length<=3)->(∀z H',Same H H'->NmOk z->(n%2=0->isP z=N)->z∉bad4->z∉tl->Q (.str z) H')->zcv vs H Q _E
def tsets:Sy->Nat
 |.bare _ _ _=>0
 |.neg s=>tsets s
 |.two _ s t=>tsets s+tsets t
 |.qu _ n s=>(if isP n=N then 0 else 1)+tsets s
def AllP(tl:List Str):Prop:=∀z∈tl,isP z=N
inductive zch(d:Nat)(vs:List V)(H:Hp)(Q:VK)(_E:XK):Prop
 |mk (l b:Ad) (ns:List Int) (tl:List Str):(vs=[.ref l,.ref b,nV d])->(H l=G (.lst<|ns.map V.int))->(ns.length<=12)->(H b=G (.lst<|tl.map V.str))->(l≠b)->(NG tl)->(AllP tl)->(tl.length<=2)->(∀v s (ns':List Int) H',SameB l H H'->H' l=G (.lst<|ns'.map V.int)->ns'.length<=12->Rep H' v s->Dw 2 d tl s->tsets s=0->Q v H')->zch d vs H Q _E
theorem zb1:∀{tl:List Str} {s:Sy},nst 44=tsets s
 |tl,.bare _ _ _=>rfl
 |tl,.neg s=>zb1 (s:=s)
 |tl,.two wd s t=>by
  simp only[coreS];split
  .change nst 44+nst (coreS tl t)=tsets s+tsets t;rw[zb1,zb1]
  .change nst 44+nst (coreS tl t)=tsets s+tsets t;rw[zb1,zb1]
 |tl,.qu wd n s=>by
  let e:(if(!isP n)=N then 1 else 0)=if isP n=N then 0 else 1:=by cases isP n<;>rfl
  simp only[coreS];split
  .change nst 020+(if(!isP n)=N then 1 else 0)=(if isP n=N then 0 else 1)+tsets s;rw[zb1,e];omega
  .change nst 020+(if(!isP n)=N then 1 else 0)=(if isP n=N then 0 else 1)+tsets s;rw[zb1,e];omega
noncomputable def four43:List V:=[V.str "same",V.str "left",V.str "right",V.str "above"]
def Lf43(K:Frag)(b:Ad)(c:Int)(Q:VK)(H:Hp):Prop:=four43.length<=ij/\∀(p:Ad) (H':Hp),New H p (.lst four43) H'->(0:Int)<4/\∃xs,SqL K H' p xs/\∃v,atI xs (c%4)=G v/\CDiv c 4/\∃x,(SqL K H' b x\/SqT K H' b x)/\(0:Int)<((x.length:Nat):Int)/\∃xs,SqL K H' b xs/\∃U,atI xs (c/4%((x.length:Nat):Int))=G U/\CDiv c 16/\∃x,(SqL K H' b x\/SqT K H' b x)/\(0:Int)<((x.length:Nat):Int)/\∃xs,SqL K H' b xs/\∃o,atI xs (c/16%((x.length:Nat):Int))=G o/\[v,U,o].length<=ij/\∀(p:Ad) (H2:Hp),New H' p (.tup [v,U,o]) H2->Q 91 H2
theorem zsy(c:Int):∃wd:Str,wd∈(["same","left","right","above"]:List Str)/\atI four43 (c%4)=G (.str wd):=by
 let l:=y1c c (show(4:Int)≠0 by decide);let j1:=y10 c (show(0:Int)<4 by decide);rcases(show c%4=0\/c%4=1\/c%4=2\/c%4=3 by omega)with e|e|e|e<;>rw[e]
 .exact("same",by decide,zay)
 .exact("left",by decide,zaj (j:=1) R)
 .exact("right",by decide,zaj (j:=2) R)
 .exact("above",by decide,zaj (j:=3) R)
theorem lf43{K:Frag}{b:Ad}{c:Int}{Q:VK}{H:Hp}{tl:List Str}(eb:H b=G (.lst 018))(d:AllP tl)(ne:tl≠[])(q:∀v s H',Same H H'->Rep H' v s->Leaf tl s->tsets s=0->Q v H'):Lf43 K b c Q H:=by
 apply mkT λp H1 n1=>?_;let(wd,C,T):=zsy c;let l:0<(018).length:=by rw[y00];show y3u.mpr ne
 let(U,e1,I):=zfi (i:=c/4) (xs:=tl.map V.str) R l;let(u,L,M):=zfi (i:=c/16) (xs:=tl.map V.str) R l;let(n,o,rfl):=y0g.mp I;let(m,J,rfl):=y0g.mp M;let x:=n1.g _ _ eb;let a:wd∈bareWords/\wd∈treeW/\¬wd="in"/\¬wd="within":=by
  let all:∀w∈(["same","left","right","above"]:List Str),w∈bareWords/\w∈treeW/\¬w="in"/\¬w="within":=by decide+kernel
  show all wd C
 let wf:wfB (.bare wd n m)=N:=by
  change(if wd="in" then _ else if wd="within" then _ else isPl n&&isPl m)=N;rw[Xp a.2.2.1,Xp a.2.2.2,y07];show(d n o,d m J)
 show(by decide,_,.of n1.at',_,T,(by decide,by decide),_,.inl<|.of x,by omega,_,.of x,_,e1,(by decide,by decide),_,.inl<|.of x,by omega,_,.of x,_,L,mkT λr H2 n2=>q _ (.bare wd n m) H2 (n1.g.trans n2.g) (.bare a.1 n2.at') (.inr (wd,n,m,R,a.2.1,o,J,wf)) R)
def Qn43(K:Frag)(c:Int)(l b:Ad)(e:Nat)(Q:VK)(H:Hp):Prop:=CMul 2 c/\zcv [.int<|2*c,.ref b] H (λx H1=>[V.str "some",V.str "all"].length<=ij/\∀(p:Ad) (H':Hp),New H1 p (.lst [V.str "some",V.str "all"]) H'->CDiv c 64/\(0:Int)<2/\∃xs,SqL K H' p xs/\∃v,atI xs (c/64%2)=G v/\[x].length<=ij/\∀(p:Ad) (H2:Hp),New H' p (.lst [x]) H2->∃a,H2 b=G (.lst a)/\∃j,H2 p=G (.lst j)/\a.length+j.length<=ij/\∀(p:Ad) (H3:Hp),New H2 p (.lst<|a++j) H3->0<e+1/\zch e [.ref l,.ref p,nV e] H3 (λd H1=>[v,x,d].length<=ij/\∀(p:Ad) (H':Hp),New H1 p (.tup [v,x,d]) H'->Q 91 H') E0) E0
theorem qn43{K:Frag}{c:Int}{l b:Ad}{e:Nat}{Q:VK}{H:Hp}{tl:List Str}{ns:List Int}(el:H l=G (.lst 035))(o:ns.length<=12)(eb:H b=G (.lst 018))(x:NG tl)(ap:AllP tl)(M:tl.length<=1)(q:∀v s (r:List Int) H',SameB l H H'->H' l=G (.lst<|r.map V.int)->r.length<=12->Rep H' v s->Dw 2 (e+1) tl s->tsets s=0->Q v H'):Qn43 K c l b e Q H:=by
 let j0:=y1c (c/64) (show(2:Int)≠0 by decide);let j1:=y10 (c/64) (show(0:Int)<2 by decide);obtain⟨wd,C,T⟩:∃wd:Str,(wd="some"\/wd="all")/\atI [V.str "some",V.str "all"] (c/64%2)=G (.str wd):=by
  rcases(show c/64%2=0\/c/64%2=1 by omega)with D|D<;>rw[D]
  .exact(_,.inl R,zay)
  .exact(_,.inr R,zaj (j:=1) R)
 apply(.inl (by decide,by decide),_,b,tl,R,eb,by omega,λz H2 p i J nb O=>mkT λp3 H3 n3=>((by decide,by decide),by decide,_,.of n3.at',_,T,mkT λA H4 L=>(_,L.g _ _<|(p.trans n3.g) _ _ eb,_,L.at',zah (show(018).length+1<=1000 by rw[y00];omega),λU H5 u=>(by omega,?_))));let Y:=(p.trans n3.g).trans<|L.g.trans u.g;let e5:H5 U=G (.lst<|(tl++[z]).map V.str):=by rw[u.at',y0t];rfl
 let pz:isP z=N:=J 00;apply(l,U,ns,tl++[z],R,Y _ _ el,o,e5,zap (((p.trans n3.g).trans L.g) _ _ el) u.nil,(λy I=>?_),(λy I=>?_),by rw[y02];simp only[y0b,y14];omega,λv sy d H6 g e6 f E d6 t6=>mkT λp7 H7 a=>?_)
 .rcases y0o.mp I with h|h
  .exact x y h
  .rw[y03.mp h];show(i,nb)
 .rcases y0o.mp I with h|h
  .exact ap y h
  .rw[y03.mp h];show pz
 .refine q _ _ d H7 ((Same.b Y l).trans<|g.trans (Same.b a.g l)) (a.g _ _ e6) f (.qu (by rcases C with rfl|rfl<;>decide) a.at'<|E.same a.g) (.qu C i O (by omega) d6) ?_;change(if isP z=N then 0 else 1)+tsets sy=0;rw[Xq pz,t6]
def FitW(tl:List Str)(row:List Nat):Prop:=∀z∈tl,isPl z=N->(wth row<|tl.idxOf z).length=1
theorem idx_old{tl:List Str}{n z:Str}(hz:z∈tl):(024).idxOf z=tl.idxOf z:=by rw[List.idxOf_append,Xq hz]
theorem idx_new{tl:List Str}{n:Str}(h:n∉tl):(024).idxOf n=tl.length:=by rw[List.idxOf_append,Xp h,y26,y41]
theorem zmv{tl:List Str}{row:List Nat}(nd:tl.Nodup):fitB tl row=N↔FitW tl row:=by
 unfold fitB;rw[y0u];constructor
 .intro h z hz l;let hi:=y0x.mpr hz;let:=h _<|y11.mpr hi;rw[y0j,y0e hi,y2k,y3a hi,show isP z=N from l]at this;rw[zp8];simpa using this
 .intro h k C;let i:=y11.mp C;rw[y0j,y0e i,y2k];cases l:isP tl[k]with
  |false=>rfl
  |true =>
   let:=h _ (y16 i) l;let e:tl[tl.idxOf tl[k]]?=G tl[k]:=zca<|y16 i;let L:tl.idxOf tl[k]=k:=(y2y (y0x.mpr<|y16 i) nd).mp<|e.trans (y0e i).symm;rw[L,zp8]at this;simp[this]
def LnL(H:Hp)(v:V)(cs:List Nat):Prop:=∃a,v=.ref a/\H a=G (.lst<|cs.map nV)
theorem zfo{d:Type}{Rq:V->d->Prop}{f:Nat->d}:∀{n:Nat} {ys:List V},ys.length=n->(∀j y,ys[j]?=G y->Rq y (f j))->io Rq ys ((List.range n).map f)
 |0,[],_,_=>.nil
 |n+1,y::ys,h,k=>by
  rw[y1r,y0p,y0w];show .cons (k 0 y R)<|zfo (f:=λj=>f<|j+1) (by simpa using h) λj z hz=>k (j+1) z (by simpa using hz)
theorem LnL.same{H H':Hp}{v:V}{cs:List Nat}(h:LnL H v cs)(g:Same H H'):LnL H' v cs:=let(a,e,h):=h;(a,e,g _ _ h)
theorem band1{c k:Nat}(g:c<32)(C:k<=4):Builtin.bitAnd ((c:Int)/2^k) 1=if bit c k=N then 1 else 0:=by
 let h:∀(c:Fin 32) (k:Fin 5),Builtin.bitAnd (((c:Nat):Int)/2^(k:Nat)) 1=if bit c k=N then 1 else 0:=by decide+kernel
 show h (c,g) (k,by omega)
theorem SameB.tups{l:Ad}{H H':Hp}{xs:List V}(g:SameB l H H')(e:H l=G 98):TupS H H':=λb o h=>g b _ (λz=>by rw[z,e]at h;cases h) h
inductive zly(vs:List V)(H:Hp)(Q:VK)(_E:XK):Prop
 |mk (z:Str) (n:Nat):(vs=[.str z,nV n])->(NmOk z)->(z.length<=4)->(n<=14)->((isP z=Fa->n<=6))->(∀D rs H',Same H H'->H' D=G (.lst rs)->io (LnL H') rs (chos z n)->Q (.ref D) H')->zly vs H Q _E
abbrev Nd:=Int×Str×Nat
noncomputable def nds:Tr->Int->Str->Nat->List Nd
 |.nil,_,_,_=>[]
 |.node l a b,y,d,k=>(y,d,l)::122
theorem zdl:∀(t:Tr) (y:Int) (d:Str) (k:Nat),(nds t y d k).length=t.size
 |.nil,_,_,_=>rfl
 |.node l a b,y,d,k=>by change(122).length+1=1+a.size+b.size;rw[y02,zdl a,zdl b];omega
def NdL(H:Hp)(v:V)(n:Nd):Prop:=∃a,v=.ref a/\H a=G (.tup [.int n.1,.str n.2.1,nV n.2.2])
theorem NdL.ts{H H':Hp}{v:V}{n:Nd}(h:NdL H v n)(g:TupS H H'):NdL H' v n:=let(a,e,h):=h;(a,e,g _ _ h)
inductive zil(d:Nat)(vs:List V)(H:Hp)(Q:VK)(_E:XK):Prop
 |mk (v:V) (t:Tr) (pa:Int) (sd:Str) (D:Ad) (xs:List V):(vs=[v,.int pa,.str sd,.ref D])->(TreeV H v t)->(t.depth<d)->(H D=G (.lst xs))->(xs.length+t.size<=900)->(∀ys H',SameB D H H'->H' D=G (.lst<|xs++ys)->io (NdL H') ys (nds t pa sd xs.length)->Q (.ref D) H')->zil d vs H Q _E
noncomputable def sdS(b:Bool):Str:=if b=N then "r" else "l"
def NdAt(t:Tr)(p:Rd)(y:Int)(d:Str)(k j:Nat)(q:Rd)(n:Nd):Prop:=n.2.2=lbl t p q/\((j=0/\n.1=y/\n.2.1=d)\/∃(i:Nat) (q':Rd) (b:Bool),i<j/\(rds t p)[i]?=G q'/\q=q'++[b]/\n.1=((k+i:Nat):Int)/\n.2.1=sdS b)
theorem zun{t:Tr}{p q:Rd}(h:(rds t p)[0]?=G q):q=p:=by
 cases t with
 |nil=>cases h
 |node l a b=>cases h;rfl
theorem zr2:∀(t:Tr) (p:Rd) (y:Int) (d:Str) (k j:Nat) (q:Rd),(rds t p)[j]?=G q->∃n,(nds t y d k)[j]?=G n/\NdAt t p y d k j q n
 |.nil,p,y,d,k,j,q,h=>by simp[rds]at h
 |.node l a b,p,y,d,k,j,q,h=>by
  let c:rds 010 p=p::(rds a 19++rds b 34):=rfl;let en:nds 010 y d k=(y,d,l)::122:=rfl;let I:∀q,lbl 010 p q=if q=p then l else if q∈rds a (19)then lbl a 19 q else lbl b 34 q:=λq=>rfl
  cases j with
  |zero =>
   rw[c]at h;cases h;show(_,by rw[en];rfl,by rw[I,Xq rfl],.inl (R,R,R))
  |succ j =>
   rw[c,y1j]at h;by_cases f:j<a.size
   .rw[y0q<|by rw[zbk];show f]at h;let(n,e1,L,r):=zr2 a 19 k "l" (k+1) j q h;let D:=y0d h;apply(n,by rw[en,y1j,y0q<|by rw[zdl];show f];show e1,by rw[I,Xp<|zdk D,Xq D];show L,.inr ?_);rcases r with⟨rfl,M,J⟩|⟨i,q',T,hi,M,J,U,C⟩
    .exact(0,p,Fa,y42 _,by rw[c];rfl,zun h,by rw[M];rfl,J)
    .refine(i+1,q',T,by omega,?_,J,by rw[U];congr 1;omega,C);rw[c,y1j,y0q (by have:=(y09.mp M).1;show this)];show M
   .rw[y0n (by rw[zbk];omega),zbk]at h;let(n,e1,L,r):=zr2 b 34 k "r" (k+1+a.size) (j-a.size) q h;let D:=y0d h;apply(n,by rw[en,y1j,y0n (by rw[zdl];omega),zdl];show e1,by rw[I,Xp<|zdj D,Xp λz=>zb0 z D];show L,.inr ?_);rcases r with⟨Y,M,J⟩|⟨i,q',T,hi,M,J,U,C⟩
    .rw[Y]at h;show(0,p,N,y42 _,by rw[c];rfl,zun h,by rw[M];rfl,J)
    .refine(1+a.size+i,q',T,by omega,?_,J,by rw[U];congr 1;omega,C);rw[c,show 1+a.size+i=(a.size+i)+1 by omega,y1j,y0n (by rw[zbk];omega),zbk,Nat.add_sub_cancel_left];show M
def nums(t:Tr)(S:Rd->Bool):List Nat:=(List.range t.size).filter λk=>S<|(88).getD k []
theorem zke{t:Tr}{k:Nat}(h:k<t.size):88[k]?=G ((88).getD k []):=by
 let h':k<(88).length:=by rw[zbk];show h
 rw[y0j,y0e h',y2k]
theorem mem_nums{t:Tr}{S:Rd->Bool}{k:Nat}:k∈nums t S↔k<t.size/\S ((88).getD k [])=N:=by
 unfold nums;rw[y1a,y11]
theorem zdd{t:Tr}{k:Nat}(h:k<t.size):(88).getD k []∈rds t []:=y0d<|zke h
theorem rd_of(h:q∈rds t []):∃k,k<t.size/\(88).getD k []=q:=by
 let(k,C):=y2z.mp h;let j:k<t.size:=by rw[←zbk t []];show(y09.mp C).1
 apply(k,j,?_);rw[zke j]at C;show Option.some.inj C
theorem zhr{t:Tr}{j k:Nat}(f:j<t.size)(C:k<t.size)(e:(88).getD j []=(88).getD k []):j=k :=
 (y2y (by rw[zbk];show f)<|zq0 t []).mp (by rw[zke f,zke C,e])
def setN(t:Tr)(cs:List Nat):Rd->Bool:=λq=>decide (q∈rds t [])&&decide ((88).idxOf q∈cs)
theorem zsr{t:Tr}{k:Nat}(h:k<t.size):(88).idxOf ((88).getD k [])=k:=by
 let l:=zdd h;let M:=y0x.mpr l;rw[zbk]at M;apply zhr M h ?_;rw[y0j,y0e (by rw[zbk];show M),y2k,y3a]
theorem zgu{t:Tr}{cs:List Nat}{z:Str}(h:cs∈chos z t.size):nums t (setN t cs)=cs:=by
 let a:∀k,k<t.size->setN t cs ((88).getD k [])=decide (k∈cs):=λk C=>by unfold setN;rw[Xg<|zdd C,y17,zsr C]
 let flt:nums t (setN t cs)=(List.range t.size).filter λk=>decide (k∈cs):=by
  unfold nums;show y2g λk C=>a k<|y11.mp C
 rw[flt];unfold chos at h;split at h
 .let(p,l,rfl):=y0g.mp h;let c:=y11.mp l;rw[show(λk=>decide (k∈[p]))=λk=>decide (k=p)from funext λk=>decide_eq_decide.mpr y03];show zwb c
 .let(p,rfl):=zf2 _ _ h;apply y2g λk C=>?_;rw[y1w,decide_eq_true_eq,y1a];show(λz=>z.2,λz=>(C,z))
theorem zf6{t:Tr}{p:Nat}(h:p<t.size):setN t [p]=oneR ((88).getD p []):=funext λq=>by
 unfold setN oneR;by_cases D:q∈rds t []
 .rw[Xg D,y17];let(k,C,rfl):=rd_of D;rw[zsr C];show decide_eq_decide.mpr (λz=>by rw[y03.mp z],λz=>y03.mpr<|zhr C h z)
 .rw[Xf D,y15];show(Xf λe:q=_=>D<|by rw[e];show zdd h).symm
theorem zxo{z:Str}{t:Tr}{cs:List Nat}(h:cs∈chos z t.size):Ch (!isP z) (setN t cs) t []:=by
 unfold chos at h;unfold Ch;split at h
 .rename_i l;rw[show isP z=N from l,Xp 02];let(p,l,rfl):=y0g.mp h;let c:=y11.mp l;show(_,zdd c,zf6 c)
 .rename_i l;rw[show isP z=Fa by cases e:isP z with|false=>rfl|true=>show Xa e l,Xq 02];intro q D;unfold setN at D;rw[y07]at D;show of_decide_eq_true D.1
theorem ch_cho{z:Str}{t:Tr}{S:Rd->Bool}(h:Ch (!isP z) S t []):nums t S∈chos z t.size/\setN t (nums t S)=S:=by
 let u:=zjn h;apply(?_,funext λq=>?_)
 .unfold chos;by_cases l:isP z=N
  .rw[show isPl z=N from l,Xq rfl];unfold Ch at h;rw[l,Xp 02]at h;let(x,O,rfl):=h;let(k,C,rfl):=rd_of O;apply y0g.mpr (k,y11.mpr C,?_);rw[←zf6 C];show(zgu (z:=z)<|by unfold chos;rw[show isPl z=N from l,Xq rfl];show y0g.mpr (k,y11.mpr C,R)).symm
  .rw[show isPl z=Fa by cases e:isP z with|false=>show e|true=>show Xa e l,Xp 02];show zjj _ _
 .unfold setN;by_cases D:q∈rds t []
  .rw[Xg D,y17];let(k,C,rfl):=rd_of D;rw[zsr C];cases e:S ((rds t []).getD k [])with
   |true=>show Xg<|mem_nums.mpr (C,e)
   |false=>show Xf λz=>by rw[(mem_nums.mp z).2]at e;cases e
  .rw[Xf D,y15];cases e:S q with
   |false=>rfl
   |true=>show Xa (u q e) D
def FitT(tl:List Str)(A:As)(t:Tr):Prop:=∀z∈tl,isP z=N->∃x,x<t.size/\∀q∈rds t [],A (tl.idxOf z) q=oneR 056 q
def EnvT(H:Hp)(d:Ad)(tl:List Str)(A:As)(t:Tr):Prop:=∃L:List<|Key×V,H d=G (.dK L)/\L.length<=tl.length/\∀z∈tl,∃a,valV L (.inr z)=G 09/\H a=G (.lst<|(nums t<|A (tl.idxOf z)).map nV)
theorem EnvT.same{H H':Hp}{d:Ad}{tl:List Str}{A:As}{t:Tr}(e:EnvT H d tl A t)(g:Same H H'):EnvT H' d tl A t :=
 let(L,M,J,U):=e;(L,g _ _ M,J,λz hz=>let(a,C,x):=U z hz;(a,C,g _ _ x))
theorem zq4{tl:List Str}{z:Str}{A:As}{S:Rd->Bool}{n:Str}(hz:z∈tl):(A.put tl.length S) ((024).idxOf z)=A (tl.idxOf z):=by
 rw[idx_old hz];show zhu (by have:=y0x.mpr hz;omega)
theorem zq5{tl:List Str}{A:As}{S:Rd->Bool}{n:Str}(h:n∉tl):(A.put tl.length S) ((024).idxOf n)=S:=by
 rw[idx_new h];show funext λq=>zep _ _ _ _
theorem FitT.put{tl:List Str}{A:As}{t:Tr}{n:Str}{cs:List Nat}(f:FitT tl A t)(h:n∉tl)(g:cs∈chos n t.size):FitT 024 (A.put tl.length<|setN t cs) t:=λz hz l=>by
 rcases y0o.mp hz with hz|hz
 .rw[zq4 hz];show f z hz l
 .rw[y03.mp hz]at l ⊢;rw[zq5 h];unfold chos at g;rw[show isPl n=N from l,Xq rfl]at g;let(p,l,rfl):=y0g.mp g;let c:=y11.mp l;show(p,c,λq _=>by rw[zf6 c])
theorem EnvT.put{H:Hp}{d a:Ad}{L:List (Key×V)}{tl:List Str}{A:As}{t:Tr}{n:Str}{cs:List Nat}(h:n∉tl)(g:cs∈chos n t.size)(j:L.length<=tl.length)(C:∀z∈tl,∃a,valV L (.inr z)=G 09/\H a=G (.lst<|(nums t<|A (tl.idxOf z)).map nV))(l:H d=G (.dK<|putK L (.inr n) 09))(r:H a=G (.lst<|cs.map nV)):EnvT H d 024 (A.put tl.length<|setN t cs) t:=by
 apply(_,l,?_,λz hz=>?_)
 .let:=zcf L (.inr n) 09;rw[y02,y0i];omega
 .rcases y0o.mp hz with hz|hz
  .let(b,Q,x):=C z hz;apply(b,?_,by rw[zq4 hz];show x);rw[zds,Xp λe=>h<|by rw[←Sum.inr.inj e];show hz];show Q
  .rw[y03.mp hz];show(a,by rw[zds,Xq rfl],by rw[zq5 h,zgu g];show r)
theorem zmu(wd:Str):holdM wd 2=N:=by unfold holdM;simp
theorem zji(wd:Str):holdM wd 3=Fa:=by unfold holdM;simp
section
variable {tl:List Str}{A:As}{t:Tr}{wd n m:Str}
theorem zjc{S:Rd->Bool}{x:Nat}(O:x<t.size)(h:∀q∈rds t [],S q=oneR 056 q):nums t S=[x]:=by
 let:nums t S=nums t (setN t [x]):=by
  unfold nums;apply y2g λk C=>?_;let i:=y11.mp C;rw[h _<|zdd i,zf6 O]
 rw[this];show zgu (z:="x") (by unfold chos;rw[show isPl "x"=N by decide+kernel,Xq rfl];show y0g.mpr (x,y11.mpr O,R))
theorem due_all(T:wd="in"\/wd="within")(f:FitT tl A t)(o:n∈tl)(wf:wfB (.bare wd n m)=N):(∀k∈nums t (A<|tl.idxOf n),k∈nums t (A<|tl.idxOf m))↔holdM wd (upM wd (A 052) (A<|tl.idxOf m) t [])=N:=by
 rcases T with rfl|rfl
 .let(x,O,ex):=f n o<|(zxv wf).1 R;rw[zjc O ex,ze2 (A':=oneR 056) (B':=A<|tl.idxOf m) λq D=>(ex q D,R),zjy 056 (oneR _) _ λq=>rfl,Xq<|zdd O];constructor
  .intro h;rw[Xq (mem_nums.mp<|h x y04).2,zmu]
  .intro h k C;rw[y03.mp C];apply mem_nums.mpr (O,?_);cases e:A (tl.idxOf m) ((rds t []).getD x [])with
   |true=>rfl
   |false=>rw[e,Xp 02,zji]at h;cases h
 .rw[zdt];constructor
  .intro h;rw[Xq]
   .rfl
   .rw[y0u];intro q D;let(k,C,rfl):=rd_of D;cases e:A (tl.idxOf n) ((rds t []).getD k [])with
    |false=>rfl
    |true=>rw[(mem_nums.mp<|h k (mem_nums.mpr (C,e))).2];rfl
  .intro h k C;let(g,d):=mem_nums.mp C;apply mem_nums.mpr (g,?_);split at h
   .rename_i L;let:=y0u.mp L _<|zdd g;rw[d]at this;simpa using this
   .rw[zji]at h;cases h
theorem due_two(C:¬wd="in")(a:¬wd="within")(f:FitT tl A t)(o:n∈tl)(l:m∈tl)(wf:wfB (.bare wd n m)=N):∃x y,x<t.size/\y<t.size/\nums t (A 052)=[x]/\nums t (A<|tl.idxOf m)=[y]/\(wd="same"->(x=y↔holdM wd (upM wd (A 052) (A<|tl.idxOf m) t [])=N))/\(wd="left"\/wd="right"\/wd="above"->(relP wd 056 ((88).getD y [])↔holdM wd (upM wd (A 052) (A<|tl.idxOf m) t [])=N)):=by
 let(pn,J):=(zxv wf).2 C a;let(x,O,ex):=f n o pn;let(y,I,Y):=f m l J;let r:upM wd (A 052) (A<|tl.idxOf m) t []=upM wd (oneR 056) (oneR<|(88).getD y []) t []:=ze2 λq D=>(ex q D,Y q D);apply(x,y,O,I,zjc O ex,zjc I Y,λh=>?_,λh=>?_)
 .subst h;rw[r,zf1 056 ((88).getD y []) (oneR _) (oneR _) (λq=>rfl) λq=>rfl,Xq<|.inl (zdd O)];constructor
  .intro e;rw[e,Xq R,zmu]
  .intro h;split at h
   .rename_i e;show zhr O I e
   .rw[zji]at h;cases h
 .rw[r,zie h 056 ((88).getD y []) (oneR _) (oneR _) (λq=>rfl) (λq=>rfl) t [] λ_ _=>zdd I];constructor
  .intro e;rw[mu2 (zdd O) e,zmu]
  .intro h;rcases Classical.em (relP wd ((rds t []).getD x [])<|(rds t []).getD y [])with e|e
   .exact e
   .rw[mu4 (zdd O) e,zji]at h;cases h
end
theorem nd_lr{t:Tr}{x y:Nat}{n:Nd}(O:x<t.size)(h:NdAt t [] (-1) "" 0 y ((88).getD y []) n)(I:y<t.size)(b:Bool):(88).getD y []=(88).getD x []++[b]↔n.1=(x:Int)/\n.2.1=sdS b:=by
 rcases h.2 with⟨L,M,_⟩|⟨i,q',T,hi,M,J,U,C⟩
 .subst L;let D:=zun<|zke I;rw[D];show(λz=>by have:=congrArg List.length z;simp at this,λz=>by rw[M]at z;let:=z.1;omega)
 .rw[y41]at U;rw[J,U,C];let a:i<t.size:=by have:=(y09.mp M).1;rwa[zbk]at this
  let e1:(88).getD i []=q':=by rw[y0j,M];rfl
  constructor
  .intro z;let j:=List.append_inj' z rfl;let:i=x:=zhr a O (by rw[e1,j.1]);subst this;let Y:T=b:=by have:=j.2;injection this
   rw[Y];show(R,R)
  .rintro⟨l,E⟩;let:i=x:=by omega
   subst this;let Y:T=b:=by revert E;cases b<;>cases T<;>decide
   rw[e1,Y]
theorem nd_up{t:Tr}{k:Nat}{n:Nd}{X:Rd}(C:k<t.size)(h:NdAt t [] (-1) "" 0 k ((88).getD k []) n):((X <+:(88).getD k []/\X≠(88).getD k [])↔∃i:Nat,n.1=(i:Int)/\i<t.size/\X <+:(88).getD i [])/\(n.1=-1\/∃i:Nat,n.1=(i:Int)/\i<k):=by
 rcases h.2 with⟨Y,M,_⟩|⟨i,q',T,hi,M,J,U,Q⟩
 .subst Y;rw[zun<|zke C];show((λz=>(z.2<|List.prefix_nil.mp z.1).elim,λ(i,e,_)=>by rw[M]at e;omega),.inl M)
 .rw[y41]at U;let a:i<t.size:=by have:=(y09.mp M).1;rwa[zbk]at this
  let e1:(88).getD i []=q':=by rw[y0j,M];rfl
  rw[J];apply((λz=>(i,U,a,?_),λ(j,e,_,z)=>?_),.inr (i,U,hi))
  .rw[e1];rcases List.prefix_concat_iff.mp z.1 with w|w
   .exact Xa w z.2
   .exact w
  .let:j=i:=by rw[U]at e;omega
   subst this;rw[e1]at z;apply(z.trans<|y1x _ _,λw=>?_);let:=z.length_le;rw[w,y02,y0i]at this;omega
def NdsT(H:Hp)(nd:Ad)(t:Tr):Prop:=∃xs,H nd=G 98/\io (NdL H) xs (nds t (-1) "" 0)
theorem NdsT.same{H H':Hp}{nd:Ad}{t:Tr}(h:NdsT H nd t)(g:Same H H'):NdsT H' nd t:=let(xs,e,p):=h;(xs,g _ _ e,L2.Paired.mapP p λ_ _ z=>z.ts g.tups)
theorem NdsT.at{H:Hp}{nd:Ad}{t:Tr}(h:NdsT H nd t){j:Nat}(f:j<t.size):∃xs a n,H nd=G 98/\xs[j]?=G 09/\H a=G (.tup [.int n.1,.str n.2.1,nV n.2.2])/\NdAt t [] (-1) "" 0 j ((88).getD j []) n:=by
 let(xs,e,p):=h;let(n,en,o):=zr2 t [] (-1) "" 0 j _<|zke f;let(v,J,a,rfl,r):=Paired.at2 p en;show(xs,a,n,e,J,r,o)
inductive zl0(vs:List V)(H:Hp)(Q:VK)(_E:XK):Prop
 |mk (v:V) (nd d:Ad) (wd n m:Str) (tl:List Str) (A:As) (t:Tr):(vs=[v,.ref nd,.ref d])->(Rep H v<|.bare wd n m)->(wd∈treeW)->(n∈tl)->(m∈tl)->(wfB (.bare wd n m)=N)->(FitT tl A t)->(t.size<=14)->(NdsT H nd t)->(EnvT H d tl A t)->(∀b H',Same H H'->(b=N↔holdM wd (upM wd (A<|tl.idxOf n) (A<|tl.idxOf m) t [])=N)->Q (.bl b) H')->zl0 vs H Q _E
inductive zih(lv:Nat)(vs:List V)(H:Hp)(Q:VK)(_E:XK):Prop
 |mk (v:V) (nd d:Ad) (s:Sy) (tl:List Str) (A:As) (t:Tr) (mo dp:Nat):(vs=[v,.ref nd,.ref d])->(Rep H v s)->(Dw mo dp tl s)->(mo<=3)->(tl.length<=3)->(s.depth<=lv)->(FitT tl A t)->(t.size<=14)->((tsets s=0\/t.size<=6))->(NdsT H nd t)->(EnvT H d tl A t)->(∀b H',Same H H'->(b=N↔hT (coreS tl s) A t)->Q (.bl b) H')->zih lv vs H Q _E
section
variable {tl:List Str}{A:As}{t:Tr}{wd n:Str}{s s':Sy}{mo d:Nat}
theorem hT_two(C:wd="and"\/wd="or"):hT (coreS tl<|.two wd s s') A t↔if wd="or" then hT 44 A t\/hT (coreS tl s') A t else hT 44 A t/\hT (coreS tl s') A t:=by
 simp only[coreS];by_cases h:wd="or"
 .rw[Xq h,Xq h];change¬(¬hT 44 A t/\¬hT (coreS tl s') A t)↔_;show(λz=>Classical.byContradiction λw=>z (λu=>w<|.inl u,λu=>w<|.inr u),λz w=>z.elim w.1 w.2)
 .rw[Xp h,Xp h];show Iff.rfl
theorem hT_qu:hT (coreS tl<|.qu wd n s) A t↔if wd="all" then∀S,Ch (!isP n) S t []->hT 020 (A.put tl.length S) t else∃S,Ch (!isP n) S t []/\hT 020 (A.put tl.length S) t:=by
 simp only[coreS];by_cases h:wd="all"
 .rw[Xq h,Xq h];change(¬∃S,Ch (!isP n) S t []/\¬hT 020 (A.put tl.length S) t)↔_;show(λz S I=>Classical.byContradiction λw=>z (S,I,w),λz (S,I,w)=>w<|z S I)
 .rw[Xp h,Xp h];show Iff.rfl
theorem Dw.i_bare{m:Str}(h:Dw mo d tl<|.bare wd n m):wd∈treeW/\n∈tl/\m∈tl/\wfB (.bare wd n m)=N:=by
 cases h with
 |leaf h =>
  rcases h with⟨_,h⟩|⟨a,n',m',e,M,J,U,C⟩
  .cases h
  .cases e;show(M,J,U,C)
theorem Dw.i_neg(h:Dw mo d tl<|.neg s):∃d',Dw mo d' tl s:=by
 cases h with
 |leaf h =>
  rcases h with⟨_,h⟩|⟨a,n',m',e,M,J,U,C⟩
  .cases h
  .cases e
 |neg h=>show(_,h)
theorem Dw.i_two(h:Dw mo d tl<|.two wd s s'):(wd="and"\/wd="or")/\∃d',Dw mo d' tl s/\Dw mo d' tl s':=by
 cases h with
 |leaf h =>
  rcases h with⟨_,h⟩|⟨a,n',m',e,M,J,U,Q⟩
  .cases h
  .cases e
 |two C M J=>show(C,_,M,J)
theorem Dw.i_qu(y:mo<=3)(h:Dw mo d tl<|.qu wd n s):(wd="some"\/wd="all")/\NmOk n/\n∉tl/\tl.length<=2/\n.length<=4/\∃d',Dw mo d' 024 s:=by
 let len:∀{z:Str},NmOk z->z.length<=4:=λh=>by
  rcases h with h|h
  .exact(ze9 h).2
  .exact(ze9 h).2
 cases h with
 |leaf h =>
  rcases h with⟨rfl,h⟩|⟨a,n',m',e,M,J,U,Q⟩
  .cases h;let k3:NmOk "k3":=.inl<|zh6 R 43 02 43;show(.inl R,k3,(λz=>nomatch z),by decide,len k3,0,.leaf<|.inr ("same","k3","k3",R,by decide,by decide,by decide,by decide+kernel))
  .cases e
 |qu C i O j h=>show(C,i,O,by omega,len i,_,h)
end
theorem zob{t:Tr}{x:Nat}(h:x<t.size):t.lets2.getD x 0=lbl t [] 056:=by
 rw[y0j,zev t [],y0r,zke h];rfl
theorem zne{t:Tr}{n j:Nat}(h:j<n):wth t.lets2 j=nums t (asT n t j):=by
 unfold wth nums;rw[Tr.lets2_len];apply y2g λx O=>?_;rw[zob<|y11.mp O];change _=(decide (j<n)&&_);rw[Xg h,y17]
theorem zvn{t:Tr}{S:Rd->Bool}{x:Nat}(h:nums t S=[x]):x<t.size/\∀q∈rds t [],S q=oneR 056 q:=by
 let O:=(mem_nums.mp<|show x∈nums t S by rw[h];show y04).1;apply(O,λq D=>?_);let(k,C,rfl):=rd_of D;rw[y1w];constructor
 .intro z;let:k∈nums t S:=mem_nums.mpr (C,z);rw[h]at this;rw[y03.mp this];show Xg R
 .intro z;let:k=x:=zhr C O<|of_decide_eq_true z;subst this;show(mem_nums.mp<|show k∈nums t S by rw[h];show y04).2
theorem fitT_of{tl:List Str}{t:Tr}(nd:tl.Nodup)(h:fitB tl t.lets2=N):FitT tl (asT tl.length t) t:=λz hz l=>by
 let hi:=y0x.mpr hz;let M:=(zmv nd).mp h z hz l;rw[zne hi]at M;let(x,O):=y4g.mp M;show(x,zvn O)
inductive ziu(vs:List V)(H:Hp)(Q:VK)(_E:XK):Prop
 |mk (v:V) (b nd:Ad) (s:Sy) (tl:List Str) (t:Tr) (mo dp:Nat):(vs=[v,.ref b,.ref nd])->(H b=G (.lst<|tl.map V.str))->(NG tl)->(tl.Nodup)->(tl.length<=3)->(Rep H v s)->(Dw mo dp tl s)->(mo<=3)->(s.depth<=9)->(t.size<=14)->(t.Let<|2^tl.length)->((tsets s=0\/t.size<=6))->(NdsT H nd t)->(∀bb H',Same H H'->(bb=N↔fitB tl t.lets2=N/\hT (coreS tl s) (asT tl.length t) t)->Q (.bl bb) H')->ziu vs H Q _E
inductive zln(Pt:Ad)(qs:Y3)(vs:List V)(H:Hp)(Q:VK)(_E:XK):Prop
 |mk (v b:V) (bf:Ad) (tl:List Str) (s:Sy) (t:TrZ):(vs=[v,.ref bf,b])->(TabOk H Pt qs)->(Gd43 H v bf tl s)->(TreeZ H b t)->(t.size<=100)->((∃x∈t.lets,¬(0<=x/\x<2^tl.length)))->(∀H',Same H H'->Q (.bl N) H')->zln Pt qs vs H Q _E
inductive zcp(Pt:Ad)(qs:Y3)(vs:List V)(H:Hp)(Q:VK)(_E:XK):Prop
 |mk (v b:V) (bf:Ad) (tl:List Str) (s:Sy) (t:Tr) (mo dp:Nat):(vs=[v,.ref bf,b])->(TabOk H Pt qs)->(Gd43 H v bf tl s)->(tl.Nodup)->(NG tl)->(Dw mo dp tl s)->(mo<=3)->(s.depth<=8)->(s.parts<=59)->(TreeV H b t)->(t.Let<|2^tl.length)->(t.size<=10)->((tsets s=0\/t.size<=6))->(Sml43 tl s t)->(Sml43 tl (.neg s) t)->(∀H',Same H H'->Q (.bl N) H')->zcp Pt qs vs H Q _E
def Flat(s y:Nat):Co->Prop
 |.bare wd i j=>wd∈treeW/\((wd="within"/\i=s/\j=s)\/(wd="in"/\i=y/\j=s)\/(¬wd="in"/\¬wd="within"/\i=y/\j=y))
 |.neg c=>Flat s y c
 |.con c e=>Flat s y c/\Flat s y e
 |.so _ _ _=>False
def Out1:Co->Prop
 |.bare wd i j=>wd="within"/\i=0/\j=0
 |.neg c=>Out1 c
 |.con c e=>Out1 c/\Out1 e
 |.so st i c=>st=Fa/\i=1/\Flat 0 1 c
section
variable {A Bq:As}{t:Tr}{p:Rd}{pl:Nat->Bool}{X Y Y':Rd->Bool}
theorem zdu:∀{t:Tr} {p:Rd},(∀q∈rds t p,X q=N->Y q=Y' q)->upM "in" X Y t p=upM "in" X Y' t p
 |.nil,_,_=>rfl
 |.node l a b,p,h=>by
  let r:=zdu (t:=a) λq hq=>h q 090;let eb:=zdu (t:=b) λq hq=>h q<|rds_node.mpr (.inr<|.inr hq);change mkN "in" (X p) (Y p) _ _=mkN "in" (X p) (Y' p) _ _;rw[r,eb];cases e:X p with
  |true=>rw[h p 028 e]
  |false=>cases Y p<;>cases Y' p<;>rfl
theorem zeh:upM "within" X X t p=0:=by
 rw[zdt,Xq];show y0u.mpr λq _=>by cases X q<;>rfl
theorem zng{x:Rd}{wd:Str}(O:x∈rds t p)(C:wd∈treeW)(M:¬wd="in")(J:¬wd="within"):upM wd (oneR x) (oneR x) t p=if wd="same" then 2 else 3:=by
 let r:wd="left"\/wd="right"\/wd="above"->upM wd (oneR x) (oneR x) t p=3:=λg=>by
  rw[zie g x x (oneR x) (oneR x) (λ_=>rfl) (λ_=>rfl) t p λh _=>h,mu4 O λz=>z.pre.2 rfl]
 simp only[treeW,y06,y0l,or_false]at C;rcases C with rfl|rfl|rfl|rfl|rfl|rfl
 .exact(M R).elim
 .rw[zf1 x x (oneR x) (oneR x) (λ_=>rfl) λ_=>rfl,Xq<|.inl O,Xq R,Xq rfl]
 .exact(J R).elim
 .rw[r 85,Xp 02]
 .rw[r<|.inr 85,Xp 02]
 .rw[r<|.inr (.inr R),Xp 02]
theorem Flat.alk{s y:Nat}(I:∀wd∈treeW,¬wd="in"->¬wd="within"->upM wd (A y) (A y) t p=upM wd (Bq y) (Bq y) t p)(hi:pl y=N->upM "in" (A y) (A s) t p=upM "in" (Bq y) (Bq s) t p):∀{c:Co},Flat s y c->wt pl c->Alk t p c A Bq
 |.bare wd i j,h,w=>by
  change upM wd (A i) (A j) t p=upM wd (Bq i) (Bq j) t p;rcases h.2 with⟨rfl,rfl,rfl⟩|⟨rfl,rfl,rfl⟩|⟨M,J,rfl,rfl⟩
  .rw[zeh,zeh]
  .exact hi<|w.1 R
  .exact I wd h.1 M J
 |.neg c,h,w=>Flat.alk (c:=c) I hi h w
 |.con c e,h,w=>(Flat.alk (c:=c) I hi h.1 w.1,Flat.alk (c:=e) I hi h.2 w.2)
theorem one_ne{x:Rd}:noR≠oneR x:=λz=>by have:=congrFun z x;rw[show oneR x x=N from Xg rfl]at this;cases this
theorem zm2{x:Rd}(O:x∈rds t p):Ch N (oneR x) t p:=λq D=>by
 let:q=x:=of_decide_eq_true D;rw[this];show O
theorem zjz(h:t.size=6):p∈rds t p/\∃r∈rds t p,r≠p:=by
 let ne:∀b:Bool,p++[b]≠p:=λb z=>by have:=congrArg List.length z;rw[y02,y0i]at this;omega
 cases t with
 |nil=>cases h
 |node l a b =>
  let h:1+a.size+b.size=6:=h;apply(rds_node.mpr 85,?_);cases a with
  |node la e g=>show(p++[Fa],rds_node.mpr<|.inr (.inl 028),ne _)
  |nil =>
   cases b with
   |node lb O b2=>show(p++[N],rds_node.mpr<|.inr (.inr 028),ne _)
   |nil=>cases h
theorem Flat.twn{c:Co}(h:Flat 1 0 c):Twn 1 c:=λpl A t p a w f v=>by
 let(l,r,g,T):=zjz (p:=p) a;obtain⟨q,D,U⟩:∃q∈rds t p,pl 0=N->A 0 q=Fa:=by
  by_cases e:pl 0=N
  .cases e1:A 0 p with
   |false=>show(p,l,λ_=>e1)
   |true =>
    apply(r,g,λ_=>?_);cases L:A 0 r with
    |false=>rfl
    |true=>show(T<|v 0 e r p g l L e1).elim
  .exact(p,l,λz=>(e z).elim)
 apply(noR,oneR q,one_ne,zop _ _,zm2 D,Flat.alk (A:=A.put 1<|oneR q) (Bq:=A.put 1 noR) (pl:=plU pl 1<|!N) (λ_ _ _ _=>rfl) (λe=>?_) h w);let e:pl 0=N:=e;apply zdu (X:=A 0) (Y:=oneR q) (Y':=noR) λq' _ z=>Xf λO=>?_;rw[O,U e]at z;cases z
theorem Out1.alk{r:Rd}(l:p∈rds t p)(g:r∈rds t p):∀{c:Co} {pl:Nat->Bool},Out1 c->wt pl c->Alk t p c (A.put 0<|oneR r) (A.put 0<|oneR p)
 |.bare wd i j,pl,h,w=>by
  let(rfl,rfl,rfl):=h;change upM _ _ _ t p=upM _ _ _ t p;rw[zeh,zeh]
 |.neg c,pl,h,w=>Out1.alk (c:=c) l g h w
 |.con c e,pl,h,w=>(Out1.alk (c:=c) l g h.1 w.1,Out1.alk (c:=e) l g h.2 w.2)
 |.so st i c,pl,h,w=>by
  let(rfl,rfl,h):=h;let a:∀x f,x∈rds t p->f∈rds t p->(x=r↔f=p)->Alk t p c ((A.put 0<|oneR r).put 1<|oneR x) ((A.put 0<|oneR p).put 1<|oneR f):=λx f O d e=>by
   apply Flat.alk (λwd C M J=>?_) (λ_=>?_) h w
   .change upM wd (oneR x) (oneR x) t p=upM wd (oneR f) (oneR f) t p;rw[zng O C M J,zng d C M J]
   .change upM "in" (oneR x) (oneR r) t p=upM "in" (oneR f) (oneR p) t p;rw[zjy x (oneR x) _ λ_=>rfl,zjy f (oneR f) _ λ_=>rfl,Xq O,Xq d,show oneR r x=oneR p f from decide_eq_decide.mpr e]
  let o:∀x u v:Rd,u∈rds t p->v∈rds t p->x∈rds t p->∃f∈rds t p,(x=u↔f=v):=λx u v Q D O=>by
   by_cases e:x=u
   .exact(v,D,(λ_=>rfl,λ_=>e))
   .by_cases L:x=v
    .refine(u,Q,(λz=>(e z).elim,λz=>(e<|by rw[L,←z]).elim))
    .exact(x,O,(λz=>(e z).elim,λz=>(L z).elim))
  apply(λS I=>?_,λS I=>?_,λ_=>?_)
  .let(x,O,rfl):=I;let(f,d,e):=o x r p g l O;show(oneR f,(f,d,R),a x f O d e)
  .let(x,O,rfl):=I;let(f,d,e):=o x p r l g O;show(oneR f,(f,d,R),a f x d O e.symm)
  .refine Flat.alk (A:=(A.put 0<|oneR r).put 1 noR) (Bq:=(A.put 0<|oneR p).put 1 noR) (λwd C M J=>rfl) (λ_=>?_) h w;show zdu (X:=noR) λq _ z=>by cases z
theorem Out1.twn{c:Co}(h:Out1 c):Twn 0 c:=λpl A t p a w f v=>by
 let(l,r,g,T):=zjz (p:=p) a;apply(oneR p,oneR r,λz=>T ?_,zm2 l,zm2 g,Out1.alk l g h w);let:=congrFun z r;rw[show oneR r r=N from Xg rfl]at this;show of_decide_eq_true this
end
section
variable {d:Nat}{tl:List Str}{s:Sy}
theorem wf_nm{wd n m:Str}(h:wfB (.bare wd n m)=N):(wd="in"/\isP n=N/\isP m=Fa)\/(wd="within"/\isP n=Fa/\isP m=Fa)\/(¬wd="in"/\¬wd="within"/\isP n=N/\isP m=N):=by
 let h':(if wd=("in":Str)then isPl n&&isSt m else if wd=("within":Str)then isSt n&&isSt m else isPl n&&isPl m)=N:=h;let r:∀{z:Str},isSt z=N->isP z=Fa:=λ{z} hz=>by
  cases e:isP z with
  |false=>rfl
  |true=>have:=pl_st (z:=z) e;rw[hz]at this;cases this
 by_cases e1:wd="in"
 .rw[Xq e1,y07]at h';show .inl (e1,h'.1,r h'.2)
 by_cases L:wd="within"
 .rw[Xp e1,Xq L,y07]at h';show .inr<|.inl (L,r h'.1,r h'.2)
 .rw[Xp e1,Xp L,y07]at h';show .inr<|.inr (e1,L,h')
theorem Dw.flat{x y:Nat}(h:Dw 2 d tl s):tl.length=2->(∀n∈tl,tl.idxOf n=if isP n=N then y else x)->Flat x y 44:=by
 induction h with
 |@leaf d tl s h =>
  intro J hi;rcases zdp h with⟨wd,n,m,rfl,C,o,l,wf,e⟩|⟨rfl,_,_⟩
  .rw[e];let e1:=hi n o;let L:=hi m l;apply(C,?_);rcases wf_nm wf with⟨M,J,U⟩|⟨M,J,U⟩|⟨M,a,J,U⟩<;>rw[J]at e1<;>rw[U]at L
   .exact .inr<|.inl (M,e1,L)
   .exact .inl (M,e1,L)
   .exact .inr<|.inr (M,a,e1,L)
  .cases J
 |neg _ E=>show E
 |@two d tl wd s t C _ _ H Y =>
  intro J hi;rcases zc2 (tl:=tl) (s:=s) (t:=t) C with e|e<;>rw[e]<;>show(H J hi,Y J hi)
 |qu C i O j _ _=>intro J;omega
theorem Dw.out1(h:Dw 2 d tl s):(∃X,tl=[X]/\isP X=Fa)->tsets s=0->Out1 44:=by
 induction h with
 |@leaf d tl s h =>
  rintro⟨X,rfl,f⟩ _;rcases zdp h with⟨wd,n,m,rfl,C,o,l,wf,e⟩|⟨h,_,_⟩
  .rw[e];let o:=y03.mp o;let l:=y03.mp l;subst o l;let a:([m]:List Str).idxOf m=0:=by rw[y26]
   rw[a];rcases wf_nm wf with⟨_,J,_⟩|⟨M,_,_⟩|⟨_,_,J,_⟩
   .rw[f]at J;cases J
   .exact(M,R,R)
   .rw[f]at J;cases J
  .cases h
 |neg _ E=>show E
 |@two d tl wd s t C _ _ H Y =>
  intro J hi;let hi:tsets s+tsets t=0:=hi;rcases zc2 (tl:=tl) (s:=s) (t:=t) C with e|e<;>rw[e]<;>show(H J (by omega),Y J<|by omega)
 |@qu d tl wd n s C i O j D _ =>
  rintro⟨X,rfl,f⟩ hi;let hi:(if isP n=N then 0 else 1)+tsets s=0:=hi;let o:isP n=N:=by
   cases e:isP n with
   |true=>rfl
   |false=>rw[e,Xp 02]at hi;omega
  let F:Flat 0 1 (coreS ([X]++[n]) s):=D.flat R λm l=>by
   let ne:¬X=n:=λz=>O (by rw[z];show y04);rcases y06.mp l with rfl|l
   .rw[f,Xp 02];show y26
   .rw[y03.mp l,o,Xq rfl];change([X,n]:List Str).idxOf n=1;rw[y36,show(X==n)=Fa from beq_eq_false_iff_ne.mpr ne,y26];rfl
  rcases zef (tl:=[X]) (n:=n) (s:=s) C with e|e<;>rw[e,o]<;>show(R,R,F)
theorem Dw.smal(h:Dw 2 d tl s):AllP tl->tl.length<=2->tsets s<=1->Smal 6 44:=by
 induction h with
 |@leaf d tl s h =>
  intro _ _ _;rcases zdp h with⟨wd,n,m,rfl,C,Q,l,wf,e⟩|⟨h,_,e⟩<;>rw[e]
  .exact trivial
  .exact(trivial,show 6<=60 by decide)
 |neg _ E=>show E
 |@two d tl wd s t C _ _ H Y =>
  intro M J hi;let hi:tsets s+tsets t<=1:=hi;rcases zc2 (tl:=tl) (s:=s) (t:=t) C with e|e<;>rw[e]<;>show(H M J (by omega),Y M J<|by omega)
 |@qu d tl wd n s C i O j D E =>
  intro M J hi;let hi:(if isP n=N then 0 else 1)+tsets s<=1:=hi;cases Q:isP n with
  |true =>
   rw[Q,Xq rfl]at hi;let H:=E (λz hz=>(y0o.mp hz).elim (M z) λhz=>by rw[y03.mp hz];show Q) (by rw[y02,y0i];omega) 00;rcases zef (tl:=tl) (n:=n) (s:=s) C with e|e<;>rw[e,Q]<;>show(H,show 6<=60 by decide)
  |false =>
   rw[Q,Xp 02]at hi;let t0:tsets s=0:=by omega
   let sm:Smal 6 020:=smal0 02 _ (by rw[zb1];show t0);let r:Twn tl.length 020/\Twn tl.length (.neg 020):=by
    match tl,M,O,j,D with
    |[],_,_,_,D =>
     let o:=Dw.out1 D (n,R,Q) t0;show(Out1.twn o,Out1.twn (c:=.neg _) o)
    |[y],M,O,_,D =>
     let I:=M y y04;let F:Flat 1 0 (coreS ([y]++[n]) s):=Dw.flat D R λm l=>by
      let ne:¬y=n:=λz=>O (by rw[z];show y04);rcases y06.mp l with rfl|l
      .rw[I,Xq rfl];show y26
      .rw[y03.mp l,Q,Xp 02];change([y,n]:List Str).idxOf n=1;rw[y36,show(y==n)=Fa from beq_eq_false_iff_ne.mpr ne,y26];rfl
     show(Flat.twn F,Flat.twn (c:=.neg _) F)
    |_::_::_,_,_,j,_=>simp only[y0b]at j;omega
   rcases zef (tl:=tl) (n:=n) (s:=s) C with e|e<;>rw[e,Q]
   .exact(sm,.inr (R,r.1))
   .exact(sm,.inr (R,r.2))
end
theorem zqo{mo d Bq:Nat}{tl:List Str}{s:Sy}{t:Tr}(y:mo<=3)(D:Dw mo d tl s)(j:tl.length<=3)(hd:d=3\/d=4)(o:ct t.size 44<=Bq)(h:t.size*(Bq+1)<900000)(sm:Smal t.size 44):Sml43 tl s t/\Sml43 tl (.neg s) t:=by
 let z:=D.dz y j;let w:=D.w y j;let co:(44).cost<=3580:=by rcases hd with rfl|rfl;show y0z z.co (by decide);show z.co
 let sz:szS s<=92:=by rcases hd with rfl|rfl;show y0z z.sz (by decide);show z.sz
 let lv:=z.lv;let hg:=z.hg;let M:t.size*(ct t.size 44+1)<=t.size*(Bq+1):=y34 _<|y25 o 1;let J:t.size*ct t.size 44<=t.size*(ct t.size 44+1):=y34 _<|y3t _;show((z.ok,by omega,by omega,by omega,by omega,sm,w.1,w.2),(z.ok,by change lvS s+1<30;omega,by change szS s+1<=400;omega,by change(44).hgt+1<24;omega,by change(44).cost+2+t.size*(ct t.size 44+1)<1000000;omega,sm,w.1,w.2))
theorem zqp{mo:Nat}{tl:List Str}{s:Sy}{t:Tr}(D:Dw mo 4 tl s)(j:tl.length<=3)(l:mo=([2,3,3,3]:List Nat).getD tl.length 0)(ht:t.size<=(061).getD tl.length 0):Sml43 tl s t/\Sml43 tl (.neg s) t:=by
 let all:∀n,n<=3->∀k,k<=(061).getD n 0->([2,3,3,3]:List Nat).getD n 0<=3/\k<=5/\2^k<=2^(061).getD n 0/\k+1<=2^(061).getD n 0/\k*(cbq (2^(061).getD n 0) 4 (([2,3,3,3]:List Nat).getD n 0-n)+1)<900000:=by decide+kernel
 let(M,J,U,C,g):=all _ j _ ht;rw[←l]at M g;show zqo M D j (.inr R) (y0z (ct_q U C _) D.ctq) g<|smal5 J _
theorem zqn{s:Sy}{t:Tr}(D:Dw 2 4 [] s)(Y:tsets s=0)(ht:t.size<=10):Sml43 [] s t/\Sml43 [] (.neg s) t:=by
 let all:∀k,k<=10->k*(cbq (k+1) 4 2+1)<900000:=by decide+kernel
 let c:nst (coreS [] s)=0:=by rw[zb1];show Y
 show zqo 02 D 02 (.inr R) (y0z (y44<|ct_0 _ c) D.ctq) (all _ ht)<|smal0 00 _ c
theorem zug{s:Sy}{t:Tr}(D:Dw 2 3 [] s)(Y:tsets s<=1)(ht:t.size<=6):Sml43 [] s t/\Sml43 [] (.neg s) t:=by
 let all:∀k,k<=6->k*(10*cbq (k+1) 3 2+1)<900000:=by decide+kernel
 let c:nst (coreS [] s)<=1:=by rw[zb1];show Y
 let d:10^nst (coreS [] s)<=10:=y1q (n:=10) 02 c;apply zqo 02 D 02 85 (y0z (ct_n ht _)<|y3s d D.ctq) (all _ ht) ?_;by_cases a:t.size=6
 .rw[a];show D.smal (λz hz=>nomatch hz) 02 Y
 .exact smal5 00 _
theorem zfk:∀d∈SMALL.cps.toList,(!decide ([d]<(Str.ofString "A").cps.toList))=N/\(!decide ((Str.ofString "Z").cps.toList<[d]))=Fa:=by decide+kernel
theorem zdm:∀d∈GREAT.cps.toList,(!decide ([d]<(Str.ofString "A").cps.toList))=N/\(!decide ((Str.ofString "Z").cps.toList<[d]))=N/\signIn d SMALL=Fa:=by decide+kernel
theorem zr0{z:Str}(h:NmOk z):∃d ds,z.cps.toList=d::ds/\(!decide ([d]<(Str.ofString "A").cps.toList))=N/\(!decide ((Str.ofString "Z").cps.toList<[d]))=!isP z:=by
 rcases h with h|h
 .let(d,ds,e,M,_):=h.ex;let:isP z=N:=zgw zew h;show(d,ds,e,(zfk d M).1,by rw[this];show(zfk d M).2)
 .let(d,ds,e,M,_):=h.ex;let:isP z=Fa:=by simp[isP,isNm,nameB,e,(zdm d M).2.2]
  show(d,ds,e,(zdm d M).1,by rw[this];show(zdm d M).2.1)
inductive zlk(lv:Nat)(vs:List V)(H:Hp)(Q:VK)(_E:XK):Prop
 |mk (v:V) (s:Sy) (tl:List Str) (mo dp:Nat):(vs=[v])->(Rep H v s)->(Dw mo dp tl s)->(mo<=3)->(s.depth<=lv)->(∀H',Same H H'->Q (nV<|tsets s) H')->zlk lv vs H Q _E
theorem zok{xs:List V}{lo hi:Option Int}{x:V}(h:x∈cutL xs lo hi):x∈xs:=by
 unfold cutL at h;show List.mem_of_mem_drop<|List.mem_of_mem_take h
inductive zlw(K:Frag)(Pt:Ad)(qs:Y3)(vs:List V)(H:Hp)(Q:VK)(_E:XK):Prop
 |mk (a c:Ad) (ns cs:List Int):(vs=[.ref a,.ref c])->(TabOk H Pt qs)->(SqL K H a<|ns.map V.int)->(ns.length<=63)->(H c=G (.lst<|cs.map V.int))->(cs.length<=12)->(∀H',Same H H'->Q (.bl N) H')->zlw K Pt qs vs H Q _E
open Classical in
noncomputable def tsV(H:Hp)(v:V):Nat:=if h:∃s,Rep H v s then tsets h.choose else 0
theorem zni{H:Hp}{v:V}{s:Sy}(r:Rep H v s):tsV H v=tsets s:=by
 let h:∃s,Rep H v s:=(s,r);unfold tsV;rw[dif_pos h,h.choose_spec.det r]
noncomputable def isR(v:V):Bool:=match v with|.ref _=>N|_=>Fa
theorem zu8{mo dp lv:Nat}{H:Hp}{v:V}{tl:List Str}{s:Sy}(g:mo<=3)(r:Rep H v s)(D:Dw mo dp tl s)(hd:s.depth<=lv+1):(∃a wd n x s1,v=.ref a/\s=.qu wd n s1/\H a=G (.tup [.str wd,.str n,x])/\Rep H x s1/\(wd="some"\/wd="all")/\NmOk n/\n.length<=4/\(∃d',Dw mo d' 024 s1)/\s1.depth<=lv)\/
  (∃a wd its,v=.ref a/\H a=G (.tup (.str wd::its))/\¬wd="some"/\¬wd="all"/\its.length<=2/\1<=its.length/\(∀x∈its,(∃z,x=.str z)\/∃b xs s1 d',x=.ref b/\H b=G 015/\Rep H x s1/\Dw mo d' tl s1/\s1.depth<=lv)/\((its.filter isR).map λx=>(tsV H x:Int)).sum=(tsets s:Int)):=by
 cases r with
 |bare C e =>
  rename_i a wd n m;let(c,o,l,wf):=D.i_bare;apply .inr (a,wd,_,R,e,λz=>zb8 c "some" 02 (by rw[z]),λz=>zb8 c "all" 02 (by rw[z]),(by decide:2<=2),(by decide:1<=2),λx O=>.inl ?_,R);simp only[y06,y0l,or_false]at O;rcases O with rfl|rfl<;>show(_,R)
 |neg e r1 =>
  let(d',Y):=D.i_neg;rename_i a x s1;let(b,xs,rfl,eb):=zf7 r1;apply .inr (a,_,_,R,e,by decide,by decide,(by decide:1<=2),(by decide:1<=1),λx O=>.inr ?_,?_)
  .rw[y03.mp O];show(b,_,s1,d',R,eb,r1,Y,by have:s1.depth+1<=lv+1:=hd;omega)
  .change((tsV H 94:Int)::[]).sum=(tsets s1:Int);rw[zni r1];simp
 |two C e r1 r2 =>
  let(c,d',Y,D2):=D.i_two;rename_i a wd x y s1 s2;let(b,xs,rfl,eb):=zf7 r1;let(b2,d,rfl,I):=zf7 r2;let f:max s1.depth s2.depth+1<=lv+1:=hd;apply .inr (a,wd,_,R,e,by rcases c with rfl|rfl<;>decide,by rcases c with rfl|rfl<;>decide,(by decide:2<=2),(by decide:1<=2),λx O=>.inr ?_,?_)
  .rcases y06.mp O with rfl|O
   .exact(b,_,s1,d',R,eb,r1,Y,by omega)
   .rw[y03.mp O];show(b2,_,s2,d',R,I,r2,D2,by omega)
  .change((tsV H 94:Int)::(tsV H (.ref b2):Int)::[]).sum=((tsets s1+tsets s2:Nat):Int);rw[zni r1,zni r2];simp
 |qu C e r1 =>
  rename_i a wd n x s1;let(c,i,_,_,Q,Y):=D.i_qu g;show .inl (a,wd,n,x,s1,R,R,e,r1,c,i,Q,Y,by have:s1.depth+1<=lv+1:=hd;omega)
theorem zxd{mo dp:Nat}{H:Hp}{v:V}{b:Ad}{s:Sy}(y:mo<=3)(hd:dp=3\/dp=4)(eb:H b=G (.lst []))(r:Rep H v s)(D:Dw mo dp [] s):Gd43 H v b [] s/\s.depth<=8/\s.parts<=59:=by
 let z:=D.dz y 02;let l:s.parts<=47:=by rcases hd with rfl|rfl;show y0z z.pt (by decide);show z.pt
 let o:=z.dp;show((eb,(by decide,λz hz=>nomatch hz),by decide,(λz hz=>nomatch hz),by decide+kernel,r,z.wf,by omega,by omega,z.lt),by omega,by omega)
theorem zwn(xs:List Nat){n:Nat}(h:n<xs.length):atI (xs.map nV) (n:Int)=G (nV<|xs.getD n 0):=by
 apply zaj ?_;rw[y0r,y0e h,y0j,y0e h];rfl
theorem gd_fr{mo:Nat}{H:Hp}{v:V}{b:Ad}{tl:List Str}{s:Sy}(y:mo<=3)(x:NG tl)(nd:tl.Nodup)(U:tl.length<=3)(eb:H b=G (.lst 018))(r:Rep H v s)(D:Dw mo 4 tl s):Gd43 H v b tl s/\s.depth<=8/\s.parts<=59:=by
 let z:=D.dz y U;let l:s.parts<=47:=z.pt;let o:=z.dp;show((eb,(by omega,λz hz=>(x z hz).1),U,x.len,x.frame 00 nd,r,z.wf,by omega,by omega,z.lt),by omega,by omega)
theorem cut12(ns:List Int):(cutL ns (G 2)<|G 14).length<=12:=by
 unfold cutL;rw[y19];let e1:HT.sIx ns.length 0 (G 2)=min 2 ns.length:=by unfold HT.sIx;simp only;split<;>omega
 let L:HT.sIx ns.length ns.length (G 14)=min 14 ns.length:=by unfold HT.sIx;simp only;split<;>omega
 rw[e1,L];omega
end SM
set_option maxHeartbeats 4000000
namespace L2
open PySem
theorem fitS{n:Nat}{P:List Va->Prop}(h:∀a us,us.length=n->P (a::us)):∀us:List Va,us.length=n+1->P us
 |a::us,e=>h a us<|Nat.succ.inj e
theorem fit0{P:List Va->Prop}(h:P []):∀us:List Va,us.length=0->P us
 |[],_=>h
theorem fit1{P:List Va->Prop}(h:∀a,P [a]):∀us:List Va,us.length=1->P us:=fitS λa=>fit0<|h a
theorem fit2{P:List Va->Prop}(h:∀a b,P [a,b]):∀us:List Va,us.length=2->P us:=fitS λa=>fit1<|h a
theorem fit3{P:List Va->Prop}(h:∀a b c,P [a,b,c]):∀us:List Va,us.length=3->P us:=fitS λa=>fit2<|h a
theorem fit4{P:List Va->Prop}(h:∀a b c d,P [a,b,c,d]):∀us:List Va,us.length=4->P us:=fitS λa=>fit3<|h a
theorem fit5{P:List Va->Prop}(h:∀a b c d e,P [a,b,c,d,e]):∀us:List Va,us.length=5->P us:=fitS λa=>fit4<|h a
end L2
namespace K43
open PySem PySem.Spec PyProof.Rows L2 SS SM
local macro_rules| `(tactic|trivial)=>`(tactic|((try dsimp only[tIfZ,tIfY,tIfX,tSeqZ,tCutZ,asI_l,asR_l,asS_l,asB_l,as1_l,zme,zmd,zmc,zmb,zq2,rLenZ,rListOfZ,rAllZ,rInZ,rSlLZ,rSlTZ,rAppZ,rCatZ,rLeSZ,rEqI,rNeI,rInDc,rLenD,rLenT,rDictOf,rMaxL,rIndex,rCatTN,rCatTE,tDNewN,tDNewTN,tDisp1T,rNeM,rRange2,rListRng,rRepN,rPopAt,rSetL,gSub,ipI,tDGet,tDGet2,sDPut,iEnum,iEZ,iZipL,tLam,tCallA,tCallV,tDef,iRng3,rIndexT,tFld,sFld,tMeth,tMake,gLst,rPop,rExtendT,rNotInN,sDPutN,tDGetN,tDNew2,rSortF,rDictCp,tTry,tRaise,tTryA,tTry2A,rIsX,rIsXT,rIsXP,rUpper,iZip,rInD,rIxD,rLen,rAll,rAny,rSum,rListOf,rEqS,rNeS,rSlTN,rStrB,tTupN,tLstN,rSlLN,rCatN,cxK,cxP,cxW,tSeq,tIfS,tTest,tB,tOp,tUn,tC,tAnd,tOr,tNot,tAndV,tOrV,tNotV,tIf,tNext,tBreak,tCont,tDrop,tRet,tRetN,gName,gNil,gCons,gTup,tAsg,tPar,tAug,rI,rI0,rU,rEq,rNe,tChain,tNil,tCons,tTup,tLst,tCall,tCB,tNoPart,tPart,tSl,rSlT,rSlL,rSlS,rIxL,rIxT,rIxS,rIn,tBM0,tBM,tyV,rAppend,rExtend,rCat,rZfill,rEqD,iList,iTup,iStr,iRng1,iRng2,tYes,tDisp,tPairs,rd_v0,rd_vS,zq1,zwv,znq,znr,List.set_cons_zero,List.set_cons_succ,y47,y2n,rd_ss,rd_si,rd_is,rd_ii,rd_bb]);(try simp only[tIfZ,tIfY,tIfX,tSeqZ,tCutZ,asI_l,asR_l,asS_l,asB_l,as1_l,zme,zmd,zmc,zmb,zq2,rLenZ,rListOfZ,rAllZ,rInZ,rSlLZ,rSlTZ,rAppZ,rCatZ,rLeSZ,exists_eq',rEqI,rNeI,rInDc,rLenD,rLenT,rDictOf,rMaxL,rIndex,rCatTN,rCatTE,tDNewN,tDNewTN,tDisp1T,rNeM,rRange2,rListRng,rRepN,rPopAt,rSetL,gSub,ipI,tDGet,tDGet2,sDPut,iEnum,iEZ,iZipL,tLam,tCallA,tCallV,tDef,iRng3,rIndexT,tFld,sFld,tMeth,tMake,gLst,rPop,rExtendT,rNotInN,sDPutN,tDGetN,tDNew2,rSortF,rDictCp,tTry,tRaise,tTryA,tTry2A,rIsX,rIsXT,rIsXP,rUpper,iZip,rInD,rIxD,rLen,rAll,rAny,rSum,rListOf,rEqS,rNeS,rSlTN,rStrB,tTupN,tLstN,rSlLN,rCatN,cxK,cxP,cxW,tSeq,tIfS,tTest,tB,tOp,tUn,tC,tAnd,tOr,tNot,tAndV,tOrV,tNotV,tIf,tNext,tBreak,tCont,tDrop,tRet,tRetN,gName,gNil,gCons,gTup,tAsg,tPar,tAug,rI,rI0,rU,rEq,rNe,tChain,tNil,tCons,tTup,tLst,tCall,tCB,tNoPart,tPart,tSl,rSlT,rSlL,rSlS,rIxL,rIxT,rIxS,rIn,tBM0,tBM,tyV,rAppend,rExtend,rCat,rZfill,rEqD,iList,iTup,iStr,iRng1,iRng2,tYes,tDisp,tPairs,rd_v0,rd_vS,zq1,zwv,znq,znr,List.set_cons_zero,List.set_cons_succ,y47,y2n,y1k,V.int.injEq,V.str.injEq,V.bl.injEq,V.ref.injEq,V.ty.injEq,List.cons.injEq,and_true,true_and,exists_eq_left,exists_eq_left',exists_and_left,exists_eq,exists_const,if_true,if_false,ite_true,ite_false,rd_ss,rd_si,rd_is,rd_ii,rd_bb,Option.some.injEq,exists_eq_right,exists_eq_right',and_assoc,reduceCtorEq,false_and,and_false,false_or,or_false,exists_false])))
noncomputable def top(i:Nat):Stmt:=PySem.Challenge.pw_setsays_k43_whole_tree_holds_plain.main.body.getD i<|.Pass (0,0,0,0)
structure Txt(K:Frag)(mg:Y1)(w:World)(tw ow fa Qa Qb:Ad):Prop where
 b_isinstance:mg "isinstance"=B
 b_tuple:mg "tuple"=B
 b_str:mg "str"=B
 b_list:mg "list"=B
 b_int:mg "int"=B
 b_bool:mg "bool"=B
 b_set:mg "set"=B
 b_len:mg "len"=B
 b_all:mg "all"=B
 b_any:mg "any"=B
 b_sum:mg "sum"=B
 b_max:mg "max"=B
 b_zip:mg "zip"=B
 b_range:mg "range"=B
 b_enumerate:mg "enumerate"=B
 b_sorted:mg "sorted"=B
 b_dict:mg "dict"=B
 g_FIGURES:GlV mg "FIGURES"<|.str FIGS
 g_LONGEST_NAME:GlV mg "LONGEST_NAME"<|.int 4
 g_SMALL_LETTERS:GlV mg "SMALL_LETTERS"<|.str SMALL
 g_GREAT_LETTERS:GlV mg "GREAT_LETTERS"<|.str GREAT
 g_MOST_NAMES:GlV mg "MOST_NAMES"<|.int 4
 g_MOST_TREE_NAMES:GlV mg "MOST_TREE_NAMES"<|.int 3
 g_DEEPEST:GlV mg "DEEPEST"<|.int 12
 g_MOST_PARTS:GlV mg "MOST_PARTS"<|.int 60
 g_WAITING:GlV mg "WAITING"<|.int 0
 g_SECOND:GlV mg "SECOND"<|.int 1
 g_YES:GlV mg "YES"<|.int 2
 g_NO:GlV mg "NO"<|.int 3
 g_TELLING_WORDS:GlV mg "TELLING_WORDS"<|.ref tw
 t_TELLING_WORDS:∀H,SqT K H tw [.str "some",.str "all"]
 g_ROW_WORDS:GlV mg "ROW_WORDS"<|.ref ow
 t_ROW_WORDS:∀H,SqT K H ow [.str "ahead",.str "next"]
 g_FORMS:GlV mg "FORMS"<|.ref fa
 f_FORMS:Forms K w fa
 m_Standings:mg "Standings"=G (.ref Qa)
 cl_Standings:Cls K Qa
 n_parts:NoAttr K Qa "parts"
 n_forms:NoAttr K Qa "forms"
 n_numbers:NoAttr K Qa "numbers"
 n_steps:NoAttr K Qa "steps"
 m_NoTree:mg "NoTree"=G (.ref Qb)
 k_NoTree:KSup K Qb
 kx:KExc K Qb
 ms:PySem.W.mroIn K Qb (.ref Qb)=G N
 x_NoTree:PySem.W.excIn K Qb veM "ValueError.__new__"=N
seal PE PT PW PA PS PSs
section
variable {P:ik}{w:World}{K:Frag}{mg:Y1}{base:Heap}{tw ow fa Qa Qb:Ad}
abbrev Q2:Stmt:=top 11
theorem zcm:FnScope ["thing","letters"] ["thing","letters"] (defScope Q2):={}
variable (T:Txt K mg w tw ow fa Qa Qb)
include T in
theorem ok_lf(d:Dfn K mg "is_letter_with_figures" Q2 ["thing","letters"]):04 1 "is_letter_with_figures" ["thing","letters"] zx0:=by
 apply d.cal zcm 21 22
 .nofun
 let(x,l,k,rfl,C,hz,q):=h;apply(_,(zab (zaz (PW.pt<|zcc (zb6<|zbd (za2 zbh 01 T.b_isinstance iB<|pa_c (pv 0) (pa_c (zcd (v:=.ty "str") 01 T.b_str boot_str 01) zaa))) (zcc 075<|zb5 (zaf zhi (za2 zk5 01 T.b_len ir 013) (za4 01 T.g_LONGEST_NAME) 08))) 042 zak)<|zad (zai<|zce (za5 zkm (zam zfq (pv 0) zac λ_ _=>rfl) (pv 1)<|by with_unfolding_all rfl) (zby<|za2 (zbx K R) 01 T.b_all jm (pa_c (za9 ["sign"] [] 014 01 (pi_str<|zbi sl_str (pv 0) (zbg zac) zdg) (λ_ _ _ _ _=>(zaw (i:=0) (show List.Nodup (["sign"]:List Str) by decide+kernel) 01 86)) (λ_ _ _ _ _=>zbs) λ_ _ _ _ _=>(za5 zkm (pv 0) (za4 01 T.g_FIGURES)<|by with_unfolding_all rfl)) zaa)))),?_);apply za1 [G x,G<|.str l] R ?_;trivial;apply(k,C,by decide,?_);cases C with
 |str z =>
  let p:=hz z rfl;let j:=zlj z;rw[show(!subT "str" "str")=Fa by decide];trivial;apply ite2 (λc=>?_) λc=>?_
  .let c':=of_decide_eq_true c;subst c';show q H 99
  let c':=of_decide_eq_false<|y1e.mpr c;let ne:z.cps.toList≠[]:=λe=>c'<|ext_toList e;apply(by have:=small1000 p;omega,?_);let(y,r0,M):=List.exists_cons_of_ne_nil ne;let q':∀H',Same H H'->Q (.bl<|decide (r0.length<=3)&&signIn y l&&r0.all λd=>signIn d FIGS) H':=λH' g=>by
   let h:=q H' g;simp only[isNm,nameB,M]at h;show h
  rw[M,y0b]at j;apply ite2 (λc=>?_) λc=>?_
  .let O:=of_decide_eq_true c;let h:=q' H 99;rw[show decide (r0.length<=3)=Fa by simp;omega,y15,y15]at h;show h
  let O:=of_decide_eq_false<|y1e.mpr c;rw[show decide (r0.length<=3)=N by simp;omega,y17]at q';apply(by have:=small1000 p;omega,y,by rw[M];show zay,?_);apply ite2 (λc=>?_) λc=>?_
  .rw[show signIn y l=N from c,y17]at q';let es:(Txt.slice z (G 1) B).cps.toList=r0:=by
    rw[zqr,show((1:Int))=((1:Nat):Int)from rfl,zcs,M];rfl
   let en:(Txt.slice z (G 1) B).cps.size=r0.length:=by rw[←es];simp
   apply(by have:=small1000 p;omega,?_);apply cb_str (λD i ys U H'=>Same H H'/\(∃v,U=[v])/\ys=(r0.take i).map λd=>V.bl<|signIn d FIGS) (by rw[en];show y1s<|small1000 00) (λD u=>(za7 u _,(B,R),R)) ?_ ?_
   .rintro D i ys U H' d u hi hd J r ⟨g,⟨v,rfl⟩,rfl⟩;trivial;apply cstep (by rw[en];show y1s<|small1000 00) hi J r (λb o e=>?_,(_,R),?_)
    .rw[zan<|zap e u];show g b o e
    .rw[en]at hi;let e1:r0[i]?=G d:=by rw[←es];simpa using hd
     rw[y1d,e1,y0t];rfl
   .rintro D ys U H' u J r ⟨g,_,rfl⟩;rw[en,y0v 37]at J;apply(r0.map λd=>signIn d FIGS,.of (by rw[J,y0w];rfl),?_);let h:=q' H' g;rw[y2p];show h
  .let h:=q' H 99;rw[show signIn y l=Fa from y1e.mpr c,y15]at h;show h
 |non=>show q H 99
 |bl b=>show q H 99
 |int i=>show q H 99
 |lst e=>show q H 99
 |tup e=>show q H 99
 |dK e=>show q H 99
abbrev T7:Stmt:=top 12
theorem zl7:FnScope ["thing"] ["thing"] (defScope T7):={}
include T in
theorem zve(d:Dfn K mg "is_place" T7 ["thing"])(a:04 1 "is_letter_with_figures" ["thing","letters"] zx0):04 2 "is_place" ["thing"] (zhd SMALL):=by
 apply d.cal zl7 21 22
 .nofun
 let(x,k,rfl,C,hz,q):=h;apply(_,(zad<|zai (zae a hr 00 01<|pa_c (pv 0) (pa_c (za4 01 T.g_SMALL_LETTERS) zaa))),?_);apply za1 [G x] R ?_;trivial;show(x,SMALL,k,R,C,hz,q)
abbrev P4:Stmt:=top 13
theorem zqx:FnScope ["thing"] ["thing"] (defScope P4):={}
include T in
theorem ok_set(d:Dfn K mg "is_set" P4 ["thing"])(a:04 1 "is_letter_with_figures" ["thing","letters"] zx0):04 2 "is_set" ["thing"] (zhd GREAT):=by
 apply d.cal zqx 21 22
 .nofun
 let(x,k,rfl,C,hz,q):=h;apply(_,(zad<|zai (zae a hr 00 01<|pa_c (pv 0) (pa_c (za4 01 T.g_GREAT_LETTERS) zaa))),?_);apply za1 [G x] R ?_;trivial;show(x,GREAT,k,R,C,hz,q)
abbrev Pm:Stmt:=top 14
theorem zo6:FnScope ["thing"] ["thing"] (defScope Pm):={}
include T in
theorem ok_nm(d:Dfn K mg "is_name" Pm ["thing"])(e:04 2 "is_place" ["thing"]<|zhd SMALL)(g:04 2 "is_set" ["thing"]<|zhd GREAT):04 3 "is_name" ["thing"] zuf:=by
 apply d.cal zo6 21 22
 .nofun
 let(x,rfl,((k,C),hz),q):=h;apply(_,(zad<|zai (zuw (zae e hr 00 01 013)<|zby (zae g hr 00 01 013))),?_);apply za1 [G x] R ?_;trivial;apply(x,k,R,C,hz,λH1 g1=>(_,R,ite2 (λc=>?_) λc=>(x,k,R,C.same g1,hz,λH2 p=>?_)))
 .let h:=q H1 g1;rw[show isName x=N by unfold isName;rw[c,Bool.true_or]]at h;show h
 .let h:=q H2<|g1.trans p;rw[show isName x=isNm x GREAT by unfold isName;rw[y1e.mpr c,y3g]]at h;show h
abbrev T6:Stmt:=top 15
theorem zl8:FnScope ["thing"] ["thing"] (defScope T6):={}
include T in
theorem zvl(d:Dfn K mg "is_frame" T6 ["thing"])(Pi:04 3 "is_name" ["thing"] zuf):04 4 "is_frame" ["thing"] zx1:=by
 apply d.cal zl8 21 22
 .nofun
 let(x,rfl,((k,C),hz),M,q):=h;apply(_,(zab (zaz (PW.pt<|zcc (zb6<|zbd (za2 zbh 01 T.b_isinstance iB<|pa_c (pv 0) (pa_c (zcd (v:=.ty "list") 01 T.b_list boot_list 01) zaa))) (zb5<|zaf zhi 059 (za4 01 T.g_MOST_NAMES) 08)) 042 zak)<|zad (zai<|zce (za2 (zbx K R) 01 T.b_all jm<|pa_c (za9 ["name"] [] 014 01 (za8 K<|pv 0) (λ_ _ _ _ _=>(zaw (i:=0) (show List.Nodup (["name"]:List Str) by decide+kernel) 01 86)) (λ_ _ _ _ _=>zbs) λ_ _ _ _ _=>(zae Pi hr 00 01 013)) zaa) (zby<|za5 za6 (za2 zjq 01 T.b_len ir<|pa_c (zeq (zk2 R) 01 T.b_set boot_set 013) zaa) 059 08))),?_);apply za1 [G x] R ?_;trivial;apply(k,C,by decide,?_);cases C with
 |lst e =>
  rename_i a xs;let(j,I):=M a xs R e;let hS:SqL K H a xs:=.of e;let ef:frB H 09=frameB xs:=by simp only[frB,e]
  rw[ef]at q;apply iteF (xs,.inl hS,?_);apply ite2 (λc=>?_) λc=>((xs,hS),?_)
  .let c':=of_decide_eq_true c;let h:=q H 99;rw[show frameB xs=Fa by unfold frameB;rw[Xf 00,y15,y15]]at h;show h
  let c':=of_decide_eq_false<|y1e.mpr c;let Y:frameB xs=(xs.all isName&&decide xs.Nodup):=by unfold frameB;rw[Xg 00,y17]
  rw[Y]at q;apply zg7 (K:=K) (a:=a) (xs:=xs) (λD i ys U H'=>Same H H'/\(∃v,U=[v])/\ys=(xs.take i).map λy=>V.bl<|isName y) (zah j) (λD u=>(za7 u _,(B,R),R)) (λD i ys U H' _ _ _ (g,_)=>g.seq hS) ?_ ?_
  .rintro D i ys U H' y u hi O J r ⟨g,⟨v,rfl⟩,rfl⟩;trivial;apply(y,R,(I y<|y0d O).same g,λH2 p=>?_);apply cstep (zah j) hi (p _ _ J) r (λb o e=>?_,(_,R),?_)
   .rw[zan<|zap e u];show p b o<|g b o e
   .rw[y1d,O,y0t];rfl
  .rintro D ys U H' u J r ⟨g,_,rfl⟩;rw[y0v 37]at J;apply(xs.map isName,.of (by rw[J,y0w];rfl),?_);rw[y2p,show(id∘isName)=isName from rfl];apply ite2 (λL=>?_) λL=>?_
   .let(ks,ek,nk):=zh5 L;let lk:ks.length=xs.length:=by rw[ek,y00]
    apply(a,R,ks,ek▸g.seq hS,by omega,λb H3 n3=>(ks,n3.at',by omega,xs,.inl<|n3.g.seq (g.seq hS),?_));let h:=q _<|g.trans n3.g;rw[L,y17]at h;let l:decide xs.Nodup=decide (((onceK [] ks).length:Int)=(xs.length:Int)):=by
     apply decide_eq_decide.mpr ?_;rw[nk,←zrm,lk];omega
    rw[l]at h;show h
   .let h:=q H' g;rw[y1e.mpr L,y15]at h;show h
 |non=>show q H 99
 |bl b=>show q H 99
 |int i=>show q H 99
 |str z=>show q H 99
 |tup e =>
  let h:=q H 99;simp only[frB,e]at h;show h
 |dK e =>
  let h:=q H 99;simp only[frB,e]at h;show h
abbrev Vi:Stmt:=top 23
theorem ziz:FnScope ["thing","sort","deepest"] ["thing","sort","deepest"] (defScope Vi):={}
theorem zrq{n k:Nat}(C:3<=k)(T:Txt K mg w tw ow fa Qa Qb)(d:Dfn K mg "is_of_sort" Vi ["thing","sort","deepest"])(e:04 2 "is_place" ["thing"]<|zhd SMALL)(g:04 2 "is_set" ["thing"]<|zhd GREAT)(Pi:04 3 "is_name" ["thing"] zuf)
  (i:04 k "has_form" ["thing","deepest"]<|ziv n):04 (k+1) "is_of_sort" ["thing","sort","deepest"] (zll n):=by
 apply d.cal ziz 21 22
 .nofun
 let(v,so,rfl,ex,q):=h;let((kd,a),hz):=ex.thing;let e1:∀b:Str,decide (V.str so=V.str b)=decide (so=b):=λb=>by simp
 apply(_,(zab (zaz (zaf za6 (pv 1) zal 08) (zad<|zai (zae e hr 00 01 013)) zak)<|zab (zaz (zaf za6 (pv 1) zal 08) (zad<|zai (zae g hr 00 01 013)) zak) (zab (zaz (zaf za6 (pv 1) zal 08) (zad<|zai (zae Pi hr 00 01 013)) zak)<|zad (zai<|zae i hr 00 01 (pa_c (pv 0) 033)))),?_);apply za1 [G v,G<|.str so,G<|.int n] R ?_;trivial;unfold sortB at q;apply ite2 (λc=>?_) λc=>?_
 .rw[Xq<|of_decide_eq_true c]at q;show(v,kd,R,a,hz,q)
 rw[Xp<|of_decide_eq_false (y1e.mpr c)]at q;apply ite2 (λc=>?_) λc=>?_
 .rw[Xq<|of_decide_eq_true c]at q;show(v,kd,R,a,hz,q)
 rw[Xp<|of_decide_eq_false (y1e.mpr c)]at q;apply ite2 (λc=>?_) λc=>?_
 .rw[Xq<|of_decide_eq_true c]at q;show(v,R,((kd,a),hz),q)
 rw[Xp<|of_decide_eq_false (y1e.mpr c)]at q;show(v,R,ex,q)
abbrev V6:Stmt:=top 24
theorem Pw:FnScope ["thing","deepest","sorts"] ["thing","deepest"] (defScope V6):={}
include T in
theorem zrt{n k:Nat}(d:Dfn K mg "has_form" V6 ["thing","deepest"])(Qat:04 k "is_of_sort" ["thing","sort","deepest"]<|sp_sort' n):04 (k+1) "has_form" ["thing","deepest"] (ziv n):=by
 apply d.cal Pw 21 22
 .nofun
 let(v,rfl,ex,q):=h;apply(_,(zab (zaz (PW.pt<|zcc (zaf za6 (pv 1) zac 08) (zcc (zb6 112)<|zb5 (zaf za6 059 zac 08))) 042 zak)<|zab (zaz (PW.pt<|zcc (zb6<|zbd (za2 zbh 01 T.b_isinstance iB<|pa_c (zam 07 (pv 0) zac λ_ _=>rfl) (pa_c (zcd (v:=.ty "str") 01 T.b_str boot_str 01) zaa))) (zb5<|zaf (zkj K w) (zam 07 (pv 0) zac λ_ _=>rfl) (za4 01 T.g_FORMS) (by with_unfolding_all rfl))) 042 zak) (zab (zar (i:=2) Pw.nd R 17<|zam (ix_dct K w) (za4 01 T.g_FORMS) (zam 07 (pv 0) zac λ_ _=>rfl) (λ_ _=>rfl))<|zab (zaz (zaf zh0 059 (zav zes zac 070) 08) 042 zak) (zad<|zai (za2 (zbx K R) 01 T.b_all jm<|pa_c (za9 ["part","sort"] [(1,"deepest")] 014 01 (zyi K 01 T.b_zip<|pa_c (zbi (zgm K) (pv 0) (zbg zac) zdg) 033) (λ_ _ _ _ _=>(zmh K (n:=2) R<|zcz (zaw (i:=0) (show List.Nodup (["part","sort","deepest"]:List Str) by decide+kernel) 01 86) (zcz (zaw (i:=1) (show List.Nodup (["part","sort","deepest"]:List Str) by decide+kernel) 01 86) zmg))) (λ_ _ _ _ _=>zbs) λ_ _ _ _ _=>(zae Qat hr 00 01<|pa_c (pv 0) (pa_c (pv 1)<|pa_c (zav zc6 (pv 2) zac) zaa))) zaa)))),?_);apply za1 [G v,G<|.int n,B] R ?_;trivial;cases n with
 |zero =>
  show itT (show((0:Nat):Int)=0 from rfl)<|q H 99
 |succ n =>
 rw[Xf<|show¬((n+1:Nat):Int)=0 by omega];apply atom λl Y=>?_;let(((kd,hkd),hz),hin):=id ex;apply Y ?_;apply iteF (kd,hkd,by decide,?_);cases hkd with
 |tup e =>
  rename_i a xs;let(j,O):=hin a xs R e;let I:SqT K H a xs:=.of e;apply iteF (xs,.inr I,?_);cases xs with
  |nil =>
   let h:=q H 99;simp only[formH,e]at h;show iteT h
  |cons x0 r =>
  rw[Xf<|show¬(((x0::r).length:Nat):Int)=0 by rw[y0b];omega];apply atom λl Y=>?_;let((k0,hk0),_):=(O x0 y04).thing;apply Y ?_;apply iteF<|ixm I zay (k0,hk0,by decide,?_);cases hk0 with
  |str wd =>
   let q':∀H',Same H H'->Q (.bl<|match forms.lookup wd with|some ss=>zipB (formH H n) r ss|none=>Fa) H':=λH' g=>by
    let h:=q H' g;simp only[formH,e]at h;show h
   let(fm,hd,hf):=T.f_FORMS.ex;apply iteF<|ixm I zay (wd,R,fm,hd,?_);rcases hf wd with⟨ss,b,hls,hfw,c⟩|⟨hls,hfw⟩
   .rw[hls]at q';replace q':∀H',Same H H'->Q (.bl<|zipB (formH H n) r ss) H':=q';rw[hfw];apply iteF<|ixm I zay (wd,R,fm,hd,.ref b,hfw,_,.inr I,_,.inr<|c H,?_);rw[y0b,y00];by_cases M:r.length=ss.length
    .rw[Xg<|show(((r.length+1:Nat)):Int)=1+(ss.length:Int) by omega];apply iteF (_,I,zj7 06,λp H1 n1=>?_);let ec:cutL (V.str wd::r) (G 1) B=r:=by
      rw[show((1:Int))=((1:Nat):Int)from rfl,zcs];rfl
     rw[ec]at n1;let lr:r.length<=1000:=by rw[y0b]at j;omega
     apply(b,R,(_,.of n1.at'),(_,c H1),cz_map (K:=K) (a:=p) (b:=b) (xs:=r) (ys:=ss.map V.str) (λU=>∃v1 o,U=[v1,o,G<|.int ((n+1:Nat):Int)]) (λi=>.bl<|sortB (formH H n) (r.getD i .non) (ss.getD i "")) lr (by rw[y00];show M) (.of n1.at') (c H1) (_,_,R) ?_ ?_)
     .rintro D i U Gq G' pp x y ex1 ey1 g u J ⟨v1,o,rfl⟩ nw;rw[y0r]at ey1;let(sx,es,rfl):=y18.mp ey1;let hi:i<r.length:=(y09.mp ex1).1;let mx:x∈r:=y0d ex1;let C:Same H G':=n1.g.trans<|g.trans nw.g;let exx:=O x<|y08 _ mx;trivial;apply(_,.of nw.at',R,_,_,R,_,_,R,R,?_);let en:(((n+1:Nat):Int)-1)=(n:Int):=by omega
      rw[en];apply(x,sx,R,exx.same C,λG2 g2=>zmz lr hi u (g2 _ _<|nw.g _ _ J) (g.trans<|nw.g.trans g2) (_,_,R) ?_);let e1:r.getD i .non=x:=by rw[y0j,ex1];rfl
      let L:ss.getD i ""=sx:=by rw[y0j,es];rfl
      rw[e1,L];unfold sortB;rw[zfd C exx]
     .intro D Gq u g eD;apply((List.range r.length).map λi=>sortB (formH H n) (r.getD i .non)<|ss.getD i "",.of (by rw[eD,y0w];rfl),?_);let h:=q' Gq<|n1.g.trans g;rw[zhm M]at h;rw[y2p];show h
    .rw[Xf<|show¬(((r.length+1:Nat)):Int)=1+(ss.length:Int) by omega];let h:=q' H 99;rw[znd M]at h;show iteT h
   .rw[hls]at q';rw[hfw];show iteT<|q' H 99
  |_ =>
   let h:=q H 99;simp only[formH,e]at h;show iteT h
 |non=>show iteT<|q H 99
 |bl b=>show iteT<|q H 99
 |int i=>show iteT<|q H 99
 |str z=>show iteT<|q H 99
 |lst e =>
  let h:=q H 99;simp only[formH,e]at h;show iteT h
 |dK e =>
  let h:=q H 99;simp only[formH,e]at h;show iteT h
theorem zov(T:Txt K mg w tw ow fa Qa Qb)(p:Dfn K mg "is_of_sort" Vi ["thing","sort","deepest"])(u:Dfn K mg "has_form" V6 ["thing","deepest"])(e:04 2 "is_place" ["thing"]<|zhd SMALL)(f:04 2 "is_set" ["thing"]<|zhd GREAT)(a:04 3 "is_name" ["thing"] zuf):
  ∀n,04 (2*n+4) "has_form" ["thing","deepest"] (ziv n)/\04 (2*n+5) "is_of_sort" ["thing","sort","deepest"] (zll n)
 |0=>by
  let c:=zrt (n:=0) T u ((p.never (sp:=sp_sort' 0) λvs H Q E h=>h).mono (y1g 3):04 3 _ _ _);show(c,zrq 02 T p e f a c)
 |n+1=>by
  let g:=zov T p u e f a n;let c:=zrt (n:=n+1) T u g.2;show(c,zrq 00 T p e f a c)
def zd6(d:Nat):Sp:=λvs H Q E=>∃mo,znk mo d vs H Q E
abbrev Vg:Stmt:=top 70
theorem Qu:FnScope ["_law_left","_law_names","_law_deep","_law_most","_law_number","_law_kind","_law_one","_law_name_here"] ["_law_left","_law_names","_law_deep","_law_most"] (defScope Vg):={}
include T in
theorem zn3(d:Dfn K mg "_law_saying" Vg ["_law_left","_law_names","_law_deep","_law_most"])(Vj:04 1 "_law_bare" ["_law_number","_law_names"] zc9)(Qr:04 1 "_law_new" ["_law_number","_law_names"] zcv){dd:Nat}(Kg:04 (1+dd) "_law_saying" ["_law_left","_law_names","_law_deep","_law_most"] λvs H Q E=>0<dd/\zd6 (dd-1) vs H Q E):04 (1+dd+1) "_law_saying" ["_law_left","_law_names","_law_deep","_law_most"] (zd6 dd):=by
 apply d.cal Qu 21 22
 .nofun
 let(mo,l,b,ns,tl,rfl,el,U,eb,cn,ng,az,aa,q):=h;let g:=zex hr 8 00;apply(_,(zab (zar (i:=4) Qu.nd R 17 zac)<|zde (zaz (zaf zhi 059 zac 08) (zad<|zar (i:=4) Qu.nd R 17 127) zak) (zab (zar (i:=5) Qu.nd R 17<|zav zbe (pv 4) zac)<|zab (zar (i:=4) Qu.nd R 17<|zav zbt (pv 4) zac) (zab (zaz (PW.pt<|zcc (zaf za6 (pv 2) zac 08) (zcc (zaf zmk (pv 5) zac 08)<|zcc (zaf za6 059 zac 08) (zb5<|PW.pt (zc5 (zaf zhi (pv 5) zac 08)<|zb4 (zaf op_ge 065 (pv 3) 08))))) (zad<|zai (zae Vj hr 00 01<|pa_c (pv 4) 016)) zak)<|zab (zaz (zaf za6 (pv 5) zac 08) (zad<|zai (zaq<|pa_c zal (pa_c 115 zaa))) zak) (zab (zaz (zaf zmk (pv 5) zac 08) (zab (zar (i:=6) Qu.nd R 17 115)<|zad (zai<|zaq (pa_c (zam 93 (zax 053) (zav zc6 (pv 5) zac) λ_ _=>rfl)<|pa_c (pv 6) (pa_c 115 zaa)))) zak)<|zab (zar (i:=7) Qu.nd R 17<|zae Qr hr 00 01 (pa_c (pv 4) 016)) (zad<|zai (zaq<|pa_c (zam 93 (zax 053) (zav zbe (zav zbt (pv 4) zac) zac) λ_ _=>rfl) (pa_c (pv 7)<|pa_c (zae Kg hr 00 01<|pa_c (pv 0) (pa_c (zav zed (pv 1)<|zax (pa_c (pv 7) zaa))<|pa_c (zav zc6 (pv 2) zac) 039)) zaa))))))),?_);apply za1 [G<|.ref l,G 94,G<|nV dd,G<|nV mo,B,B,B,B] R ?_;trivial;apply(λO H'=>∃(c:Int) (r:List Int),O=[G<|.ref l,G 94,G<|nV dd,G<|nV mo,G<|.int c,B,B,B]/\SameB l H H'/\H' l=G (.lst<|r.map V.int)/\r.length<=12,?_,?_)
 .trivial;apply(_,.inl<|.of el,?_);by_cases Y:0<ns.length
  .rw[Xg<|by rw[y00];omega];obtain⟨k,C⟩:∃k,ns[ns.length-1]?=G k:=(_,y0e 00);apply iteT (.inl (_,.of el),_,el,.int k,by rw[y00,y0r,C];rfl,?_,by decide,SameB.wr _,ns.dropLast,?_,?_)
   .exact .inr (by decide,by decide)
   .rw[zao,List.map_dropLast]
   .rw[y3r];omega
  .exact itF (by rw[y00];omega) (λb o _ e=>e,ns,el,U)
 rintro O H1 ⟨c,r,rfl,g1,eh,M⟩;trivial;let x:=g1 _ _ (Ne.symm cn) eb;let bare:zc9 [V.int<|c/9,V.ref b] H1 Q E0:=(_,b,tl,R,x,ng,az,λv sy H2 p r2 lf=>q v sy r H2 (g1.trans<|Same.b p l) (p _ _ eh) M r2<|.leaf lf);let m0:=y1c c (show(9:Int)≠0 by decide);let m1:=y10 c (show(0:Int)<9 by decide);apply(by decide,(by decide,by decide),?_);by_cases hd0:dd=0
 .exact itT 00 bare
 apply itF 00 ?_;by_cases dg:c%9<3
 .exact itT dg bare
 apply itF dg (_,.inl<|.of eh,?_);by_cases hz:((r.map V.int).length:Int)=0
 .exact itT hz bare
 apply itF hz ?_;obtain⟨e,rfl⟩:∃e,dd=e+1:=(dd-1,by omega);let ed:V.int (((e+1:Nat):Int)-1)=nV e:=by change V.int _=V.int _;congr 1;omega
 let ee:e+1-1=e:=rfl;rw[ed,ee];by_cases hk5:5<c%9
 .refine itT hk5 (_,.inl<|.of x,?_);by_cases J:mo<=tl.length
  .exact itT (by rw[y00];omega) bare
  apply itF (by rw[y00];omega) ?_;apply itF 00 ?_;apply itF 00 (_,b,tl,R,x,az,λz H2 p nz _ nb nt=>mkT λp3 H3 n3=>((by decide,by decide),by decide,_,.of n3.at',?_));let j0:=y1c (c/9/64) (show(2:Int)≠0 by decide);let j1:=y10 (c/9/64) (show(0:Int)<2 by decide);obtain⟨wd,hw,ew⟩:∃wd:Str,(wd="some"\/wd="all")/\atI [V.str<|Str.ofString "some",V.str<|Str.ofString "all"] (c/9/64%2)=G (.str wd):=by
   rcases(show c/9/64%2=0\/c/9/64%2=1 by omega)with D|D<;>rw[D]
   .exact(_,.inl R,zay)
   .exact(_,.inr R,zaj (j:=1) R)
  let u:=p.trans n3.g;apply(_,ew,mkT λp4 H4 L=>(_,L.g _ _<|u _ _ x,_,L.at',zah (show(018).length+1<=1000 by rw[y00];omega),λp5 H5 n5=>(by omega,?_)));let g5:=u.trans<|L.g.trans n5.g;let e5:H5 p5=G (.lst<|(tl++[z]).map V.str):=by rw[n5.at',y0t];rfl
  apply(mo,l,p5,r,tl++[z],R,g5 _ _ eh,M,e5,zap ((u.trans L.g) _ _ eh) n5.nil,(λy I=>?_),by rw[y02];simp only[y0b,y14];omega,aa,λv sy ay H6 g6 e6 bz r6 d6=>mkT λp7 H7 a=>?_)
  .rcases y0o.mp I with h|h
   .exact ng y h
   .rw[y03.mp h];show(nz,nb)
  .exact q _ _ ay H7 ((g1.trans<|Same.b g5 l).trans<|g6.trans (Same.b a.g l)) (a.g _ _ e6) bz (.qu (by rcases hw with rfl|rfl<;>decide) a.at'<|r6.same a.g)<|.qu hw nz nt (by omega) d6
 apply itF hk5 ?_;by_cases ol:c%9=3
 .refine itT ol (by omega,mo,l,b,r,tl,R,eh,M,x,cn,ng,az,aa,λv sy ay H6 g6 e6 bz r6 d6=>mkT λp7 H7 a=>?_);show q _ _ ay H7 (g1.trans<|g6.trans (Same.b a.g l)) (a.g _ _ e6) bz (.neg a.at'<|r6.same a.g)<|.neg d6
 apply itF ol ?_;apply itT 00 (by omega,mo,l,b,r,tl,R,eh,M,x,cn,ng,az,aa,λv sy ay H6 g6 e6 bz r6 d6=>mkT λp7 H7 a=>(_,.of a.at',?_));obtain⟨wd,hw,ew⟩:∃wd:Str,(wd="and"\/wd="or")/\atI [V.str<|Str.ofString "and",V.str<|Str.ofString "or"] (c%9-4)=G (.str wd):=by
  rcases(show c%9-4=0\/c%9-4=1 by omega)with D|D<;>rw[D]
  .exact(_,.inl R,zay)
  .exact(_,.inr R,zaj (j:=1) R)
 let eb7:=a.g _ _<|g6 _ _ (Ne.symm cn) x;apply(_,ew,by omega,mo,l,b,ay,tl,R,a.g _ _ e6,bz,eb7,cn,ng,az,aa,λv8 sy8 ns8 H8 g8 e8 hl8 r8 d8=>mkT λp9 H9 n9=>?_);let rt:TupS H6 H9:=λb' o' D=>n9.g _ _<|g8 _ _ (λz=>by rw[z,e6]at D;cases D) (a.g _ _ D);show q _ _ ns8 H9 (g1.trans<|g6.trans ((Same.b a.g l).trans<|g8.trans (Same.b n9.g l))) (n9.g _ _ e8) hl8 (.two (by rcases hw with rfl|rfl<;>decide) n9.at' (zkd r6 rt)<|r8.same n9.g)<|.two hw d6 d8
theorem zlg(T:Txt K mg w tw ow fa Qa Qb)(d:Dfn K mg "_law_saying" Vg ["_law_left","_law_names","_law_deep","_law_most"])(c:04 1 "_law_bare" ["_law_number","_law_names"] zc9)(a:04 1 "_law_new" ["_law_number","_law_names"] zcv):∀dd,04 (1+dd+1) "_law_saying" ["_law_left","_law_names","_law_deep","_law_most"] (zd6 dd)
 |0=>zn3 T d c a<|(d.never λvs H Q E h=>Xa h.1<|y1n _).mono 00
 |dd+1=>by
  let C:=zlg T d c a dd;apply zn3 T d c a ?_;let e:(λ(vs:List V) H Q E=>0<dd+1/\zd6 (dd+1-1) vs H Q E)=zd6 dd:=by
   funext vs H Q E;show propext (λh=>h.2,λh=>(y42 _,h))
  rw[e,show 1+(dd+1)=1+dd+1 by omega];show C
abbrev Pg:Stmt:=top 57
theorem zo8:FnScope ["tree","first","coming"] ["tree","first","coming"] (defScope Pg):={}
theorem zn7(T:Txt K mg w tw ow fa Qa Qb)(d:Dfn K mg "gone_up" Pg ["tree","first","coming"]):∀dd,04 (90+dd) "gone_up" ["tree","first","coming"] (zir P w K mg base 90 dd)
 |0=>(d.never λvs H Q E (Rq,Z,Gq,NN,v,z,f,fd,t,p,k,fs,_,_,h,_,_,_,_,_,_,_,_)=>Xa h<|y1h _).mono 00
 |dd+1=>by
  let c:=zn7 T d dd;apply d.cal zo8 21 22
  .nofun
  let(Rq,Z,Gq,NN,v,z,pf,fd,t,p,k,fs,rfl,tv,hd,hg,J,hz,ef,cl,D,C,q):=h;change Room (90+dd) _ at hr;apply(_,(zab (zaz (zaf zw0 (pv 0) zd1 08) (zad<|zai (pv 1)) zak)<|zad (zai<|zre 2 90 3 (zis Rq Z Gq NN) hr 00 (pa_c (zam 07 (pv 0) zac λ_ _=>rfl)<|pa_c (zae c hr 00 01<|pa_c (zam 07 (pv 0) zac λ_ _=>rfl) 048) (pa_c (zae c hr 00 01<|pa_c (zam 07 (pv 0) zac λ_ _=>rfl) 048) zaa)))),?_);apply za1 [G v,G<|nV z,G<|.ref pf] R ?_;trivial;cases t with
  |nil =>
   obtain rfl:v=.non:=tv;show itT R<|q z fs H (Frz.refl H) (TupS.refl H) D (λ_ _ _ z=>z) (hz p)
  |node l a b =>
   let(pp,x,vb,rfl,ep,e,o):=tv;let L:a.depth<dd:=by have:1+max a.depth b.depth<dd+1:=hd;omega
   let Y:b.depth<dd:=by have:1+max a.depth b.depth<dd+1:=hd;omega
   let hsz:k+(1+a.size+b.size)<=NN:=C;let(ga,gb):=hg l a b p J;apply itF (λh=>nomatch h) (pf,R,fd,ef,_,.of ep,_,zay,_,.of ep,_,zaj (j:=1) R,Rq,Z,Gq,NN,x,z,pf,fd,a,p++[Fa],k,fs,R,e,L,hg,ga,hz,ef,cl,D,by omega,λn1 U H1 f1 g1 O m1 z1=>?_);apply(_,.of<|g1 _ _ ep,_,zaj (j:=2) R,Rq,Z,Gq,NN,vb,z,pf,fd,b,p++[N],k+a.size,U,R,o.ts g1,Y,hg,gb,(λp=>m1 _ _ _<|hz p),f1 _ _ _ ef,cl.mono f1,O,by omega,λn2 i H2 y g2 R2 M z2=>?_);apply((f1.trans y) _ _ _ ef,cl.mono<|f1.trans y,R,l,n1,n2,k+a.size+b.size,i,a,b,p,R,R2,by omega,J,M _ _ _ z1,z2,λI r H3 f3 u R3 g z3=>?_);apply q I r H3 (f1.trans<|y.trans f3) (g1.trans<|g2.trans u) ?_ (λt p n z=>g _ _ _<|M _ _ _ (m1 _ _ _ z)) z3;rw[show k+(Tr.node l a b).size=k+a.size+b.size+1 by change k+(1+a.size+b.size)=_;omega];show R3
abbrev Kx:Stmt:=top 59
theorem Kk:FnScope ["saying","frame","tree","standings","part","coming"] ["saying","frame","tree"] (defScope Kx):={}
noncomputable abbrev qs_tree_holds_by:List (Pos×Str):=[((269,4,270,57),"tree_holds_by.<locals>.coming")]
include T in
theorem zyy{c Pt:Ad}(d:DfnC K mg "tree_holds_by" Kx ["saying","frame","tree"] c Pt)(kb:BltK base mg)(Ti:04 (90+15) "gone_up" ["tree","first","coming"]<|zir P w K mg base 90 15)(Qa8:CalI P w K mg base 1 Qa "Standings" ["self"]<|ziq P w Qa)(Qj:CalM P w K mg base (3+30) Qa "part_of" ["self","saying","names"]<|zin P w Qa 30)(Qd:CalM P w K mg base (3+24) Qa "of_nothing" ["self","number"]<|zio P w Qa 24)(Qc:CalM P w K mg base (4+3*24+1) Qa "above" ["self","number","letter","left","right"]<|zej P w Qa 24)(Qe:CalM P w K mg base (2+24) Qa "with_whole" ["self","number","standing"]<|zql P w Qa 24):04 106 "tree_holds_by" ["saying","frame","tree"] (zlq Pt qs_tree_holds_by):=by
 apply d.cal Kk 21 λf A outer s H vs Q E g h=>?_
 .nofun
 let(v,b,bf,sy,tl,t,rfl,tab,rp,eb,U,sm,tv,r,b7,vl,q):=h;apply(_,(zab (zar (i:=3) Kk.nd R (Or.inr R)<|zux Qa8 g 00 01)<|zab (zar (i:=4) Kk.nd R (Or.inr R)<|zat Qj T.cl_Standings g 00 (pv 3) (pa_c (pv 0) 016)) (zab (ps_dfn (qs:=qs_tree_holds_by) "tree_holds_by.<locals>.coming" (j:=5) R d.code kb 01 01 Kk.nd R R)<|zad (zai<|zat Qe T.cl_Standings g 00 (pv 3) (pa_c (pv 4)<|pa_c (zrg Ti g 00 01 (λ_=>rfl)<|pa_c (pv 2) (pa_c (zat Qd T.cl_Standings g 00 (pv 3)<|pa_c (pv 4) zaa)<|pa_c (pv 5) zaa)) zaa)))),?_);apply za1 [G v,G<|.ref bf,G b,B,B,B] R ?_;trivial;intro p dx hp hdx ne;apply(p,dx,H,R,R,hp,hdx,ne,λSA H1 epA I g1 z1 z2 z3 z4=>(R,?_));subst epA;let nm:∀m:Str,_->List.lookup m SA.fl=B:=λm (h:m∈(["part_of","of_nothing","with_whole","above"]:List Str))=>by
  simp only[y06,y0l,or_false]at h;rcases h with rfl|rfl|rfl|rfl<;>show zbj (by decide) (by decide) (by decide) (by decide)
 let hsz:=sm.sz;let hco:=sm.co;let h32:2^tl.length<=16:=(zkg 00).2;let hdp:=Tr.depth_le t;apply mtm I.e1 029 (SA,bf,v,sy,tl,[],R,I,rp.same g1,sm.ok,sm.lv,g1 _ _ eb,(λz=>by rw[z,z1]at eb;cases eb),(λz=>by rw[z,z2]at eb;cases eb),by rw[y14];omega,λco H2 k u2 Lb pre hl ek=>(?_,λfl H3 M=>?_))
 .exact tab.same<|Up4.same z1 z2 z3 z4 g1 u2
 let g2:Same H H2:=Up4.same z1 z2 z3 z4 g1 u2;let u:=g2.trans M.old;let L3:=Lb.same M.old;apply mtm L3.e1 029<|mtm L3.e1 029 (SA,co,[],[],k,coreS tl sy,R,L3,ek,sm.hg,by rw[y14];omega,λfs4 H4 L N4 s4 Hq ad=>?_);let L4:=N4.sn;let hlf:=N4.lf;rw[y14]at hlf;let g4:Same H H4:=Up4.same z1 z2 z3 z4 u N4.up;let M4:=M.up<|L3.frz N4.up;let Lq:=L4.same ad.up;let gq:Same H Hq:=g4.trans ad.up;let(fdl,efl):=M4.fn;let cl:CloH P w K mg base 90 Hq fl 3 (zis (λm fs H'=>∃sts,Sj P w Qa SA co fs sts H'/\Same H H'/\fs.length<=(coreS tl sy).cost+m*ct t.size (coreS tl sy)/\sts.length<=m*ct t.size (coreS tl sy)) (λfs t' p n=>Stg fs (coreS tl sy) (asT tl.length t) t' p n) (Prt tl.length (λk=>isP<|tl.getD k "") t) t.size):=by
  apply M4.clo_s (own:=["letter","left","right"]) (ps:=["letter","left","right"]) (cap:=["part","standings"]) (cv:=[nV k,.ref SA.p]) (k:=89) (Same.refl _) ad (R,R,R,by decide+kernel,R,by decide+kernel,by decide+kernel,by decide+kernel) 37 (.cons (4,R,R,.inl R)<|.cons (3,R,R,.inl R) .nil) (λcl ct cd J=>L2.fit3 λ_ _ _=>rfl) ?_;rintro clo c' A' outer' s' H' vs Q' g C fz fz2 hl' ⟨l,x,y,m,fs,e,tb,pr,rfl,⟨sts,O,gg,aw,cz⟩,hm,Gq,zx,zy,q'⟩;apply(_,(zad<|zai (zat Qc T.cl_Standings g 00 (pv 4)<|pa_c (pv 3) (pa_c (pv 0) 048))),?_);apply za1 [G<|nV l,G<|nV x,G<|nV y,G<|nV k,G<|.ref SA.p] R ?_;trivial;let Ld:=O.drop C.n;let hmc:(m+1)*ct t.size (coreS tl sy)<=t.size*ct t.size (coreS tl sy):=y1y _ hm;rw[y35,y33]at hmc;let hll:=Gq.lt.1;let gsz:1+e.size+tb.size<=t.size:=Gq.sz;let X:Rdx fs tl.length (coreS tl sy) l x y t.size (λk=>isP<|tl.getD k "") (asT tl.length t) l e tb pr:=(sm.w1,sm.w2,asT_fr,Gq.v,Gq.here,zx,zy,by omega);apply mtm Ld.e1 029 (SA,co,fs,sts,k,l,x,y,tl.length,t.size,coreS tl sy,R,Ld,(ek,sm.hg,by omega,(_,_,_,_,_,_,X),sm.sm,by omega,by omega),λfs5 sts5 H5 n5 N5 s5 o=>?_);let um:=mix_up4 N5.up;let h51:=N5.lf;let h52:=N5.ls;apply q' n5 fs5 _ (O.frz um) (O.tups um) (sts5,N5.sn.same<|mix_up o,Up4.same z1 z2 z3 z4 gg um,?_,?_) (λt p n z=>z.ext N5.ex.T.nd N5.ex.p) ((s5 _).by X)
  .rw[y35,y33];omega
  .rw[y35,y33];omega
 let back:∀H5,Same H H5->Same H (dropX (cxOf CX0 P w K mg base ["saying","frame","tree","standings","part","coming"] "tree_holds_by" (defScope Kx) f (Va.ref c) A outer s H E).nox H5):=λH5 Y b' o' D=>by
  rw[drop_at ad<|g4 _ _ D];show Y _ _ D
 apply(_,_,Prt tl.length (λk=>isP<|tl.getD k "") t,t.size,b,L,fl,fdl,t,[],0,fs4,R,tv.same gq,by omega,(λl a b p h=>h.both),(λq _=>rfl,r,vl,y05 _),(λp=>s4 _ p),ad.up _ _ efl,cl,([],Lq,gq,by omega,y1g _),by omega,λn ac H5 f5 t5 (ao,L5,Y,_,_) _ z5=>?_);show(SA,co,ac,ao,k,n,t.size,coreS tl sy,R,L5.drop<|dropX_n ad f5,ek,sm.hg,(_,_,_,z5,y05 _),sm.sm,λH7 g7=>q _ H7 ((back _ Y).trans g7)<|zid z5)
abbrev Qbh:Stmt:=top 80
theorem Vy:FnScope ["_law_script","_law_number","_law_frame_here","_law_left","_law_saying_here","_law_letters","_law_cells","_law_tree"] ["_law_script"] (defScope Qbh):={}
include T in
theorem ok_law{Pt f:Ad}{fd:i8}(F:Fun K "law" "law" Qbh f fd)(Pc:04 1 "_law_cell_at" ["_law_script","_law_k"]<|zlz K)(Qaw:04 2 "_law_frame" ["_law_number","_law_many"] zlx)(Kg:04 (1+4+1) "_law_saying" ["_law_left","_law_names","_law_deep","_law_most"]<|zd6 4)(Tp:04 63 "_law_trees" ["_law_cells","_law_letters","_law_most"] zf3)(K9:04 109 "_law_right" ["_law_saying_here","_law_frame_here","_law_tree"]<|zcp Pt qs_tree_holds_by)(Pe:04 110 "_law_greater_right" ["_law_script","_law_cells"]<|zlw K Pt qs_tree_holds_by):FnOk P w K mg base CX0 111 f fd ["_law_script"] (zqk K [(Pt,qs_tree_holds_by)]):=by
 apply F.ok Vy 21 λcdv A outer s H vs Q E g h=>?_
 .nofun
 let(a,ns,rfl,I,km,hO,q):=h;let tab:TabOk H Pt qs_tree_holds_by:=hO.tab (by simp[List.lookup]);let hu:=zex g 8 02;apply(_,(zab (zar (i:=1) Vy.nd R 17<|zav zbe (zae Pc g 00 01<|pa_c (pv 0) (pa_c zac zaa)) (zav zrh zac zac))<|zab (zar (i:=2) Vy.nd R 17<|zae Qaw g 00 01 (pa_c (pv 1)<|pa_c (zav zbe (pv 1) zac) zaa)) (zab (ze7 (i:=3) Vy.nd R 17 ["_law_cell"] [] 014 01 (za8 K<|zbi (zcx K) (pv 0) (zbg zac) (zbg zac)) (λ_ _ _ _ _=>(zaw (i:=0) (show List.Nodup (["_law_cell"]:List Str) by decide+kernel) 01 86)) (λ_ _ _ _ _=>zbs) λ_ _ _ _ _=>(zav zbe (pv 0)<|zav zrh zac zac))<|zab (zar (i:=4) Vy.nd R 17<|zae Kg g 00 01 (pa_c (pv 3)<|pa_c (pv 2) (pa_c zac<|pa_c (zam 93 097 070 λ_ _=>rfl) zaa))) (zab (zar (i:=5) Vy.nd R 17<|zam 93 097 070 (λ_ _=>rfl))<|zab (zar (i:=6) Vy.nd R 17<|zbi (zcx K) (pv 0) (zbg zac) (zbg<|zav zes zac (zam 93 097 070 λ_ _=>rfl))) (zab (zdf PassesOwn.never R (za8 K<|zae Tp g 00 01 (pa_c (pv 6)<|pa_c (pv 5) (pa_c (zam 93 097 070 λ_ _=>rfl) zaa))) (zaw (i:=7) Vy.nd 01 86)<|zad (zaz (zb6<|zbd (zae K9 g 00 01<|pa_c (pv 4) (pa_c (pv 2)<|pa_c (pv 7) zaa))) 042 zak))<|zab (zaz (zb6<|zbd (zae Pe g 00 01<|pa_c (pv 0) (pa_c (za9 ["_law_cell"] [] 014 01 (za8 K<|zbi (zcx K) (pv 0) (zbg zac) (zbg zac)) (λ_ _ _ _ _=>(zaw (i:=0) (show List.Nodup (["_law_cell"]:List Str) by decide+kernel) 01 86)) (λ_ _ _ _ _=>zbs) λ_ _ _ _ _=>(zav zbe (pv 0)<|zav zrh zac zac)) zaa))) 042 zak) (zad<|zai (zae K9 g 00 01<|pa_c (pv 4) (pa_c (pv 2)<|pa_c (zaq<|pa_c (zav zbe (zae Pc g 00 01<|pa_c (pv 0) (pa_c zac zaa))<|pv 5) (pa_c zd1<|pa_c zd1 zaa)) zaa))))))),?_);apply za1 [G 09,B,B,B,B,B,B,B] R ?_;trivial;apply(a,ns,0,R,I,by decide,λc=>((by decide,by decide,by decide),by decide,by decide,?_));generalize c%(10^Int.toNat 20)=Nq;let m0:=y1c Nq (show(4:Int)≠0 by decide);let m1:=y10 Nq (show(0:Int)<4 by decide);apply(Nq,(Nq%4).toNat,?_,by omega,λfr tl H1 av g1 efr ng nd j=>(_,g1.seq I,λr H2 n2=>?_))
 .change[V.int Nq,V.int<|Nq%4]=[V.int Nq,V.int (((Nq%4).toNat:Nat):Int)];rw[Int.toNat_of_nonneg m0]
 let d:tl.length<=3:=by omega
 let L:=n2.at';rw[ze0]at L;let l12:=cut12 ns;generalize cutL ns (G 2) (G 14)=cs at L l12;let M:(cs.map V.int).length<=1000:=by rw[y00];omega
 apply((_,.of L),zeg (K:=K) (a:=r) (xs:=cs.map V.int) (λU=>∃v,U=[v]) (λv=>match v with|.int i=>.int (i%10^Int.toNat 40)|_=>.non) M (.of L) (_,R) ?_ ?_)
 .rintro D i U H3 x hi l O p u J ⟨v,rfl⟩;let(k,mk,rfl):=y0g.mp l;trivial;show((by decide,by decide,by decide),by decide,zc3 M O u J p (_,R) R)
 intro D H3 u g3 eD;let gm:H3 D=G (.lst<|(cs.map λi=>i%10^Int.toNat 40).map V.int):=by
  rw[eD,y0w,y0w];rfl
 let lq:Same H1 H3:=n2.g.trans g3;let nfr:D≠fr:=(zap (n2.g _ _ efr) u).symm;apply mkT λp4 H4 n4=>(_,.inl<|.of ((lq.trans n4.g) _ _ efr),_,.of n4.at',nV<|([2,3,3,3]:List Nat).getD tl.length 0,by rw[y00];show zwn [2,3,3,3] (by change _<4;omega),?_);let y:([2,3,3,3]:List Nat).getD tl.length 0<=3:=by
  let all:∀n,n<=3->([2,3,3,3]:List Nat).getD n 0<=3:=by decide
  show all _ d
 generalize emo:([2,3,3,3]:List Nat).getD tl.length 0=mo at y;apply(mo,D,fr,_,tl,R,n4.g _ _ gm,by rw[y00];show l12,(lq.trans n4.g) _ _ efr,nfr,ng,d,y,λv sy ns5 H5 g5 e5 f6 r5 D5=>?_);let g25:Same H2 H5:=λb o e=>g5 b o (λz=>by rw[z,u]at e;cases e)<|n4.g b o (g3 b o e);let kl:Same H1 H5:=n2.g.trans g25;let ly:Same H H5:=g1.trans kl;let kg:=kl _ _ efr;apply mkT λp6 H6 Y=>(_,.inl<|.of (Y.g _ _ kg),_,.of Y.at',nV<|([1,2,4,8]:List Nat).getD tl.length 0,by rw[y00];show zwn [1,2,4,8] (by change _<4;omega),?_);let eL:([1,2,4,8]:List Nat).getD tl.length 0=2^tl.length:=by
  let all:∀n,n<=3->([1,2,4,8]:List Nat).getD n 0=2^n:=by decide
  show all _ d
 rw[eL];let r:0<2^tl.length:=y32 02;let efr6:=Y.g _ _ kg;apply mkT λp7 H7 n7=>(_,.inl<|.of (n7.g _ _ efr6),_,.of n7.at',nV<|([10,16,20,20]:List Nat).getD tl.length 0,by rw[y00];show zwn [10,16,20,20] (by change _<4;omega),_,(ly.trans<|Y.g.trans n7.g).seq I,λp8 H8 n8=>mkT λp9 H9 n9=>?_);let g69:=Y.g.trans<|n7.g.trans (n8.g.trans n9.g);let e8:=n8.at';rw[ze0]at e8;let efr9:=g69 _ _ kg;apply(_,.inl<|.of efr9,_,.of n9.at',nV<|(061).getD tl.length 0,by rw[y00];show zwn [3,3,4,2] (by change _<4;omega),?_);let C:1<=(061).getD tl.length 0/\(061).getD tl.length 0<=4:=by
  let all:∀n,n<=3->1<=(061).getD n 0/\(061).getD n 0<=4:=by decide
  show all _ d
 apply(p8,_,2^tl.length,_,R,n9.g _ _ e8,y0z (zga _ _ _) km,r,by omega,λDT xs ts HT hDT gT eT PT _ okT=>((_,.of eT),?_));let gT5:Same H5 HT:=g69.trans gT;let right:∀{Hx:Hp} {x:V} {t:Tr} {Qx:VK},Same H5 Hx->TreeV Hx x t->t.Let (2^tl.length)->t.size<=(061).getD tl.length 0->(∀H',Same Hx H'->Qx (.bl N) H')->zcp Pt qs_tree_holds_by [v,.ref fr,x] Hx Qx E0:=λ{Hx x t Qx} gx tv lt sz qx=>by
  let(Gq,lu,lw):=gd_fr y ng nd d (gx _ _ kg) (r5.same gx) D5;let(sm,gp):=zqp D5 d emo.symm sz;show(v,x,fr,tl,sy,t,mo,4,R,tab.same<|ly.trans gx,Gq,nd,ng,D5,y,lu,lw,tv,lt,by omega,.inr 00,sm,gp,qx)
 apply zfe (K:=K) (a:=DT) (xs:=xs) (λi U H'=>Same HT H'/\∃v7,U=[G 09,G<|.int Nq,G<|.ref fr,G 95,G v,G<|nV (2^tl.length),G<|.ref p8,v7]) (λ_ _ e=>e,_,R) (λi U H' _ h=>.of<|h.1 _ _ eT) (λi x U H' O h=>?_) λU H' h=>?_
 .let(gx,v7,rfl):=h;let(t,ht,tv):=SS.Paired.at PT O;let(lt,sz):=okT t<|y0d ht;trivial;show right (gT5.trans gx) (tv.same gx) lt sz λH9 g9=>itN<|gx.trans g9
 .let(gx,v7,rfl):=h;trivial;let gx5:=gT5.trans gx;let gx0:=ly.trans gx5;apply(_,gx0.seq I,λq2 H10 f7=>?_);let gd:=f7.at';rw[ze0]at gd;let om:=cut12 ns;generalize cutL ns (G 2) (G 14)=gh at gd om;let cz:(gh.map V.int).length<=1000:=by rw[y00];omega
  apply((_,.of gd),zeg (K:=K) (a:=q2) (xs:=gh.map V.int) (λU=>∃v,U=[v]) (λv=>match v with|.int i=>.int (i%10^Int.toNat 40)|_=>.non) cz (.of gd) (_,R) ?_ ?_)
  .rintro D i U H3 x hi l O p u J ⟨v,rfl⟩;let(k,mk,rfl):=y0g.mp l;trivial;show((by decide,by decide,by decide),by decide,zc3 cz O u J p (_,R) R)
  intro D11 H11 hD11 dh eD11;let pi:H11 D11=G (.lst<|(gh.map λi=>i%10^Int.toNat 40).map V.int):=by
   rw[eD11,y0w,y0w];rfl
  let lx:=gx0.trans<|f7.g.trans dh;apply(a,D11,ns,_,R,tab.same lx,lx.seq I,km,pi,by rw[y00];show om,λH12 cq=>itN ?_);let gx12:=lx.trans cq;apply(a,ns,1,R,gx12.seq I,by decide,λc1=>?_);let pI:(0:Int)<((2^tl.length:Nat):Int):=Int.ofNat_lt.mpr r;apply(pI,mkT λp13 H13 gl=>?_);let j0:=y1c c1<|Int.ne_of_gt pI;let j1:=y10 c1 pI;let el:V.int (c1%((2^tl.length:Nat):Int))=nV (c1%((2^tl.length:Nat):Int)).toNat:=by change V.int _=V.int _;rw[Int.toNat_of_nonneg j0]
  let e13:=gl.at';rw[el]at e13;show right (t:=.node (c1%((2^tl.length:Nat):Int)).toNat .nil .nil) (gx5.trans<|(f7.g.trans dh).trans (cq.trans gl.g)) (p13,.non,.non,R,e13,R,R) (by omega,trivial,trivial) C.1 λH14 g14=>q H14
abbrev Ks:Stmt:=top 79
theorem Qv:FnScope ["_law_script","_law_cells","_law_steep_here","_law_tree","_law_saying_here"] ["_law_script","_law_cells"] (defScope Ks):={}
include T in
theorem zy7{Pt:Ad}{qs:Y3}(d:Dfn K mg "_law_greater_right" Ks ["_law_script","_law_cells"])(Vs:04 (1+4+1) "_law_steep" ["_law_left","_law_names","_law_deep"]<|zch 4)(Kg:04 (1+3+1) "_law_saying" ["_law_left","_law_names","_law_deep","_law_most"]<|zd6 3)(Tp:04 63 "_law_trees" ["_law_cells","_law_letters","_law_most"] zf3)(Kw:04 (1+8) "_law_told_sets" ["_law_saying_here"]<|zlk 8)(K9:04 109 "_law_right" ["_law_saying_here","_law_frame_here","_law_tree"]<|zcp Pt qs):04 110 "_law_greater_right" ["_law_script","_law_cells"] (zlw K Pt qs):=by
 apply d.cal Qv 21 22
 .nofun
 let(a,c,ns,cs,rfl,tab,I,km,ec,h12,q):=h;let g:=zex hr 8 02;apply(_,(zab (zar (i:=2) Qv.nd R 17<|zae Vs hr 00 01 (pa_c (zeq (zfg K) 01 T.b_list boot_list 016)<|pa_c (zax zaa) (pa_c zac zaa)))<|zab (zdf PassesOwn.never R 124 (zaw (i:=3) Qv.nd 01 86)<|zad (zaz (zb6<|zbd (zae K9 hr 00 01<|pa_c (pv 2) (pa_c (zax zaa) 039))) 042 zak)) (zab (zar (i:=4) Qv.nd R (Or.inr R)<|zae Kg hr 00 01 (pa_c (zeq (zfg K) 01 T.b_list boot_list 016)<|pa_c (zax zaa) (pa_c zac<|pa_c zac zaa)))<|zab (zaz (zaf zhi (zae Kw hr 00 01<|pa_c (pv 4) zaa) zac 08) 042 zak) (zad<|zai (za2 (zbx K R) 01 T.b_all jm<|pa_c (za9 ["_law_tree"] [(4,"_law_saying_here")] 014 01 124 (λ_ _ _ _ _=>(zaw (i:=0) (show List.Nodup (["_law_tree","_law_saying_here"]:List Str) by decide+kernel) 01 86)) (λ_ _ _ _ _=>zbs) λ_ _ _ _ _=>(zae K9 hr 00 01<|pa_c (pv 1) (pa_c (zax zaa) 013))) zaa)))),?_);apply za1 [G 09,G<|.ref c,B,B,B] R ?_;trivial;apply(_,.inl<|.of ec,λl1 H1 n1=>mkT λp2 H2 n2=>?_);let p:=n1.g.trans n2.g;apply(l1,p2,cs,[],R,n2.g _ _ n1.at',h12,n2.at',(zap n1.at' n2.nil),(λz hz=>nomatch hz),(λz hz=>nomatch hz),by decide,λv sy ns3 H3 g3 r bd r3 D3 t3=>?_);let s3:Same H H3:=λb o e=>g3 b o (λz=>by rw[z,n1.nil]at e;cases e)<|p b o e;apply(_,s3.seq I,λp4 H4 L=>?_);let e4:=L.at';rw[ze0]at e4;apply(p4,_,1,10,R,e4,y0z (zga _ _ _) km,by decide,by decide,λD5 xs ts H5 hD5 g5 y P5 l5 ok5=>(xs,.of y,λp6 H6 n6=>((_,.of n6.at'),?_)));let s6:Same H H6:=s3.trans<|L.g.trans (g5.trans n6.g);let r6:=r3.same<|L.g.trans (g5.trans n6.g);let P6:io (TreeV H6) xs ts:=L2.Paired.mapP P5 λ_ _ z=>z.same n6.g;apply zfe (K:=K) (a:=p6) (xs:=cutL xs (G<|-4) B) (λi U H'=>Same H6 H'/\∃v3,U=[G 09,G<|.ref c,G v,v3,B]) (λ_ _ e=>e,_,R) (λi U H' _ h=>.of<|h.1 _ _ n6.at') (λi x U H' O h=>?_) λU H' h=>?_
 .let(g7,v3,rfl):=h;let(j,hj):=y2z.mp<|zok (y0d O);let(t,ht,tv):=SS.Paired.at P6 hj;let(lt,sz):=ok5 t<|y0d ht;trivial;apply mkT λp8 H8 n8=>?_;let g8:=g7.trans n8.g;let(Gq,lu,lw):=zxd (b:=p8) (H:=H8) 02 (.inr R) n8.at' (r6.same g8) D3;let(sm,gp):=zqn D3 t3 sz;show(v,x,p8,[],sy,t,2,4,R,tab.same<|s6.trans g8,Gq,y2b,(λz hz=>nomatch hz),D3,by decide,lu,lw,tv.same g8,lt,sz,.inl t3,sm,gp,λH9 g9=>itN<|g8.trans g9)
 .let(g7,v3,rfl):=h;trivial;let s7:=s6.trans g7;apply(_,.inl<|.of (s7 _ _ ec),λl8 H8 n8=>mkT λp9 H9 C=>?_);let g9:=n8.g.trans C.g;apply(2,l8,p9,cs,[],R,C.g _ _ n8.at',h12,C.at',(zap n8.at' C.nil),(λz hz=>nomatch hz),by decide,by decide,λv2 sy2 ns10 H10 g10 gd hl10 r10 m9=>?_);let dy:Same H H10:=λb o e=>g10 b o (λz=>by have:=s7 _ _ e;rw[z,n8.nil]at this;cases this)<|g9 b o (s7 b o e);let dd:=(m9.dz 02 02).dp;apply(v2,sy2,[],2,3,R,r10,m9,by decide,by omega,λH11 dh=>?_);by_cases M:tsets sy2<=1
  .let s11:=dy.trans dh;apply itF 00 (_,s11.seq I,λp12 H12 gr=>?_);let e12:=gr.at';rw[ze0]at e12;apply(p12,_,1,6,R,e12,y0z (zga _ _ _) km,by decide,by decide,λD13 D ts' H13 hD13 lq e13 P13 l13 ok13=>(D,.of e13,λp14 H14 m8=>((_,.of m8.at'),?_)));let s14:Same H H14:=s11.trans<|gr.g.trans (lq.trans m8.g);let r14:=r10.same<|dh.trans (gr.g.trans<|lq.trans m8.g);let P14:io (TreeV H14) D ts':=L2.Paired.mapP P13 λ_ _ z=>z.same m8.g;let hl:(cutL D (G<|-2) B).length<=1000:=by
    let M:=zga D (G<|-2) B;let J:=SS.Paired.len P14;omega
   apply zeg (K:=K) (a:=p14) (xs:=cutL D (G<|-2) B) (λU=>∃z,U=[z,G v2]) (λ_=>.bl N) hl (.of m8.at') (_,R) ?_ ?_
   .rintro D15 i U H15 x hi l O kl u a7 ⟨z,rfl⟩;let(j,hj):=y2z.mp<|zok l;let(t,ht,tv):=SS.Paired.at P14 hj;let(lt,sz):=ok13 t<|y0d ht;trivial;apply mkT λp16 H16 n16=>?_;let g16:=kl.trans n16.g;let(Gq,lu,lw):=zxd (b:=p16) (H:=H16) 02 85 n16.at' (r14.same g16) m9;let(sm,gp):=zug m9 M sz;show(v2,x,p16,[],sy2,t,2,3,R,tab.same<|s14.trans g16,Gq,y2b,(λz hz=>nomatch hz),m9,by decide,lu,lw,tv.same g16,lt,by omega,.inr sz,sm,gp,λH17 g17=>zc3 hl O u (g17 _ _<|n16.g _ _ a7) (g16.trans g17) (_,R) R)
   .intro D15 H15 u kl e15;apply((cutL D (G<|-2) B).map λ_=>N,.of (by rw[e15,y0w];rfl),?_);rw[show((cutL D (G<|-2) B).map λ_=>N).all id=N from y0u.mpr λb Y=>by let(_,_,rfl):=y0g.mp Y;rfl];show q H15<|s14.trans kl
  .exact itT 00<|q H11 (dy.trans dh)
abbrev Vk:Stmt:=top 78
theorem zfv:FnScope ["_law_saying_here"] ["_law_saying_here"] (defScope Vk):={}
theorem zrp(T:Txt K mg w tw ow fa Qa Qb)(d:Dfn K mg "_law_told_sets" Vk ["_law_saying_here"]):∀lv,04 (1+lv) "_law_told_sets" ["_law_saying_here"] (zlk lv)
 |0=>(d.never λvs H Q E z=>by let(_,s,_,_,_,_,_,_,_,h,_):=z;cases s<;>show Xa h (by simp[Sy.depth])).mono 00
 |lv+1=>by
  let Kw:=zrp T d lv;apply d.cal zfv 21 22
  .nofun
  let(v,sy,tl,mo,dp,rfl,r,D,y,hd,q):=h;let g:=zex hr 8 00;change Room (1+lv) _ at hr;apply(_,(zab (zaz (zaf (zbl K) (zam 07 (pv 0) zac λ_ _=>rfl) (zaq 053)<|by with_unfolding_all rfl) (zad<|zai (zav zes (zeq ztn 01 T.b_int boot_int<|pa_c (znw zdi zdi zal (zam zfq (zam 07 (pv 0) zac λ_ _=>rfl) zac λ_ _=>rfl) zal) zaa)<|zae Kw hr 00 01 (pa_c (zam 07 (pv 0) zac λ_ _=>rfl) zaa))) zak)<|zad (zai<|za2 (zc4 K R) 01 T.b_sum boot_sum (pa_c (za9 ["_law_part"] [] 014 01 (zcy K<|zbi (zgm K) (pv 0) (zbg zac) zdg) (λ_ _ _ _ _=>(zaw (i:=0) (show List.Nodup (["_law_part"]:List Str) by decide+kernel) 01 86)) (λ_ _ _ _ _=>(zgs 112)) λ_ _ _ _ _=>(zae Kw hr 00 01 013)) zaa))),?_);apply za1 [G v] R ?_;trivial;rcases zu8 y r D hd with⟨a,wd,n,x,s1,rfl,rfl,e,r1,C,nz,h4,⟨d',Y⟩,f8⟩|⟨a,wd,its,rfl,e,n1,n2,l2,l1,l,sum⟩
  .refine ixm (.of e) zay<|mkT λpt H1 I=>?_;apply(_,.inr<|.of I.at',R,R,?_);let e1:=I.g _ _ e;rw[show inV (V.str wd) [V.str "some",V.str "all"]=N by rcases C with rfl|rfl<;>decide+kernel];apply iteT<|ixm (.of e1) (zaj (j:=1) R) (zah (by omega),?_);let(c,ds,ec,c1,c2):=zr0 nz;apply(c,by rw[ec];show zay,?_);rw[c1];apply iteT<|ixm (.of e1) 041 (x,s1,tl++[n],mo,d',R,r1.same I.g,Y,y,f8,λH2 p=>?_);rw[c2];let q:=q H2<|I.g.trans p;let en:((if(!isP n)=N then 1 else 0)+((tsets s1:Nat):Int))=((tsets (.qu wd n s1):Nat):Int):=by
    change _=(((if isP n=N then 0 else 1)+tsets s1:Nat):Int);cases isP n<;>simp
   trivial;rw[en];show q
  .refine ixm (.of e) zay<|mkT λpt H1 I=>?_;apply(_,.inr<|.of I.at',R,R,?_);let e1:=I.g _ _ e;rw[show inV (V.str wd) [V.str "some",V.str "all"]=Fa by simp[inV,eqV,eq_comm (b:=wd),n1,n2]];apply iteF (_,.of e1,?_,λp2 H2 m2=>?_)
   .rintro⟨z,_⟩;unfold HT.sIx at z;simp only[y0b]at z;split at z<;>omega
   let p:=I.g.trans m2.g;let L:=m2.at';rw[show(1:Int)=((1:Nat):Int)from rfl,zcs]at L;let L:H2 p2=G (.tup its):=L;let hl:its.length<=1000:=by omega
   apply((_,.of L),zxp (K:=K) (a:=p2) (xs:=its) (λU=>∃v,U=[v]) isR (λx=>nV<|tsV H x) hl (.of L) (_,R) ?_ ?_)
   .rintro o i U H3 x hi hm O g3 u J ⟨v3,rfl⟩;trivial;rcases l x hm with⟨z,rfl⟩|⟨b,xs,s1,d',rfl,eb,r1,Y,f8⟩
    .exact("str",.str z,by decide,iteF<|zg6 O R J g3 (_,R))
    .let dk:=p.trans g3;show("tuple",.tup<|dk _ _ eb,by decide,iteT (_,s1,tl,mo,d',R,r1.same dk,Y,y,f8,λH4 M=>zg5 hl O R u (M _ _ J) (g3.trans M) (_,R)<|by rw[zni r1]))
   .intro o H3 u g3 J;apply(o,R,(its.filter isR).map λx=>(tsV H x:Int),.of (by rw[J,y0w];rfl),?_);rw[sum];show q H3<|p.trans g3
abbrev Ts:Stmt:=top 76
theorem Kj:FnScope ["_law_saying_here","_law_frame_here","_law_tree","_law_nodes_here","_law_handed","_law_found","_law_other","_law_wrong"] ["_law_saying_here","_law_frame_here","_law_tree"] (defScope Ts):={}
include T in
theorem zpi{C:Ad}{qs:Y3}(d:Dfn K mg "_law_right" Ts ["_law_saying_here","_law_frame_here","_law_tree"])(Vq:CalE P w K mg base 107 "tree_holds" ["saying","frame","tree"]<|znl Qb C qs)(Vu:04 (1+20) "_law_nodes" ["_law_tree","_law_parent","_law_side","_law_found"]<|zil 20)(Px:04 12 "_law_holds" ["_law_saying_here","_law_frame_here","_law_nodes_here"] ziu)(Pb:04 108 "_law_no_tree" ["_law_saying_here","_law_frame_here","_law_tree"]<|zln C qs):04 109 "_law_right" ["_law_saying_here","_law_frame_here","_law_tree"] (zcp C qs):=by
 apply d.cal Kj 21 22
 .nofun
 let(v,b,bf,tl,sy,t,mo,dp,rfl,tab,Gq,nd,x,D,y,hd9,hp9,tv,r,h10,U,sm,gp,q):=h;let g:=zex hr 8 02;apply(_,(zab (zar (i:=3) Kj.nd R 17<|zae Vu hr 00 01 (pa_c (pv 2)<|pa_c (zpd zhp zac) (pa_c zal<|pa_c (zax zaa) zaa)))<|zab (zar (i:=4) Kj.nd R 17<|zeq (zfg K) 01 T.b_list boot_list 016) (zab (zar (i:=5) Kj.nd R 17<|zkh Vq hr 00 01 (pa_c (pv 0)<|pa_c (pv 4) 033))<|zab (zaz (PW.pt<|zcc (zb6<|zbd (za2 zbh 01 T.b_isinstance iB<|pa_c (pv 5) 121)) (zcc (zaf op_ne (pv 5) (zae Px hr 00 01<|pa_c (pv 0) (pa_c (pv 1) 039)) 08)<|zb5 (zaf (zmj K g) (pv 4) (pv 1) 08))) 042 zak) (zab (zar (i:=6) Kj.nd R 17<|zkh Vq hr 00 01 (pa_c (zaq<|pa_c zal 013)<|pa_c (pv 4) 033))<|zab (zaz (PW.pt<|zcc (zb6<|zbd (za2 zbh 01 T.b_isinstance iB<|pa_c (pv 6) 121)) (zb5<|zaf op_ne (pv 6) (zae Px hr 00 01<|pa_c (zaq<|pa_c zal 013) (pa_c (pv 1) 039)) 08)) 042 zak) (zab (zar (i:=7) Kj.nd R 17<|zav zki zac 065)<|zab (zaz (zb6<|zbd (zae Pb hr 00 01<|pa_c (pv 0) (pa_c (pv 4)<|pa_c (zaq<|pa_c (pv 7) (pa_c (pv 2)<|pa_c zd1 zaa)) zaa))) 042 zak) (zad<|zai (zae Pb hr 00 01<|pa_c (pv 0) (pa_c (pv 4)<|pa_c (zaq<|pa_c zac (pa_c zd1<|pa_c (zaq<|pa_c (zpd zhp zac) (pa_c (pv 2)<|pa_c zd1 zaa)) zaa)) zaa))))))),?_);apply za1 [G v,G<|.ref bf,G b,B,B,B,B,B] R ?_;trivial;apply mkT λpn H1 n1=>(b,t,-1,"",pn,[],R,tv.same n1.g,by have:=Tr.depth_le t;omega,n1.at',by rw[y14];omega,λys H2 p L p2=>?_);let s2:Same H H2:=λa o e=>p a o (λz=>by have:=n1.nil;rw[←z,e]at this;cases this)<|n1.g _ _ e;let on:NdsT H2 pn t:=(ys,L,p2);let G2:=Gq.same s2;apply(_,.inl<|.of G2.eb,λl H3 I=>?_);let u:=s2.trans I.g;let G3:Gd43 H3 v l tl sy:={(Gq.same u)with eb:=I.at'};apply(v,b,l,tl,sy,R,tab.same u,G3,.inr (t,tv.same u,r,by omega,sm,λO H4 M md=>(_,.bl _,by decide,iteF ?_)));let g34:=I.g.trans M;let s4:=s2.trans g34;apply(v,bf,pn,sy,tl,t,mo,dp,R,s4 _ _ Gq.eb,x,nd,Gq.l3,Gq.rp.same s4,D,y,by omega,by omega,r,U,on.same g34,λb2 H5 g5 mh=>(R,?_));let e12:O=b2:=y1w.mpr<|md.trans mh.symm;subst e12;rw[Xg rfl];let s5:=s4.trans g5;let mf:=(M.trans g5) _ _ I.at';apply iteF (tl,.of mf,tl,.of<|s5 _ _ Gq.eb,?_);rw[Xg rfl];apply iteF<|mkT λJ H6 Y=>?_;let s6:=s5.trans Y.g;let el6:=Y.g _ _ mf;let Gn:∀(Hx:Hp) (px bx:Ad),Same H Hx->Hx px=G (.tup [.str "not",v])->Hx bx=G (.lst 018)->Gd43 Hx (.ref px) bx tl (.neg sy):=λHx px bx gx ex eb=>(eb,Gq.fo,Gq.l3,Gq.l4,Gq.fr,.neg ex<|Gq.rp.same gx,Gq.wf,by change sy.depth+1<=12;omega,by change sy.parts+1<=60;omega,by simp only[letB,y07,decide_eq_true_eq];show((Gq.l3,by decide),Gq.lt));apply(.ref J,b,l,tl,.neg sy,R,tab.same s6,Gn H6 J l s6 Y.at' el6,.inr (t,tv.same s6,r,by omega,gp,λb3 H7 g7 hb3=>(_,.bl _,by decide,iteF<|mkT λpq H8 j=>?_)));let s8:=s6.trans<|g7.trans j.g;apply(.ref pq,bf,pn,.neg sy,tl,t,mo,dp+1,R,s8 _ _ Gq.eb,x,nd,Gq.l3,.neg j.at'<|Gq.rp.same s8,.neg D,y,by change sy.depth+1<=9;omega,by omega,r,U,on.same<|g34.trans (g5.trans<|Y.g.trans (g7.trans j.g)),λb4 H9 g9 hb4=>(R,?_));let e34:b3=b4:=y1w.mpr<|hb3.trans hb4.symm;subst e34;rw[Xg rfl];apply iteF ?_;let s9:=s8.trans g9;let el9:=(g7.trans<|j.g.trans g9) _ _ el6;apply(_,.inl<|.of (s9 _ _ Gq.eb),(by omega,by rw[y00];let:=Gq.l3;omega,by decide),mkT λpw H10 f7=>?_);let dy:=s9.trans f7.g;let G10:Gd43 H10 v l tl sy:={(Gq.same dy)with eb:=f7.g _ _ el9};let gy:(1:Int)*2^(((018).length:Nat):Int).toNat=2^tl.length:=by rw[y0y,y49,y00]
 let tz10:=TreeV.z<|tv.same dy;apply(v,.ref pw,l,tl,sy,.node ((1:Int)*2^(((018).length:Nat):Int).toNat) t.z .nil,R,tab.same dy,G10,(pw,b,.non,R,f7.at',tz10,R),by change 1+t.z.size+0<=100;rw[Tr.z_size];omega,(_,y04,λz=>by rw[gy]at z;show Xa z.2<|Int.lt_irrefl _),λH11 c=>itN<|mkT λpx H12 gr=>mkT λpy H13 gl=>?_);let s13:=dy.trans<|c.trans (gr.g.trans gl.g);let G13:Gd43 H13 v l tl sy:={(Gq.same s13)with eb:=(c.trans<|gr.g.trans gl.g) _ _ (f7.g _ _ el9)};let tz13:=TreeV.z<|tv.same s13;show(v,.ref py,l,tl,sy,.node 0 .nil<|.node (-1) t.z .nil,R,tab.same s13,G13,(py,.non,.ref px,R,gl.at',R,px,b,.non,R,gl.g _ _ gr.at',tz13,R),by change 1+0+(1+t.z.size+0)<=100;rw[Tr.z_size];omega,(-1,y08 _ y04,λz=>Xa z.1 02),λH14 g14=>q H14<|s13.trans g14)
abbrev V4:Stmt:=top 75
theorem K4:FnScope ["_law_saying_here","_law_frame_here","_law_tree","_law_refused"] ["_law_saying_here","_law_frame_here","_law_tree"] (defScope V4):={}
include T in
theorem zyu{C:Ad}{qs:Y3}(d:Dfn K mg "_law_no_tree" V4 ["_law_saying_here","_law_frame_here","_law_tree"])(c:CalE P w K mg base 107 "tree_holds" ["saying","frame","tree"]<|znl Qb C qs):04 108 "_law_no_tree" ["_law_saying_here","_law_frame_here","_law_tree"] (zln C qs):=by
 apply d.cal K4 21 22
 .nofun
 let(v,b,e,tl,sy,t,rfl,tab,Gq,l,J,O,q):=h;apply(_,(zab (zar (i:=3) K4.nd R 17 zd0)<|zab (zuq c hr 00 01 (pa_c (pv 0) 048) 01 T.m_NoTree T.k_NoTree R R R K4.nd λ_=>(zad<|zar (i:=3) K4.nd R 17 zd0)) (zad<|zai (pv 3))),?_);apply za1 [G v,G<|.ref e,G b,B] R ?_;trivial;unfold tTryN;trivial;show(v,b,e,tl,sy,R,tab,Gq,.inl (t,l,J,O,λa H1 g1 Y g _=>(Qb,R,T.ms,λH2 p=>q H2<|g1.trans p)))
abbrev Tu:Stmt:=top 74
theorem Vn:FnScope ["_law_saying_here","_law_frame_here","_law_nodes_here","_law_named","_law_track","_law_marked"] ["_law_saying_here","_law_frame_here","_law_nodes_here"] (defScope Tu):={}
include T in
theorem zvk(d:Dfn K mg "_law_holds" Tu ["_law_saying_here","_law_frame_here","_law_nodes_here"])(Kr:04 (2+9) "_law_value" ["_law_saying_here","_law_nodes_here","_law_named"]<|zih 9):04 12 "_law_holds" ["_law_saying_here","_law_frame_here","_law_nodes_here"] ziu:=by
 apply d.cal Vn 21 22
 .nofun
 let(v,b,nd,sy,tl,t,mo,dp,rfl,eb,ng,mp,bd,r,D,y,hd9,b7,a8,bh,O,q):=h;let hu:=zex hr 8 00;apply(_,(zab (zar (i:=3) Vn.nd R 17 zu0)<|zab (zdf PassesOwn.never R (zdh 01 T.b_range<|pa_c 065 zaa) (zaw (i:=4) Vn.nd 01<|Or.inr 01)<|zab (ze7 (i:=5) Vn.nd R 17 ["_law_k"] [(4,"_law_track"),(2,"_law_nodes_here")] 014 01 (zdh 01 T.b_range<|pa_c 070 zaa) (λ_ _ _ _ _=>(zaw (i:=0) (show List.Nodup (["_law_k","_law_track","_law_nodes_here"]:List Str) by decide+kernel) 01 86)) (λ_ _ _ _ _=>(zgs<|zaf za6 (zav zny (zav zwz (zam 07 (zam 93 (pv 2) (pv 0) λ_ _=>rfl) zac λ_ _=>rfl)<|pv 1) zac) zac 08)) λ_ _ _ _ _=>(pv 0)) (zab (zaz (PW.pt<|zc5 (zi5 zdi zdi zal (zam zfq (zam 93 (pv 1) (pv 4) λ_ _=>rfl) zac λ_ _=>rfl) zal) (zb4<|zaf zh0 (za2 (zas K) 01 T.b_len ir<|pa_c (pv 5) zaa) zac 08)) 042 zak)<|zad (zi6 hu (pv 3) (zam 93 (pv 1) (pv 4) λ_ _=>rfl) (pv 5) R))) (zad<|zai (zae Kr hr 00 01<|pa_c (pv 0) (pa_c (pv 2) 039)))),?_);apply za1 [G v,G 94,G<|.ref nd,B,B,B] R ?_;trivial;intro dd H1 n1;apply(_,.inl<|.of (n1.g _ _ eb),by rw[y00];omega,by rw[y00];omega,?_);rw[y00,y0y];let hdd:H dd=B:=n1.nil;let h16:2^tl.length<=8:=y0z (y1q 02 bd) 02;let(kq,f9,ko):=O;let mn:kq.length=t.size:=by rw[SS.Paired.len ko,zdl]
 apply zjk (λk U H'=>Same H H'/\∃L v4 v5,U=[G v,G 94,G<|.ref nd,G<|.ref dd,v4,v5]/\H' dd=G (.dK L)/\L.length<=k/\(∀(j:Nat) (z:Str),j<k->tl[j]?=G z->∃a,a≠dd/\valV L (.inr z)=G 09/\H' a=G (.lst<|(wth t.lets2 j).map nV))/\∀(j:Nat) (z:Str),j<k->tl[j]?=G z->isPl z=N->(wth t.lets2 j).length=1)
  (n1.g,[],B,B,R,n1.at',y05 _,λj z h=>Xa h<|y1h _,λj z h=>Xa h<|y1h _) ?_ ?_
 .rintro k U H' C ⟨g,L,v4,v5,rfl,ed,dl,hv,hf⟩;let o:tl[k]?=G tl[k]:=y0e C;let ezV:018[k]?=G (.str tl[k]):=by rw[y0r,o];rfl
  trivial;rw[y3o];apply(_,.inl<|.of (g _ _ f9),by rw[mn];omega,by rw[mn];omega,?_);rw[mn,y0y];apply crf_map (λU=>∃v,U=[v,G<|nV k,G<|.ref nd]) (λx=>bit (t.lets2.getD x 0) k) (λx=>nV x) 00 (_,R) ?_ ?_
  .rintro D i U H4 hi gg u a7 ⟨v,rfl⟩;let(ys,na,I,eys,eyi,ena,hn3):=NdsT.at (kq,f9,ko) hi;rw[f9]at eys;cases eys;let hlo:t.lets2.getD i 0<2^tl.length:=by
    rw[y0j,y0e<|by rw[Tr.lets2_len];show hi];show Tr.lets2_let t a8 _<|y16 _
   let el:I.2.2=t.lets2.getD i 0:=by rw[zob hi];show hn3.1
   trivial;rw[y3o];apply ixn (.of<|(g.trans gg) _ _ f9) (zaj eyi)<|ixm (.of<|(g.trans gg) _ _ ena) 041 (by omega,?_);rw[y0y,el,band1 00 00];cases Y:bit (t.lets2.getD i 0) k with
   |true=>show iteT<|zol 00 hi Y u a7 gg (_,R) R
   |false=>show iteF<|zom hi Y a7 gg (_,R)
  intro D H4 u g4 c;let gm:H4 D=G (.lst<|(wth t.lets2 k).map nV):=by
   rw[c];unfold wth;rw[Tr.lets2_len]
  let ed4:=g4 _ _ ed;let nD:D≠dd:=zcq gm ed4 (by intro z;cases z);let g5:Same H (upd H4 dd<|.dK (putK L (.inr tl[k]) 95)):=(g.trans g4).wr hdd _;let mj:=(g.trans g4) _ _ eb;let eD5:upd H4 dd (.dK<|putK L (.inr tl[k]) 95) D=G (.lst<|(wth t.lets2 k).map nV):=by rw[zan nD];show gm
  let(d0,ds,edl,fc,gk):=zjd (ng _<|y16 C).1;let M:atI tl[k].cps.toList 0=G d0:=by rw[edl];show zay
  let hl4:=ng.len _<|y16 C;apply(_,.of mj,_,zaj ezV,zah 00,_,M,?_);let fin:(isPl tl[k]=N->(wth t.lets2 k).length=1)->∃xs,SqL K H4 b xs/\∃v,atI xs (k:Int)=G v/\∃x,DPut H4 dd v 95 x/\Same H x/\∃mi,x dd=G (.dK mi)/\mi.length<=k+1/\(∀(j:Nat) (z:Str),j<k+1->tl[j]?=G z->∃a,a≠dd/\valV mi (.inr z)=G 09/\x a=G (.lst<|(wth t.lets2 j).map nV))/\∀(j:Nat) (z:Str),j<k+1->tl[j]?=G z->isPl z=N->(wth t.lets2 j).length=1:=λM=>by
   apply(_,.of mj,_,zaj ezV,_,DPut.k (k:=.inr tl[k]) ed4<|small1000 00,g5,_,zao,by have:=zcf L (.inr tl[k]) 95;omega,λj z hj hz=>?_,λj z hj hz l=>?_)
   .by_cases e:j=k
    .subst e;rw[o]at hz;cases hz;show(D,nD,by rw[zds,Xq rfl],eD5)
    .let(a,na,J,h3):=hv j z 00 hz;apply(a,na,?_,by rw[zan na];show g4 _ _ h3);rw[zds,Xp λe'=>e<|(y2y (y09.mp hz).1 mp).mp (by rw[hz,o,Sum.inr.inj e'])];show J
   .by_cases e:j=k
    .subst e;rw[o]at hz;cases hz;show M l
    .exact hf j z 00 hz l
  cases l:isP tl[k]with
  |true =>
   let(k1,k2):=fc l;rw[k1,k2];apply iteT<|iteT (_,.inl<|.of gm,?_);rw[y00];by_cases M:(wth t.lets2 k).length=1
   .rw[Xg<|show((wth t.lets2 k).length:Int)=1 by omega];show iteF<|fin λ_=>M
   .rw[Xf<|show¬((wth t.lets2 k).length:Int)=1 by omega];apply iteT<|q Fa H4 (g.trans g4) (λz=>(by cases z),λz=>?_);let e2:tl.idxOf tl[k]=k:=(y2y (y0x.mpr<|y16 C) mp).mp<|(zca<|y16 C).trans o.symm;let:=(zmv mp).mp z.1 _ (y16 C) l;rw[e2]at this;show Xa this M
  |false =>
   rw[gk l];show iteF (fin λh=>by rw[show isPl tl[k]=Fa from l]at h;cases h)
 .rintro U H' ⟨g,L,v4,v5,rfl,ed,dl,hv,hf⟩;trivial;let fit:fitB tl t.lets2=N:=(zmv mp).mpr λz hz l=>hf _ z (y0x.mpr hz) (zca hz) l;apply(v,nd,dd,sy,tl,asT tl.length t,t,mo,dp,R,r.same g,D,y,bd,hd9,fitT_of mp fit,b7,bh,NdsT.same (kq,f9,ko) g,(L,ed,dl,λz hz=>?_),λbb H2 p Y=>q bb H2 (g.trans p)<|Y.trans (λz=>(fit,z),λz=>z.2));let hi:=y0x.mpr hz;let(a,_,M,J):=hv _ z hi<|zca hz;rw[zne hi]at J;show(a,M,J)
theorem ztz{wd:Str}{Bq Gq:Prop}(h:wd="some"\/wd="all")(g:Gq):if(!decide (V.str wd=V.str "some"))=N then scal (V.str wd) (V.str "all")=N/\(if(!decide (V.str wd=V.str "all"))=N then Bq else Gq)else Gq:=by
 rcases h with rfl|rfl
 .rw[Xg rfl];show iteF g
 .rw[Xf (show¬V.str "all"=V.str "some" by decide+kernel),Xg<|show V.str "all"=V.str "all" from rfl];show iteT (R,iteF g)
abbrev Tq:Stmt:=top 73
theorem Ki:FnScope ["_law_saying_here","_law_nodes_here","_law_named","_law_word","_law_one","_law_other","_law_choice","_law_inner"] ["_law_saying_here","_law_nodes_here","_law_named"] (defScope Tq):={}
theorem zn0(T:Txt K mg w tw ow fa Qa Qb)(d:Dfn K mg "_law_value" Tq ["_law_saying_here","_law_nodes_here","_law_named"])(Pa:04 1 "_law_choices" ["_law_name_here","_law_many"] zly)(V9:04 1 "_law_bare_value" ["_law_saying_here","_law_nodes_here","_law_named"] zl0):∀lv,04 (2+lv) "_law_value" ["_law_saying_here","_law_nodes_here","_law_named"] (zih lv)
 |0=>(d.never λvs H Q E z=>by let(_,_,_,s,_,_,_,_,_,_,_,_,_,_,h,_):=z;cases s<;>show Xa h (by simp[Sy.depth])).mono 00
 |lv+1=>by
  let Kr:=zn0 T d Pa V9 lv;apply d.cal Ki 21 22
  .nofun
  let(v,nd,dd,sy,tl,As,t,mo,dp,rfl,r,D,aa,bd,hd,ft,b7,bh,cr,env,q):=h;let hu:=zex hr 8 00;change Room (2+lv) _ at hr;apply(_,(zab (zar (i:=3) Ki.nd R 17<|zam 07 (pv 0) zac (λ_ _=>rfl))<|zab (zaz (zaf op_eq (pv 3) zal 08) (zad<|zai (zrb<|zae Kr hr 00 01 (pa_c (zam 07 (pv 0) zac λ_ _=>rfl) 048))) zak) (zab (zaz (PW.pt<|zcc (zaf op_eq (pv 3) zal 08) (zb5<|zaf op_eq (pv 3) zal 08)) (zab (zar (i:=4) Ki.nd R 17<|zae Kr hr 00 01 (pa_c (zam 07 (pv 0) zac λ_ _=>rfl) 048))<|zab (zar (i:=5) Ki.nd R 17<|zae Kr hr 00 01 (pa_c (zam 07 (pv 0) zac λ_ _=>rfl) 048)) (zad<|zai (zuw (zce (pv 4)<|zby (pv 5))<|zby (zce (za5 op_eq (pv 3) zal 08)<|zby (zuw (pv 4)<|zby (pv 5)))))) zak)<|zab (zaz (PW.pt<|zc5 (zaf op_ne (pv 3) zal 08) (zb4<|zaf op_ne (pv 3) zal 08)) (zad<|zai (zae V9 hr 00 01<|pa_c (pv 0) 048)) zak) (zab (zdf PassesOwn.never R (za8 K<|zae Pa hr 00 01 (pa_c (zam 07 (pv 0) zac λ_ _=>rfl)<|pa_c 065 zaa)) (zaw (i:=6) Ki.nd 01 86)<|zab (zar (i:=7) Ki.nd R 17<|zeq zk7 01 T.b_dict boot_dict 033) (zab (zi6 hu (pv 7) (zam 07 (pv 0) zac λ_ _=>rfl) (pv 6) R)<|zad (zaz (zaf op_eq (zae Kr hr 00 01<|pa_c (zam 07 (pv 0) zac λ_ _=>rfl) (pa_c (pv 1)<|pa_c (pv 7) zaa)) (za5 op_eq (pv 3) zal 08) 08) (zad<|zai (za5 op_eq (pv 3) zal 08)) zak)))<|zad (zai<|za5 op_eq (pv 3) zal 08)))),?_);apply za1 [G v,G<|.ref nd,G<|.ref dd,B,B,B,B,B] R ?_;trivial;cases r with
  |bare hw e =>
   rename_i a wd n m;let(c,o,hm,wf):=D.i_bare;let nn:=zb8 c;apply ixm (.of e) zay (R,itF (nn _ 43) (R,itF (nn _ 43) (R,itF (nn _ 43) ?_)));apply(R,?_);rw[Xf<|nn "some" 43];apply iteT (R,?_);rw[Xf<|nn "all" 43];show iteT (.ref a,nd,dd,wd,n,m,tl,As,t,R,.bare hw e,c,o,hm,wf,ft,b7,cr,env,λb H1 g1 Y=>q b H1 g1 Y)
  |neg e r1 =>
   rename_i a x s1;let(d',D1):=D.i_neg;let f8:s1.depth+1<=lv+1:=hd;show ixm (.of e) zay (R,itT R<|ixm (.of e) 027 (x,nd,dd,s1,tl,As,t,mo,d',R,r1,D1,aa,bd,by omega,ft,b7,bh,cr,env,λb H1 g1 Y=>(b,R,q _ H1 g1<|by change _ ↔ ¬hT (coreS tl s1) As t;rw[←Y];cases b<;>decide)))
  |two hw e r1 r2 =>
   rename_i a wd x y s1 s2;let(c,d',D1,D2):=D.i_two;let f8:max s1.depth s2.depth+1<=lv+1:=hd;let ki:tsets s1=0\/t.size<=6:=bh.imp (λz=>by have:tsets s1+tsets s2=0:=z;omega) id;let oo:tsets s2=0\/t.size<=6:=bh.imp (λz=>by have:tsets s1+tsets s2=0:=z;omega) id;let hgo:=hT_two (A:=As) (t:=t) (tl:=tl) (s:=s1) (s':=s2) c;let ev2:∀O b2:Bool,(O=N↔hT (coreS tl s1) As t)->(b2=N↔hT (coreS tl s2) As t)->((if wd="or" then O||b2 else O&&b2)=N↔hT (coreS tl<|.two wd s1 s2) As t):=λO b2 M J=>by
    rw[hgo,←M,←J];split
    .exact Bool.or_eq_true_iff
    .exact Bool.and_eq_true_iff
   rcases c with rfl|rfl
   .refine ixm (.of e) zay (R,itF 43 (R,itT R<|ixm (.of e) 027 (x,nd,dd,s1,tl,As,t,mo,d',R,r1,D1,aa,bd,by omega,ft,b7,ki,cr,env,λO H1 g1 md=>?_)));apply ixm (.of<|g1 _ _ e) 041 (y,nd,dd,s2,tl,As,t,mo,d',R,r2.same g1,D2,aa,bd,by omega,ft,b7,oo,cr.same g1,env.same g1,λb2 H2 p mh=>(O,R,?_));let q2:=q _ H2 (g1.trans p)<|ev2 O b2 md mh;rw[Xp 02]at q2;cases O with
    |true =>
     apply iteT (b2,R,?_);cases b2 with
     |true=>show iteT q2
     |false=>show iteF (R,itF 43 q2)
    |false=>show iteF (R,itF 43 q2)
   .refine ixm (.of e) zay (R,itF 43 (R,itF 43 (R,itT R<|ixm (.of e) 027 (x,nd,dd,s1,tl,As,t,mo,d',R,r1,D1,aa,bd,by omega,ft,b7,ki,cr,env,λO H1 g1 md=>?_))));apply ixm (.of<|g1 _ _ e) 041 (y,nd,dd,s2,tl,As,t,mo,d',R,r2.same g1,D2,aa,bd,by omega,ft,b7,oo,cr.same g1,env.same g1,λb2 H2 p mh=>(O,R,?_));let q2:=q _ H2 (g1.trans p)<|ev2 O b2 md mh;rw[Xq rfl]at q2;cases O with
    |true =>
     apply iteT (b2,R,?_);cases b2 with
     |true=>show iteT q2
     |false=>show iteF (R,itT R (N,R,iteT q2))
    |false=>show iteF (R,itT R (Fa,R,iteF q2))
  |qu hw e r1 =>
   rename_i a wd n x s1;let(c,nz,hnt,cz,hn4,d',D1):=D.i_qu aa;let f8:s1.depth+1<=lv+1:=hd;let ki:tsets s1=0\/t.size<=6:=bh.imp (λz=>by have:(if isP n=N then 0 else 1)+tsets s1=0:=z;omega) id;let hn6:isP n=Fa->t.size<=6:=λl=>bh.elim (λz=>by have z:(if isP n=N then 0 else 1)+tsets s1=0:=z;rw[l,Xp 02]at z;omega) id;let nn:∀z:Str,z∈(["not","and","or"]:List Str)->¬V.str wd=V.str z:=λz hz e0=>by
    let all:∀a∈(["some","all"]:List Str),∀z∈(["not","and","or"]:List Str),¬a=z:=by decide+kernel
    show all wd hw z hz<|V.str.inj e0
   apply ixm (.of e) zay (R,itF (nn _ 43) (R,itF (nn _ 43) (R,itF (nn _ 43) (R,?_))));let(kq,f9,ko):=cr;let mn:kq.length=t.size:=by rw[SS.Paired.len ko,zdl]
   let mq:¬wd="all"->∀b:Bool,(b=N↔∃S,Ch (!isP n) S t []/\hT (coreS 024 s1) (As.put tl.length S) t)->(b=N↔hT (coreS tl<|.qu wd n s1) As t):=λh b Y=>by rw[hT_qu,Xp h];show Y
   let oq:wd="all"->∀b:Bool,(b=N↔∀S,Ch (!isP n) S t []->hT (coreS 024 s1) (As.put tl.length S) t)->(b=N↔hT (coreS tl<|.qu wd n s1) As t):=λh b Y=>by rw[hT_qu,Xq h];show Y
   apply ztz c<|ixm (.of e) 027 (_,.inl<|.of f9,?_);rw[mn];apply(n,t.size,R,nz,hn4,b7,hn6,λDD rs H2 p eDD prs=>((_,.of eDD),?_));let(L,ed,dl,C):=env;apply zfe (K:=K) (a:=DD) (xs:=rs) (λi U H'=>Same H2 H'/\(∃v6 v7,U=[G 09,G<|.ref nd,G<|.ref dd,G<|.str wd,B,B,v6,v7])/\∀j cs,j<i->(chos n t.size)[j]?=G cs->(hT (coreS 024 s1) (As.put tl.length<|setN t cs) t ↔ ¬wd="some")) (Same.refl _,(_,_,R),λj cs h=>Xa h<|y1h _) (λi U H' _ z=>.of<|z.1 _ _ eDD) ?_ ?_
   .rintro i y U H' I ⟨u,⟨v6,v7,rfl⟩,bn⟩;let(cs,mr,ax,rfl,eax):=SS.Paired.at prs I;trivial;let gH:=p.trans u;let edH:=gH _ _ ed;apply(L,edH,λd2 H4 n4=>?_);let g5:Same H' (upd H4 d2<|.dK (putK L (.inr n)<|.ref ax)):=n4.g.wr n4.nil _;apply(_,.of<|(gH.trans n4.g) _ _ e,_,zaj (j:=1) R,_,DPut.k (k:=.inr n) n4.at'<|small1000 00,_,.of<|(gH.trans g5) _ _ e,_,zaj (j:=2) R,?_);let kh:=y0d mr;let env5:EnvT (upd H4 d2<|.dK (putK L (.inr n)<|.ref ax)) d2 024 (As.put tl.length<|setN t cs) t:=EnvT.put hnt kh dl (λz hz=>let(a,h4,h5):=C z hz;(a,h4,(gH.trans g5) _ _ h5)) zao<|(u.trans g5) _ _ eax;apply(x,nd,d2,s1,tl++[n],As.put tl.length<|setN t cs,t,mo,d',R,r1.same<|gH.trans g5,D1,aa,by rw[y02,y0i];omega,by omega,ft.put hnt kh,b7,ki,NdsT.same (kq,f9,ko)<|gH.trans g5,env5,λb H6 g6 Y=>(R,?_));let dm:=u.trans<|g5.trans g6;by_cases db:b=decide (wd="some")
    .rw[←db];apply itT R<|q b H6 (p.trans dm) ?_;by_cases hs:wd="some"
     .rw[Xg hs]at db;show mq (by rw[hs];decide) _<|iff_of_true db (_,zxo kh,Y.mp db)
     .rw[Xf hs]at db;show oq (c.resolve_left hs) _ (iff_of_false (by rw[db];decide) λz=>by have:=Y.mpr<|z _ (zxo kh);rw[db]at this;cases this)
    .refine itF (λe=>db<|V.bl.inj e) (dm,λj gh hj hcs=>?_);by_cases hji:j<i
     .exact bn j gh hji hcs
     .obtain rfl:j=i:=by omega
      rw[mr]at hcs;cases hcs;rw[←Y];cases b with
      |true=>show iff_of_true R λh=>db (by rw[Xg h])
      |false=>show iff_of_false 02 λh=>db (by rw[Xf h])
   .rintro U H' ⟨u,⟨v6,v7,rfl⟩,bn⟩;trivial;let key:∀S,Ch (!isP n) S t []->(hT (coreS 024 s1) (As.put tl.length S) t ↔ ¬wd="some"):=λS hS=>by
     let(hm,fq):=ch_cho hS;let(j,hj):=y2z.mp hm;let:=bn j _ (by rw[SS.Paired.len prs];show(y09.mp hj).1) hj;rwa[fq]at this
    apply q _ H' (p.trans u) ?_;rcases c with rfl|rfl
    .rw[Xf 43];show mq 02 _<|iff_of_false 02 λ(S,g,z)=>(key S g).mp z R
    .rw[Xg rfl];show oq R _<|iff_of_true R λS g=>(key S g).mpr 43
abbrev Vc:Stmt:=top 72
theorem Qh:FnScope ["_law_saying_here","_law_nodes_here","_law_named","_law_one","_law_other","_law_parent","_law_side","_law_letter"] ["_law_saying_here","_law_nodes_here","_law_named"] (defScope Vc):={}
include T in
theorem zzb(d:Dfn K mg "_law_bare_value" Vc ["_law_saying_here","_law_nodes_here","_law_named"]):04 1 "_law_bare_value" ["_law_saying_here","_law_nodes_here","_law_named"] zl0:=by
 apply d.cal Qh 21 22
 .nofun
 let(v,nd,dd,wd,n,m,tl,As,t,rfl,r,hw,o,hm,wf,ft,b7,cr,(L,ed,dl,C),q):=h;let hu:=zex hr 8 02;apply(_,(zab (zar (i:=3) Qh.nd R 17<|zi7 hu (pv 2) (zam 07 (pv 0) zac λ_ _=>rfl) (λ_ _=>rfl))<|zab (zar (i:=4) Qh.nd R (Or.inr R)<|zi7 hu (pv 2) (zam 07 (pv 0) zac λ_ _=>rfl) (λ_ _=>rfl)) (zab (zaz (PW.pt<|zcc (zaf op_eq (zam 07 (pv 0) zac λ_ _=>rfl) zal 08) (zb5<|zaf op_eq (zam 07 (pv 0) zac λ_ _=>rfl) zal 08)) (zad<|zai (za2 (zbx K R) 01 T.b_all jm<|pa_c (za9 ["_law_node"] [(4,"_law_other")] 014 01 (za8 K<|pv 3) (λ_ _ _ _ _=>(zaw (i:=0) (show List.Nodup (["_law_node","_law_other"]:List Str) by decide+kernel) 01 86)) (λ_ _ _ _ _=>zbs) λ_ _ _ _ _=>(za5 (zbl K) (pv 0) (pv 1)<|by with_unfolding_all rfl)) zaa)) zak)<|zab (zaz (zaf op_eq (zam 07 (pv 0) zac λ_ _=>rfl) zal 08) (zad<|zai (za5 (zyq K hu) (pv 3) (pv 4) 08)) zak) (zab (ps_asg (zam 93 (pv 1) (zam 93 (pv 4) zac λ_ _=>rfl) λ_ _=>rfl)<|zmh K (n:=3) R (zcz (zaw (i:=5) Qh.nd 01 86)<|zcz (zaw (i:=6) Qh.nd 01 86) (zcz (zaw (i:=7) Qh.nd 01 86) zmg)))<|zab (zaz (zaf op_ne (zam 07 (pv 0) zac λ_ _=>rfl) zal 08) (zad<|zai (zce (za5 op_eq (pv 5) (zam 93 (pv 3) zac λ_ _=>rfl) 08)<|zby (za5 op_eq (pv 6) (zam zfq (zam 07 (pv 0) zac λ_ _=>rfl) zac λ_ _=>rfl) 08))) zak) (zab (znt PassesOwn.never (PW.pt<|zc5 (zaf op_ge (pv 5) zac 08) (zb4<|zaf op_ne (pv 5) (zam 93 (pv 3) zac λ_ _=>rfl) 08))<|zad (zar (i:=5) Qh.nd R 17<|zam 07 (zam 93 (pv 1) (pv 5) λ_ _=>rfl) zac (λ_ _=>rfl)))<|zad (zai<|za5 op_eq (pv 5) (zam 93 (pv 3) zac λ_ _=>rfl) 08))))),?_);apply za1 [G v,G<|.ref nd,G<|.ref dd,B,B,B,B,B] R ?_;trivial;cases r with
 |bare a9 e =>
 rename_i a;let(a1,v1,e1):=C n o;let(a2,v2,e2):=C m hm;let d1:DGet H dd (.str n) (G<|.ref a1):=by rw[←v1];show DGet.k (k:=.inr n) ed
 let d2:DGet H dd (.str m) (G<|.ref a2):=by rw[←v2];show DGet.k (k:=.inr m) ed
 let hw1:∀S,(nums t S).length<=14:=λS=>by
  unfold nums;let:=y1m (λk=>S<|(88).getD k [])<|List.range t.size;rw[y20]at this;omega
 let nn:∀z:Str,¬wd=z->¬V.str wd=V.str z:=λz h e=>h<|V.str.inj e;apply ixm (.of e) 027 (_,d1,ixm (.of e) 041 (_,d2,ixm (.of e) zay (R,?_)));let al:(wd="in"\/wd="within")->(∃xs,SqL K H a1 xs)/\cBody [Str.ofString "_law_node"] [(4,Str.ofString "_law_other")] (gName 0) tYes (tOp (rInZ K Fa) (tVar 0)<|tVar 1) [G<|V.ref a,G<|.ref nd,G<|V.ref dd,G<|.ref a1,G<|.ref a2,B,B,B] (λx H1=>asR x λp=>∃x,SqL K H1 p (List.map V.bl x)/\Q (V.bl<|x.all id) H1) (Itl K a1) H:=λhwd=>by
  apply((_,.of e1),zeg (K:=K) (a:=a1) (xs:=(nums t<|As 052).map nV) (λU=>∃v,U=[v,G<|.ref a2]) (λv=>.bl<|inV v ((nums t<|As (tl.idxOf m)).map nV)) (by rw[y00];let:=hw1<|As 052;omega) (.of e1) (_,R) ?_ ?_)
  .rintro D i U H3 x hi hm' O gg u a7 ⟨v,rfl⟩;let(k,mk,rfl):=y0g.mp hm';trivial;show(_,.inl<|.of (gg _ _ e2),R,zey _,zc3 (by rw[y00];let:=hw1<|As 052;omega) O u a7 gg (_,R) R)
  intro D H3 u g3 eD;let gm:H3 D=G (.lst<|((nums t<|As 052).map λ(k:Nat)=>decide (k∈nums t (As<|tl.idxOf m))).map V.bl):=by
   rw[eD,y0w,y0w];congr 2;apply y29 λk _=>?_;change V.bl (inV (nV k) _)=_;rw[inN];rfl
  apply(_,.of gm,q _ H3 g3 ?_);rw[←due_all hwd ft o wf,y2p,y0u];show(λh k C=>of_decide_eq_true<|h k C,λh k C=>Xg<|h k C)
 let ak:∀S,(nums t S).map nV=((nums t S).map λ(x:Nat)=>(x:Int)).map V.int:=λS=>by rw[y0w];rfl
 by_cases w1:wd="in"
 .subst w1;show itT R<|al 85
 apply itF (nn _ w1)<|ixm (.of e) zay (R,?_);by_cases w2:wd="within"
 .subst w2;show itT R<|al (.inr R)
 apply itF (nn _ w2)<|ixm (.of e) zay (R,?_);let(x,y,O,I,en,em,hs,fg):=due_two w1 w2 ft o hm wf;rw[en]at e1;rw[em]at e2;by_cases w3:wd="same"
 .subst w3;apply itT R (a1,R,a2,R,[(x:Int)],.of e1,[(y:Int)],.of e2,q _ H (Same.refl _) ?_);rw[←hs R,decide_eq_true_eq];show(λh=>by injection h with h;omega,λh=>by rw[h])
 apply itF (nn _ w3) ?_;let hrw:wd="left"\/wd="right"\/wd="above":=by
  simp only[treeW,y06,y0l,or_false]at hw;rcases hw with h|h|h|h
  .exact Xa h w1
  .exact Xa h w3
  .exact Xa h w2
  .exact h
 let fg:=fg hrw;let(xs,na,fh,exs,exy,ena,hnd):=cr.at I;apply ixm (.of e2) zay (xs,.of exs,_,zaj exy,_,R,_,.of ena,R,_,_,R,_,_,R,_,_,R,R,ixm (.of e) zay ?_);apply(R,?_);let lr:∀b:Bool,wd=(if b=N then "right" else "left")->(∃c,atI wd.cps.toList 0=G c/\(⟨#[c]⟩:Str)=sdS b)/\wd.length<=5/\¬wd="above"/\(relP wd 056 ((88).getD y [])↔fh.1=(x:Int)/\fh.2.1=sdS b):=λb Y=>by
  rw[←nd_lr O hnd I b];cases b with
  |true=>subst Y;show((114,by decide+kernel,by decide+kernel),by decide+kernel,by decide,Iff.rfl)
  |false=>subst Y;show((108,by decide+kernel,by decide+kernel),by decide+kernel,by decide,Iff.rfl)
 by_cases w4:wd="above"
 .subst w4;apply iteF ?_;let hup:=nd_up (X:=(88).getD x []) I hnd;apply(λmm U H'=>∃par:Int,U=[G 09,G<|.ref nd,G<|.ref dd,G<|.ref a1,G<|.ref a2,G<|.int par,G<|.str fh.2.1,G<|nV fh.2.2]/\H'=H/\mm=(par+1).toNat/\(par=-1\/∃i:Nat,par=(i:Int)/\i<t.size)/\(relP "above" 056 ((88).getD y [])↔∃i:Nat,par=(i:Int)/\i<t.size/\(88).getD x [] <+:(88).getD i []),(_,fh.1,R,R,R,?_,?_),?_)
  .rcases hup.2 with h|⟨i,h,hi⟩
   .exact .inl h
   .exact .inr (i,h,by omega)
  .exact Iff.trans Iff.rfl hup.1
  .rintro mm U H' ⟨par,rfl,rfl,rfl,mw,or⟩;trivial;let fin:(par=(x:Int)\/par=-1)->∃xs,SqL K H' a1 xs/\∃v,atI xs 0=G v/\scal (V.int par) v=N/\Q (V.bl<|decide (V.int par=v)) H':=λl=>by
    apply(_,.of e1,_,zay,R,q _ H' (Same.refl _) ?_);rw[←fg,or,decide_eq_true_eq];constructor
    .intro z;show(x,V.int.inj z,O,y2a _)
    .rintro⟨i,M,_,_⟩;rcases l with h|h
     .rw[h]
     .omega
   rcases mw with mw|⟨i,rfl,hi⟩
   .exact itF 00<|fin (.inr mw)
   apply itT 00 (_,.of e1,_,zay,R,?_);by_cases hix:i=x
   .subst hix;rw[Xg<|show V.int (i:Int)=nV i from rfl];show iteF<|fin 85
   rw[Xf<|show¬V.int (i:Int)=nV x fromλz=>hix (by have:=V.int.inj z;omega)];let(ys,nb,n3,eys,eyi,enb,hn3):=cr.at hi;let nh:=nd_up (X:=(88).getD x []) hi hn3;apply iteT (_,λσ' H2 (z:σ'=[G<|V.ref a,G<|V.ref nd,G<|V.ref dd,G<|V.ref a1,G<|V.ref a2,G<|V.int n3.1,G<|V.str fh.2.1,G<|nV fh.2.2]/\H2=H')=>(_,?_,n3.1,z.1,z.2,R,?_,?_),_,.of eys,_,zaj eyi,_,.of enb,_,zay,R,R)
   .rcases nh.2 with h|⟨j,h,hj⟩<;>rw[h]<;>omega
   .rcases nh.2 with h|⟨j,h,hj⟩
    .exact .inl h
    .exact .inr (j,h,by omega)
   .rw[or,←nh.1];constructor
    .rintro⟨j,M,_,J⟩;let:j=i:=by omega
     subst this;show(J,λz=>hix<|zhr hi O z.symm)
    .intro z;show(i,R,hi,z.1)
 .obtain⟨b,Y⟩:∃b:Bool,wd=(if b=N then "right" else "left"):=by
   rcases hrw with h|h|h
   .exact(Fa,h)
   .exact(N,h)
   .exact Xa h w4
  let((c,g,ec),f6,_,ou):=lr b Y;rw[Xf<|nn _ w4];apply iteT (_,.of e1,_,zay,R,?_);by_cases l:fh.1=(x:Int)
  .refine itT (by rw[l]) (_,.of e,_,zay,zah 00,c,g,R,q _ H (Same.refl _) ?_);rw[←fg,ou,decide_eq_true_eq,ec];show(λz=>(l,V.str.inj z),λz=>by rw[z.2])
  .refine itF (λz=>l<|V.int.inj z)<|q _ H (Same.refl _) ?_;rw[←fg,ou];show(λz=>(by cases z),λz=>Xa z.1 l)
abbrev Tt:Stmt:=top 67
theorem Pf:FnScope ["_law_tree","_law_parent","_law_side","_law_found","_law_here"] ["_law_tree","_law_parent","_law_side","_law_found"] (defScope Tt):={}
theorem zn4(T:Txt K mg w tw ow fa Qa Qb)(d:Dfn K mg "_law_nodes" Tt ["_law_tree","_law_parent","_law_side","_law_found"]):∀dd,04 (1+dd) "_law_nodes" ["_law_tree","_law_parent","_law_side","_law_found"] (zil dd)
 |0=>(d.never λvs H Q E (v,t,y,sd,D,xs,_,_,h,_,_,_)=>Xa h<|y1h _).mono 00
 |dd+1=>by
  let Vu:=zn4 T d dd;apply d.cal Pf 21 22
  .nofun
  let(v,t,y,sd,D,xs,rfl,tv,hd,c,hl,q):=h;change Room (1+dd) _ at hr;apply(_,(zde (zaz (zaf zrj (pv 0) zd1 08) (zab (zar (i:=4) Pf.nd R 17 089)<|zab (zbf<|zb7 K PySem.F.plainAttrs_list PySem.F.slot_list_append PySem.F.type_list_append zbc (pv 3) (pa_c (zaq<|pa_c (pv 1) (pa_c (pv 2)<|pa_c (zam 07 (pv 0) zac λ_ _=>rfl) zaa)) zaa)) (zab (zbf<|zae Vu hr 00 01 (pa_c (zam 07 (pv 0) zac λ_ _=>rfl)<|pa_c (pv 4) (pa_c zal 039)))<|zad (zbf<|zae Vu hr 00 01 (pa_c (zam 07 (pv 0) zac λ_ _=>rfl)<|pa_c (pv 4) (pa_c zal 039))))) zak)<|zad (zai<|pv 3)),?_);apply za1 [G v,G<|.int y,G<|.str sd,G 95,B] R ?_;trivial;apply(λO H'=>(∃I,O=[G v,G<|.int y,G<|.str sd,G 95,I])/\∃ys,SameB D H H'/\H' D=G (.lst<|xs++ys)/\io (NdL H') ys (nds t y sd xs.length),?_,?_)
  .trivial;cases t with
   |nil =>
    obtain rfl:v=.non:=tv;show iteF (λb o _ e=>e,[],by rw[y1k];show c,.nil)
   |node l a b =>
    let(pp,va,vb,rfl,ep,ta,tb):=tv;let ha:a.depth<dd:=by have:1+max a.depth b.depth<dd+1:=hd;omega
    let Y:b.depth<dd:=by have:1+max a.depth b.depth<dd+1:=hd;omega
    let hsz:xs.length+(1+a.size+b.size)<=900:=hl;apply iteT (_,.inl<|.of c,.inl (_,.of c),_,.of ep,_,zay,mkT λM H1 n1=>(_,n1.g _ _ c,zah 00,?_));let g1:SameB D H (upd H1 D<|.lst (xs++[.ref M])):=(Same.b n1.g D).trans<|SameB.wr _;let e1:upd H1 D (.lst<|xs++[.ref M]) D=G (.lst<|xs++[.ref M]):=zao;let x:=SM.SameB.tups g1 c;let l1:(xs++[V.ref M]).length=xs.length+1:=by rw[y02];rfl
    apply(_,.of<|x _ _ ep,_,zaj (j:=1) R,va,a,_,"l",D,_,R,ta.ts x,ha,e1,by omega,λys2 H2 p L p2=>?_);let C:=SM.SameB.tups p e1;let l2:(xs++[V.ref M]++ys2).length=xs.length+1+a.size:=by rw[y02,l1,SS.Paired.len p2,zdl]
    apply(_,.of<|C _ _ (x _ _ ep),_,zaj (j:=2) R,vb,b,_,"r",D,_,R,(tb.ts x).ts C,Y,L,by omega,λys3 H3 u r p3=>(g1.trans<|p.trans u,.ref M::(ys2++ys3),?_,?_))
    .rw[r];simp
    .let U:=SM.SameB.tups u L;let J:upd H1 D (.lst<|xs++[.ref M]) M=G (.tup [.int y,.str sd,nV l]):=by rw[zan (λz=>by have:=n1.nil;rw[z,c]at this;cases this)];show n1.at'
     rw[l1]at p2;rw[l2]at p3;show .cons (M,R,U _ _<|C _ _ J)<|zwx (L2.Paired.mapP p2 λ_ _ z=>z.ts U) p3
  .rintro O H' ⟨⟨I,rfl⟩,ys,g,e,pr⟩;trivial;show q ys H' g e pr
theorem zpf(p:io Rq xs ys)(q:io Rq D j):io Rq (xs++D) (ys++j):=by
 induction p with
 |nil=>show q
 |cons h _ E=>show .cons h E
theorem zpe{d q a:Type}{Rq:d->a->Prop}{f:q->a}{xs:List d}{ys:List q}(p:io (λx y=>Rq x<|f y) xs ys):io Rq xs (ys.map f):=by
 induction p with
 |nil=>show .nil
 |cons h _ E=>show .cons h E
abbrev V1:Stmt:=top 71
theorem K3:FnScope ["_law_name_here","_law_many","_law_found","_law_k"] ["_law_name_here","_law_many"] (defScope V1):={}
include T in
theorem zy9(d:Dfn K mg "_law_choices" V1 ["_law_name_here","_law_many"]):04 1 "_law_choices" ["_law_name_here","_law_many"] zly:=by
 apply d.cal K3 21 22
 .nofun
 let(z,n,rfl,hz,hz4,o,h6,q):=h;apply(_,(zab (zaz (zi5 zdi zdi zal (zam zfq (pv 0) zac λ_ _=>rfl) zal) (zad<|zai (za9 ["_law_k"] [] 014 01 (zdh 01 T.b_range 016) (λ_ _ _ _ _=>(zaw (i:=0) (show List.Nodup (["_law_k"]:List Str) by decide+kernel) 01 86)) (λ_ _ _ _ _=>zbs) λ_ _ _ _ _=>(zax 013))) zak)<|zab (zar (i:=2) K3.nd R 17<|zax (pa_c (zax zaa) zaa)) (zab (zdf PassesOwn.never R (zdh 01 T.b_range 016) (zaw (i:=3) K3.nd 01<|Or.inr 01)<|zad (zar (i:=2) K3.nd R 17<|zav zed (pv 2) (za9 ["_law_some"] [(3,"_law_k")] 014 01 (za8 K<|pv 2) (λ_ _ _ _ _=>(zaw (i:=0) (show List.Nodup (["_law_some","_law_k"]:List Str) by decide+kernel) 01 86)) (λ_ _ _ _ _=>zbs) λ_ _ _ _ _=>(zav zed (pv 0)<|zax 016))))<|zad (zai<|pv 2))),?_);apply za1 [G<|.str z,G<|nV n,B,B] R ?_;trivial;let(d0,ds,ed,fc,gk):=zjd hz;let M:atI z.cps.toList 0=G d0:=by rw[ed];show zay
 cases hp:isP z with
 |true =>
  let(J,h3):=fc hp;let hm:chos z n=(List.range n).map λp=>[p]:=by unfold chos;rw[show isPl z=N from hp,Xq rfl]
  rw[hm]at q;apply(zah 00,_,M,?_);rw[J,h3];apply iteT<|iteT (by omega,by omega,?_);rw[y0y];apply zwm (λU=>∃v,U=[v]) (λl=>[nV l]) 00 (_,R) ?_ ?_
  .rintro D3 i3 zs U H4 hi3 gg hD3 bp I ni ⟨v,rfl⟩;trivial;apply mkT λp6 H6 Y=>?_;apply cn_step 00 hi3 hD3 bp I ni gg Y.g (_,R) (λe=>?_) ?_
   .let:=Y.nil;rw[e,bp]at this;cases this
   .rw[Y.at',y3o]
  .intro D3 zs H4 hD3 g4 eD3 I ni;show q D3 zs H4 g4 eD3 (zfo I λj y hj=>let(c,e,_,ec):=ni j y hj;(c,e,ec))
 |false =>
  apply(zah 00,_,M,?_);rw[gk hp];apply iteF ?_;let ar:isPl z=Fa:=hp;let hn6:=h6 hp;let hm:chos z n=subs n:=by unfold chos;rw[ar,Xp 02]
  rw[hm]at q;apply mkT λp0 H0 n0=>mkT λp1 H1 n1=>(by omega,by omega,?_);rw[y0y];apply zjk (λk U H'=>Same H H'/\∃p rs v3,U=[G<|.str z,G<|nV n,G 91,v3]/\k<=n/\H' p=G (.lst rs)/\io (LnL H') rs (subs k)) (n0.g.trans n1.g,p1,_,B,R,y1g _,n1.at',.cons (p0,R,n1.g _ _ n0.at') .nil) ?_ ?_
  .rintro k U H' C ⟨g,p,rs,v3,rfl,_,ep,pr⟩;let a6:rs.length<=64:=by
    rw[SS.Paired.len pr,zua];show y0z (y1q 02<|show k<=6 by omega) 02
   trivial;rw[y3o];apply((_,.of ep),?_);apply zg7 (K:=K) (a:=p) (xs:=rs) (λD i ys U H2=>Same H' H2/\(∃v,U=[v,G<|nV k])/\io (λy cs=>∃a,y=.ref a/\a≠D/\H2 a=G (.lst<|(cs++[k]).map nV)) ys ((subs k).take i)) (zah 00) (λD u=>(za7 u _,(_,R),.nil)) (λD i ys U H2 u hi hH z=>.of<|z.1 _ _ ep) ?_ ?_
   .rintro D i ys U H2 x u hi O hH hl ⟨g2,⟨v,rfl⟩,py⟩;let(cs,mr,ax,rfl,eax):=SS.Paired.at pr O;let ag:cs.length<=64:=by
     let M:=y0d mr;let(pp,rfl):=zf2 _ _ M;let:=y1m pp<|List.range k;rw[y20]at this;omega
    trivial;apply mkT λp5 H5 n5=>(_,n5.g _ _<|g2 _ _ eax,_,n5.at',zah (by rw[y00];simp;omega),λp6 H6 Y=>?_);let dm:=n5.g.trans Y.g;apply cstep (zah 00) hi (dm _ _ hH) hl ((g2.trans dm).wr u _,(_,R),?_);rw[y1d,mr,y37];let nD6:p6≠D:=(zap (n5.g _ _ hH) Y.nil).symm;apply SM.Paired.snoc (L2.Paired.mapP py λy c (a,e1,L,r)=>(a,e1,L,by rw[zan L];show dm _ _ r)) (p6,R,nD6,by rw[zan nD6,Y.at',y0t];rfl)
   .rintro D ys U H2 u hH hl ⟨g2,_,py⟩;rw[SS.Paired.len pr,y0v 37]at py;apply(_,g2 _ _ ep,_,hH,zah 00,λp7 H7 n7=>(g.trans<|g2.trans n7.g,by omega,_,n7.at',?_));unfold subs;apply zpf (L2.Paired.mapP pr λ_ _ z=>z.same<|g2.trans n7.g) ?_;show zpe<|L2.Paired.mapP py λy c (a,e1,_,r)=>(a,e1,n7.g _ _ r)
  .rintro U H' ⟨g,p,rs,v3,rfl,_,ep,pr⟩;trivial;show q p rs H' g ep pr
abbrev Vt:Stmt:=top 77
theorem Qt:FnScope ["_law_left","_law_names","_law_deep","_law_number","_law_kind","_law_word","_law_one","_law_name_here"] ["_law_left","_law_names","_law_deep"] (defScope Vt):={}
include T in
theorem zn1(d:Dfn K mg "_law_steep" Vt ["_law_left","_law_names","_law_deep"])(Qr:04 1 "_law_new" ["_law_number","_law_names"] zcv){dd:Nat}(Vs:04 (1+dd) "_law_steep" ["_law_left","_law_names","_law_deep"] λvs H Q E=>0<dd/\zch (dd-1) vs H Q E):04 (1+dd+1) "_law_steep" ["_law_left","_law_names","_law_deep"] (zch dd):=by
 apply d.cal Qt 21 22
 .nofun
 let(l,b,ns,tl,rfl,el,U,eb,cn,ng,ap,az,q):=h;let g:=zex hr 8 00;apply(_,(zbr (zar (i:=3) Qt.nd R 17 zac)<|zup (zaz (zaf zhi 059 zac 08) (zad<|zar (i:=3) Qt.nd R 17 127) zak) (zab (zar (i:=4) Qt.nd R 17<|zav zbe (pv 3) zac)<|zbr (zar (i:=3) Qt.nd R 17<|zav zbt (pv 3) zac) (zbr (zaz (PW.pt<|zc5 (zaf (zyp K g) (pv 1) (zax zaa) 08) (zb4<|PW.pt (zcc (zaf za6 (pv 2) zac 08)<|zb5 (zaf za6 059 zac 08)))) (zad<|zai (zaq<|pa_c zal (pa_c zal<|pa_c (zaq<|pa_c zal 053) zaa))) zak)<|zbr (zhv (PW.pt<|zc5 (zaf (zmj K g) (pv 1) (zax zaa) 08) (zb4<|PW.pt (zcc (zaf za6 (pv 2) zac 08)<|zcc (zaf zmk (pv 4) zac 08) (zcc (zaf za6 059 zac 08)<|zb5 (PW.pt<|zc5 (zaf zhi (pv 4) zac 08) (zb4<|zaf zhi 065 zac 08)))))) (zab (zar (i:=5) Qt.nd R 17<|zam 93 (zax<|pa_c zal (pa_c zal 053)) (zav zbe (pv 3) zac) (λ_ _=>rfl))<|zad (zai<|zaq (pa_c (pv 5)<|pa_c (zam 93 (pv 1) (zav zbe (zav zbt (pv 3) zac) 065) λ_ _=>rfl) (pa_c (zam 93 (pv 1) (zav zbe (zav zbt (pv 3) zac) 065) λ_ _=>rfl) zaa)))) zak) (zbr (zaz (zaf za6 (pv 4) zac 08) (zad<|zai (zaq<|pa_c zal (pa_c 116 zaa))) zak)<|zbr (zhv (PW.pt<|zc5 (zaf (zmj K g) (pv 1) (zax zaa) 08) (zb4<|zaf zmk (pv 4) zac 08)) (zab (zar (i:=6) Qt.nd R 17 116)<|zad (zai<|zaq (pa_c (zam 93 (zax 053) (zav zc6 (pv 4) zac) λ_ _=>rfl)<|pa_c (pv 6) (pa_c 116 zaa)))) zak) (zab (zar (i:=7) Qt.nd R 17<|zae Qr hr 00 01 (pa_c (zav zkl zac<|pv 3) 016))<|zad (zai<|zaq (pa_c (zam 93 (zax 053) (zav zbe (zav zbt (pv 3) zac) zac) λ_ _=>rfl)<|pa_c (pv 7) (pa_c (zae Vs hr 00 01<|pa_c (pv 0) (pa_c (zav zed (pv 1)<|zax (pa_c (pv 7) zaa))<|pa_c (zav zc6 (pv 2) zac) zaa)) zaa)))))))),?_);apply za1 [G<|.ref l,G 94,G<|nV dd,B,B,B,B,B] R ?_;trivial;intros;infer_instance;apply(λO H'=>∃(c:Int) (au:List Int),O=[G<|.ref l,G 94,G<|nV dd,G<|.int c,B,B,B,B]/\SameB l H H'/\H' l=G (.lst<|au.map V.int)/\au.length<=12,?_,?_)
 .trivial;apply(_,.inl<|.of el,?_);by_cases Y:0<ns.length
  .rw[Xg<|by rw[y00];omega];obtain⟨k,C⟩:∃k,ns[ns.length-1]?=G k:=(_,y0e 00);apply iteT (.inl (_,.of el),_,el,.int k,by rw[y00,y0r,C];rfl,?_,by decide,SameB.wr _,ns.dropLast,?_,?_)
   .exact .inr (by decide,by decide)
   .rw[zao,List.map_dropLast]
   .rw[y3r];omega
  .exact itF (by rw[y00];omega) (λb o _ e=>e,ns,el,U)
 rintro O H1 ⟨c,au,rfl,g1,eh,aw⟩;infer_instance;let x:=g1 _ _ (Ne.symm cn) eb;let m0:=y1c c (show(7:Int)≠0 by decide);let m1:=y10 c (show(0:Int)<7 by decide);apply(by decide,λ_ _=>((by decide,by decide),?_));infer_instance;apply mkT λr H2 n2=>(tl,.of<|n2.g _ _ x,[],.of n2.at',?_);let eb2:=n2.g _ _ x;let el2:=n2.g _ _ eh;let g2:SameB l H H2:=g1.trans<|Same.b n2.g l;let ed:∀e:Nat,dd=e+1->V.int (((dd:Nat):Int)-1)=nV e:=λe he=>by change V.int _=V.int _;congr 1;omega
 by_cases Y:tl=[]
 .subst Y;let lf:∀p H3 r H4,New H2 p (.tup [V.str "same",V.str "k3",V.str "k3"]) H3->New H3 r (.tup [V.str "some",V.str "k3",.ref p]) H4->Q (.ref r) H4:=λp H3 r H4 I L=>q _ (.qu "some" "k3"<|.bare "same" "k3" "k3") au H4 (g2.trans<|Same.b (I.g.trans L.g) l) ((I.g.trans L.g) _ _ el2) aw (.qu 02 L.at'<|.bare 02 (L.g _ _ I.at')) (.leaf<|.inl (R,R)) 43;apply itT R ?_;by_cases hd0:dd=0
  .exact itT 00<|mkT λp3 H3 I=>mkT λp4 H4 L=>lf _ _ _ _ I L
  apply itF 00 (_,.inl<|.of el2,?_);by_cases hz:((au.map V.int).length:Int)=0
  .exact itT hz<|mkT λp3 H3 I=>mkT λp4 H4 L=>lf _ _ _ _ I L
  apply itF hz ?_;infer_instance;apply mkT λp3 H3 I=>([],.of<|I.g _ _ eb2,[],.of I.at',?_);obtain⟨e,rfl⟩:∃e,dd=e+1:=(dd-1,by omega);let u:SameB l H H3:=g2.trans<|Same.b I.g l;let cc:=I.g _ _ eb2;let fj:=I.g _ _ el2;apply iteF ?_;infer_instance;rw[ed e R,show e+1-1=e from rfl];by_cases d7:c%7=2
  .refine itT d7 (by omega,l,b,au,[],R,fj,aw,cc,cn,ng,ap,by decide,λv sy ay H6 g6 e6 bz r6 d6 t6=>mkT λp7 H7 a=>?_);show q _ _ ay H7 (u.trans<|g6.trans (Same.b a.g l)) (a.g _ _ e6) bz (.neg a.at'<|r6.same a.g) (.neg d6) t6
  apply itF d7 ?_;infer_instance;apply mkT λp4 H4 L=>([],.of<|L.g _ _ cc,[],.of L.at',iteF ?_);infer_instance;rw[ed e rfl];show(qn43 (L.g _ _ fj) aw (L.g _ _ cc) ng ap 02 λv s ay H5 g5 e5 f6 r5 d5 t5=>q v s ay H5 (u.trans<|(Same.b L.g l).trans g5) e5 f6 r5 d5 t5:Qn43 K (c/7) l b e Q H4)
 apply itF Y ?_;infer_instance;apply mkT λp3 H3 I=>(tl,.of<|I.g _ _ eb2,[],.of I.at',?_);rw[Xf Y];apply iteT ?_;let cc:=I.g _ _ eb2;let fj:=I.g _ _ el2;let u:SameB l H H3:=g2.trans<|Same.b I.g l;let leaf:Lf43 K b (c/7) Q H3:=lf43 cc ap Y λv sy H4 M r4 lf ts=>q v sy au H4 (u.trans<|Same.b M l) (M _ _ fj) aw r4 (.leaf lf) ts;by_cases hd0:dd=0
 .exact itT 00 (by apply lz (by assumption) ?_;trivial;intros;show leaf)
 apply itF 00 ?_;by_cases d7:c%7<2
 .exact itT d7 (by apply lz (by assumption) ?_;trivial;intros;show leaf)
 apply itF d7 (_,.inl<|.of fj,?_);by_cases hz:((au.map V.int).length:Int)=0
 .exact itT hz (by apply lz (by assumption) ?_;trivial;intros;show leaf)
 apply itF hz ?_;obtain⟨e,rfl⟩:∃e,dd=e+1:=(dd-1,by omega);by_cases hk4:4<c%7
 .refine itT hk4 (_,.inl<|.of cc,?_);by_cases J:1<tl.length
  .exact itT (by rw[y00];omega) (by apply lz (by assumption) ?_;trivial;intros;show leaf)
  apply itF (by rw[y00];omega) ?_;infer_instance;apply itF 00 ?_;infer_instance;apply mkT λp4 H4 L=>(tl,.of<|L.g _ _ cc,[],.of L.at',?_);rw[Xf Y];apply iteT<|itF 00 ?_;infer_instance;rw[ed e R,show e+1-1=e from rfl];show(qn43 (L.g _ _ fj) aw (L.g _ _ cc) ng ap 00 λv s ay H5 g5 e5 f6 r5 d5 t5=>q v s ay H5 (u.trans<|(Same.b L.g l).trans g5) e5 f6 r5 d5 t5:Qn43 K (c/7) l b e Q H4)
 apply itF hk4 ?_;infer_instance;rw[ed e R,show e+1-1=e from rfl];by_cases dg:c%7=2
 .refine itT dg (by omega,l,b,au,tl,R,fj,aw,cc,cn,ng,ap,az,λv sy ay H6 g6 e6 bz r6 d6 t6=>mkT λp7 H7 a=>?_);show q _ _ ay H7 (u.trans<|g6.trans (Same.b a.g l)) (a.g _ _ e6) bz (.neg a.at'<|r6.same a.g) (.neg d6) t6
 apply itF dg ?_;infer_instance;apply mkT λp4 H4 L=>(tl,.of<|L.g _ _ cc,[],.of L.at',?_);rw[Xf Y];let mj:=L.g _ _ cc;let M:SameB l H H4:=u.trans<|Same.b L.g l;apply iteT<|itT 00 ?_;infer_instance;rw[ed e rfl];apply(by omega,l,b,au,tl,R,L.g _ _ fj,aw,mj,cn,ng,ap,az,λv sy ay H6 g6 e6 bz r6 d6 t6=>mkT λp7 H7 a=>(_,.of a.at',?_));obtain⟨wd,hw,ew⟩:∃wd:Str,(wd="and"\/wd="or")/\atI [V.str<|Str.ofString "and",V.str<|Str.ofString "or"] (c%7-3)=G (.str wd):=by
  rcases(show c%7-3=0\/c%7-3=1 by omega)with D|D<;>rw[D]
  .exact(_,.inl R,zay)
  .exact(_,.inr R,zaj (j:=1) R)
 let eb7:=a.g _ _<|g6 _ _ (Ne.symm cn) mj;apply(_,ew,by omega,l,b,ay,tl,R,a.g _ _ e6,bz,eb7,cn,ng,ap,az,λv8 sy8 ns8 H8 g8 e8 hl8 r8 d8 t8=>mkT λp9 H9 n9=>?_);let rt:TupS H6 H9:=λb' y D=>n9.g _ _<|g8 _ _ (λz=>by rw[z,e6]at D;cases D) (a.g _ _ D);apply q _ _ ns8 H9 (M.trans<|g6.trans ((Same.b a.g l).trans<|g8.trans (Same.b n9.g l))) (n9.g _ _ e8) hl8 (.two (by rcases hw with rfl|rfl<;>decide) n9.at' (zkd r6 rt)<|r8.same n9.g) (.two hw d6 d8) ?_;change tsets sy+tsets sy8=0;rw[t6,t8]
theorem zlf(T:Txt K mg w tw ow fa Qa Qb)(d:Dfn K mg "_law_steep" Vt ["_law_left","_law_names","_law_deep"])(a:04 1 "_law_new" ["_law_number","_law_names"] zcv):∀dd,04 (1+dd+1) "_law_steep" ["_law_left","_law_names","_law_deep"] (zch dd)
 |0=>zn1 T d a<|(d.never λvs H Q E h=>Xa h.1<|y1n _).mono 00
 |dd+1=>by
  let C:=zlf T d a dd;apply zn1 T d a ?_;let e:(λ(vs:List V) H Q E=>0<dd+1/\zch (dd+1-1) vs H Q E)=zch dd:=by
   funext vs H Q E;show propext (λh=>h.2,λh=>(y42 _,h))
  rw[e,show 1+(dd+1)=1+dd+1 by omega];show C
abbrev T8:Stmt:=top 68
theorem Kq:FnScope ["_law_number","_law_names","_law_places","_law_some","_law_name_here","_law_other"] ["_law_number","_law_names"] (defScope T8):={}
include T in
theorem zrw(d:Dfn K mg "_law_bare" T8 ["_law_number","_law_names"]):04 1 "_law_bare" ["_law_number","_law_names"] zc9:=by
 apply d.cal Kq 21 22
 .nofun
 let(n,b,tl,rfl,eb,ng,hl,q):=h;let g:=zex hr 8 02;apply(_,(zab (ze7 (i:=2) Kq.nd R 17 ["_law_name_here"] [] 014 01 (za8 K<|pv 1) (λ_ _ _ _ _=>(zaw (i:=0) (show List.Nodup (["_law_name_here"]:List Str) by decide+kernel) 01 86)) (λ_ _ _ _ _=>(zgs<|zi5 zdi zdi zal (zam zfq (pv 0) zac λ_ _=>rfl) zal)) λ_ _ _ _ _=>(pv 0))<|zab (zar (i:=3) Kq.nd R 17<|zax zaa) (zab (zdf PassesOwn.never R (za8 K<|pv 1) (zaw (i:=4) Kq.nd 01 86)<|zad (zdf PassesOwn.never R (za8 K<|pv 1) (zaw (i:=5) Kq.nd 01 86)<|zad (zaz (PW.pt<|zc5 (zaf (zbl K) (pv 4) (pv 2)<|by with_unfolding_all rfl) (zb4<|zaf (zbl K) (pv 5) (pv 2) (by with_unfolding_all rfl))) (zab (zar (i:=3) Kq.nd R 17<|zav zed (pv 3) (zax<|pa_c (zaq<|pa_c zal (pa_c (pv 4)<|pa_c (pv 5) zaa)) (pa_c (zaq<|pa_c zal (pa_c (pv 4)<|pa_c (pv 5) zaa))<|pa_c (zaq<|pa_c zal (pa_c (pv 4)<|pa_c (pv 5) zaa)) zaa))) 105)<|zad (zaz (zaf (zbl K) (pv 4) (pv 2)<|by with_unfolding_all rfl) 105<|zad (zaz (zaf (zer K) (pv 5) (pv 2)<|by with_unfolding_all rfl) 105 zak)))))<|zab (zaz (zaf (znx g) (pv 3) (zax zaa) 08) (zad<|zai (zaq<|pa_c zal (pa_c zal<|pa_c (zaq<|pa_c zal 053) zaa))) zak) (zad<|zai (zam 93 (pv 3) (zav zbe (pv 0) 089) λ_ _=>rfl)))),?_);apply za1 [G<|.int n,G 94,B,B,B,B] R ?_;trivial;let aw:(018).length<=1000:=by rw[y00];omega
 apply((_,.of eb),zm3 (K:=K) (a:=b) (xs:=tl.map V.str) (λU=>∃v,U=[v]) (λv=>match v with|.str z=>isP z|_=>Fa) id aw (.of eb) (_,R) ?_ ?_)
 .rintro D i U H1 x hi hm O gg u a7 ⟨v,rfl⟩;let(z,mz,rfl):=y0g.mp hm;trivial;apply atom λzG zk=>?_;let(d0,ds,ed,fc,gk):=zjd (ng z mz).1;apply zk ?_;apply(zah (by have:=ng.len z mz;omega),d0,by rw[ed];show zay,?_);cases l:isP z with
  |true =>
   let(k1,k2):=fc l;rw[k1,k2];show iteT<|iteT (zg5 aw O l u a7 gg (_,R) R)
  |false =>
   rw[gk l];show iteF<|zg6 O l a7 gg (_,R)
 intro D H1 u g1 eD;let e1:((018).filter λv=>match v with|.str z=>isP z|_=>Fa).map id=(tl.filter isP).map V.str:=by
  rw[y48,y3n];rfl
 rw[e1]at eD;let nu:∀z∈tl,inV (.str z) ((tl.filter isP).map V.str)=isP z:=λz hz=>by
  rw[zcj];cases l:isP z with
  |true=>show Xg<|y1a.mpr (hz,l)
  |false=>show Xf λh=>by rw[(y1a.mp h).2]at l;cases l
 let aj:=g1 _ _ eb;apply mkT λp H2 n2=>((_,.of<|n2.g _ _ aj),?_);apply zfe (K:=K) (a:=b) (xs:=tl.map V.str) (λi U H'=>∃(p3:Ad) (v4 v5:Option V),U=[G<|.int n,G 94,G 95,G<|.ref p3,v4,v5]/\Lst51 H1 tl p3 (12*i) (0<i) H') (p,B,B,R,n2.g,n2.nil,[],n2.at',y05 _,(λy I=>nomatch I),(λz=>Xa z 02)) (λi U H' _ z=>by let(p3,v4,v5,_,L):=z;show .of<|L.1 _ _ aj) ?_ ?_
 .rintro i x U H3 O ⟨p3,v4,v5,rfl,L⟩;let(x,mx,rfl):=y0g.mp<|y0d O;let hi:i<tl.length:=by have:=(y09.mp O).1;rwa[y00]at this
  trivial;apply((_,.of<|L.1 _ _ aj),zfe (K:=K) (a:=b) (xs:=tl.map V.str) (λj U H'=>∃(p3:Ad) (v5:Option V),U=[G<|.int n,G 94,G 95,G<|.ref p3,G<|.str x,v5]/\Lst51 H1 tl p3 (12*i+4*j) (0<i\/0<j) H') (p3,v5,R,L.le 00 λz=>by omega) (λi U H' _ z=>by let(p3,v5,_,L):=z;show .of<|L.1 _ _ aj) ?_ ?_)
  .rintro j y U H4 I ⟨p3,v5,rfl,L4⟩;let(y,my,rfl):=y0g.mp<|y0d I;let hj:j<tl.length:=by have:=(y09.mp I).1;rwa[y00]at this
   trivial;let nj:=L4.1 _ _ eD;let fl:=zbu<|tl.filter isP;let hnx:=(ng x mx).1;let hny:=(ng y my).1;let w3:∀wd:Str,wd∈(["same","left","right","above"]:List Str)->isP x=N->isP y=N->BO tl (.bare wd x y):=λwd C M J=>by
    let c:wd∈treeW/\wd≠"in"/\wd≠"within":=by
     simp only[y06,y0l,or_false]at C;rcases C with rfl|rfl|rfl|rfl<;>decide
    apply bo_mk c.1 mx my ?_;simp only[wfB];rw[Xp c.2.1,Xp c.2.2,show isPl x=N from M,show isPl y=N from J];rfl
   let one:∀(wd:Str),wd∈treeW->wfB (.bare wd x y)=N->((∃xs,SqL K H4 p3 xs)\/("list"="tuple"/\∃o,List.lookup p3 K=G o/\o.cls=Va.type "tuple"/\o.dict=B)\/"list"="dict"/\((∃kvs,H4 p3=G (HO.dK kvs))\/∃kvs,H4 p3=G (HO.dT kvs))\/"list"="set"/\∃S n,H4 p3=G (HO.set S n))/\[V.str wd,V.str x,V.str y].length<=ij/\∀(p:Ad) (H':Hp),New H4 p (HO.tup [V.str wd,V.str x,V.str y]) H'->∃x_1,H' p3=G (HO.lst x_1)/\x_1.length<ij/\Lst51 H1 tl p3 (12*i+4*(j+1)) (0<i\/0<j+1) (upd H' p3<|HO.lst (x_1++[V.ref p])):=λwd C wf=>by
    obtain⟨ys4,e4⟩:∃ys4,H4 p3=G (.lst ys4):=let(_,_,ys,e,_):=L4;(ys,e);apply(.inl (_,.of e4),mkT λpt H5 n5=>?_);apply atom λzG zk=>?_;let(zs,ez,hz,L5):=L4.app n5.g (.bare (zo0 C) n5.at')<|bo_mk C mx my wf;apply zk ?_;show(zs,ez,small1000 00,L5.le 00 λ_=>trivial)
   apply(_,.inl<|.of nj,R,fl,?_);rw[nu x mx];cases dq:isP x with
   |true =>
    apply iteT (_,.inl<|.of nj,R,fl,?_);rw[nu y my];cases dr:isP y with
    |true =>
     apply iteT<|mkT λp5 H5 n5=>mkT λp6 H6 n6=>mkT λp7 H7 n7=>mkT λp8 H8 n8=>?_;apply atom λzG zk=>?_;let g8:=n5.g.trans<|n6.g.trans (n7.g.trans n8.g);obtain⟨zs,ez,hz,L9⟩:∃ys,H8 p3=G (.lst ys)/\ys.length<=12*i+4*j/\∀p H'',New H8 p (.lst<|ys++[V.ref p5,V.ref p6,V.ref p7]) H''->Lst51 H1 tl p (12*i+4*j+3) True H'':=by
      let g:∀y'∈[V.ref p5,V.ref p6,V.ref p7],∃s,Rep H8 y' s/\BO tl s:=by
       intro y' hy';simp only[y06,y0l,or_false]at hy';rcases hy' with rfl|rfl|rfl
       .exact(_,.bare 02<|(n6.g.trans<|n7.g.trans n8.g) _ _ n5.at',w3 _ 02 dq dr)
       .exact(_,.bare 02<|(n7.g.trans n8.g) _ _ n6.at',w3 _ 02 dq dr)
       .exact(_,.bare 02<|n8.g _ _ n7.at',w3 _ 02 dq dr)
      let(zs,ez,hz,_):=L4.cat (p:=p3) g8 g rfl;apply(zs,ez,hz,λp H'' nn=>?_);let(zs',ez',_,h):=L4.cat (p:=p) g8 g rfl;rw[ez]at ez';cases ez';show h H'' nn
     apply zk ?_;apply(zs,ez,_,n8.at',zah (show zs.length+3<=1000 by omega),λp9 H9 n9=>(.inl (_,.of n9.at'),mkT λpA HA nA=>?_));apply atom λzG zk=>?_;let(us,eu,g,LA):=(L9 p9 H9 n9).app nA.g (.bare 02 nA.at')<|w3 "above" 02 dq dr;apply zk ?_;show(us,eu,small1000 00,LA.le 00 λ_=>trivial)
    |false =>
     apply iteF (_,.inl<|.of nj,R,fl,?_);rw[nu x mx,dq];apply iteT<|one "in" 02 ?_;simp only[wfB];rw[Xq trivial,show isPl x=N from dq,zrz hny dr];rfl
   |false =>
    apply iteF (_,.inl<|.of nj,R,fl,?_);rw[nu x mx,dq];apply iteF (_,.inl<|.of nj,R,fl,?_);rw[nu y my];cases dr:isP y with
    |true =>
     apply iteF<|L4.le 00 λ_=>?_;by_cases Y:0<i\/0<j
     .exact Y
     .let e1:i=0:=by omega
      let e2:j=0:=by omega
      subst e1 e2;rw[O]at I;cases I;rw[dq]at dr;cases dr
    |false =>
     apply iteT<|one "within" 02 ?_;simp only[wfB];rw[Xp 02,Xq trivial,zrz hnx dq,zrz hny dr];rfl
  .rintro U H4 ⟨p3,v5,rfl,L4⟩;show(p3,_,_,R,L4.le (by rw[y00];omega) λ_=>by rw[y00];omega)
 .rintro U H3 ⟨p3,v4,v5,rfl,g3,h3,ys,r,bd,hr3,ai⟩;trivial;rw[y00]at bd ai;apply mkT λp6 H6 n6=>(_,(zns (k:=0) (.of<|n6.g _ _ r) n6.lst).up 02,?_);let g6:=(g1.trans g3).trans n6.g;cases ys with
  |nil =>
   apply iteT<|mkT λp7 H7 n7=>mkT λp8 H8 n8=>?_;let Y:tl=[]:=by
    cases tl with
    |nil=>rfl
    |cons z zs=>show Xa R<|ai 06
   show q _ _ H8 (g6.trans<|n7.g.trans n8.g) (.qu 02 n8.at'<|.bare 02 (n8.g _ _ n7.at'))<|.inl (Y,R)
  |cons y0 ys =>
   apply atom λzG zk=>?_;let(v,ev,mv):=zfi (i:=n) (xs:=y0::ys) R 06;let(s',r',wd,a1,a2,rfl,k1,k2,k3,k4):=hr3 v mv;apply zk ?_;show iteF (_,.inl<|.of (n6.g _ _ r),by simp only[y0b];omega,_,.of<|n6.g _ _ r,_,ev,q _ _ H6 g6 (r'.same n6.g)<|.inr (wd,a1,a2,R,k1,k2,k3,k4))
theorem zmp:∀S∈(["abcdefgh","ABCDEFGH"]:List Str),S.cps.toList.length=8/\∀d∈S.cps.toList,(d∈SMALL.cps.toList\/d∈GREAT.cps.toList)/\d≠113/\d≠81/\(S="abcdefgh"->d∈SMALL.cps.toList):=by decide+kernel
theorem ztr:∀z∈bad4,z.cps.toList.head?=G 113\/z.cps.toList.head?=G 81:=by decide+kernel
theorem five51:∀t∈(["","1","12","5","305"]:List Str),t.cps.toList.length<=3/\∀x∈t.cps.toList,x∈FIGS.cps.toList:=by decide+kernel
abbrev Ph:Stmt:=top 69
theorem V5:FnScope ["_law_number","_law_names","_law_letter","_law_some","_law_free"] ["_law_number","_law_names"] (defScope Ph):={}
include T in
theorem zvf(d:Dfn K mg "_law_new" Ph ["_law_number","_law_names"]):04 1 "_law_new" ["_law_number","_law_names"] zcv:=by
 apply d.cal V5 21 22
 .nofun
 let(n,b,tl,rfl,eb,hl,q):=h;apply(_,(zab (zar (i:=2) V5.nd R (Or.inr R)<|zam zfq (zam 93 (zax 053) (zav zbe (pv 0) zac) λ_ _=>rfl) (zav zbe (zav zbt (pv 0) zac) zac) (λ_ _=>rfl))<|zab (ze7 (i:=3) V5.nd R 17 ["_law_tail"] [(2,"_law_letter")] 014 01 (za8 K<|zax (pa_c zal<|pa_c zal (pa_c zal 053))) (λ_ _ _ _ _=>(zaw (i:=0) (show List.Nodup (["_law_tail","_law_letter"]:List Str) by decide+kernel) 01 86)) (λ_ _ _ _ _=>zbs) λ_ _ _ _ _=>(zav zh1 (pv 1)<|pv 0)) (zab (ze7 (i:=4) V5.nd R 17 ["_law_name_here"] [(1,"_law_names")] 014 01 (za8 K<|pv 3) (λ_ _ _ _ _=>(zaw (i:=0) (show List.Nodup (["_law_name_here","_law_names"]:List Str) by decide+kernel) 01 86)) (λ_ _ _ _ _=>(zgs<|zaf (zer K) (pv 0) (pv 1) (by with_unfolding_all rfl))) λ_ _ _ _ _=>(pv 0))<|zad (zai<|zam 93 (pv 4) (zav zbe (zav zbt (pv 0) zac)<|za2 (zas K) 01 T.b_len ir (pa_c (pv 4) zaa)) (λ_ _=>rfl)))),?_);apply za1 [G<|.int n,G 94,B,B,B] R ?_;trivial;apply mkT λp0 H1 n1=>?_;apply atom λzG zk=>?_;let j0:=y1c n (show(2:Int)≠0 by decide);let j1:=y10 n (show(0:Int)<2 by decide);obtain⟨S,I,eS,ev⟩:∃S:Str,S∈(["abcdefgh","ABCDEFGH"]:List Str)/\atI [V.str<|Str.ofString "abcdefgh",V.str<|Str.ofString "ABCDEFGH"] (n%2)=G (.str S)/\(n%2=0->S="abcdefgh"):=by
  let hj:n%2=0\/n%2=1:=by omega
  rcases hj with e|e<;>rw[e]
  .exact(_,y04,zay,λ_=>rfl)
  .exact(_,y08 _ y04,zaj (j:=1) R,λz=>(by cases z))
 let(h8,g):=zmp S I;let(d0,ed0,md0):=zfi (i:=n/2) (xs:=S.cps.toList) (n:=8) h8 02;let(r,hd2,hd3,hd4):=g d0 md0;let five:([V.str<|Str.ofString "",V.str<|Str.ofString "1",V.str<|Str.ofString "12",V.str<|Str.ofString "5",V.str<|Str.ofString "305"]:List V)=(067).map V.str:=rfl;let lenL:(Str.length ⟨#[d0]⟩)=1:=rfl;apply zk ?_;apply(by decide,_,.of n1.at',_,eS,(by decide,by decide),by decide,zah (by rw[SM.len_list,h8];decide),d0,ed0,mkT λp H2 n2=>?_);let L:=n2.at';rw[five]at L;apply((_,.of L),zeg (K:=K) (a:=p) (xs:=(067).map V.str) (λU=>∃v,U=[v,G<|.str ⟨#[d0]⟩]) (λv=>match v with|.str t=>.str (⟨#[d0]⟩++t)|_=>.non) 06 (.of L) (_,R) ?_ ?_)
 .rintro D i U H3 x hi l O gg u J ⟨v,rfl⟩;let(t,mt,rfl):=y0g.mp l;let ht:=(five51 t mt).1;rw[←SM.len_list]at ht;trivial;show(zah 00,zc3 06 O u J gg (_,R) R)
 intro D H3 u g3 c;let ez:(((067).map V.str).map λv=>match v with|.str t=>.str (⟨#[d0]⟩++t)|_=>.non)=((067).map λt=>(⟨#[d0]⟩:Str)++t).map V.str:=by
  rw[y0w,y0w];rfl
 rw[ez]at c;let nd:((067).map λt=>(⟨#[d0]⟩:Str)++t).Nodup:=by
  apply List.Pairwise.map _ (λa b (h:a≠b) z=>h ?_) (show(067).Nodup by decide+kernel);let:(((⟨#[d0]⟩:Str)++a).cps.toList)=((⟨#[d0]⟩:Str)++b).cps.toList:=by rw[z]
  rw[zgb,zgb]at this;show ch_inj<|y4e this
 let ok:∀z∈((["","1","12","5","305"]:List Str).map λt=>(⟨#[d0]⟩:Str)++t),NmOk z/\z∉bad4/\(n%2=0->isP z=N):=λz hz=>by
  apply atom λzG zk=>?_;let(t,mt,rfl):=y0g.mp hz;let(t1,C):=five51 t mt;let e:((⟨#[d0]⟩:Str)++t).cps.toList=d0::t.cps.toList:=by rw[zgb];rfl
  apply zk ?_;apply(?_,λY=>?_,λhv=>zgw zew<|zh6 e (hd4<|ev hv) t1 C)
  .rcases r with h|h
   .exact .inl<|zh6 e h t1 C
   .exact .inr<|zh6 e h t1 C
  .let:=ztr _ Y;rw[e,List.head?_cons]at this;rcases this with h|h
   .exact hd2<|Option.some.inj h
   .exact hd3<|Option.some.inj h
 let h5:(((067).map λt=>(⟨#[d0]⟩:Str)++t)).length=5:=rfl;generalize((067).map λt=>(⟨#[d0]⟩:Str)++t)=zs at *;let dk:Same H H3:=n1.g.trans<|n2.g.trans g3;apply((_,.of c),zm3 (K:=K) (a:=D) (xs:=zs.map V.str) (λU=>∃v,U=[v,G 94]) (λy=>!inV y 018) id (by rw[y00];omega) (.of c) (_,R) ?_ ?_)
 .rintro D2 i U H4 x hi l O g' gz ox ⟨v,rfl⟩;let fx:flatV x=N:=by
   let(z,_,rfl):=y0g.mp l;rfl
  trivial;apply(_,.inl<|.of (g' _ _<|dk _ _ eb),fx,zbu tl,?_);cases ht:inV x (tl.map V.str)with
  |true=>show iteF<|zg6 O (by rw[ht];rfl) ox g' (_,R)
  |false=>show iteT<|zg5 (by rw[y00];omega) O (by rw[ht];rfl) gz ox g' (_,R) R
 .intro D2 H4 gz g4 eD2;rw[y48]at eD2;apply atom λzG zk=>?_;let ne:(zs.map V.str).filter (λy=>!inV y 018)≠[]:=λz=>by
   let(y,my,o):=zva (tl:=tl) 00 nd 00;let:=y4j.mp z (.str y)<|List.mem_map_of_mem my;rw[zcj,Xf o]at this;show Xa R this
  let hpos:=y3u.mpr ne;let(w0,M,m0):=zfi (i:=n/16) (xs:=(zs.map V.str).filter λy=>!inV y 018) R hpos;let(m1,m2):=y1a.mp m0;let(z,mz,rfl):=y0g.mp m1;apply zk ?_;apply((by decide,by decide),_,.inl<|.of eD2,by omega,_,.of eD2,_,M,q z H4 (dk.trans g4) (ok z mz).1 (ok z mz).2.2 (ok z mz).2.1 λh=>?_);rw[zcj,Xg h]at m2;cases m2
theorem zow:∀a:Fin 26,SMALL.cps.toList[a.val]?=G (97+a.val)/\Txt.upper ⟨#[97+a.val]⟩=⟨#[65+a.val]⟩:=by decide+kernel
abbrev T9:Stmt:=top 63
theorem Vv:FnScope ["_law_kind","_law_number","_law_place","_law_letters","_law_sign"] ["_law_kind","_law_number","_law_place"] (defScope T9):={}
include T in
theorem zyv(d:Dfn K mg "_law_name" T9 ["_law_kind","_law_number","_law_place"]):04 1 "_law_name" ["_law_kind","_law_number","_law_place"] zlo:=by
 apply d.cal Vv 21 22
 .nofun
 let(k,n,p,rfl,c,J,q):=h;let v:=y1c (n+7*p) (show(26:Int)≠0 by decide);let I:=y10 (n+7*p) (show(0:Int)<26 by decide);obtain⟨a,r⟩:∃a:Nat,(n+7*p)%26=(a:Int):=(((n+7*p)%26).toNat,by omega);let(o,L):=zow (a,by omega);apply(_,(zab (zar (i:=3) Vv.nd R 17 zal)<|zab (zar (i:=4) Vv.nd R 17<|zam zfq (pv 3) (zav zbe (zav zes (pv 1)<|zav zkl zac (pv 2)) zac) (λ_ _=>rfl)) (zde (zaz (zaf za6 (pv 0) zac 08) (zad<|zar (i:=4) Vv.nd R 17 (zi8 K PySem.F.plainAttrs_str PySem.F.slot_str_upper PySem.F.type_str_upper zvt<|pv 4)) zak)<|zad (zai<|zav zh1 (pv 4) (zam 93 (zax<|pa_c zal (pa_c zal<|pa_c zal 053)) (zav zbe (zav zbt (pv 1) zac) zac) λ_ _=>rfl)))),?_);apply za1 [G<|.int k,G<|.int n,G<|.int p,B,B] R ?_;trivial;apply(.inl (by decide,by decide),by decide,zah 43,97+a,by rw[r];show zaj o,?_);apply(λU H'=>Same H H'/\∃big:Bool,U=[G<|.int k,G<|.int n,G<|.int p,G<|.str SMALL,G<|.str ⟨#[if big=N then 65+a else 97+a]⟩],?_,?_)
 .trivial;apply ite2 (λ_=>?_) λ_=>?_
  .exact(by rw[show Txt.upper ⟨#[97+a]⟩=⟨#[65+a]⟩from L];rfl,Same.refl _,R,N,L)
  .exact(Same.refl _,R,Fa,R)
 .rintro U H' ⟨g,big,rfl⟩;trivial;apply mkT λpl H1 n1=>((by decide,by decide),by decide,_,.of n1.at',?_);let l:=y1c (n/26) (show(5:Int)≠0 by decide);let j1:=y10 (n/26) (show(0:Int)<5 by decide);let fin:∀(z:Str),z.length<=3->z.cps.toList∈tails51->(Str.length ⟨#[if big=N then 65+a else 97+a]⟩)+z.length<=ij/\Q (.str<|⟨#[if big=N then 65+a else 97+a]⟩++z) H1:=λz hz C=>by
   let e1:(Str.length ⟨#[if big=N then 65+a else 97+a]⟩)=1:=rfl;show(zah 00,q _ H1 (a,z.cps.toList,big,r.symm,C,by rw[zgb];rfl)<|g.trans n1.g)
  let u:n/26%5=0\/n/26%5=1\/n/26%5=2\/n/26%5=3\/n/26%5=4:=by omega
  rcases u with e|e|e|e|e<;>rw[e]
  .exact(_,zay,_,R,fin _ 43 43)
  .exact(_,zaj (j:=1) R,_,R,fin _ 43 43)
  .exact(_,zaj (j:=2) R,_,R,fin _ 43 43)
  .exact(_,zaj (j:=3) R,_,R,fin _ 43 43)
  .exact(_,zaj (j:=4) R,_,R,fin _ 43 43)
abbrev To:Stmt:=top 64
theorem V7:FnScope ["_law_number","_law_many","_law_frame_here","_law_k"] ["_law_number","_law_many"] (defScope To):={}
include T in
theorem zy8(d:Dfn K mg "_law_frame" To ["_law_number","_law_many"])(e:04 1 "_law_name" ["_law_kind","_law_number","_law_place"] zlo):04 2 "_law_frame" ["_law_number","_law_many"] zlx:=by
 apply d.cal V7 21 22
 .nofun
 let(n,c,rfl,l,q):=h;apply(_,(zab (zar (i:=2) V7.nd R 17<|zax zaa)<|zab (zdf PassesOwn.never R (zdh 01 T.b_range 016) (zaw (i:=3) V7.nd 01 86)<|zad (zbf<|zb7 K PySem.F.plainAttrs_list PySem.F.slot_list_append PySem.F.type_list_append zbc (pv 2) (pa_c (zae e hr 00 01<|pa_c (zav zbe (zav zbt (pv 0)<|zav zes zac (pv 3)) zac) (pa_c (zav zbt (pv 0) zac) 039)) zaa))) (zad<|zai (pv 2))),?_);apply za1 [G<|.int n,G<|nV c,B,B] R ?_;trivial;apply(by decide,λp H1 n1=>(by omega,by omega,?_));rw[show((c:Nat):Int).toNat=c from rfl];apply zjk (λi U H'=>Same H H'/\(∃a,U=[G<|.int n,G<|nV c,G 91,a])/\∃names:List Str,H' p=G (.lst<|names.map V.str)/\names.length=i/\∀(j:Nat) z,names[j]?=G z->Nm51 (n/3) (j:Int) z) (n1.g,(_,R),[],n1.at',R,λj z h=>by simp at h) ?_ ?_
 .rintro i U H' hi ⟨g,⟨a,rfl⟩,names,ep,r,o⟩;trivial;apply(.inl (_,.of ep),(by omega,by omega),by decide,(by decide,by decide),_,_,_,R,by omega,by omega,λz H1 hz g1=>(_,g1 _ _ ep,by rw[y00];show small1000 00,(g.trans g1).wr n1.nil _,names++[z],by rw[zao,y0t];rfl,by rw[y02,y0i,r],λj y I=>?_));by_cases u:j<names.length
  .rw[y0q u]at I;show o j y I
  .rw[y0n 00]at I;let Y:j-names.length=0:=by
    let:=(y09.mp I).1;simp at this;omega
   rw[Y]at I;cases I;obtain rfl:j=i:=by omega
   rw[y3o]at hz;show hz
 .rintro U H' ⟨g,⟨a,rfl⟩,names,ep,r,o⟩;trivial;apply q p names H' n1.nil g ep (λz hz=>?_) (nodup51 00 o) r;let(j,u):=List.getElem?_of_mem hz;show nm51_ok<|o j z u
abbrev Tz:Stmt:=top 35
theorem zl6:FnScope ["thing"] ["thing"] (defScope Tz):={}
include T in
theorem zrn(d:Dfn K mg "is_whole" Tz ["thing"]):04 1 "is_whole" ["thing"] zj3:=by
 apply d.cal zl6 21 22
 .nofun
 let(v,rfl,h):=h;apply(_,(zad<|zai (zce (za2 zbh 01 T.b_isinstance iB<|pa_c (pv 0) (pa_c (zcd (v:=.ty "int") 01 T.b_int boot_int 01) zaa))<|zby (zrb<|za2 zbh 01 T.b_isinstance iB (pa_c (pv 0) 121)))),?_);apply za1 [G v] R ?_;trivial;rcases h with⟨r,rfl,q⟩|⟨k,kd,a,q⟩
 .exact(_,.int r,by decide,iteT (_,.int r,by decide,q))
 .refine(_,kd,by decide,?_);cases kd with
  |bl b=>show iteT (_,.bl b,by decide,q)
  |int=>show Xa R a
  |_=>show iteF q
abbrev T5:Stmt:=top 36
theorem zl9:FnScope ["thing","bound"] ["thing","bound"] (defScope T5):={}
include T in
theorem zrv(d:Dfn K mg "is_below" T5 ["thing","bound"])(c:04 1 "is_whole" ["thing"] zj3):04 2 "is_below" ["thing","bound"] zgj:=by
 apply d.cal zl9 21 22
 .nofun
 let(v,n,rfl,h):=h;apply(_,(zad<|zai (zce (zae c hr 00 01 013)<|zby (znw op_le zmk zac (pv 0)<|pv 1))),?_);apply za1 [G v,G<|.int n] R ?_;trivial;rcases h with⟨r,rfl,Y,M,q⟩|⟨⟨r,rfl,o⟩|⟨k,kd,a⟩,q⟩
 .refine(_,R,.inl (r,R,_,R,iteT ?_));apply itT Y ?_;trivial;rw[Xg M];show q
 .refine(_,R,.inl (r,R,_,R,iteT ?_));by_cases Y:0<=r
  .refine itT Y ?_;trivial;rw[Xf λM=>o (Y,M)];show q
  .exact itF Y q
 .exact(_,R,.inr (k,kd,a,_,R,iteF q))
abbrev Tm:Stmt:=top 38
theorem zka:FnScope ["thing","tracks"] ["thing","tracks"] (defScope Tm):={}
include T in
theorem zmm(d:Dfn K mg "is_letter" Tm ["thing","tracks"])(a:04 2 "is_below" ["thing","bound"] zgj):04 3 "is_letter" ["thing","tracks"] zd8:=by
 apply d.cal zka 21 22
 .nofun
 let(r,k,rfl,C,q):=h;let i:(1:Int)*2^((k:Nat):Int).toNat=2^k:=by rw[y49,y0y]
 apply(_,(zad<|zai (zae a hr 00 01<|pa_c (pv 0) (pa_c (zav zki zac<|pv 1) zaa))),?_);apply za1 [G<|.int r,G<|nV k] R ?_;trivial;apply((by omega,by omega,by decide),_,_,R,?_);rw[i];by_cases h:0<=r/\r<2^k
 .rw[Xg h]at q;show .inl (r,R,h.1,h.2,q)
 .rw[Xf h]at q;show .inr (.inl (r,R,h),q)
abbrev V8:Stmt:=top 39
theorem zi1:FnScope ["letters","track"] ["letters","track"] (defScope V8):={}
include T in
theorem zru(d:Dfn K mg "count_with" V8 ["letters","track"]):04 1 "count_with" ["letters","track"] zgi:=by
 apply d.cal zi1 21 22
 .nofun
 let(e,row,k,rfl,c,g,j,C,q):=h;apply(_,(zad<|zai (za2 (zc4 K R) 01 T.b_sum boot_sum<|pa_c (za9 ["letter"] [(1,"track")] 014 01 (za8 K<|pv 0) (λ_ _ _ _ _=>(zaw (i:=0) (show List.Nodup (["letter","track"]:List Str) by decide+kernel) 01 86)) (λ_ _ _ _ _=>zbs) λ_ _ _ _ _=>(zav zny (zav zwz (pv 0)<|pv 1) zac)) zaa)),?_);apply za1 [G<|.ref e,G<|nV k] R ?_;trivial;apply((_,.of c),zeg (K:=K) (a:=e) (xs:=row.map nV) (λU=>∃v,U=[v,G<|nV k]) (λv=>match v with|.int i=>.int (Builtin.bitAnd (i/2^k) 1)|_=>.non) (by rw[y00];omega) (.of c) (_,R) ?_ ?_)
 .rintro o i U H3 x hi D O p y r ⟨v,rfl⟩;let(z,L,rfl):=y0g.mp D;trivial;show(by omega,zc3 (by rw[y00];omega) O y r p (_,R)<|by rw[y0y])
 intro o H3 y u J;let I:H3 o=G (.lst<|(row.map λ(l:Nat)=>Builtin.bitAnd ((l:Int)/2^k) 1).map V.int):=by rw[J,y0w,y0w];rfl
 apply(o,R,_,.of I,?_);rw[zxm k C row j];show q H3 u
abbrev K6:Stmt:=top 40
theorem zeo:FnScope ["frame","letters"] ["frame","letters"] (defScope K6):={}
include T in
theorem zyt(d:Dfn K mg "each_place_once" K6 ["frame","letters"])(Q7:04 2 "is_place" ["thing"]<|zhd SMALL)(Qao:04 1 "count_with" ["letters","track"] zgi):04 3 "each_place_once" ["frame","letters"] zlm:=by
 apply d.cal zeo 21 22
 .nofun
 let(fa,ra,names,row,rfl,ef,fo,c,h200,j,q):=h;let C:=fo.1;apply(_,(zad<|zai (za2 (zbx K R) 01 T.b_all jm<|pa_c (za9 ["track","name"] [(1,"letters")] 014 01 (zuv K 01 T.b_enumerate 013) (λ_ _ _ _ _=>(zmh K (n:=2) R<|zcz (zaw (i:=0) (show List.Nodup (["track","name","letters"]:List Str) by decide+kernel) 01 86) (zcz (zaw (i:=1) (show List.Nodup (["track","name","letters"]:List Str) by decide+kernel) 01 86) zmg))) (λ_ _ _ _ _=>(zgs<|zbd (zae Q7 hr 00 01 016))) λ_ _ _ _ _=>(za5 op_eq (zae Qao hr 00 01<|pa_c (pv 2) 013) zac 08)) zaa)),?_);apply za1 [G<|.ref fa,G<|.ref ra] R ?_;trivial;apply((_,.of ef),?_);apply cef_map (K:=K) (a:=fa) (xs:=names.map V.str) (λU=>∃v v',U=[v,v',G<|.ref ra]) (λk=>isP<|names.getD k (Str.ofString "")) (λk=>.bl<|cw row k==1) (by rw[y00];omega) (.of ef) (_,_,R) ?_ ?_
 .rintro D3 i U H3 x pt H4 O p y r ⟨v,v',rfl⟩ L;rw[y0r]at O;let(z,o,rfl):=y18.mp O;let hi:=(y09.mp o).1;let hz:names.getD i (Str.ofString "")=z:=by rw[y0j,o];rfl
  trivial;apply(_,.of L.at',R,_,_,R,_,_,R,R,.str z,_,R,.str z,(λz' l=>by injection l with l;subst l;show zvr<|fo.2 z (y0d o)),λH5 Y=>?_);let D:isNm (.str z) SMALL=isP (names.getD i<|Str.ofString ""):=by rw[hz];rfl
  trivial;rw[D];cases M:isP (names.getD i<|Str.ofString "")with
  |true =>
   apply iteT (ra,row,i,R,(p.trans<|L.g.trans Y) _ _ c,h200,j,by omega,λH6 g=>(R,?_));apply zol (by rw[y00];omega) (by rw[y00];show hi) M y ((L.g.trans<|Y.trans g) _ _ r) (p.trans<|L.g.trans (Y.trans g)) (_,_,R) ?_;show congrArg V.bl<|dec_one (cw row i)
  |false=>show iteF<|zom (by rw[y00];show hi) M ((L.g.trans Y) _ _ r) (p.trans<|L.g.trans Y) (_,_,R)
 intro D3 H3 y u J;let I:H3 D3=G (.lst<|(((List.range names.length).filter λk=>isP<|names.getD k (Str.ofString "")).map λk=>cw row k==1).map V.bl):=by rw[J,y00,y0w];rfl
 apply(_,.of I,?_);let e:((((List.range names.length).filter λk=>isP<|names.getD k (Str.ofString "")).map λk=>cw row k==1).all id)=fitB names row:=by
  unfold fitB;rw[y2p,List.all_filter];rfl
 rw[e];show q H3 u
abbrev Te:Stmt:=top 56
theorem Va:FnScope ["tree","letters","left","here"] ["tree"] (defScope Te):={}
include T in
theorem zkn(d:Dfn K mg "letters_of" Te ["tree"]):04 1 "letters_of" ["tree"] zc8:=by
 apply d.cal Va 21 22
 .nofun
 let(v,t,rfl,tv,J,q):=h;apply(_,(zab (zar (i:=1) Va.nd R 17<|zax zaa)<|zab (zar (i:=2) Va.nd R 17<|zax 013) (zab (znt PassesOwn.never (zi4 (pv 2) λ_=>rfl)<|zab (zar (i:=3) Va.nd R 17<|zi8 K PySem.F.plainAttrs_list PySem.F.slot_list_pop PySem.F.type_list_pop zr4 (pv 2)) (zad<|zaz (zaf zrj (pv 3) zd1 08) (zab (zaz (PW.pt<|zcc (zb6<|zbd (za2 zbh 01 T.b_isinstance iB<|pa_c (pv 3) (pa_c (zcd (v:=.ty "tuple") 01 T.b_tuple ju 01) zaa))) (zb5<|zaf zh0 089 zac 08)) (zad zf8) zak)<|zab (zbf<|zb7 K PySem.F.plainAttrs_list PySem.F.slot_list_append PySem.F.type_list_append zbc (pv 1) (pa_c (zam 07 (pv 3) zac λ_ _=>rfl) zaa)) (zad<|zbf (zb7 K PySem.F.plainAttrs_list PySem.F.slot_list_extend PySem.F.type_list_extend (zmq K) (pv 2)<|pa_c (zbi (zgm K) (pv 3) (zbg zac) zdg) zaa))) zak))<|zad (zai<|pv 1))),?_);apply za1 [G v,B,B,B] R ?_;trivial;apply(by decide,λp H1 n1=>mkT λl H2 n2=>?_);let npl:p≠l:=zap n1.at' n2.nil;let hl0:H l=B:=n1.g.free n2.nil;let g02:=n1.g.trans n2.g;apply⟨λmm U H'=>∃(ls:List Int) (xs:List V) (ts:List TrZ) (a:Option V),mm=stw ts/\Same H H'/\U=[G v,G 91,G<|.ref l,a]/\H' p=G (.lst<|ls.map V.int)/\H' l=G 98/\io (TreeZ H') xs ts/\ls++stk ts=t.lets/\stw ts<=201,
  (_,[],[v],[t],B,R,g02,R,n2.g _ _ n1.at',n2.at',.cons (tv.same g02) .nil,by simp[stk],by simp[stw];omega),?_⟩
 rintro mm U H' ⟨ls,xs,ts,a,rfl,g,rfl,ep,I,pr,c,hsw⟩;let hxl:=SS.Paired.len pr;let j:=zwt ts;let M:ls.length+(stk ts).length=t.size:=by rw[←TrZ.lets_len,←c,y02]
 trivial;rcases zgv ts with rfl|⟨nv,t',rfl⟩
 .cases pr;rw[show stk []=[]from rfl,y1k]at c;rw[c]at ep;show(Fa,.inl (_,.of I,R),iteF<|q p H' n1.nil g ep)
 apply atom λzG zk=>?_;let(xs0,x',rfl,pr0,tx):=zec pr;apply zk ?_;apply(N,.inl (_,.of I,by simp),iteT (λO H''=>∃m',m'<stw (nv++[t'])/\_,λ_ _ z=>z,.inl (_,.of I),_,I,x',by simp,?_));rw[List.dropLast_concat];rw[y02,y0i]at hxl;let bq:TupS H' 080:=TupS.wr I _;let y:upd H' l (.lst xs0) p=G (.lst<|ls.map V.int):=by rw[zan npl];show ep
 let gu:Same H 080:=g.wr hl0 _;rw[zig]at c M;rw[zei]at hsw ⊢;rw[y02]at M;let hll':=TrZ.lets_len t';cases t' with
 |nil =>
  obtain rfl:x'=.non:=tx;rw[show(!decide (V.non=V.non))=Fa by simp];show iteF (_,by omega,ls,xs0,nv,R,gu,_,R,y,zao,L2.Paired.mapP pr0 λ_ _ z=>z.ts bq,c,by omega)
 |node z e o =>
  apply atom λzG zk=>?_;let(p',x,C,rfl,D,ha,Y):=tx;let L:=bq _ _ D;apply zk ?_;rw[show(!decide (V.ref p'=V.non))=N by simp];apply iteT (_,.tup L,by decide,iteF (_,.inr<|.of L,?_));rw[show(!decide (((([V.int z,x,C]:List V).length:Nat):Int)=3))=Fa by simp];apply iteF (.inl (_,.of y),ixm (.of L) zay (_,y,by rw[y00];show small1000 00,?_));let elv:upd 080 p 083 l=G (.lst xs0):=by rw[zan<|Ne.symm npl,zao]
  let epv:upd 080 p 083 p=G 083:=zao;let tsB:TupS H' (upd 080 p 083):=bq.trans<|TupS.wr y _;let gv:Same H (upd 080 p 083):=gu.wr n1.nil _;generalize upd 080 p 083=Hv at elv epv tsB gv;apply(.inl (_,.of elv),_,.of<|tsB _ _ D,(show¬(HT.sIx 3 0 (G 1)=0/\HT.sIx 3 3 B=3) by decide),λr H5 u=>?_);rw[show(1:Int)=((1:Nat):Int)from rfl,zcs]at u;let mf:=u.g _ _ elv;let hsz:(TrZ.node z e o).size=1+e.size+o.size:=rfl;let hln:(TrZ.node z e o).lets=z::(o.lets++e.lets):=rfl;let tsC:TupS H' (upd H5 l<|.lst (xs0++[x,C])):=tsB.trans<|u.g.tups.trans (TupS.wr mf _);let hx0:=SS.Paired.len pr0;let hle0:=zwt nv;apply(_,mf,_,.of u.at',zah (by simp;omega),_,?_,ls++[z],(xs0++[x])++[C],(nv++[e])++[o],R,(gv.trans u.g).wr hl0 _,_,R,?_,?_,SM.Paired.snoc (SM.Paired.snoc (L2.Paired.mapP pr0 λ_ _ z=>z.ts tsC)<|ha.ts tsC)<|Y.ts tsC,?_,?_)
  .rw[zei,zei,hsz];omega
  .rw[zan npl,u.g _ _ epv,y0t];rfl
  .rw[zao];simp
  .rw[zig,zig,←c,hln];simp
  .rw[zei,zei];omega
abbrev Tl:Stmt:=top 58
theorem Pk:FnScope ["frame","tree","letters"] ["frame","tree"] (defScope Tl):={}
include T in
theorem zml(d:Dfn K mg "tree_fits" Tl ["frame","tree"])(Qap:04 1 "letters_of" ["tree"] zc8)(Qa6:04 3 "is_letter" ["thing","tracks"] zd8)(Pr:04 3 "each_place_once" ["frame","letters"] zlm):CalE P w K mg base 4 "tree_fits" ["frame","tree"] (zd5 Qb):=by
 apply d.calE Pk 21 λf j A outer s H vs Q E g h Rq=>?_
 .nofun
 let(fa,v,names,t,rfl,ef,fo,tv,J,h):=h;let C:=fo.1;apply(_,(zab (zar (i:=2) Pk.nd R 17<|zae Qap g 00 01 016)<|zab (zaz (zb6<|zbd (za2 (zbx K R) 01 T.b_all jm<|pa_c (za9 ["letter"] [(0,"frame")] 014 01 (za8 K<|pv 2) (λ_ _ _ _ _=>(zaw (i:=0) (show List.Nodup (["letter","frame"]:List Str) by decide+kernel) 01 86)) (λ_ _ _ _ _=>zbs) λ_ _ _ _ _=>(zae Qa6 g 00 01<|pa_c (pv 0) (pa_c 065 zaa))) zaa)) (zad<|zq6 Rq R 01 T.m_NoTree T.x_NoTree F.excBase_ValueError (pa_c zal zaa)) zak) (zad<|zai (zae Pr g 00 01<|pa_c (pv 0) 033))),?_);apply za1 [G<|.ref fa,G v,B] R ?_;trivial;apply(v,t,R,tv,J,λD H1 u g1 c=>?_);let hll:=TrZ.lets_len t;apply((_,.of c),zeg (K:=K) (a:=D) (xs:=t.lets.map V.int) (λU=>∃v,U=[v,G<|.ref fa]) (λv=>match v with|.int x=>.bl (decide (0<=x/\x<2^names.length))|_=>.non) (by rw[y00];omega) (.of c) (_,R) ?_ ?_)
 .rintro o i U H3 x hi hm O p y r ⟨v,rfl⟩;let(z,L,rfl):=y0g.mp hm;trivial;apply(_,.inl<|.of (p _ _<|g1 _ _ ef),?_);rw[y00];show(z,names.length,R,C,zc3 (by rw[y00];omega) O y r p (_,R) R)
 intro o H3 y g3 eD3;let I:=g1.trans g3;let eD3':H3 o=G (.lst<|(t.lets.map λx=>decide (0<=x/\x<2^names.length)).map V.bl):=by rw[eD3,y0w,y0w];rfl
 apply(_,.of eD3',?_);rcases h with⟨row,ny,hin,q⟩|⟨⟨x,mx,O⟩,q⟩
 .let hin':∀x∈t.lets,0<=x/\x<2^names.length:=λx O=>by
   rw[ny]at O;let(l,ml,rfl):=y0g.mp O;let:=hin l ml;rw[zyg];omega
  let h32:∀l∈row,l<32:=λl ml=>by
   let:=hin l ml;let:=zkg C;omega
  rw[show(!(t.lets.map λx=>decide (0<=x/\x<2^names.length)).all id)=Fa by
   rw[Bool.not_eq_false',y0u];intro b Y;let(x,mx,rfl):=y0g.mp Y;show Xg<|hin' x mx]
  apply iteF (fa,D,names,row,R,I _ _ ef,fo,?_,?_,h32,λH4 M=>q H4<|I.trans M)
  .rw[g3 _ _ c,map_nV,ny]
  .let:=congrArg List.length ny;rw[y00,hll]at this;omega
 .rw[show(!(t.lets.map λx=>decide (0<=x/\x<2^names.length)).all id)=N by
   rw[Bool.not_eq_true',y1e];intro h;show O<|of_decide_eq_true (y0u.mp h _<|y0g.mpr (x,mx,R))]
  show iteT<|mkT λe he=>q e H3 I he
abbrev V2:Stmt:=top 31
theorem zhh:FnScope ["frame"] ["frame"] (defScope V2):={}
include T in
theorem zmn(d:Dfn K mg "check_frame" V2 ["frame"])(y:04 4 "is_frame" ["thing"] zx1):04 5 "check_frame" ["frame"] ze3:=by
 apply d.cal zhh 21 22
 .nofun
 let(b,tl,rfl,eb,C,j,U,q):=h;apply(_,(zad<|zaz (zb6<|zbd (zae y hr 00 01 013)) (zad zf8) zak),?_);apply za1 [G 94] R ?_;trivial;apply(_,R,((_,.lst eb),λz e=>by cases e),(λa xs r e=>by cases r;rw[eb]at e;cases e;show zgd 00 (λz hz=>by have:=j z hz;omega)),λH1 g1=>?_);rw[show frB H 94=N by unfold frB;simp only[eb];show U];show itN<|q H1 g1
abbrev Kz:Stmt:=top 32
theorem zea:FnScope ["frame"] ["frame"] (defScope Kz):={}
include T in
theorem zpj(d:Dfn K mg "check_tree_frame" Kz ["frame"])(a:04 5 "check_frame" ["frame"] ze3):04 6 "check_tree_frame" ["frame"] zik:=by
 apply d.cal zea 21 22
 .nofun
 let(b,tl,rfl,eb,U,j,C,q):=h;apply(_,(zab (zbf<|zae a hr 00 01 013)<|zad (zaz (zaf zhi 059 (za4 01 T.g_MOST_TREE_NAMES) 08) (zad zf8) zak)),?_);apply za1 [G 94] R ?_;trivial;apply(b,tl,R,eb,by omega,j,C,λH1 g1=>(_,.inl<|.of (g1 _ _ eb),?_));rw[y00,Xf 00];show iteF<|q H1 g1
abbrev Vd:Stmt:=top 33
theorem ze6:FnScope ["saying","frame"] ["saying","frame"] (defScope Vd):={}
include T in
theorem zy2(d:Dfn K mg "check_tree_let" Vd ["saying","frame"])(g:04 6 "check_tree_frame" ["frame"] zik)(i:04 30 "is_tree_saying" ["thing","frame"]<|znm SS.rowWords 3):04 31 "check_tree_let" ["saying","frame"] zlr:=by
 apply d.cal ze6 21 22
 .nofun
 let(v,b,tl,sy,rfl,Gq,q):=h;apply(_,(zab (zbf<|zae g hr 00 01 016)<|zad (zaz (zb6<|zbd (zae i hr 00 01<|pa_c (pv 0) 016)) (zad zf8) zak)),?_);apply za1 [G v,G 94] R ?_;trivial;apply(b,tl,R,Gq.eb,Gq.l3,Gq.l4,Gq.fr,λH1 g1=>?_);let c:=Gq.same g1;apply(v,.ref b,R,c.rp.exp Gq.wf 12,((_,.lst c.eb),λz e=>by cases e),(λa xs r e=>by cases r;rw[c.eb]at e;cases e;show zgd (by have:=Gq.l3;omega) (λz hz=>by have:=Gq.l4 z hz;omega)),λo H2 p Y=>?_);let:o=N:=Y.mpr (b,tl,_,R,c.eb,Gq.fr,(c.rp,Gq.wf,Gq.dp,Gq.pt),Gq.lt);rw[this];show itN<|q H2 (g1.trans p)
abbrev Ta:Stmt:=top 60
theorem ziy:FnScope ["saying","frame","tree"] ["saying","frame","tree"] (defScope Ta):={}
include T in
theorem ok_jth{C:Ad}(d:Dfn K mg "tree_holds" Ta ["saying","frame","tree"])(I:04 31 "check_tree_let" ["saying","frame"] zlr)(x:CalE P w K mg base 4 "tree_fits" ["frame","tree"]<|zd5 Qb)(D:04 106 "tree_holds_by" ["saying","frame","tree"]<|zlq C qs_tree_holds_by):CalE P w K mg base 107 "tree_holds" ["saying","frame","tree"] (znl Qb C qs_tree_holds_by):=by
 apply d.calE ziy 21 λf j A outer s H vs Q E g h Rq=>?_
 .nofun
 let(v,b,e,tl,sy,rfl,tab,Gq,h):=h;apply(_,(zab (zbf<|zae I g 00 01 (pa_c (pv 0) 016))<|zad (zai<|zce (zu5 Rq x g 00 01 048) (zby<|zae D g 00 01 (pa_c (pv 0) 048)))),?_);apply za1 [G v,G<|.ref e,G b] R ?_;trivial;apply(v,e,tl,sy,R,Gq,λH1 g1=>?_);rcases h with⟨t,l,J,O,i⟩|⟨t,tv,r,o,sm,q⟩
 .exact(e,b,tl,t,R,g1 _ _ Gq.eb,Gq.fo,l.same g1,J,.inr (O,λa H2 p L=>i a H2 (g1.trans p) L))
 .refine(e,b,tl,t.z,R,g1 _ _ Gq.eb,Gq.fo,TreeV.z<|tv.same g1,by rw[Tr.z_size];omega,.inl (t.lets,Tr.z_lets t,Tr.lets_let t r,λH2 p=>(_,R,?_)));let c:=g1.trans p;rw[Tr.fit_same];cases U:fitB tl t.lets2 with
  |false=>show iteF<|q Fa H2 c (λz=>(by cases z),λz=>(by rw[U]at z;cases z.1))
  |true=>show iteT (v,b,e,sy,tl,t,R,tab.same c,Gq.rp.same c,c _ _ Gq.eb,Gq.l3,sm,tv.same c,r,o,vl_fit U,λy H3 u Y=>q y H3 (c.trans u)<|Y.trans (λz=>(U,z),λz=>z.2))
abbrev Qam:Stmt:=top 46
theorem zya:FnScope ["truth"] ["truth"] (defScope Qam):={}
include T in
theorem zvc(d:Dfn K mg "told" Qam ["truth"]):04 1 "told" ["truth"] zcu:=by
 apply d.cal zya 21 22
 .nofun
 let(b,rfl,q):=h;apply(_,(zad<|zai (zci (zbd<|pv 0) 030 038)),?_);apply za1 [G<|.bl b] R ?_;trivial;cases b<;>show q
abbrev V3:Stmt:=top 47
theorem zhe:FnScope ["word","left","right"] ["word","left","right"] (defScope V3):={}
include T in
theorem zvd(d:Dfn K mg "sides_asked" V3 ["word","left","right"]):04 1 "sides_asked" ["word","left","right"] zij:=by
 apply d.cal zhe 21 22
 .nofun
 let(wd,l,r,rfl,q):=h;apply(_,(zab (zaz 075 (zad<|zai (zaq 016)) zak)<|zab (zaz 075 (zad<|zai (zaq 033)) zak) (zad<|zai (zaq 048))),?_);apply za1 [G<|.str wd,G<|nV l,G<|nV r] R ?_;trivial;by_cases M:wd="left"
 .exact itT M<|mkT λp H' n=>q p H' n.g (by rw[n.at'];unfold sidesN;rw[Xq M];rfl)
 apply itF M ?_;by_cases J:wd="right"
 .exact itT J<|mkT λp H' n=>q p H' n.g (by rw[n.at'];unfold sidesN;rw[Xp M,Xq J];rfl)
 show itF J<|mkT λp H' n=>q p H' n.g (by rw[n.at'];unfold sidesN;rw[Xp M,Xp J];rfl)
abbrev K7:Stmt:=top 48
theorem zen:FnScope ["word","one","other","left","right"] ["word","one","other","left","right"] (defScope K7):={}
include T in
theorem zyw(d:Dfn K mg "mark_of_related" K7 ["word","one","other","left","right"])(g:04 1 "told" ["truth"] zcu)(a:04 1 "sides_asked" ["word","left","right"] zij):04 2 "mark_of_related" ["word","one","other","left","right"] zlp:=by
 apply d.cal zen 21 22
 .nofun
 let(wd,one,c,l,r,rfl,q):=h;apply(_,(zab (zaz (zbd<|pv 1) (zad<|zai (zae g hr 00 01<|pa_c (za5 (zbl K) (za4 01 T.g_SECOND) (zae a hr 00 01<|pa_c (pv 0) 047)<|by with_unfolding_all rfl) zaa)) zak)<|zab (zaz (zbd<|pv 2) (zad<|zai (za4 01 T.g_SECOND)) zak) (zab (zaz (zaf (zer K) (za4 01 T.g_SECOND) (zaq 047)<|by with_unfolding_all rfl) (zad<|zai 078) zak)<|zad (zai<|zci 075 (za4 01 T.g_SECOND) 038))),?_);apply za1 [G<|.str wd,G<|.bl one,G<|.bl c,G<|nV l,G<|nV r] R ?_;trivial;unfold mkRel at q;cases one with
 |true =>
  rw[Xq rfl]at q;apply iteT (wd,l,r,R,λp H1 g1 e1=>(_,.inr<|.of e1,R,zey _,_,R,?_));let e:toldN (inV (V.int 1)<|(sidesN wd l r).map nV)=if(if wd="left" then l=1 else if wd="right" then r=1 else(l=1\/r=1))then 2 else 3:=by
   rw[show inV (V.int 1) ((sidesN wd l r).map nV)=_ from zv4 wd l r];unfold toldN;simp only[decide_eq_true_eq]
  rw[e];show q H1 g1
 |false =>
  rw[Xp 02]at q;apply iteF ?_;cases c with
  |true =>
   rw[Xq rfl]at q;show iteT<|q H 99
  |false =>
   rw[Xp 02]at q;apply iteF<|mkT λp H1 n1=>(_,.inr<|.of n1.at',R,R,?_);rw[show inV (V.int 1) [nV l,nV r]=_ from in2 l r 1];by_cases h:l=1\/r=1
   .rw[Xg h];rw[Xp λz=>h.elim z.1 z.2]at q;apply iteF ?_;by_cases J:wd="above"
    .rw[Xq J]at q;show itT J<|q H1 n1.g
    .rw[Xp J]at q;show itF J<|q H1 n1.g
   .rw[Xf h];rw[Xq (λz=>h<|.inl z,λz=>h<|.inr z)]at q;show iteT<|q H1 n1.g
abbrev Pp:Stmt:=top 49
theorem zo5:FnScope ["word","one","other","left","right"] ["word","one","other","left","right"] (defScope Pp):={}
include T in
theorem zyx(d:Dfn K mg "mark_of" Pp ["word","one","other","left","right"])(g:04 1 "told" ["truth"] zcu)(e:04 2 "mark_of_related" ["word","one","other","left","right"] zlp):04 3 "mark_of" ["word","one","other","left","right"] zim:=by
 apply d.cal zo5 21 22
 .nofun
 let(wd,one,c,l,r,rfl,q):=h;apply(_,(zab (zaz (PW.pt<|zcc (zaf (zbl K) 030 (zaq 047)<|by with_unfolding_all rfl) (zb5<|zaf (zbl K) 038 (zaq 047) (by with_unfolding_all rfl))) (zad<|zai (zae g hr 00 01<|pa_c (za5 (zbl K) 030 (zaq 047)<|by with_unfolding_all rfl) zaa)) zak)<|zab (zaz 075 (zad<|zai (zci (PW.pt<|zc5 (zbd<|pv 1) (zb4<|zb6 (zbd<|pv 2))) 038 078)) zak) (zab (zaz 075 (zad<|zai (zci (zbd<|pv 1) (zae g hr 00 01 033) 078)) zak)<|zab (zaz 075 (zad<|zai (zci (PW.pt<|zcc (zbd<|pv 1) (zb5<|zbd (pv 2))) (zae g hr 00 01<|pa_c (zce (pv 1)<|zby (pv 2)) zaa) 078)) zak) (zad<|zai (zae e hr 00 01<|pa_c (pv 0) (pa_c (pv 1)<|pa_c (pv 2) 047))))),?_);apply za1 [G<|.str wd,G<|.bl one,G<|.bl c,G<|nV l,G<|nV r] R ?_;trivial;unfold mkN at q;let Y:∀k:Nat,inV (nV k) [nV l,nV r]=decide (l=k\/r=k):=in2 l r;apply mkT λM H1 n1=>(_,.inr<|.of n1.at',R,R,?_);rw[show inV (V.int 2) [nV l,nV r]=_ from Y 2];by_cases J:l=2\/r=2
 .rw[Xq J]at q;apply itT J<|mkT λi H2 n2=>(_,.inr<|.of n2.at',R,R,_,R,?_);rw[show inV (V.int 2) [nV l,nV r]=_ from Y 2,Xg J];show q H2<|n1.g.trans n2.g
 rw[Xp J]at q;apply itF J<|mkT λi H2 n2=>(_,.inr<|.of n2.at',R,R,?_);let p:=n1.g.trans n2.g;rw[show inV (V.int 3) [nV l,nV r]=_ from Y 3];by_cases U:l=3\/r=3
 .rw[Xq U]at q;apply itT U<|mkT λa H3 I=>(_,.inr<|.of I.at',R,R,_,R,?_);rw[show inV (V.int 2) [nV l,nV r]=_ from Y 2,Xf J];show q H3<|p.trans I.g
 rw[Xp U]at q;apply itF U ?_;by_cases C:wd="within"
 .rw[Xq C]at q;apply itT C ?_;cases one<;>cases c<;>show q H2 p
 rw[Xp C]at q;apply itF C ?_;by_cases hi:wd="in"
 .rw[Xq hi]at q;apply itT hi ?_;cases one
  .exact iteF<|q H2 p
  .refine iteT (_,R,?_);cases c<;>show q H2 p
 rw[Xp hi]at q;apply itF hi ?_;by_cases hs:wd="same"
 .rw[Xq hs]at q;apply itT hs ?_;cases one<;>cases c
  .exact iteF<|iteF (q H2 p)
  .exact iteF<|iteT (iteF (_,R,q H2 p))
  .exact iteT<|iteT (_,R,q H2 p)
  .exact iteT<|iteT (_,R,q H2 p)
 rw[Xp hs]at q;show itF hs (wd,one,c,l,r,R,λH3 u=>q H3<|p.trans u)
abbrev Td:Stmt:=top 50
theorem zi0:FnScope ["word","mark"] ["word","mark"] (defScope Td):={}
include T in
theorem zvj(d:Dfn K mg "holds_with" Td ["word","mark"]):04 1 "holds_with" ["word","mark"] zit:=by
 apply d.cal zi0 21 22
 .nofun
 let(wd,m,rfl,q):=h;apply(_,(zad<|zai (zuw (za5 za6 (pv 1) 030 08)<|zby (zce (za5 za6 (pv 0) zal 08)<|zby (za5 za6 (pv 1) 078 08)))),?_);apply za1 [G<|.str wd,G<|nV m] R ?_;trivial;unfold holdM at q;by_cases h:m=2
 .subst h;show iteT q
 rw[Xf<|show¬(m:Int)=2 by omega];rw[Xf h]at q;apply iteF ?_;by_cases C:wd="within"
 .rw[Xg C]at q ⊢;apply iteT ?_;rw[decide_eq_decide.mpr<|show((m:Int)=0)↔m=0 by omega];show q
 .rw[Xf C]at q ⊢;show iteF q
abbrev Py:Stmt:=top 52
theorem zqw:FnScope ["standing"] ["standing"] (defScope Py):={}
include T in
theorem zro(d:Dfn K mg "turned" Py ["standing"])(g:04 1 "told" ["truth"] zcu):04 2 "turned" ["standing"] zj4:=by
 apply d.cal zqw 21 22
 .nofun
 let(n,rfl,q):=h;apply(_,(zab (zaz (zaf (zbl K) (pv 0) (zaq<|pa_c 030 (pa_c 038 zaa))<|by with_unfolding_all rfl) (zad<|zai (zae g hr 00 01<|pa_c (za5 za6 (pv 0) 038 08) zaa)) zak)<|zad (zai<|pv 0)),?_);apply za1 [G<|nV n] R ?_;trivial;apply mkT λM H1 n1=>(_,.inr<|.of n1.at',R,R,?_);let a:inV (nV n) [V.int 2,V.int 3]=decide (2=n\/3=n):=in2 2 3 n;rw[a];by_cases h:2=n\/3=n
 .refine itT h (_,R,?_);let J:=q H1 n1.g;rcases h with rfl|rfl
  .exact J
  .exact J
 .rw[Xf h];let J:=q H1 n1.g;unfold trn at J;rw[Xp 00,Xp 00]at J;show iteF J
abbrev Vm:Stmt:=top 53
theorem zfu:FnScope ["standings"] ["standings"] (defScope Vm):={}
include T in
theorem zvg(d:Dfn K mg "worth_keeping" Vm ["standings"]):04 1 "worth_keeping" ["standings"] zf4:=by
 apply d.cal zfu 21 22
 .nofun
 let(b,ns,F,rfl,eb,j,hF,g,q):=h;apply(_,(zad<|zai (zeq zd2 01 T.b_tuple ju<|pa_c (za2 (zfz R) 01 T.b_sorted 01<|pa_c (zeq (zk3 R) 01 T.b_set 01<|pa_c (za9 ["standing"] [] 014 01 (za8 K<|pv 0) (λ_ _ _ _ _=>(zaw (i:=0) (show List.Nodup (["standing"]:List Str) by decide+kernel) 01 86)) (λ_ _ _ _ _=>(zgs<|zaf zh0 (pv 0) 038 08)) λ_ _ _ _ _=>(pv 0)) zaa) zaa) zaa)),?_);apply za1 [G 94] R ?_;trivial;apply((_,.of eb),zm3 (K:=K) (a:=b) (xs:=ns.map nV) (λU=>∃v,U=[v]) (λv=>decide (v ≠ .int 3)) id (by rw[y00];show j) (.of eb) (_,R) ?_ ?_)
 .rintro D i U H1 x hi hm O p u a7 ⟨v,rfl⟩;let(k,mk,rfl):=y0g.mp hm;let j:(ns.map nV).length<=1000:=by rw[y00];show j
  trivial;by_cases h0:k=3
  .subst h0;show iteF<|zg6 O 02 a7 p (_,R)
  .rw[Xf 00];show iteT<|zg5 j O (Xg λz=>h0<|by injection z with z;omega) u a7 p (_,R) R
 intro D H1 u g1 c;let e1:(List.filter (λv=>decide (v≠V.int 3))<|ns.map nV).map id=((ns.filter (· ≠ 3)).map λ(n:Nat)=>(n:Int)).map V.int:=by
  rw[y48,y3n,y0w];let:((λv=>decide (v≠V.int 3))∘nV)=λk:Nat=>decide (k≠3):=by
   funext k;change decide (V.int (k:Int)≠V.int 3)=decide (k≠3);apply decide_eq_decide.mpr (λz e=>z (by rw[e];rfl),λz e=>z<|by injection e with e;omega)
  rw[this];rfl
 rw[e1]at c;let y:(ns.filter (· ≠ 3)).length<=ns.length:=y1m _ _;apply(D,R,_,.of c,by rw[y00];omega,λa0 ha0=>(_,zao,F.map λ(n:Nat)=>(n:Int),by rw[y00];show hF,λk C=>?_,λms p1 r L H2 n2=>?_))
 .let(n,o,rfl):=y0g.mp C;let(M,J):=y1a.mp o;show y0g.mpr (n,g n M,R)
 let hms:∀k∈ms,0<=k:=λk C=>by
  let(n,o,rfl):=y0g.mp<|(r k).mp C;omega
 let e2:ms.map V.int=(ms.map Int.toNat).map nV:=by
  rw[y0w];apply y29 λk C=>?_;let:=hms k C;change V.int k=V.int ((k.toNat:Nat):Int);rw[show((k.toNat:Nat):Int)=k by omega]
 apply(_,.inl (n2.lst,λl H3 I=>q l (ms.map Int.toNat) H3 (?_,λk=>?_) (g1.trans<|(za7 ha0 _).trans (n2.g.trans I.g)) ?_))
 .rw[List.pairwise_map];apply List.Pairwise.imp_of_mem (λ{a b} ha Y h=>?_) p1;let:=hms a ha;let:=hms b Y;omega
 .constructor
  .intro C;let(x,O,rfl):=y0g.mp C;let(n,o,rfl):=y0g.mp<|(r x).mp O;rw[y0y];show((y1a.mp o).1,of_decide_eq_true (y1a.mp o).2)
  .rintro⟨M,J⟩;show y0g.mpr ((k:Int),(r _).mpr<|y0g.mpr (k,y1a.mpr (M,Xg J),R),by simp)
 .rw[I.at',e2]
abbrev Kn:Stmt:=inClass (top 54) 1
theorem zdb:FnScope ["self","form"] ["self","form"] (defScope Kn):={}
include T in
theorem zy1(d:DfnM K Qa "numbered" "Standings.numbered" Kn ["self","form"]):CalM P w K mg base 1 Qa "numbered" ["self","form"] (zd7 P w Qa):=by
 apply d.cal zdb 21 22
 .nofun
 let(LA,a,co,fs,sts,fm,rfl,L,h10,r,ok,q):=h;let g:=zex hr 8 02;let X:=(jN_ok L.T ok).1;apply(_,(zde (zaz (zaf (zri g) (pv 1) 021<|by with_unfolding_all rfl) (zab (zus g 021 (pv 1) (za2 (zas K) 01 T.b_len ir<|pa_c 021 zaa) R)<|zad (zbf<|zb7 K PySem.F.plainAttrs_list PySem.F.slot_list_append PySem.F.type_list_append zbc 021 016)) zak)<|zad (zai<|zu3 g 021 (pv 1) (λ_ _=>rfl))),?_);apply za1 [G 023,G 09] R ?_;apply(λO H'=>O=[G 023,G 09]/\NestAt H' a (tk fm)/\Nj P w Qa LA co fs sts 1 H (nxt fs fm) sts H',?_,?_)
 .trivial;apply atom λl zk=>?_;let(rs,c,e7):=L.ef;let(pz,ez,ez'):=L.ep;let(ys,D,ky,ef,ev):=L.en;let fg:=SS.Paired.len e7;apply zk ?_;rw[y02,y00,show four.length=4 from rfl]at fg;let hyl:ys.length=fs.length:=by rw[←y00 (f:=tk),←ef,y00]
  let(x,C):=tabN 4 ef ev<|tk fm;apply fdm L.e1 T.cl_Standings T.n_numbers zee (LA.pn,R,_,D,ky,tk fm,r,?_);by_cases u:fm∈fs
  .rw[x<|mem_tk.mpr u,zko u];show iteF (r,.same0 L<|Same.refl _)
  .let v:¬tk fm∈fs.map tk:=λz=>u<|mem_tk.mp z;rw[C v];let npn:LA.p≠LA.pn:=zcq L.e1 D (by intro z;cases z);let npf:LA.p≠LA.pf:=zcq L.e1 c (by intro z;cases z);let nfn:LA.pf≠LA.pn:=zcq c D (by intro z;cases z);let nfs:LA.pf≠LA.ps:=zcq c L.es (by intro z;cases z);let nns:LA.pn≠LA.ps:=zcq D L.es (by intro z;cases z);let npp:LA.pp≠LA.pn:=zcq ez D (by intro z;cases z);apply iteT<|fdm L.e1 T.cl_Standings T.n_forms zbv (_,.inl<|.of c,fdm L.e1 T.cl_Standings T.n_numbers zee (LA.pn,R,_,D,ky,tk fm,r,C v,?_));apply(zoa 00,λH4 j=>?_);subst j;let ak:∀o,upd H LA.pn o LA.p=G (.ins Qa LA.dx LA.fl):=λo=>by rw[zan npn];show L.e1
   let e6':∀o,upd H LA.pn o LA.pf=G (.lst rs):=λo=>by rw[zan nfn];show c
   apply(_,_,_,ak _,T.cl_Standings,T.n_forms,_,zbv,.inl (_,.of<|e6' _),_,e6' _,y0k (show rs.length<1000005 by omega) 02,?_);let uA:Up4 LA H (upd (upd H LA.pn<|dN P w LA.pn (ys++[(tk fm,a,V.int (rs.length:Int))])) LA.pf<|.lst (rs++[.ref a])):=λb o Y M J U e=>by rw[zan M,zan J];show e
   let p:=L.tups uA;let evn:V.int (rs.length:Int)=nV (4+fs.length):=by change V.int _=V.int _;congr 1;omega
   let X':Tx fs (nxt fs fm) 1:=X;apply(r.ts p,uA,(by rw[zan npf];show ak _,(pz,by rw[zan L.nf,zan npp];show ez,L2.Paired.mapP ez' λ_ _ z=>z.ts p),(_,zao,by rw[←zw3,ze8 v,←y27];show SM.Paired.snoc (L2.Paired.mapP e7 λ_ _ z=>z.ts p) (a,R,r.ts p)),(_,by rw[zan<|Ne.symm nfn,zao],?_,by rw[←zw3,ze8 v,y0t,ef];rfl,λi y h=>?_),by rw[zan<|Ne.symm nfs,zan<|Ne.symm nns];show L.es,X'.T,L.st.up L.T X',L.nf),X',by omega)
   .intro y I;rcases y0o.mp I with h|h
    .exact(ky y h).ts p
    .rw[y03.mp h];show r.ts p
   .by_cases hi:i<ys.length
    .rw[y0q hi]at h;show ev i y h
    .rw[y0n 00]at h;let Y:i-ys.length=0:=by
      let:=(y09.mp h).1;simp at this;omega
     rw[Y]at h;cases h;change V.int _=_;rw[evn];congr 2;omega
 .rintro O H' ⟨rfl,ea',Nq⟩;trivial;apply atom λl zk=>?_;let L':=Nq.sn;let(ys,D,ky,ef,ev):=L'.en;let u:fm∈nxt fs fm:=by
   by_cases h:fm∈fs
   .rw[zko h];show h
   .rw[ze8 h];simp
  let(x,C):=tabN 4 ef ev<|tk fm;apply zk ?_;apply fdm L'.e1 T.cl_Standings T.n_numbers zee (LA.pn,R,_,D,ky,tk fm,ea',_,x<|mem_tk.mpr u,?_);rw[zw6];show q _ Nq
abbrev K2:Stmt:=inClass (top 54) 3
theorem zeb:FnScope ["self","one","other"] ["self","one","other"] (defScope K2):={}
include T in
theorem zy3(d:DfnM K Qa "of_and" "Standings.of_and" K2 ["self","one","other"])(C:CalM P w K mg base 1 Qa "numbered" ["self","form"]<|zd7 P w Qa):CalM P w K mg base 2 Qa "of_and" ["self","one","other"] (zgh P w Qa):=by
 apply d.cal zeb 21 22
 .nofun
 let(LA,co,fs,sts,x,y,rfl,L,l,O,I,q):=h;apply(_,(zab (zaz (zaf (zbl K) 038 (zaq 048)<|by with_unfolding_all rfl) (zad<|zai 038) zak)<|zad (zai<|zci (PW.pt<|zc5 (zaf za6 (pv 1) 030 08) (zb4<|zaf za6 (pv 2) 030 08)) 030 (zat C T.cl_Standings hr 00 (pv 0)<|pa_c (zaq 048) zaa))),?_);apply za1 [G 023,G<|nV x,G<|nV y] R ?_;trivial;apply mkT λM H1 n1=>(_,.inr<|.of n1.at',R,R,?_);rw[show inV (V.int 3) [nV x,nV y]=_ from in2 x y 3];unfold jAnd at q;by_cases U:x=3\/y=3
 .rw[Xq U]at q;show itT U<|q H1 (.same0 L n1.g)
 rw[Xp U]at q;apply itF U ?_;let c:¬(x=2/\y=2)->∀p H2,Same H H2->H2 p=G (.tup [nV x,nV y])->zd7 P w Qa [.ref LA.p,.ref p] H2 Q E0:=λo p H2 Y ep=>by
  rw[Xp o]at q;show(LA,p,co,fs,sts,.two x y,R,L.same Y,l,(_,ep,.cons R<|.cons R .nil),(O,I),λH3 Nq=>q H3<|Nq.bef Y)
 let nm:List.lookup ("numbered":Str) LA.fl=B:=zbj 02 02 02 02;by_cases e:x=2
 .refine itT 00 ?_;by_cases a:y=2
  .rw[Xq (e,a)]at q;show itT 00<|q H1 (.same0 L n1.g)
  .exact itF 00 (_,_,n1.g _ _ L.e1,nm,mkT λr H2 n2=>c 00 r H2 (n1.g.trans n2.g) n2.at')
 .exact itF 00 (_,_,n1.g _ _ L.e1,nm,mkT λr H2 n2=>c 00 r H2 (n1.g.trans n2.g) n2.at')
abbrev Q4:Stmt:=inClass (top 54) 4
theorem K0:FnScope ["self","standings","kept"] ["self","standings"] (defScope Q4):={}
include T in
theorem zyz(d:DfnM K Qa "of_some_set" "Standings.of_some_set" Q4 ["self","standings"])(M:04 1 "worth_keeping" ["standings"] zf4)(C:CalM P w K mg base 1 Qa "numbered" ["self","form"]<|zd7 P w Qa):CalM P w K mg base 2 Qa "of_some_set" ["self","standings"] (zgf P w Qa):=by
 apply d.cal K0 21 22
 .nofun
 let(LA,a,co,fs,sts,ns,F,rfl,L,l,c,e,j,y,hs,q):=h;apply(_,(zab (zar (i:=2) K0.nd R 17<|zae M hr 00 01 016)<|zab (zaz (zaf (zbl K) 030 (pv 2)<|by with_unfolding_all rfl) (zad<|zai 030) zak) (zad<|zai (zci (zi4 (pv 2) λ_=>rfl) (zat C T.cl_Standings hr 00 (pv 0)<|pa_c (zaq 033) zaa) 038))),?_);apply za1 [G 023,G 09,B] R ?_;trivial;apply(a,ns,F,R,c,e,j,y,λt xs H1 kp g1 I=>(_,.inr<|.of I,R,zey xs,?_));let U:=L.same g1;let q:=q xs;unfold jSo at q;rw[show inV (V.int 2) (xs.map nV)=decide (2∈xs)from inN xs 2];by_cases J:2∈xs
 .rw[Xq J]at q;rw[Xg J];show iteT<|q H1 kp (.same0 L g1)
 rw[Xp J]at q;apply itF J ?_;cases xs with
 |nil =>
  rw[Xq (R,λz=>by cases z)]at q;show(Fa,.inr<|.inl (_,.of I,R),iteF<|q H1 kp (.same0 L g1))
 |cons x xs =>
  rw[Xp λz=>by cases z.1]at q;show(N,.inr<|.inl (_,.of I,R),iteT (_,_,U.e1,zbj 02 02 02 02,mkT λr H2 n2=>(LA,r,co,fs,sts,.set (x::xs),R,U.same n2.g,l,(_,n2.at',.cons (t,R,by rw[n2.g _ _ I,kLv]) .nil),zsx (st:=N) (u:=0) kp hs (λz=>by cases z),λH3 Nq=>q H3 kp<|Nq.bef (g1.trans n2.g))))
abbrev Qy:Stmt:=inClass (top 54) 5
theorem Kp:FnScope ["self","unplaced","placed","kept"] ["self","unplaced","placed"] (defScope Qy):={}
include T in
theorem zy0(d:DfnM K Qa "of_some_place" "Standings.of_some_place" Qy ["self","unplaced","placed"])(M:04 1 "worth_keeping" ["standings"] zf4)(C:CalM P w K mg base 1 Qa "numbered" ["self","form"]<|zd7 P w Qa):CalM P w K mg base 2 Qa "of_some_place" ["self","unplaced","placed"] (zgg P w Qa):=by
 apply d.cal Kp 21 22
 .nofun
 let(LA,a,co,fs,sts,u,ns,F,rfl,L,l,O,e,j,y,hs,g,q):=h;apply(_,(zab (zar (i:=3) Kp.nd R 17<|zae M hr 00 01 033)<|zab (zaz (zaf (zbl K) 030 (pv 3)<|by with_unfolding_all rfl) (zad<|zai 030) zak) (zab (zaz (PW.pt<|zc5 (zaf za6 (pv 1) 038 08) (zb4<|zb6 (zi4 (pv 3) λ_=>rfl))) (zad<|zai 038) zak)<|zad (zai<|zat C T.cl_Standings hr 00 (pv 0) (pa_c (zaq<|pa_c (pv 1) 039) zaa)))),?_);apply za1 [G 023,G<|nV u,G 09,B] R ?_;trivial;apply(a,ns,F,R,O,e,j,y,λt xs H1 kp g1 I=>(_,.inr<|.of I,R,zey xs,?_));let U:=L.same g1;let q:=q xs;unfold jSo at q;rw[show inV (V.int 2) (xs.map nV)=decide (2∈xs)from inN xs 2];by_cases J:2∈xs
 .rw[Xq J]at q;rw[Xg J];show iteT<|q H1 kp (.same0 L g1)
 rw[Xp J]at q;apply itF J ?_;let c:¬(xs=[]/\(Fa=Fa->u=3))->∀p H2,Same H H2->H2 t=G (.tup<|xs.map nV)->H2 p=G (.tup [nV u,.ref t])->zd7 P w Qa [.ref LA.p,.ref p] H2 Q E0:=λo p H2 Y v ep=>by
  rw[Xp o]at q;show(LA,p,co,fs,sts,.plc u xs,R,L.same Y,l,(_,ep,.cons R<|.cons (t,R,by rw[v,kLv]) .nil),zsx (st:=Fa) kp hs λ_=>g,λH3 Nq=>q H3 kp<|Nq.bef Y)
 let nm:List.lookup ("numbered":Str) LA.fl=B:=zbj 02 02 02 02;by_cases D:u=3
 .refine itT 00 ?_;cases xs with
  |nil =>
   rw[Xq (R,λ_=>D)]at q;show(Fa,.inr<|.inl (_,.of I,R),iteT<|q H1 kp (.same0 L g1))
  |cons x xs=>show(N,.inr<|.inl (_,.of I,R),iteF (_,_,U.e1,nm,mkT λr H2 n2=>c (λz=>by cases z.1) r H2 (g1.trans n2.g) (n2.g _ _ I) n2.at'))
 .exact itF 00 (_,_,U.e1,nm,mkT λr H2 n2=>c (λz=>D<|z.2 R) r H2 (g1.trans n2.g) (n2.g _ _ I) n2.at')
abbrev Kf:Stmt:=inClass (top 54) 7
theorem Vw:FnScope ["self","number","letter","left","right","step"] ["self","number","letter","left","right"] (defScope Kf):={}
include T in
theorem zw2{lv:Nat}(d:DfnM K Qa "above" "Standings.above" Kf ["self","number","letter","left","right"])(Kh:04 1 "told" ["truth"] zcu)(Vx:CalM P w K mg base (4+3*lv) Qa "above_unsettled" ["self","number","letter","left","right"]<|zls P w Qa lv):CalM P w K mg base (4+3*lv+1) Qa "above" ["self","number","letter","left","right"] (zej P w Qa lv):=by
 apply d.cal Vw 21 22
 .nofun
 let(LA,co,fs,sts,k,t,l,r,b0,sz,c,rfl,L,ab,q):=h;let g:=zex hr 8 00;let hc2:=ct_pos sz c;let hf:=ab.lf;let hs:=ab.ls;let ek:=ab.ek;apply(_,(zab (zaz (PW.pt<|zcc (zaf (zbl K) 030 (zaq 047)<|by with_unfolding_all rfl) (zb5<|zaf (zbl K) 038 (zaq 047) (by with_unfolding_all rfl))) (zad<|zai (zae Kh hr 00 01<|pa_c (za5 (zbl K) 030 (zaq 047)<|by with_unfolding_all rfl) zaa)) zak)<|zab (zar (i:=5) Vw.nd R 17<|zaq (pa_c (pv 1)<|pa_c (pv 2) 047)) (zde (zaz (zaf (zpg g) (pv 5) 021<|by with_unfolding_all rfl) (zad<|zi6 g 021 (pv 5) (zat Vx T.cl_Standings hr 00 (pv 0)<|pa_c (pv 1) (pa_c (pv 2) 047)) R) zak)<|zad (zai<|zi7 g 021 (pv 5) (λ_ _=>rfl)))),?_);apply za1 [G 023,G<|nV k,G<|nV t,G<|nV l,G<|nV r,B] R ?_;trivial;let i2:∀k:Nat,inV (nV k) [nV l,nV r]=decide (l=k\/r=k):=in2 l r;apply mkT λM H1 n1=>(_,.inr<|.of n1.at',R,R,?_);rw[show inV (V.int 2) [nV l,nV r]=_ from i2 2];by_cases J:l=2\/r=2
 .refine itT J<|mkT λp2 H2 n2=>(_,.inr<|.of n2.at',R,R,_,R,?_);rw[show inV (V.int 2) [nV l,nV r]=_ from i2 2,Xg J];show q fs sts H2 2 (.same0 L<|n1.g.trans n2.g) λb=>stpt_y J
 apply itF J<|mkT λp2 H2 n2=>(_,.inr<|.of n2.at',R,R,?_);let p:=n1.g.trans n2.g;rw[show inV (V.int 3) [nV l,nV r]=_ from i2 3];by_cases U:l=3\/r=3
 .refine itT U<|mkT λa H3 I=>(_,.inr<|.of I.at',R,R,_,R,?_);rw[show inV (V.int 2) [nV l,nV r]=_ from i2 2,Xf J];show q fs sts H3 3 (.same0 L<|p.trans I.g) λb=>stpt_n U
 apply itF U<|mkT λa H3 I=>?_;let u:=p.trans I.g;let C:=L.same u;apply(λO H'=>O=[G 023,G<|nV k,G<|nV t,G<|nV l,G<|nV r,G<|.ref a]/\H' a=G (.tup [nV k,nV t,nV l,nV r])/\∃o ao n,Nj P w Qa LA co fs sts (ct sz c) H o ao H'/\(∀b,Stpt fs o b c t l r n)/\valV ao [.inl (k:Int),.inl (t:Int),.inl (l:Int),.inl (r:Int)]=G (nV n),?_,?_)
 .trivial;apply fdm C.e1 T.cl_Standings T.n_steps zg3 (LA.ps,R,_,DGet.t (k:=[.inl (k:Int),.inl (t:Int),.inl (l:Int),.inl (r:Int)]) C.es I.at',?_);cases hv:valV sts [.inl (k:Int),.inl (t:Int),.inl (l:Int),.inl (r:Int)]with
  |some v =>
   apply atom λzG Y=>?_;let(co1,m,ek1,rfl,_,_,sg):=C.st k t l r v hv;apply Y ?_;rw[ek]at ek1;cases ek1;show iteF (I.at',fs,sts,.same0 L u,m,sg,hv)
  |none =>
   apply iteT (_,_,C.e1,zbj 02 02 02 02,LA,co,fs,sts,k,t,l,r,b0,sz,c,R,C,ab,(λz=>J<|.inl z,λz=>U<|.inl z,λz=>J<|.inr z,λz=>U<|.inr z),λo ao H4 n Nq sg=>?_);let x:=Nq.sn;let e4:=C.tups Nq.up _ _ I.at';let hls:=Nq.ls;apply fdm x.e1 T.cl_Standings T.n_steps zg3 (LA.ps,R,_,DPut.t (k:=[.inl (k:Int),.inl (t:Int),.inl (l:Int),.inl (r:Int)]) x.es e4<|zoa 00,?_);apply atom λzG Y=>?_;let ts5:TupS H4 (upd H4 LA.ps<|.dT (putK ao [.inl (k:Int),.inl (t:Int),.inl (l:Int),.inl (r:Int)]<|nV n)):=TupS.wrT x.es _;let(rs,e1,ak):=x.ep;let(qs,e2,e2'):=x.ef;let(ys,e3,e5,e6,e7):=x.en;let ar:=zcf ao [.inl (k:Int),.inl (t:Int),.inl (l:Int),.inl (r:Int)]<|nV n;let hlf:=Nq.lf;let a8:=ab.rd.lt;let j:=Nq.ex.len;apply Y ?_;apply(ts5 _ _ e4,o,_,(((Same.up4 u).trans Nq.up).trans (λb' y _ _ _ h' D=>by rw[zan h'];show D),(by rw[zan<|zcq x.e1 x.es (by intro z;cases z)];show x.e1,(rs,by rw[zan<|zcq e1 x.es (by intro z;cases z)];show e1,L2.Paired.mapP ak λ_ _ z=>z.ts ts5),(qs,by rw[zan<|zcq e2 x.es (by intro z;cases z)];show e2,L2.Paired.mapP e2' λ_ _ z=>z.ts ts5),(ys,by rw[zan<|zcq e3 x.es (by intro z;cases z)];show e3,e5.ts ts5,e6,e7),zao,x.T,?_,x.nf),Nq.ex.le 00,by omega),n,sg,by rw[zds,Xq rfl]);intro k' c' l' r' v' e;rw[zds]at e;split at e
   .rename_i ee;simp only[List.cons.injEq,Sum.inl.injEq,and_true]at ee;cases e;obtain rfl:k'=k:=by omega
    obtain rfl:c'=t:=by omega
    obtain rfl:l'=l:=by omega
    obtain rfl:r'=r:=by omega
    show(c,n,ek,R,by omega,by omega,λb=>(sg b).upX L.T Nq.ex.T.nd Nq.ex.p a8.1 a8.2)
   .exact x.st k' c' l' r' v' e
 .rintro O H' ⟨rfl,e4,o,ao,n,Nq,sg,hv⟩;trivial;let z:=DGet.t (k:=[.inl (k:Int),.inl (t:Int),.inl (l:Int),.inl (r:Int)]) Nq.sn.es e4;rw[hv]at z;show fdm Nq.sn.e1 T.cl_Standings T.n_steps zg3 (LA.ps,R,_,z,q o ao H' n Nq sg)
abbrev Qp:Stmt:=inClass (top 54) 9
theorem Qn:FnScope ["self","part","letter","lefts","rights","found","left","right"] ["self","part","letter","lefts","rights"] (defScope Qp):={}
include T in
theorem zy5{lv:Nat}(d:DfnM K Qa "above_sets" "Standings.above_sets" Qp ["self","part","letter","lefts","rights"])(Qo:CalM P w K mg base 2 Qa "of_some_set" ["self","standings"]<|zgf P w Qa)(Qc:CalM P w K mg base (4+3*lv+1) Qa "above" ["self","number","letter","left","right"]<|zej P w Qa lv):CalM P w K mg base (4+3*lv+1+1) Qa "above_sets" ["self","part","letter","lefts","rights"] (zlu P w Qa lv):=by
 apply d.cal Qn 21 22
 .nofun
 let(LA,co,fs,sts,a,t,i0,sz,M,pa,e,o,xs,ys,c,rfl,L,J,o4,o0,hM,ab,ka,q):=h;let nm:List.lookup ("above":Str) LA.fl=B:=zbj 02 02 02 02;let nm2:List.lookup ("of_some_set":Str) LA.fl=B:=zbj 02 02 02 02;let(et2,ht2):=lor_c ab.ht ab.hi;let hf:fs.length+M*ct sz c<1000000:=by have:=ab.lf;omega
 let hs:sts.length+M*ct sz c<1000000:=by have:=ab.ls;omega
 let hM6:=ab.hM;apply(_,(zab (zar (i:=5) Qn.nd R 17<|zax zaa)<|zab (zdf PassesOwn.never R (zcy K<|pv 3) (zaw (i:=6) Qn.nd 01 86)<|zad (zdf PassesOwn.never R (zcy K<|pv 4) (zaw (i:=7) Qn.nd 01 86)<|zab (zbf<|zb7 K PySem.F.plainAttrs_list PySem.F.slot_list_append PySem.F.type_list_append zbc (pv 5) (pa_c (zat Qc T.cl_Standings hr 00 (pv 0)<|pa_c (zam 07 (pv 1) zac λ_ _=>rfl) (pa_c (pv 2)<|pa_c (pv 6) (pa_c (pv 7) zaa))) zaa)) (zad<|zbf (zb7 K PySem.F.plainAttrs_list PySem.F.slot_list_append PySem.F.type_list_append zbc (pv 5)<|pa_c (zat Qc T.cl_Standings hr 00 (pv 0)<|pa_c (zam 07 (pv 1) zac λ_ _=>rfl) (pa_c (zav op_or (pv 2)<|zam 07 (pv 1) zac (λ_ _=>rfl))<|pa_c (pv 6) (pa_c (pv 7) zaa))) zaa)))) (zad<|zai (zat Qo T.cl_Standings hr 00 (pv 0)<|pa_c (pv 5) zaa))),?_);apply za1 [G 023,G<|.ref pa,G<|nV t,G<|.ref e,G<|.ref o,B,B,B] R ?_;trivial;apply mkT λp0 H1 n1=>?_;let L1:=L.same n1.g;let(k1,k2):=L.nD n1.nil;let hG:∀m X H',Gj P w Qa LA co fs sts c (ct sz c) H m X H'->TupS H H':=λm X H' Gq=>L.tups Gq.up;apply((_,.of<|n1.g _ _ o4),zxg (K:=K) (a:=e) (xs:=xs.map nV) (λi U H'=>(∃v6 l:Option V,U=[G 023,G<|.ref pa,G<|nV t,G<|.ref e,G<|.ref o,G<|.ref p0,v6,l])/\Gj P w Qa LA co fs sts c (ct sz c) H (2*(i*ys.length)) [(p0,lbS t (t|||2^i0) (xs.take i) ys)] H') ((_,_,R),fs,sts,.same0 L n1.g,λd hd=>?_) (λi U H' _ z=>.of<|hG _ _ _ z.2 _ _ o4) ?_ ?_)
 .rw[y03.mp hd];show([],n1.at',.nil)
 .rintro i x U H2 O ⟨⟨v6,l,rfl⟩,p⟩;rw[y0r]at O;let(x,ex,rfl):=y18.mp O;let mx:=y0d ex;let hi:=(y09.mp ex).1;trivial;apply((_,.of<|hG _ _ _ p _ _ o0),zxg (K:=K) (a:=o) (xs:=ys.map nV) (λj U H'=>(∃l:Option V,U=[G 023,G<|.ref pa,G<|nV t,G<|.ref e,G<|.ref o,G<|.ref p0,G<|nV x,l])/\Gj P w Qa LA co fs sts c (ct sz c) H (2*(i*ys.length)+2*j) [(p0,lbS t (t|||2^i0) (xs.take i) ys++lbI t (t|||2^i0) x (ys.take j))] H') ((_,R),by rw[List.take_zero,show lbI t (t|||2^i0) x []=[]from rfl,y1k];show p) (λi U H' _ z=>.of<|hG _ _ _ z.2 _ _ o0) ?_ ?_)
  .rintro j y U H3 I ⟨⟨l,rfl⟩,u⟩;rw[y0r]at I;let(y,Y,rfl):=y18.mp I;let my:=y0d Y;let hj:=(y09.mp Y).1;let hmm:i*ys.length+ys.length<=xs.length*ys.length:=by have:=y1y ys.length hi;rwa[Nat.succ_mul]at this
   trivial;let(z3,ez3,hz3):=u.at;apply(.inl (_,.of ez3),mtm u.e1 nm (_,.of<|hG _ _ _ u _ _ J,_,zaj (j:=2) R,zg8 (X:=[]) n1.nil k1 k2 (λ_ z=>nomatch z) ab.ek ab.hh hf hs ab.ht 00 (ab.rd _<|lbS_mem.mpr (x,mx,y,my,.inl R)) ab.sm u λn H4 ys4 e4 h4 G4=>?_));let hll:(lbS t (t|||2^i0) (xs.take i) ys++lbI t (t|||2^i0) x (ys.take j)).length<=64:=by rw[y02,zsd,zsf,y19,y19,y3l (by omega),y3l<|by omega];omega
   apply(_,e4,zah 00,.inl (_,.of zao),mtm G4.e1 nm (_,.of<|hG _ _ _ G4 _ _ J,_,zaj (j:=2) R,_,.of<|hG _ _ _ G4 _ _ J,_,zaj (j:=1) R,?_));trivial;rw[et2];apply zg8 (X:=[]) n1.nil k1 k2 (λ_ z=>nomatch z) ab.ek ab.hh hf hs ht2 00 (ab.rd _<|lbS_mem.mpr (x,mx,y,my,.inr R)) ab.sm G4 λn5 H5 ys5 e5 g G5=>(_,e5,zah (by rw[y02]at g;simp only[y0b,y14]at g;omega),?_);rw[zvz Y,←y27,←y27];show G5
  .rintro U H3 ⟨⟨l,rfl⟩,Gq⟩;apply((_,_,R),?_);rw[y00,y0v 37,←zvy ex]at Gq;rw[y35,y33,y2w];show Gq
 .rintro U H2 ⟨⟨v6,l,rfl⟩,ac,v,Nq,hX⟩;trivial;rw[y00]at Nq hX;let(zs,ez,r):=hX _ y04;rw[y0v 37]at r;let(F,hF,C):=ka ac zs Nq.ex.T.nd r;let l1:=Nq.lf;let hlf:=ab.lf;let hmc:2*(xs.length*ys.length)*ct sz c<=M*ct sz c:=y1y _ hM;let hzl:=SS.Paired.len r;rw[zsd]at hzl;show(_,_,Nq.sn.e1,nm2,LA,p0,co,ac,v,zs,F,R,Nq.sn,by omega,ez,by omega,hF,C,(λk C=>let(q,D,z):=(zgr r).2 k C;zsb z (ab.rd q D)),λks H3 kp N3=>q ac v H3 zs ks Nq.ex.T kp r<|(Nq.trans N3).le 00)
abbrev Qm:Stmt:=inClass (top 54) 10
theorem Ky:FnScope ["self","part","letter","lefts","rights","placed"] ["self","part","letter","lefts","rights"] (defScope Qm):={}
include T in
theorem zy6{lv:Nat}(d:DfnM K Qa "above_places" "Standings.above_places" Qm ["self","part","letter","lefts","rights"])(Qk:CalM P w K mg base 2 Qa "of_some_place" ["self","unplaced","placed"]<|zgg P w Qa)(Qc:CalM P w K mg base (4+3*lv+1) Qa "above" ["self","number","letter","left","right"]<|zej P w Qa lv):CalM P w K mg base (4+3*lv+1+1) Qa "above_places" ["self","part","letter","lefts","rights"] (zlv P w Qa lv):=by
 apply d.cal Ky 21 22
 .nofun
 let(LA,co,fs,sts,a,t,i0,u,v,sz,M,pa,la,ra,e,o,xs,ys,c,rfl,L,epa,ela,era,o4,o0,hM,ab,ka,q):=h;let nm:List.lookup ("above":Str) LA.fl=B:=zbj 02 02 02 02;let nm2:List.lookup ("of_some_place":Str) LA.fl=B:=zbj 02 02 02 02;let(et2,ht2):=lor_c ab.ht ab.hi;let hf:fs.length+M*ct sz c<1000000:=by have:=ab.lf;omega
 let hs:sts.length+M*ct sz c<1000000:=by have:=ab.ls;omega
 let hM6:=ab.hM;let rx:∀x∈xs,Rdg fs (i0+1) c t x v sz:=λx O=>ab.rd (t,x,v)<|y08 _ (y1f _<|y1f _ (y0g.mpr (x,O,R)));let ry:∀y∈ys,Rdg fs (i0+1) c t u y sz:=λy I=>ab.rd (t,u,y)<|y08 _ (y1f _<|y0s _ (y0g.mpr (y,I,R)));let rn:Rdg fs (i0+1) c (t|||2^i0) u v sz:=ab.rd (t|||2^i0,u,v)<|y08 _ (y0s _ y04);let ru:Rdg fs (i0+1) c t u v sz:=ab.rd (t,u,v) y04;let aw:(xs.map nV).length=xs.length:=y00 ..;let cz:(ys.map nV).length=ys.length:=y00 ..;apply(_,(zab (ze7 (i:=5) Ky.nd R 17 ["left"] [(2,"letter"),(0,"self"),(1,"part"),(4,"rights")] 014 01 (zcy K<|zam 07 (pv 3) zac (λ_ _=>rfl)) (λ_ _ _ _ _=>(zaw (i:=0) (show List.Nodup (["left","letter","self","part","rights"]:List Str) by decide+kernel) 01 86)) (λ_ _ _ _ _=>zbs) λ_ _ _ _ _=>(zat Qc T.cl_Standings hr 00 (pv 2)<|pa_c (zam 07 (pv 3) zac λ_ _=>rfl) (pa_c (pv 1)<|pa_c (pv 0) (pa_c (zam 07 (pv 4) zac λ_ _=>rfl) zaa))))<|zab (zbf<|zb7 K PySem.F.plainAttrs_list PySem.F.slot_list_extend PySem.F.type_list_extend zr6 (pv 5) (pa_c (za9 ["right"] [(2,"letter"),(0,"self"),(1,"part"),(3,"lefts")] 014 01 (zcy K<|zam 07 (pv 4) zac (λ_ _=>rfl)) (λ_ _ _ _ _=>(zaw (i:=0) (show List.Nodup (["right","letter","self","part","lefts"]:List Str) by decide+kernel) 01 86)) (λ_ _ _ _ _=>zbs) λ_ _ _ _ _=>(zat Qc T.cl_Standings hr 00 (pv 2)<|pa_c (zam 07 (pv 3) zac λ_ _=>rfl) (pa_c (pv 1)<|pa_c (zam 07 (pv 4) zac λ_ _=>rfl) 013))) zaa)) (zab (zbf<|zb7 K PySem.F.plainAttrs_list PySem.F.slot_list_append PySem.F.type_list_append zbc (pv 5) (pa_c (zat Qc T.cl_Standings hr 00 (pv 0)<|pa_c (zam 07 (pv 1) zac λ_ _=>rfl) (pa_c (zav op_or (pv 2)<|zam 07 (pv 1) zac (λ_ _=>rfl))<|pa_c (zam 07 (pv 3) zac λ_ _=>rfl) (pa_c (zam 07 (pv 4) zac λ_ _=>rfl) zaa))) zaa))<|zad (zai<|zat Qk T.cl_Standings hr 00 (pv 0) (pa_c (zat Qc T.cl_Standings hr 00 (pv 0)<|pa_c (zam 07 (pv 1) zac λ_ _=>rfl) (pa_c (pv 2)<|pa_c (zam 07 (pv 3) zac λ_ _=>rfl) (pa_c (zam 07 (pv 4) zac λ_ _=>rfl) zaa)))<|pa_c (pv 5) zaa)))),?_);apply za1 [G 023,G<|.ref pa,G<|nV t,G<|.ref la,G<|.ref ra,B] R ?_;trivial;apply(_,.of ela,_,zaj (j:=1) R,(_,.of o4),zk0 (K:=K) (a:=e) (xs:=xs.map nV) (λD i ys U H'=>(∃v:Option V,U=[v,G<|nV t,G 023,G<|.ref pa,G<|.ref ra])/\Gj P w Qa LA co fs sts c (ct sz c) H i [(D,(xs.take i).map λx=>(t,x,v))] H') (zah 00) (λD hD=>((_,R),fs,sts,.same0 L<|za7 hD _,λd hd=>?_)) (λD i ys U H' hD hi J p=>.of<|L.tups p.2.up _ _ o4) ?_ ?_)
 .rw[y03.mp hd];show([],zao,.nil)
 .rintro D i zs U H4 x hD hi O J hl ⟨⟨v0,rfl⟩,Gq⟩;rw[y0r]at O;let(x,ex,rfl):=y18.mp O;let mx:=y0d ex;let hi':=(y09.mp ex).1;let(k1,k2):=L.nD hD;trivial;apply mtm Gq.e1 nm (_,.of<|L.tups Gq.up _ _ epa,_,zaj (j:=2) R,_,.of<|L.tups Gq.up _ _ era,_,zay,zg8 (X:=[]) hD k1 k2 (λ_ z=>nomatch z) ab.ek ab.hh hf hs ab.ht 00 (rx x mx) ab.sm Gq λn H5 ys5 e5 g G5=>cstep (zah 00) hi e5 ?_ ((_,R),?_))
  .rw[g,y00,y19];omega
  .rw[y1d,ex,y37,y0t];show G5
 rintro D zs U H4 hD J hl ⟨⟨v0,rfl⟩,Gq⟩;let(k1,k2):=L.nD hD;rw[aw,y0v 37]at Gq;apply(.inl (_,.of J),_,.of<|L.tups Gq.up _ _ era,_,zaj (j:=1) R,(_,.of<|L.tups Gq.up _ _ o0),zk0 (K:=K) (a:=o) (xs:=ys.map nV) (λD2 i us U H'=>(∃v:Option V,U=[v,G<|nV t,G 023,G<|.ref pa,G<|.ref la])/\Gj P w Qa LA co fs sts c (ct sz c) H (xs.length+i) [(D2,(ys.take i).map λy=>(t,u,y)),(D,xs.map λx=>(t,x,v))] H') (zah 00) (λD2 gz=>((_,R),Gq.two gz)) (λD2 i us U H' hD hi J p=>.of<|L.tups p.2.up _ _ o0) ?_ ?_)
 .rintro D2 i us U H5 y gz hi I hH5 l ⟨⟨v1,rfl⟩,G5⟩;rw[y0r]at I;let(y,ey,rfl):=y18.mp I;let my:=y0d ey;let hi':=(y09.mp ey).1;let(Y,k3,k4,k5):=Gq.no2 gz;trivial;apply mtm G5.e1 nm (_,.of<|L.tups G5.up _ _ epa,_,zaj (j:=2) R,_,.of<|L.tups G5.up _ _ ela,_,zay,zg8 Y k3 k4 (λd hd=>by rw[y03.mp hd];show(k5,k1,k2)) ab.ek ab.hh hf hs ab.ht 00 (ry y my) ab.sm G5 λn H6 ys6 e6 h6 G6=>cstep (zah 00) hi e6 ?_ ((_,R),?_))
  .rw[h6,y00,y19];omega
  .rw[y1d,ey,y37,y0t,←y3w];show G6
 rintro D2 us U H5 gz hH5 l ⟨⟨v1,rfl⟩,G5⟩;rw[cz,y0v 37]at G5;let(y1,y2,ey1,ey2,ni,hy4,G6):=G5.join hD k1 k2;rw[y00]at ni hy4;let ep6:=L.tups G6.up _ _ epa;let el6:=L.tups G6.up _ _ ela;let er6:=L.tups G6.up _ _ era;apply(D,R,D2,R,_,ey1,_,ey2,zah 00,.inl (_,.of zao),_,_,G6.e1,nm,_,.of ep6,_,zaj (j:=2) R,_,.of ep6,_,zaj (j:=1) R,_,.of el6,_,zay,_,.of er6,_,zay,?_);rw[et2];apply zg8 (X:=[]) hD k1 k2 (λ_ z=>nomatch z) ab.ek ab.hh hf hs ht2 00 rn ab.sm G6 λn8 H8 ys8 e8 h8 G8=>?_;let ep8:=L.tups G8.up _ _ epa;let el8:=L.tups G8.up _ _ ela;let er8:=L.tups G8.up _ _ era;rw[y02,y00,y00]at h8;apply(_,e8,zah 00,_,_,G8.e1,nm2,mtm G8.e1 nm (_,.of ep8,_,zaj (j:=2) R,_,.of el8,_,zay,_,.of er8,_,zay,?_));let(fs9,sts9,N9,hX9):=G8;let(zs,ez,r):=hX9 _ y04;apply zor ab.ek ab.hh hf hs ab.ht 00 ru ab.sm N9 λfsA oy HA n NA NB sA=>?_;let eA:=N9.sn.lst NA.up k1 k2 ez;let pA:io (LbOk fs fsA c) (lbP t (t|||2^i0) u v xs ys) zs:=L2.Paired.mapP r λq n z b=>(z b).ext NA.ex.T.nd NA.ex.p;let(F,hF,C):=ka fsA zs NB.ex.T.nd pA;let l1:=NB.lf;let hlf:=ab.lf;let hmc:(xs.length+ys.length+1+1)*ct sz c<=M*ct sz c:=y1y _ hM;let hzl:=SS.Paired.len r;simp only[y02,y00,y0b,y14]at hzl;show(LA,D,co,fsA,oy,n,zs,F,R,NB.sn,by omega,eA,by omega,hF,C,(λk C=>let(q,hq,z):=(zgr pA).2 k C;zsb z (ab.rd q<|y08 _ hq)),zsb sA ru,λks H3 kp N3=>q fsA oy H3 n zs ks NB.ex.T kp sA pA<|(NB.trans N3).le 00)
abbrev Qi:Stmt:=inClass (top 54) 8
theorem Qf:FnScope ["self","number","letter","left","right","part","lefts","rights"] ["self","number","letter","left","right"] (defScope Qi):={}
include T in
theorem zy4{lv:Nat}(d:DfnM K Qa "above_unsettled" "Standings.above_unsettled" Qi ["self","number","letter","left","right"])(Th:04 3 "mark_of" ["word","one","other","left","right"] zim)(Vf:04 2 "turned" ["standing"] zj4)(Q8:CalM P w K mg base 2 Qa "of_and" ["self","one","other"]<|zgh P w Qa)(Qc:CalM P w K mg base (4+3*lv+1) Qa "above" ["self","number","letter","left","right"]<|zej P w Qa lv)(Tn:CalM P w K mg base (4+3*lv+1+1) Qa "above_sets" ["self","part","letter","lefts","rights"]<|zlu P w Qa lv)(Tg:CalM P w K mg base (4+3*lv+1+1) Qa "above_places" ["self","part","letter","lefts","rights"]<|zlv P w Qa lv):CalM P w K mg base (4+3*lv+1+1+1) Qa "above_unsettled" ["self","number","letter","left","right"] (zls P w Qa<|lv+1):=by
 apply d.cal Qf 21 22
 .nofun
 let(LA,co,fs,sts,k,t,l,r,b0,sz,c,rfl,L,ab,(a2,a3,b2,b3),q):=h;let(rs,a,vs,ep,er,ea,pt):=L.part ab.ek;let ht:=ab.ht;let hh:=ab.hh;let hf:=ab.lf;let hs:=ab.ls;let rd:=ab.rd;let sm:=ab.sm;let nm:∀m:Str,_->List.lookup m LA.fl=B:=λm (h:m∈(["above","of_and","above_sets","above_places"]:List Str))=>by
  simp only[y06,y0l,or_false]at h;rcases h with rfl|rfl|rfl|rfl<;>show zbj (by decide) (by decide) (by decide) (by decide)
 apply(_,(zab (zar (i:=5) Qf.nd R 17<|zam 93 021 (pv 1) (λ_ _=>rfl))<|zab (zhv (zaf op_eq (zam 07 (pv 5) zac λ_ _=>rfl) zal 08) (zad<|zai (zae Vf hr 00 01<|pa_c (zat Qc T.cl_Standings hr 00 (pv 0)<|pa_c (zam 07 (pv 5) zac λ_ _=>rfl) (pa_c (pv 2) 047)) zaa)) zak) (zab (zhv (zaf op_eq (zam 07 (pv 5) zac λ_ _=>rfl) zal 08) (zab (zar (i:=6) Qf.nd R 17<|zam 93 021 (pv 3) (λ_ _=>rfl))<|zab (zar (i:=7) Qf.nd R 17<|zam 93 021 (pv 4) (λ_ _=>rfl)) (zad<|zai (zat Q8 T.cl_Standings hr 00 (pv 0)<|pa_c (zat Qc T.cl_Standings hr 00 (pv 0)<|pa_c (zam 07 (pv 5) zac λ_ _=>rfl) (pa_c (pv 2)<|pa_c (zam 07 (pv 6) zac λ_ _=>rfl) (pa_c (zam 07 (pv 7) zac λ_ _=>rfl) zaa))) (pa_c (zat Qc T.cl_Standings hr 00 (pv 0)<|pa_c (zam 07 (pv 5) zac λ_ _=>rfl) (pa_c (pv 2)<|pa_c (zam 07 (pv 6) zac λ_ _=>rfl) (pa_c (zam 07 (pv 7) zac λ_ _=>rfl) zaa))) zaa)))) zak)<|zab (zhv (zaf op_eq (zam 07 (pv 5) zac λ_ _=>rfl) zal 08) (zad<|zai (zat Tn T.cl_Standings hr 00 (pv 0)<|pa_c (pv 5) (pa_c (pv 2)<|pa_c (zam 07 (zam 93 021 (pv 3) λ_ _=>rfl) zac λ_ _=>rfl) (pa_c (zam 07 (zam 93 021 (pv 4) λ_ _=>rfl) zac λ_ _=>rfl) zaa)))) zak) (zab (zhv (zaf op_eq (zam 07 (pv 5) zac λ_ _=>rfl) zal 08) (zad<|zai (zat Tg T.cl_Standings hr 00 (pv 0)<|pa_c (pv 5) (pa_c (pv 2)<|pa_c (zam 93 021 (pv 3) λ_ _=>rfl) (pa_c (zam 93 021 (pv 4) λ_ _=>rfl) zaa)))) zak)<|zad (zai<|zae Th hr 00 01 (pa_c (zam 07 (pv 5) zac λ_ _=>rfl)<|pa_c (za5 zh0 (zav zny (pv 2)<|zam 07 (pv 5) zac (λ_ _=>rfl)) zac 08) (pa_c (za5 zh0 (zav zny (pv 2)<|zam 07 (pv 5) zac (λ_ _=>rfl)) zac 08) 047)))))),?_);apply za1 [G 023,G<|nV k,G<|nV t,G<|nV l,G<|nV r,B,B,B] R ?_;trivial;apply fdm L.e1 T.cl_Standings T.n_parts zdn<|ixm (.of ep) (zaj er) λ_ _=>?_;cases c with
 |bare wd i j =>
  apply atom λzG Y=>?_;let(C,hi,hj,rfl):=pt;let u:=zb8 C;apply Y ?_;apply ixm 83 zay (R,?_);apply itF (u _ 02) λ_ _=>ixm 83 zay (R,?_);apply itF (u _ 02) λ_ _=>ixm 83 zay (R,?_);apply itF (u _ 02) λ_ _=>ixm 83 zay (R,?_);apply itF (u _ 02) ?_;apply ixm 83 zay<|ixm 83 027 (ixm 83 041 ?_);trivial;rw[zot ht hi,zot ht hj];show(wd,bit t i,bit t j,l,r,R,λH2 p=>q fs sts H2 _ (.same0 L p) λb=>zqh a2 a3 b2 b3)
 |neg c =>
  let(b,rfl,eb):=pt;let M:c.hgt+1<lv+1:=hh;let J:fs.length+(ct sz c+1)<1000000:=hf;let U:sts.length+(ct sz c+1)<1000000:=hs;apply ixm 83 zay (R,?_);apply itT R ?_;infer_instance;show(mtm L.e1 029<|ixn 83 027 (LA,co,fs,sts,b,t,l,r,b0,sz,c,R,L,(eb,by omega,ht,rd.neg a2 a3 b2 b3,sm,by omega,by omega),λac v H1 n Nq s=>(n,R,λH2 p=>q ac v H2 _ ((Nq.aft p).le<|show ct sz c<=ct sz c+1-1 by omega) λb=>zud a2 a3 b2 b3<|s b)))
 |con c e =>
  apply atom λzG Y=>?_;let(b,b',rfl,eb,eb'):=pt;let(m1,m2,x,y,x',y',rfl,rfl,ef,fk,r1,r2):=rd.con a2 a3 b2 b3;let M:max c.hgt e.hgt+1<lv+1:=hh;let J:fs.length+(ct sz c+ct sz e+2)<1000000:=hf;let U:sts.length+(ct sz c+ct sz e+2)<1000000:=hs;let(rf,af,dv,du,nf):=L.form ef;let(rf',kt,b8,b9,nf'):=L.form fk;let bi:H af=G (.tup [nV x,nV y]):=nf;let dc:H kt=G (.tup [nV x',nV y']):=nf';apply Y ?_;apply ixm 83 zay (R,?_);apply itF (by intro z;show Xa (V.str.inj z) 02) λ_ _=>ixm 83 zay (R,?_);apply itT R ?_;infer_instance;apply(fdm L.e1 T.cl_Standings T.n_forms zbv<|ixm (.of dv) (zaj du) (fdm L.e1 T.cl_Standings T.n_forms zbv<|ixm (.of b8) (zaj b9) ?_));apply mtm L.e1 029<|mtm L.e1 029 (ixn 83 027<|ixm (.of bi) zay (ixm (.of dc) zay (LA,co,fs,sts,b,t,x,x',b0,sz,c,R,L,(eb,by omega,ht,r1,sm.1,by omega,by omega),λae sts1 H1 n1 N1 z1=>?_)));let l1:=N1.lf;let l2:=N1.ls;let ts:=L.tups N1.up;apply mtm N1.sn.e1 029<|ixn (.of<|ts _ _ ea) 041 (ixm (.of<|ts _ _ bi) 027<|ixm (.of<|ts _ _ dc) 027 (LA,co,ae,sts1,b',t,y,y',b0,sz,e,R,N1.sn,(eb',by omega,ht,r2.ext N1.ex.T.nd N1.ex.p,sm.2,by omega,by omega),λbc bo H2 n2 N2 z2=>?_));let l3:=N2.lf;let w1:LbOk fs bc c (t,x,x') n1:=λb=>(z1 b).ext N2.ex.T.nd N2.ex.p;let w2:LbOk fs bc e (t,y,y') n2:=λb=>(z2 b).pre N1.ex.T.nd N1.ex.p;show(LA,co,bc,bo,n1,n2,R,N2.sn,by omega,zsb w1 r1,zsb w2 r2,λH3 N3=>q _ bo H3 _ ((N1.trans<|N2.trans N3).le<|show ct sz c+(ct sz e+1)<=ct sz c+ct sz e+2-1 by omega) λb=>zue N2.ex.T ef fk (w1 b)<|w2 b)
 |so st i c =>
  apply atom λzG Y=>?_;let(b,hi,rfl,eb):=pt;let M:c.hgt+1<lv+1:=hh;let e1:∀z:Str,z∈(["not","and"]:List Str)->¬V.str (soW st)=V.str z:=λz hz e=>by
   let:=V.str.inj e;subst this;revert hz;cases st<;>decide
  apply Y ?_;apply ixm 83 zay (R,?_);apply itF (e1 _ 02) λ_ _=>ixm 83 zay (R,?_);apply itF (e1 _ 02) λ_ _=>ixm 83 zay (R,?_);let le64:=sm.le;cases st with
  |true =>
   let J:fs.length+(2^sz*ct sz c+2)<1000000:=hf;let U:sts.length+(2^sz*ct sz c+2)<1000000:=hs;rw[Xg<|show V.str (soW N)=V.str "some set" from rfl];apply atom λzG Y=>?_;let(rfl,hb4,m1,m2,ks1,ks2,rfl,rfl,ef,fk,hM,hr2,ka):=rd.set L.T.nd ht a2 a3 b2 b3;let(rf,af,dv,du,tx,bi,kr):=L.form ef;let(rf',kt,b8,b9,tx',dc,o5):=L.form fk;apply Y ?_;apply iteT ?_;infer_instance;apply(mtm L.e1 029<|fdm L.e1 T.cl_Standings T.n_forms zbv (ixm (.of dv) (zaj du)<|ixm (.of bi) zay (fdm L.e1 T.cl_Standings T.n_forms zbv<|ixm (.of b8) (zaj b9) (ixm (.of dc) zay (LA,co,fs,sts,b,t,i,sz,2^sz,a,tx,tx',ks1,ks2,c,R,L,ea,kr,o5,hM,(eb,by omega,ht,hi,λq0 D=>?_,le64,sm.1,by omega,by omega),λae g gi pz=>ka ae g gi sm (zsc pz).2,λae v H' g ks T1 kp pz Nq=>q _ v H' _ (Nq.le<|show 2^sz*ct sz c+1<=2^sz*ct sz c+2-1 by omega)<|zqi (zub ht T1 ef fk kp (zsc pz).1 (zsc pz).2))))));obtain⟨x,O,y,I,rfl|rfl⟩:=lbS_mem.mp D
   .exact(hr2 x O y I).1
   .exact(hr2 x O y I).2
  |false =>
   let J:fs.length+((sz+1)*ct sz c+2)<1000000:=hf;let U:sts.length+((sz+1)*ct sz c+2)<1000000:=hs;let h60:sz<=60:=sm.2;apply itF (by intro z;show Xa (V.str.inj z) 02) λ_ _=>ixm 83 zay (R,?_);rw[Xg<|show V.str (soW Fa)=V.str "some place" from rfl];apply atom λzG Y=>?_;let(rfl,hb4,m1,m2,u1,u2,ks1,ks2,rfl,rfl,ef,fk,hM,ru,rn,rx,ry,ka):=rd.plc L.T.nd ht a2 a3 b2 b3;let(rf,af,dv,du,tx,bi,kr):=L.form ef;let(rf',kt,b8,b9,tx',dc,o5):=L.form fk;apply Y ?_;apply iteT ?_;infer_instance;apply(mtm L.e1 029<|fdm L.e1 T.cl_Standings T.n_forms zbv (ixm (.of dv) (zaj du)<|fdm L.e1 T.cl_Standings T.n_forms zbv (ixm (.of b8) (zaj b9) (LA,co,fs,sts,b,t,i,u1,u2,sz,sz+1,a,af,kt,tx,tx',ks1,ks2,c,R,L,ea,bi,dc,kr,o5,by omega,(eb,by omega,ht,hi,λq0 D=>?_,by omega,sm.1,by omega,by omega),λae g gi pz=>ka ae g gi sm<|zw9 pz,λae v H' n g ks T1 kp o pz Nq=>q _ v H' _ (Nq.le<|show(sz+1)*ct sz c+1<=(sz+1)*ct sz c+2-1 by omega)<|zqi (zuc ht T1 ef fk kp (o _) (zse pz).1 (zse pz).2.1 (zse pz).2.2<|zw9 pz)))));rcases y06.mp D with rfl|D
   .exact ru
   rcases lbP_mem.mp D with⟨x,O,rfl⟩|⟨y,I,rfl⟩|rfl
   .exact rx x O
   .exact ry y I
   .exact rn
theorem ztw(T:Txt K mg w tw ow fa Qa Qb)(j:DfnM K Qa "above_unsettled" "Standings.above_unsettled" Qi ["self","number","letter","left","right"])(i:DfnM K Qa "above" "Standings.above" Kf ["self","number","letter","left","right"])(l:DfnM K Qa "above_sets" "Standings.above_sets" Qp ["self","part","letter","lefts","rights"])(o:DfnM K Qa "above_places" "Standings.above_places" Qm ["self","part","letter","lefts","rights"])(g:04 1 "told" ["truth"] zcu)(f:04 3 "mark_of" ["word","one","other","left","right"] zim)(a:04 2 "turned" ["standing"] zj4)(e:CalM P w K mg base 2 Qa "of_and" ["self","one","other"]<|zgh P w Qa)(c:CalM P w K mg base 2 Qa "of_some_set" ["self","standings"]<|zgf P w Qa)(d:CalM P w K mg base 2 Qa "of_some_place" ["self","unplaced","placed"]<|zgg P w Qa):∀lv,CalM P w K mg base (4+3*lv+1) Qa "above" ["self","number","letter","left","right"] (zej P w Qa lv)
 |0=>zw2 T i g<|(j.never λvs H Q E z=>by let(_,_,_,_,_,_,_,_,_,_,_,_,_,h,_):=z;show Xa h.hh<|y1h _).mono 00
 |lv+1=>by
  let C:=ztw T j i l o g f a e c d lv;show zw2 T i g<|zy4 T j f a e C (zy5 T l c C) (zy6 T o d C)
abbrev Vz:Stmt:=top 62
theorem zhf:FnScope ["_law_script","_law_k"] ["_law_script","_law_k"] (defScope Vz):={}
include T in
theorem zza(d:Dfn K mg "_law_cell_at" Vz ["_law_script","_law_k"]):04 1 "_law_cell_at" ["_law_script","_law_k"] (zlz K):=by
 apply d.cal zhf 21 22
 .nofun
 let(a,ns,k,rfl,I,Y,q):=h;apply(_,(zab (zaz (zaf zmk (pv 1) 059 08) (zad<|zai (zam 93 (pv 0) (pv 1) λ_ _=>rfl)) zak)<|zad (zai zac)),?_);apply za1 [G 09,G<|.int k] R ?_;trivial;apply(_,.inl I,ite2 (λc=>?_) λ_=>q 0);let c':=of_decide_eq_true c;rw[y00]at c';let C:k.toNat<ns.length:=by omega
 let ek:k=((k.toNat:Nat):Int):=by omega
 let e:atI 035 ((k.toNat:Nat):Int)=G (.int ns[k.toNat]):=zaj (by simp[C]);rw[←ek]at e;show(_,I,_,e,q _)
abbrev Ty:Stmt:=top 65
theorem zl5:FnScope ["_law_tree"] ["_law_tree"] (defScope Ty):={}
theorem zn2(T:Txt K mg w tw ow fa Qa Qb)(d:Dfn K mg "_law_size" Ty ["_law_tree"]):∀dd,04 (1+dd) "_law_size" ["_law_tree"] (zii dd)
 |0=>(d.never λvs H Q E (v,t,_,_,h,_)=>Xa h<|y1h _).mono 00
 |dd+1=>by
  let a:=zn2 T d dd;apply d.cal zl5 21 22
  .nofun
  let(v,t,rfl,tv,hd,q):=h;change Room (1+dd) _ at hr;apply(_,(zab (zaz (zaf zw0 (pv 0) zd1 08) (zad<|zai zac) zak)<|zad (zai<|zav zes (zav zes zac<|zae a hr 00 01 (pa_c (zam 07 (pv 0) zac λ_ _=>rfl) zaa)) (zae a hr 00 01<|pa_c (zam 07 (pv 0) zac λ_ _=>rfl) zaa))),?_);apply za1 [G v] R ?_;trivial;cases t with
  |nil =>
   obtain rfl:v=.non:=tv;show itT R q
  |node l x y =>
   let(p,c,C,rfl,ep,e,o):=tv;let O:x.depth<dd:=by have:1+max x.depth y.depth<dd+1:=hd;omega
   let I:y.depth<dd:=by have:1+max x.depth y.depth<dd+1:=hd;omega
   apply itF (λh=>nomatch h) (_,.of ep,_,zaj (j:=1) R,c,x,R,e,O,_,.of ep,_,zaj (j:=2) R,C,y,R,o,I,?_);trivial;rw[show(1:Int)+(x.size:Int)+(y.size:Int)=((1+x.size+y.size:Nat):Int) by omega];show q
abbrev Tk:Stmt:=top 66
theorem Qq:FnScope ["_law_cells","_law_letters","_law_most","_law_pool","_law_cell","_law_mixed","_law_letter","_law_one","_law_other"] ["_law_cells","_law_letters","_law_most"] (defScope Tk):={}
include T in
theorem zvb(d:Dfn K mg "_law_trees" Tk ["_law_cells","_law_letters","_law_most"])(Vh:04 62 "_law_size" ["_law_tree"]<|zii 61):04 63 "_law_trees" ["_law_cells","_law_letters","_law_most"] zf3:=by
 apply d.cal Qq 21 22
 .nofun
 let(c,ns,L,mo,rfl,l,km,hL,aa,q):=h;apply(_,(zab (zar (i:=3) Qq.nd R 17<|zax (pa_c zd1 zaa))<|zab (zdf PassesOwn.never R (za8 K<|pv 0) (zaw (i:=4) Qq.nd 01 86)<|zab (zar (i:=5) Qq.nd R 17<|zav zbe (zav zkl (pv 4) zac) zac) (zab (zar (i:=6) Qq.nd R 17<|zav zbe (pv 5) (pv 1))<|zab (zar (i:=7) Qq.nd R 17<|zam 93 (pv 3) (zav zbe (zav zbt (pv 5) zac) 089) (λ_ _=>rfl)) (zab (zar (i:=8) Qq.nd R 17<|zam 93 (pv 3) (zav zbe (zav zbt (pv 5) zac) 089) (λ_ _=>rfl))<|zde (zaz (zaf za6 (zav zbe (zav zbt (pv 5) zac) zac) zac 08) (zad<|zar (i:=8) Qq.nd R 17 (zam 93 (pv 3) (zpd zhp zac) λ_ _=>rfl)) zak) (zad<|zaz (zaf zmk (zav zes (zae Vh hr 00 01<|pa_c (pv 7) zaa)<|zae Vh hr 00 01 (pa_c (pv 8) zaa)) (pv 2) 08) (zad<|zbf (zb7 K PySem.F.plainAttrs_list PySem.F.slot_list_append PySem.F.type_list_append zbc (pv 3)<|pa_c (zaq<|pa_c (pv 6) (pa_c (pv 7)<|pa_c (pv 8) zaa)) zaa)) zak)))) (zad<|zai (pv 3))),?_);apply za1 [G<|.ref c,G<|nV L,G<|nV mo,B,B,B,B,B,B] R ?_;trivial;apply(zah 06,λp H1 n1=>((_,.of<|n1.g _ _ l),?_));let npc:c≠p:=zap l n1.nil;apply zfe (K:=K) (a:=c) (xs:=ns.map V.int) (λi U H'=>Same H H'/\(∃v4 v5 v6 v7 v8,U=[G<|.ref c,G<|nV L,G<|nV mo,G 91,v4,v5,v6,v7,v8])/\∃xs ts,H' p=G 98/\io (TreeV H') xs ts/\0<ts.length/\ts.length<=i+1/\∀t∈ts,t.Let L/\t.size<=mo)
  (n1.g,(_,_,_,_,_,R),[.non],[.nil],n1.at',.cons R .nil,by simp,by simp,λt ht=>by rw[y03.mp ht];show(trivial,by simp[Tr.size])) (λi U H' _ z=>.of<|z.1 _ _ l) ?_ ?_
 .rintro i y U H' I ⟨g,⟨v4,v5,v6,v7,v8,rfl⟩,xs,ts,ep,pr,Y,hl,hg⟩;rw[y0r]at I;let(z,o,rfl):=y18.mp I;let hxl:=SS.Paired.len pr;let hi:=(y09.mp o).1;trivial;let oz:∀e:Int,∃v t,atI xs (e%(xs.length:Int))=G v/\TreeV H' v t/\t∈ts:=λe=>by
   let(v,D,mv):=zfi (i:=e) (xs:=xs) (n:=xs.length) R 00;let(j,hj,ej):=y2o mv;let(t,et,tv):=SS.Paired.at pr<|y09.mpr (hj,ej);show(v,t,D,tv,y0d et)
  generalize z*48271%999999999989=O;let(x1,t1,a1,tv1,m1):=oz<|O/16;let(x2,C,a2,tv2,M):=oz<|O/1024;apply(.inr (by decide,by decide),by decide,by omega,(by decide,by decide),_,.inl<|.of ep,by omega,_,.of ep,_,a1,(by decide,by decide),_,.inl<|.of ep,by omega,_,.of ep,_,a2,?_);apply(λU H''=>H'=H''/\∃x t,TreeV H' x t/\t∈ts/\U=[G<|.ref c,G<|nV L,G<|nV mo,G 91,G<|.int z,G<|.int O,G<|.int (O%(L:Int)),G x1,G x],?_,?_)
  .trivial;apply((by decide,by decide),by decide,ite2 (λ_=>?_) λ_=>(x2,C,tv2,M,R));rcases zgv ts with rfl|⟨nv,t',rfl⟩
   .simp at Y
   let(xs0,x',rfl,pr0,tx):=zec pr;show(_,.of ep,_,zwo xs0 x',x',t',tx,by simp,R)
  .rintro U H'' ⟨rfl,x2,C,tv2,M,rfl⟩;let d1:=Tr.depth_le t1;let d2:=Tr.depth_le C;let s1:=(hg t1 m1).2;let s2:=(hg C M).2;trivial;apply(x1,t1,R,tv1,by omega,x2,C,R,tv2,by omega,ite2 (λc'=>?_) λ_=>(g,xs,ep,ts,pr,Y,by omega,hg));let c'':=of_decide_eq_true c';apply(.inl (_,.of ep),zah 06,λpt H5 u=>(_,u.g _ _ ep,small1000 00,?_));let bq:TupS H' (upd H5 p<|.lst (xs++[.ref pt])):=u.g.tups.trans<|TupS.wr (u.g _ _ ep) _;let q0:=y1c O (show(L:Int)≠0 by omega);let J:=y10 O (show(0:Int)<(L:Int) by omega);generalize O%(L:Int)=r at u q0 J;obtain⟨rn,rfl⟩:∃rn:Nat,r=(rn:Int):=(r.toNat,by omega);apply((g.trans u.g).wr n1.nil _,xs++[.ref pt],zao,ts++[.node rn t1 C],SM.Paired.snoc (L2.Paired.mapP pr λ_ _ z=>TreeV.ts bq z)<|show TreeV _ (.ref pt) (.node rn t1 C)from(pt,x1,x2,R,TupS.wr (u.g _ _ ep) _ _ _ u.at',TreeV.ts bq tv1,TreeV.ts bq tv2),by simp,by rw[y02,y0i];omega,λt ht=>?_);rcases y0o.mp ht with h|h
   .exact hg t h
   .rw[y03.mp h];show((by omega,(hg t1 m1).1,(hg C M).1),by change 1+t1.size+C.size<=mo;omega)
 .rintro U H' ⟨g,⟨v4,v5,v6,v7,v8,rfl⟩,xs,ts,ep,pr,Y,hl,hg⟩;rw[y00]at hl;trivial;show q p xs ts H' n1.nil g ep pr 00 hg
abbrev Vp:Stmt:=top 25
theorem zfx:FnScope ["saying"] ["saying"] (defScope Vp):={}
include T in
theorem zvi(d:Dfn K mg "inner_sayings" Vp ["saying"]):04 1 "inner_sayings" ["saying"] zcw:=by
 apply d.cal zfx 21 22
 .nofun
 let(a,xs,rfl,e,j,C,q):=h;apply(_,(zad<|zai (za9 ["thing"] [] 014 01 (zcy K<|pv 0) (λ_ _ _ _ _=>(zaw (i:=0) (show List.Nodup (["thing"]:List Str) by decide+kernel) 01 86)) (λ_ _ _ _ _=>(zgs 112)) λ_ _ _ _ _=>(pv 0))),?_);apply za1 [G 09] R ?_;trivial;let I:SqT K H a xs:=.of e;apply((xs,I),zxp (λU=>∃v,U=[v]) (isT H) id j I (_,R) ?_ ?_)
 .rintro D i U H' x hi l O g u J ⟨v,rfl⟩;let(k,c):=C x l;trivial;apply(k,c.same g,by decide,?_);rw[Kd.isT c];cases ht:isT H x with
  |true=>show iteT<|zg5 j O ht u J g (_,R) R
  |false=>show iteF<|zg6 O ht J g (_,R)
 .intro D H' u g J;rw[y48]at J;show q D H' u g J
abbrev Pl:Stmt:=top 26
theorem zo7:FnScope ["saying"] ["saying"] (defScope Pl):={}
include T in
theorem zrs(d:Dfn K mg "is_bare" Pl ["saying"])(o:04 1 "inner_sayings" ["saying"] zcw):04 2 "is_bare" ["saying"] zek:=by
 apply d.cal zo7 21 22
 .nofun
 let(v,sy,rfl,r,q):=h;let g:=zex hr 8 02;apply(_,(zad<|zai (za5 (znx g) (zae o hr 00 01 013) (zax zaa) 08)),?_);apply za1 [G v] R ?_;trivial;apply atom λi Y=>?_;let(a,xs,rfl,e,j,C,l):=r.items;apply Y ?_;apply(a,xs,R,e,by omega,C,λD H1 u g1 c=>(by decide,λp H2 n2=>(_,(zns (k:=0) (.of<|n2.g _ _ c) n2.lst).up 02,?_)));let h:=q H2<|g1.trans n2.g;let eb:sy.isBare=decide (xs.filter (isT H)=[]):=by
  generalize xs.filter (isT H)=ys at l;cases sy with
  |bare w n m=>cases l;rfl
  |neg s=>cases l;rfl
  |two w s t=>cases l;rfl
  |qu w n s=>cases l;rfl
 rw[eb]at h;show h
abbrev Vb:Stmt:=top 27
theorem zhg:FnScope ["saying"] ["saying"] (defScope Vb):={}
include T in
theorem zvm{n:Nat}(d:Dfn K mg "count_parts" Vb ["saying"])(o:04 1 "inner_sayings" ["saying"] zcw)(V0:04 (n+1) "count_parts" ["saying"]<|zf5 n):04 (n+1+1) "count_parts" ["saying"] (zf5<|n+1):=by
 apply d.cal zhg 21 22
 .nofun
 let(v,sy,rfl,r,hd,q):=h;apply(_,(zad<|zai (zav zes zac<|za2 (zc4 K R) 01 T.b_sum boot_sum (pa_c (za9 ["inner"] [] 014 01 (za8 K<|zae o hr 00 01 013) (λ_ _ _ _ _=>(zaw (i:=0) (show List.Nodup (["inner"]:List Str) by decide+kernel) 01 86)) (λ_ _ _ _ _=>zbs) λ_ _ _ _ _=>(zae V0 hr 00 01 013)) zaa))),?_);apply za1 [G v] R ?_;trivial;let(a,xs,rfl,e,j,C,l):=r.items;apply(a,xs,R,e,by omega,C,λY H1 M g1 e1=>((_,.of e1),?_));let y:=Paired.len l;let l3:(xs.filter<|isT H).length<=1000:=y0z (y1m _ _) 00;apply ztg (K:=K) (a:=Y) (xs:=xs.filter<|isT H) (λU=>∃v,U=[v]) (λi=>.int<|((sy.inner[i]?).map Sy.parts).getD 0) l3 (.of e1) (_,R) ?_ ?_
 .rintro D i U H' x hi O g u J ⟨v,rfl⟩;let(t,I,rt):=Paired.at l O;let L:=(zg1<|y0d I).1;trivial;apply(x,t,R,rt.same<|g1.trans g,by omega,λH2 p=>zmz l3 hi u (p _ _ J) (g.trans p) (_,R)<|by rw[I];rfl)
 .intro D H' u g c;apply(D,R,(List.range (xs.filter<|isT H).length).map λi=>(((sy.inner[i]?).map Sy.parts).getD 0:Nat),.of (by rw[c,y0w];rfl),?_);let h:=q H'<|g1.trans g;let es:(1:Int)+((List.range (xs.filter<|isT H).length).map λi=>((((sy.inner[i]?).map Sy.parts).getD 0:Nat):Int)).sum=(sy.parts:Int):=by
   rw[y];cases sy with
   |bare w n m=>rfl
   |neg s=>change(1:Int)+((s.parts:Int)+0)=((s.parts+1:Nat):Int);omega
   |two w s t=>change(1:Int)+((s.parts:Int)+((t.parts:Int)+0))=((s.parts+t.parts+1:Nat):Int);omega
   |qu w n s=>change(1:Int)+((s.parts:Int)+0)=((s.parts+1:Nat):Int);omega
  rw[es];show h
theorem zlh(T:Txt K mg w tw ow fa Qa Qb)(d:Dfn K mg "count_parts" Vb ["saying"])(e:04 1 "inner_sayings" ["saying"] zcw):∀n,04 (n+1) "count_parts" ["saying"] (zf5 n)
 |0=>(d.never λvs H Q E h=>by let(v,s,_,_,hd,_):=h;show Xa hd<|y1h _).mono 02
 |n+1=>zvm T d e<|zlh T d e n
abbrev Vr:Stmt:=top 28
theorem zfw:FnScope ["thing"] ["thing"] (defScope Vr):={}
include T in
theorem zrx(d:Dfn K mg "is_any_saying" Vr ["thing"])(i:04 28 "has_form" ["thing","deepest"]<|ziv 12)(a:04 14 "count_parts" ["saying"]<|zf5 13):04 29 "is_any_saying" ["thing"] zj6:=by
 apply d.cal zfw 21 22
 .nofun
 let(v,rfl,ex,q):=h;apply(_,(zad<|zai (zce (zae i hr 00 01<|pa_c (pv 0) (pa_c (za4 01 T.g_DEEPEST) zaa))<|zby (za5 op_le (zae a hr 00 01 013) (za4 01 T.g_MOST_PARTS) 08))),?_);apply za1 [G v] R ?_;trivial;apply(v,R,ex,λH1 g1=>(_,R,ite2 (λc=>?_) λc=>q Fa H1 g1 (λz=>(by cases z),λ(s,r,C,hd,_)=>Xa (znp r C hd) c)));let(sy,r,C,hd):=zdy c;apply(v,sy,R,r.same g1,by omega,λH2 p=>q _ H2 (g1.trans p) (λz=>(sy,r,C,hd,?_),λ(s,r',_,_,l)=>?_))
 .let:=of_decide_eq_true z;omega
 .rw[r.det r'];show Xg 00
abbrev Tv:Stmt:=top 29
theorem zqy:FnScope ["saying","known","barred","most"] ["saying","known","barred","most"] (defScope Tv):={}
include T in
theorem ok_let{n:Nat}{bw:List Str}(d:Dfn K mg "is_let" Tv ["saying","known","barred","most"])(Q6:04 1 "inner_sayings" ["saying"] zcw)(Tj:04 2 "is_bare" ["saying"] zek)
  (T4:04 (n+2) "is_let" ["saying","known","barred","most"]<|zj5 K bw n):04 (n+1+2) "is_let" ["saying","known","barred","most"] (zj5 K bw<|n+1):=by
 apply d.cal zqy 21 22
 .nofun
 let(v,a,ba,sy,tl,mo,rfl,r,hd,ea,hl,Y,q):=h;apply(_,(zab (zaz (PW.pt<|zcc (zaf zhi 065 (pv 3) 08) (zb5<|zaf (zbl K) (zam 07 (pv 0) zac λ_ _=>rfl) (pv 2) (by with_unfolding_all rfl))) 042 zak)<|zab (zaz (zaf (zbl K) (zam 07 (pv 0) zac λ_ _=>rfl) (za4 01 T.g_TELLING_WORDS)<|by with_unfolding_all rfl) (zad<|zai (zce (za5 (zer K) (zam 07 (pv 0) zac λ_ _=>rfl) (pv 1)<|by with_unfolding_all rfl)<|zby (zae T4 hr 00 01<|pa_c (zam 07 (pv 0) zac λ_ _=>rfl) (pa_c (zav zed (pv 1)<|zax (pa_c (zam 07 (pv 0) zac λ_ _=>rfl) zaa))<|pa_c (pv 2) 039)))) zak) (zab (zaz (zbd<|zae Tj hr 00 01 013) (zad<|zai (za2 (zbx K R) 01 T.b_all jm<|pa_c (za9 ["name"] [(1,"known")] 014 01 (zcy K<|zbi (zgm K) (pv 0) (zbg zac) zdg) (λ_ _ _ _ _=>(zaw (i:=0) (show List.Nodup (["name","known"]:List Str) by decide+kernel) 01 86)) (λ_ _ _ _ _=>zbs) λ_ _ _ _ _=>(za5 (zbl K) (pv 0) (pv 1)<|by with_unfolding_all rfl)) zaa)) zak)<|zad (zai<|za2 (zbx K R) 01 T.b_all jm (pa_c (za9 ["inner"] [(1,"known"),(2,"barred"),(3,"most")] 014 01 (za8 K<|zae Q6 hr 00 01 013) (λ_ _ _ _ _=>(zaw (i:=0) (show List.Nodup (["inner","known","barred","most"]:List Str) by decide+kernel) 01 86)) (λ_ _ _ _ _=>zbs) λ_ _ _ _ _=>(zae T4 hr 00 01<|pa_c (pv 0) (pa_c (pv 1)<|pa_c (pv 2) 039))) zaa)))),?_);apply za1 [G v,G 09,G<|.ref ba,G<|.int mo] R ?_;trivial;rw[letB_eq]at q;apply(_,.inl 83,ite2 (λc=>?_) λc=>?_)
 .let c':=of_decide_eq_true c;rw[y00]at c';let h:=q H 99;rw[Xf 00,y15,y15]at h;show h
 let c':=of_decide_eq_false<|y1e.mpr c;rw[y00]at c';rw[Xg 00,y17]at q;let tw':=T.t_TELLING_WORDS H;apply atom λzG zk=>?_;obtain⟨p0,rest,ev,e0⟩:∃p rest,v=.ref p/\H p=G (.tup (.str (wordOf sy)::rest)):=by
  cases r with
  |bare hw e=>show(_,_,R,e)
  |neg e O=>show(_,_,R,e)
  |two hw e M J=>show(_,_,R,e)
  |qu hw e O=>show(_,_,R,e)
 apply zk ?_;subst ev;apply ixm (.of e0) zay (_,.inr<|Y H,R,zbu bw,?_);rw[zcj];by_cases hwb:wordOf sy∈bw
 .rw[Xg hwb];let h:=q H 99;rw[Xf λz=>z hwb,y15]at h;show iteT h
 rw[Xf hwb];rw[Xg hwb,y17]at q;apply iteF<|ixm (.of e0) zay (_,.inr tw',R,R,?_);let a5:(∀w n t,sy ≠ .qu w n t)->sy.isBare=Fa->∀H1,Same H H1->zcw [.ref p0] H1 (λx H1=>asR x λa_1=>(∃xs,SqL K H1 a_1 xs)/\
   cBody ["inner"] [(1,"known"),(2,"barred"),(3,"most")] (gName 0) tYes (tCall (zj5 K bw n) [] E0<|tCons (tVar 0) (tCons (tVar 1)<|tCons (tVar 2) (tCons (tVar 3) tNil)))
    [G<|.ref p0,G<|V.ref a,G<|V.ref ba,G<|V.int mo] (λx H1=>asR x λp=>∃x,SqL K H1 p (List.map V.bl x)/\Q (V.bl<|x.all id) H1) (Itl K a_1) H1) E0:=by
  intro nq pj H1 g1;apply atom λzG zk=>?_;let(p1,xs,ev',e,bd,C,pr):=r.items;apply zk ?_;cases ev';rw[zpq nq pj]at q;let eis:xs.filter (isT H1)=xs.filter (isT H):=y2g λy I=>by
   let(k,z):=C y I;rw[←Kd.isT z,←Kd.isT (z.same g1)]
  let ar:=Paired.len pr;let l3:(xs.filter<|isT H).length<=1000:=y0z (y1m _ _) 00;apply(p0,xs,R,g1 _ _ e,by omega,λy I=>let(k,z):=C y I;(k,z.same g1),λD1 H2 hD1 g2 L=>((_,.of L),?_));rw[eis]at L;let cq:=g1.trans g2;apply ztg (K:=K) (a:=D1) (xs:=xs.filter<|isT H) (λU=>∃v,U=[v,G<|V.ref a,G<|V.ref ba,G<|V.int mo]) (λi=>.bl<|((sy.inner[i]?).map<|letB bw mo tl).getD N) l3 (.of L) (_,R) ?_ ?_
  .rintro D i U H' x hi O g u a7 ⟨v,rfl⟩;let(t,et,rt):=Paired.at pr O;let dt:=(zg1<|y0d et).1;let gx:=cq.trans g;trivial;show(x,a,ba,t,tl,mo,R,rt.same gx,by omega,gx _ _ ea,by omega,Y,λH3 g3=>zmz l3 hi u (g3 _ _ a7) (g.trans g3) (_,R)<|by rw[et];rfl)
  .intro D H' u g eD;apply((List.range (xs.filter<|isT H).length).map λi=>((sy.inner[i]?).map<|letB bw mo tl).getD N,.of (by rw[eD,y0w];rfl),?_);rw[ar,zdr];show q H'<|cq.trans g
 cases r with
 |qu hw e O =>
  rename_i wd nm x t;rw[show wordOf (Sy.qu wd nm t)=wd from rfl,zqe wd hw];replace q:∀H',Same H H'->Q (.bl<|decide (nm∉tl)&&letB bw mo (tl++[nm]) t) H':=q;let dn:=zwj wd nm t;apply iteT<|ixm (.of e) 027 (_,.inl 83,R,zbu tl,?_);rw[zcj];by_cases o:nm∈tl
  .rw[Xg o];let h:=q H 99;rw[Xf λz=>z o,y15]at h;show iteF h
  rw[Xf o];rw[Xg o,y17]at q;apply iteT<|ixm (.of e) 041 (ixm (.of e) 027<|mkT λp1 H1 n1=>(_,n1.g _ _ ea,_,n1.at',zah (by rw[y00,y0i];omega),λp2 H2 n2=>?_));let g2:=n1.g.trans n2.g;show(x,p2,ba,t,tl++[nm],mo,R,O.same g2,by omega,by rw[n2.at',y0t];rfl,by rw[y02,y0i];omega,Y,λH3 g3=>q H3<|g2.trans g3)
 |neg e O =>
  rw[show wordOf (Sy.neg _)=("not":Str)from rfl,zvq];show iteF (_,_,R,.neg e O,λH1 g1=>by trivial;show iteF<|a5 (λ_ _ _ z=>by cases z) R H1 g1)
 |two hw e M J =>
  rename_i wd x y t1 t2;rw[show wordOf (Sy.two wd t1 t2)=wd from rfl,zsm wd hw];show iteF (_,_,R,.two hw e M J,λH1 g1=>by trivial;show iteF<|a5 (λ_ _ _ z=>by cases z) R H1 g1)
 |bare hw e =>
  rename_i wd nm m;rw[show wordOf (Sy.bare wd nm m)=wd from rfl,ztp wd hw];replace q:∀H',Same H H'->Q (.bl<|decide (nm∈tl)&&decide (m∈tl)) H':=q;apply iteF (_,_,R,.bare hw e,λH1 g1=>itB (_,.of<|g1 _ _ e,zj7 06,λp H2 n2=>((_,.of n2.at'),?_)));let ec:cutL [V.str wd,V.str nm,V.str m] (G 1) B=[nm,m].map V.str:=by
   rw[show((1:Int))=((1:Nat):Int)from rfl,zcs];rfl
  rw[ec]at n2;let g:=g1.trans n2.g;apply zxn (K:=K) (a:=p) (xs:=[nm,m].map V.str) (λU=>∃v,U=[v,G 09]) (λy=>.bl<|inV y 018) 06 (.of n2.at') (_,R) ?_ ?_
  .rintro D i U H' x hi l O g' u a7 ⟨v,rfl⟩;let fx:flatV x=N:=by
    let(z,_,rfl):=y0g.mp l;rfl
   trivial;show(_,.inl<|.of (g' _ _<|g _ _ ea),fx,zbu tl,zc3 06 O u a7 g' (_,R) R)
  .intro D H' u g' a7;apply([decide (nm∈tl),decide (m∈tl)],.of ?_,?_)
   .rw[a7];change G (HO.lst [.bl<|inV (.str nm) 018,.bl<|inV (.str m) 018])=_;rw[zcj,zcj];rfl
   .let h:=q H'<|g.trans g';rw[show[decide (nm∈tl),decide (m∈tl)].all id=(decide (nm∈tl)&&(decide (m∈tl)&&N))from rfl,y31];show h
theorem ztv{bw:List Str}(T:Txt K mg w tw ow fa Qa Qb)(d:Dfn K mg "is_let" Tv ["saying","known","barred","most"])(e:04 1 "inner_sayings" ["saying"] zcw)(f:04 2 "is_bare" ["saying"] zek):
  ∀n,04 (n+2) "is_let" ["saying","known","barred","most"]<|zj5 K bw n
 |0=>(d.never λvs H Q E h=>by let(v,a,c,s,tl,mo,_,_,hd,_):=h;show Xa hd<|y1h _).mono 02
 |n+1=>ok_let T d e f<|ztv T d e f n
abbrev Ve:Stmt:=top 30
theorem ze5:FnScope ["thing","frame"] ["thing","frame"] (defScope Ve):={}
include T in
theorem zrr(d:Dfn K mg "is_tree_saying" Ve ["thing","frame"])(y:04 4 "is_frame" ["thing"] zx1)(P9:04 29 "is_any_saying" ["thing"] zj6)
  (o:04 15 "is_let" ["saying","known","barred","most"]<|zj5 K SS.rowWords 13):04 30 "is_tree_saying" ["thing","frame"] (znm SS.rowWords 3):=by
 apply d.cal ze5 21 22
 .nofun
 let(v,fv,rfl,ex,x,U,q):=h;apply(_,(zad<|zai (zce (zae y hr 00 01 016)<|zce (zae P9 hr 00 01 013) (zby<|zae o hr 00 01 (pa_c (pv 0)<|pa_c (pv 1) (pa_c (za4 01 T.g_ROW_WORDS)<|pa_c (za4 01 T.g_MOST_TREE_NAMES) zaa))))),?_);apply za1 [G v,G fv] R ?_;trivial;apply(fv,R,x,U,λH1 g1=>(_,R,ite2 (λc=>?_) λc=>q Fa H1 g1 (λz=>(by cases z),λ(a,tl,s,J,e,av,_)=>Xa (show frB H fv=N by rw[J];simp only[frB,e];show av) c)));let(a,tl,rfl,e,av,h4):=frB_ex c;apply(v,R,ex.same g1,λb H2 p Y=>(_,R,?_));let back:(∃s,AnySay H1 v s)↔∃s,AnySay H v s:=⟨λ(s,r,C,hd,l)=>by
   let M:=znp r C hd;rw[zfd g1 ex]at M;let(s',r',a9,i):=zdy M;rw[r.det<|r'.same g1]at l;show(s',r',a9,i,l),λ(s,r,C,hd,l)=>(s,r.same g1,C,hd,l)⟩
 rw[back]at Y;apply ite2 (λO=>?_) λO=>q Fa H2 (g1.trans p) (λz=>(by cases z),λ(_,_,s,_,_,_,j,_)=>Xa (Y.mpr (s,j)) O);let(sy,j):=Y.mp O;let(r,C,hd,l):=id j;apply(v,a,ow,sy,tl,3,R,r.same<|g1.trans p,by omega,p _ _<|g1 _ _ e,by omega,T.t_ROW_WORDS,λH3 u=>q _ H3 (g1.trans<|p.trans u) (λz=>(a,tl,sy,R,e,av,j,z),λ(g,tl',s',J,D,_,L,z)=>?_));cases J;rw[e]at D;let I:tl=tl':=by
  let:=(Option.some.inj D);show znj<|HO.lst.inj this
 subst I;rw[r.det L.1];show z
abbrev Ku:Stmt:=inClass (top 54) 2
theorem Qg:FnScope ["self","saying","names","word","sort","part"] ["self","saying","names"] (defScope Ku):={}
theorem zn5(T:Txt K mg w tw ow fa Qa Qb)(d:DfnM K Qa "part_of" "Standings.part_of" Ku ["self","saying","names"])(Tj:04 2 "is_bare" ["saying"] zek)(Q7:04 2 "is_place" ["thing"]<|zhd SMALL):∀lv,CalM P w K mg base (3+lv) Qa "part_of" ["self","saying","names"] (zin P w Qa lv)
 |0=>(d.never λvs H Q E z=>by let(_,_,_,_,_,_,_,_,_,_,h,_):=z;show Xa h<|y1h _).mono 00
 |lv+1=>by
  let Qj:=zn5 T d Tj Q7 lv;apply d.cal Qg 21 22
  .nofun
  let(LA,b,v,sy,tl,co,rfl,L,r,ok,hlv,eb,nb1,nb2,hsz,q):=h;change Room (3+lv) _ at hr;let hu:=zex hr 8 00;apply(_,(zbr (zar (i:=3) Qg.nd R 17<|zam 07 (pv 1) zac (λ_ _=>rfl))<|zbr (zaz (zaf za6 (pv 3) zal 08) (zad<|zai (zat Qj T.cl_Standings hr 00 (pv 0)<|pa_c (zaq<|pa_c zal (pa_c (zaq<|pa_c zal (pa_c (zaq<|pa_c zal (pa_c (zam 07 (pv 1) zac λ_ _=>rfl) zaa))<|pa_c (zaq<|pa_c zal (pa_c (zam 07 (pv 1) zac λ_ _=>rfl) zaa)) zaa)) zaa)) 033)) zak) (zbr (zaz (zaf za6 (pv 3) zal 08) (zad<|zai (zat Qj T.cl_Standings hr 00 (pv 0)<|pa_c (zaq<|pa_c zal (pa_c (zaq<|pa_c zal (pa_c (zam 07 (pv 1) zac λ_ _=>rfl)<|pa_c (zaq<|pa_c zal (pa_c (zam 07 (pv 1) zac λ_ _=>rfl) zaa)) zaa)) zaa)) 033)) zak)<|zde (zww (zaf za6 (pv 3) zal 08) (zab (zar (i:=4) Qg.nd R 17<|zci (zbd<|zae Q7 hr 00 01 (pa_c (zam 07 (pv 1) zac λ_ _=>rfl) zaa)) zal zal)<|zad (zar (i:=5) Qg.nd R 17<|zaq (pa_c (pv 4)<|pa_c (zav zki zac 070) (pa_c (zat Qj T.cl_Standings hr 00 (pv 0)<|pa_c (zam 07 (pv 1) zac λ_ _=>rfl) (pa_c (zav zed (pv 2)<|zax (pa_c (zam 07 (pv 1) zac λ_ _=>rfl) zaa)) zaa)) zaa))))<|zad (zww (zbd<|zae Tj hr 00 01 016) (zad<|zar (i:=5) Qg.nd R 17 (zaq<|pa_c (pv 3) (pa_c (zav zki zac<|zb7 K PySem.F.plainAttrs_list PySem.F.slot_list_index PySem.F.type_list_index (zh7 K hu) (pv 2) (pa_c (zam 07 (pv 1) zac λ_ _=>rfl) zaa))<|pa_c (zav zki zac<|zb7 K PySem.F.plainAttrs_list PySem.F.slot_list_index PySem.F.type_list_index (zh7 K hu) (pv 2) (pa_c (zam 07 (pv 1) zac λ_ _=>rfl) zaa)) zaa)))<|zad (zar (i:=5) Qg.nd R 17<|zav (zrl K) (zaq 039) (zeq zd2 01 T.b_tuple ju<|pa_c (za9 ["inner"] [(2,"names"),(0,"self")] 014 01 (zcy K<|zbi (zgm K) (pv 1) (zbg zac) zdg) (λ_ _ _ _ _=>(zaw (i:=0) (show List.Nodup (["inner","names","self"]:List Str) by decide+kernel) 01 86)) (λ_ _ _ _ _=>zbs) λ_ _ _ _ _=>(zat Qj T.cl_Standings hr 00 (pv 2)<|pa_c (pv 0) 016)) zaa)))) (zab (zbf<|zb7 K PySem.F.plainAttrs_list PySem.F.slot_list_append PySem.F.type_list_append zbc 021 (pa_c (pv 5) zaa))<|zad (zai<|zav zc6 (za2 (zas K) 01 T.b_len ir<|pa_c 021 zaa) zac)))),?_);apply za1 [G 023,G v,G 94,B,B,B] R ?_;trivial;intros;apply atom λzG zk=>?_;let(a,xs,rfl,ea):=zf7 r;let nm:List.lookup ("part_of":Str) LA.fl=B:=zbj 02 02 02 02;apply zk ?_;apply ixm 83 zay ?_;infer_instance;by_cases bv:wordS sy="or"
  .refine itT bv ?_;apply atom λzG zk=>?_;cases r with
   |bare hw e=>show Xa (congrArg V.str<|show _=("or":Str)from bv)<|zb8 ok.1 "or" 02
   |neg e r1=>show Xa (show("not":Str)="or" from bv) 02
   |qu hw e r1=>simp only[wordS]at bv;rw[bv]at hw;show Xa hw 02
   |two hw e r1 r2 =>
   rename_i wd x y s t;obtain rfl:wd="or":=bv;let h1:max (lvS s) (lvS t)+4<lv+1:=by have:max (lvS s) (lvS t)+(if("or":Str)="or" then 4 else 1)<lv+1:=hlv;rwa[Xq rfl]at this
   let J:co.length+(szS s+szS t+4)<=500:=by have:co.length+(szS s+szS t+(if("or":Str)="or" then 4 else 1))<=500:=hsz;rwa[Xq rfl]at this
   apply zk ?_;apply mtm L.e1 nm<|ixn (.of e) 027 (mkT λp1 H1 n1=>ixn (.of<|n1.g _ _ e) 041<|mkT λp2 H2 n2=>mkT λp3 H3 I=>mkT λp4 H4 n4=>?_);let g2:=n1.g.trans n2.g;let g4:=g2.trans<|I.g.trans n4.g;let e2:szS (.neg<|.two "and" (.neg s) (.neg t))=szS s+szS t+4:=by simp only[szS];rw[Xp 02];omega
   let e3:lvS (.neg<|.two "and" (.neg s) (.neg t))=max (lvS s) (lvS t)+3:=by simp only[lvS];rw[Xp 02];omega
   apply(LA,b,.ref p4,.neg<|.two "and" (.neg s) (.neg t),tl,co,R,L.same g4,.neg n4.at'<|.two 02 (n4.g _ _ I.at') (.neg ((n2.g.trans<|I.g.trans n4.g) _ _ n1.at')<|r1.same g4) (.neg ((I.g.trans n4.g) _ _ n2.at')<|r2.same g4),ok,by rw[e3];omega,g4 _ _ eb,nb1,nb2,by rw[e2];omega,λah H' k u S' pre hl ek=>q ah H' k ((Same.up4 g4).trans u) S' pre ?_<|by rw[core_or];show ek);rw[e2]at hl;change _<=co.length+(szS s+szS t+(if("or":Str)="or" then 4 else 1));rw[Xq rfl];show hl
  apply itF bv ?_;infer_instance;by_cases d9:wordS sy="all"
  .refine itT d9 ?_;apply atom λzG zk=>?_;cases r with
   |bare hw e=>show Xa (congrArg V.str<|show _=("all":Str)from d9)<|zb8 ok.1 "all" 02
   |neg e r1=>show Xa (show("not":Str)="all" from d9) 02
   |two hw e r1 r2=>simp only[wordS]at d9;rw[d9]at hw;show Xa hw 02
   |qu hw e r1 =>
   rename_i wd n x s;obtain rfl:wd="all":=d9;let h1:lvS s+4<lv+1:=by have:lvS s+(if("all":Str)="all" then 4 else 1)<lv+1:=hlv;rwa[Xq rfl]at this
   let J:co.length+(szS s+3)<=500:=by have:co.length+(szS s+(if("all":Str)="all" then 3 else 1))<=500:=hsz;rwa[Xq rfl]at this
   apply zk ?_;apply mtm L.e1 nm<|ixn (.of e) 027 (ixn (.of e) 041<|mkT λp1 H1 n1=>mkT λp3 H3 I=>mkT λp4 H4 n4=>?_);let g4:=n1.g.trans<|I.g.trans n4.g;let e2:szS (.neg<|.qu "some" n (.neg s))=szS s+3:=by simp only[szS];rw[Xp 02]
   let e3:lvS (.neg<|.qu "some" n (.neg s))=lvS s+3:=by simp only[lvS];rw[Xp 02]
   apply(LA,b,.ref p4,.neg<|.qu "some" n (.neg s),tl,co,R,L.same g4,.neg n4.at'<|.qu 02 (n4.g _ _ I.at') (.neg ((I.g.trans n4.g) _ _ n1.at')<|r1.same g4),ok,by rw[e3];omega,g4 _ _ eb,nb1,nb2,by rw[e2];omega,λah H' k u S' pre hl ek=>q ah H' k ((Same.up4 g4).trans u) S' pre ?_<|by rw[zwk];show ek);rw[e2]at hl;change _<=co.length+(szS s+(if("all":Str)="all" then 3 else 1));rw[Xq rfl];show hl
  apply itF d9 ?_;infer_instance;apply(λσ' H'=>∃(p4:Ad) (vs:List V) (ah:List Co) (x4:Option V),σ'=[G 023,G 09,G 94,G<|.str (wordS sy),x4,G<|.ref p4]/\H' p4=G (.tup vs)/\PtOf ah vs (coreS tl sy)/\Up4 LA H H'/\Sj P w Qa LA ah [] [] H'/\co <+:ah/\ah.length+1<=co.length+szS sy,?_,?_)
  .trivial;intros;rcases many_of r ok hlv bv d9 with⟨wd,n,m,rfl⟩|⟨n,s0,rfl⟩|⟨its,ss,M⟩
   .cases r with
    |bare hw e =>
    apply atom λzG zk=>?_;let(a9,o,hm,h4):=ok;let nn:=zb8 a9;apply zk ?_;rw[show decide (wordS (Sy.bare wd n m)=("some":Str))=Fa from Xf λz=>nn "some" 02<|congrArg V.str z];apply iteF ?_;infer_instance;apply(_,_,R,.bare hw e,λH1 g1=>?_);apply itB ?_;infer_instance;let aj:=g1 _ _ eb;let e1:=g1 _ _ e;let gy:∀k:Nat,(1:Int)*2^((k:Nat):Int).toNat=((2^k:Nat):Int):=λk=>by rw[y0y,y49];simp
    let hi:=y0x.mpr o;let hj:=y0x.mpr hm;apply(.inl (_,.of aj),_,.of e1,_,zaj (j:=1) R,tl,n,R,.of aj,o,by omega,(by omega,by omega,by decide),.inl (_,.of aj),_,.of e1,_,zaj (j:=2) R,tl,m,R,.of aj,hm,by omega,(by omega,by omega,by decide),mkT λp4 H4 n4=>?_);let g4:=g1.trans n4.g;apply(_,n4.at',co,(a9,by omega,by omega,?_),Same.up4 g4,L.same g4,y2a _,y05 _);rw[gy,gy];rfl
   .cases r with
    |qu hw e r1 =>
    rename_i x;let(hn4,az,ok1):=ok;let h1:lvS s0+1<lv+1:=by have:lvS s0+(if("some":Str)="all" then 4 else 1)<lv+1:=hlv;rwa[Xp 02]at this
    let J:co.length+(szS s0+1)<=500:=by have:co.length+(szS s0+(if("some":Str)="all" then 3 else 1))<=500:=hsz;rwa[Xp 02]at this
    let ec:coreS tl (.qu "some" n s0)=.so (!isP n) tl.length (coreS 024 s0):=by simp only[coreS];rw[Xp 02]
    let es:szS (.qu "some" n s0)=szS s0+1:=by simp only[szS];rw[Xp 02]
    rw[show decide (wordS (Sy.qu "some" n s0)=("some":Str))=N from Xg rfl];let gy:(1:Int)*2^((018).length:Int).toNat=((2^tl.length:Nat):Int):=by rw[y0y,y49,y00];simp
    apply iteT ?_;infer_instance;apply(_,.of e,_,zaj (j:=1) R,_,_,R,.str _,(λz hz=>by cases hz;omega),λH1 g1=>?_);let L1:=L.same g1;let aj:=g1 _ _ eb;let e1:=g1 _ _ e;trivial;cases hp:isNm (V.str n) SMALL with
    |true =>
     let hp':isP n=N:=hp;apply iteT (_,.inl<|.of aj,(by omega,by rw[y00];omega,by decide),mtm L1.e1 nm (_,.of e1,_,zaj (j:=2) R,_,.of e1,_,zaj (j:=1) R,mkT λp2 H2 n2=>(_,n2.g _ _ aj,_,n2.at',zah (by rw[y00];simp only[y0b,y14];omega),λp3 H3 I=>?_)));let g3:=g1.trans<|n2.g.trans I.g;let L3:=L.same g3;let ep3:H3 p3=G (.lst<|(024).map V.str):=by rw[I.at',y0t];rfl
     let(k1,k2):=(L.same<|g1.trans n2.g).nD I.nil;apply(LA,p3,x,s0,tl++[n],co,R,L3,r1.same g3,ok1,by omega,ep3,k1,k2,by omega,λah H4 k u4 L4 pre hl ek=>mkT λp5 H5 n5=>(_,n5.at',ah,?_,((Same.up4 g3).trans u4).trans<|Same.up4 n5.g,L4.same n5.g,pre,by rw[es];omega));rw[ec,hp',gy];show(k,by omega,R,ek)
    |false =>
     let hp':isP n=Fa:=hp;apply iteF (_,.inl<|.of aj,(by omega,by rw[y00];omega,by decide),mtm L1.e1 nm (_,.of e1,_,zaj (j:=2) R,_,.of e1,_,zaj (j:=1) R,mkT λp2 H2 n2=>(_,n2.g _ _ aj,_,n2.at',zah (by rw[y00];simp only[y0b,y14];omega),λp3 H3 I=>?_)));let g3:=g1.trans<|n2.g.trans I.g;let L3:=L.same g3;let ep3:H3 p3=G (.lst<|(024).map V.str):=by rw[I.at',y0t];rfl
     let(k1,k2):=(L.same<|g1.trans n2.g).nD I.nil;apply(LA,p3,x,s0,tl++[n],co,R,L3,r1.same g3,ok1,by omega,ep3,k1,k2,by omega,λah H4 k u4 L4 pre hl ek=>mkT λp5 H5 n5=>(_,n5.at',ah,?_,((Same.up4 g3).trans u4).trans<|Same.up4 n5.g,L4.same n5.g,pre,by rw[es];omega));rw[ec,hp',gy];show(k,by omega,R,ek)
   .refine itF M.ns ?_;infer_instance;apply(_,_,R,r,λH1 g1=>?_);trivial;rw[M.nb];apply iteF ?_;infer_instance;apply mkT λp1 H2 n2=>?_;let g2:=g1.trans n2.g;let hln:=M.ln;let ai:0<its.length:=y3u.mpr M.ne;apply(_,.of<|g2 _ _ M.e,(λz=>?_),λp3 H3 I=>?_)
    .let:=z.1;rw[show(1:Int)=((1:Nat):Int)from rfl,HT.sIx_nat,y0b,y3l 00]at this;cases this
    let g3:=g2.trans I.g;let L3:=L.same g3;let ec:cutL (V.str (wordS sy)::its) (G 1) B=its:=by
     rw[show((1:Int))=((1:Nat):Int)from rfl,zcs];rfl
    let e3:=I.at';rw[ec]at e3;let hsz1:=M.sz;let cc:=g3 _ _ eb;apply((_,.of e3),zk0 (K:=K) (a:=p3) (xs:=its) (λD i ys U H'=>(∃v,U=[v,G 94,G 023])/\∃(ah:List Co) (ks:List Nat),ys=ks.map nV/\ks.length=i/\Up4 LA H3 H'/\Sj P w Qa LA ah [] [] H'/\co <+:ah/\ah.length<=co.length+szL (ss.take i)/\∀(j k:Nat),ks[j]?=G k->∃s,ss[j]?=G s/\ah[k]?=G 44) (zah 00) (λD hD=>((_,R),co,[],R,R,(Up4.refl _ _).wr hD _,L3.same<|za7 hD _,y2a _,by omega,λj k h=>by simp at h)) (λD i ys U H' hi hD hl p=>?_) ?_ ?_)
    .refine atom λzG zk=>?_;let(_,ah,ks,_,_,u,L',_):=p;apply zk ?_;show .of<|L3.tups u _ _ e3
    .rintro D i ys U H4 x hD hi O hH4 hl ⟨⟨v0,rfl⟩,ah,ks,rfl,C,u,L',pre,g,hj⟩;trivial;apply atom λzG zk=>?_;let(s1,es1,rs1):=Reps.at M.rs O;let(ok1,lv1):=M.ok s1<|y0d es1;let ht:=zt9 es1;let hle:=zwr ss<|i+1;let(k1,k2):=L3.nD hD;apply zk ?_;apply mtm L'.e1 nm (LA,b,x,s1,tl,ah,R,L',zkd rs1 λb' o' e'=>L3.tups u _ _<|g3 _ _ e',ok1,lv1,L3.lst u nb1 nb2 cc,nb1,nb2,by omega,λco2 H5 k u5 L5 pc f6 ek5=>?_);let hD5:=L'.lst u5 k1 k2 hH4;apply cstep (zah 00) hi hD5 hl ((_,R),co2,ks++[k],by rw[y0t];rfl,by rw[y02,C];rfl,(u.trans u5).wr hD _,L5.wr hD5 k1 k2,pre.trans pc,by omega,λj k' ej=>?_);by_cases hjl:j<ks.length
     .rw[y0q hjl]at ej;let(s2,e2,e2'):=hj j k' ej;show(s2,e2,zhw pc e2')
     .rw[y0n 00]at ej;let Y:j-ks.length=0:=by
       let:=(y09.mp ej).1;simp at this;omega
      rw[Y]at ej;cases ej;obtain rfl:j=i:=by omega
      show(s1,es1,ek5)
    .rintro D ys U H4 hD hH4 hl ⟨⟨v0,rfl⟩,ah,ks,rfl,C,u,L',pre,g,hj⟩;apply(D,R,_,.inl (.of hH4,λl H5 n5=>?_));let hle:=zwr ss its.length;let ep1:=n5.g _ _<|L3.tups u _ _ (I.g _ _ n2.at');let dl:(ks.map nV).length=its.length:=by rw[y00,C]
     apply(_,.of ep1,_,.of n5.at',06,(λz=>by rw[z]at dl;simp at dl;omega),zah (by rw[dl];simp only[y0b,y14];omega),λp6 H6 n6=>(_,n6.at',ah,M.core ah ks C hj,(((Same.up4 g3).trans u).trans<|Same.up4 n5.g).trans<|Same.up4 n6.g,(L'.same n5.g).same n6.g,pre,by omega))
  .rintro σ' H' ⟨p4,vs,ah,x4,rfl,e4,pt,u,L',pre,hl⟩;trivial;apply atom λzG zk=>?_;let(rs,er,pr):=L'.ep;let(qs,eq,pq):=L'.ef;let(ys,ey,ky,ef,ev):=L'.en;let fg:=SS.Paired.len pr;let n1:LA.p≠LA.pp:=zcq L'.e1 er (by intro z;cases z);let ns:LA.ps≠LA.pp:=zcq L'.es er (by intro z;cases z);let nn:LA.pn≠LA.pp:=zcq ey er (by intro z;cases z);apply zk ?_;apply fdm L'.e1 T.cl_Standings T.n_parts zdn (.inl (_,.of er),_,er,zah 00,fdm (by rw[zan n1];show L'.e1) T.cl_Standings T.n_parts zdn ?_);apply(_,.inl<|.of zao,?_);let ts:TupS H' (upd H' LA.pp<|.lst (rs++[.ref p4])):=TupS.wr er _;let o6:ah <+:ah++[coreS tl sy]:=(_,R);let u2:Up4 LA H' (upd H' LA.pp<|.lst (rs++[.ref p4])):=λb' o' Y _ _ _ e'=>by rw[zan Y];show e'
   let ek:V.int (((rs++[V.ref p4]).length:Nat)-1:Int)=nV ah.length:=by change V.int _=V.int _;rw[y02];simp only[y0b,y14];congr 1;omega
   rw[ek];show q (ah++[coreS tl sy]) _ ah.length (u.trans u2) (by rw[zan n1];show L'.e1,(_,zao,SM.Paired.snoc (L2.Paired.mapP pr λ_ _ z=>let(a',ck,e',n',p'):=PL.ts z ts;(a',ck,e',n',p'.more o6)) (p4,vs,R,ts _ _ e4,pt.more o6)),(qs,by rw[zan<|Ne.symm L'.nf];show eq,L2.Paired.mapP pq λ_ _ z=>z.ts ts),(ys,by rw[zan nn];show ey,ky.ts ts,ef,ev),by rw[zan ns];show L'.es,L'.T,(λk c l r v e=>by cases e),L'.nf) (pre.trans o6) (by rw[y02];show hl) (by rw[y0n 37,y43];rfl)
abbrev Km:Stmt:=inClass (top 54) 0
theorem zdc:FnScope ["self"] ["self"] (defScope Km):={}
include T in
theorem zvh(d:DfnI K Qa "Standings.__init__" Km ["self"]):CalI P w K mg base 1 Qa "Standings" ["self"] (ziq P w Qa):=by
 apply d.cal T.m_Standings zdc 21 22
 .nofun
 let(p,dx,D,rfl,eH,M,e1,ne,q):=h;apply(_,(zab (znu (pv 0) (zax zaa) 01)<|zab (znu (pv 0) (zax<|pa_c (zaq<|pa_c 078 zaa) (pa_c (zaq<|pa_c (za4 01 T.g_SECOND) zaa)<|pa_c (zaq<|pa_c 030 zaa) (pa_c (zaq<|pa_c 038 zaa) zaa))) 01) (zab (znu (pv 0) zu2 01)<|zad (znu (pv 0) zrd 01))),?_);apply za1 [G 91] R ?_;trivial;let gH:Same D H:=by rw[eH];show((Same.refl D).wr e1 _).wr M _
 let ep:H p=G (.ins Qa dx []):=by rw[eH,zao]
 apply mkT λpp H1 n1=>?_;let ep1:=n1.g _ _ ep;apply(_,_,_,ep1,T.cl_Standings,T.n_parts,by simp,mkT λt0 H2 n2=>mkT λx H3 n3=>mkT λC H4 L=>mkT λU H5 u=>mkT λpf H6 n6=>?_);let J:=n2.g.trans<|n3.g.trans (L.g.trans u.g);let g:=J.trans n6.g;let ep6:=g _ _ zao;let l1:(putF "parts" (V.ref pp) []).length<=1:=zcg "parts" (V.ref pp) [];let l2:(096).length<=_:=zcg "forms" (V.ref pf)<|putF "parts" (V.ref pp) [];apply(_,_,_,ep6,T.cl_Standings,T.n_forms,by omega,λpn H7 a=>?_);let ep7:=a.g _ _ zao;apply(_,_,_,ep7,T.cl_Standings,T.n_numbers,by omega,λps H8 j=>?_);let ep8:=j.g _ _ zao;let l3:(putF "numbers" (V.ref pn) 096).length<=_:=zcg "numbers" (V.ref pn) 096;let g01:Same D H1:=gH.trans n1.g;let ly:Same D H5:=(g01.wr M _).trans J;let g06:Same D H6:=(g01.wr M _).trans g;let g07:Same D H7:=(g06.wr M _).trans a.g;let g08:Same D H8:=(g07.wr M _).trans j.g;let npp:pp≠p:=Ne.symm<|zap ep n1.nil;let npf:pf≠p:=Ne.symm<|zap (J _ _ zao) n6.nil;let npn:pn≠p:=Ne.symm<|zap zao a.nil;let nps:ps≠p:=Ne.symm<|zap zao j.nil;let nt0:t0≠p:=Ne.symm<|zap zao n2.nil;let nt1:x≠p:=Ne.symm<|zap (n2.g _ _ zao) n3.nil;let nt2:C≠p:=Ne.symm<|zap ((n2.g.trans n3.g) _ _ zao) L.nil;let nt3:U≠p:=Ne.symm<|zap ((n2.g.trans<|n3.g.trans L.g) _ _ zao) u.nil;apply(_,_,_,ep8,T.cl_Standings,T.n_steps,by omega,q (p,dx,pp,pf,pn,ps) _ R ?_ (g08.wr M _) (gH.free n1.nil) (ly.free n6.nil) ((g06.wr M _).free a.nil)<|(g07.wr M _).free j.nil);let pd:H5 pp=G (.lst []):=J _ _ (by rw[zan npp];show n1.at');let O:∀b o,b≠p->H6 b=G o->upd H8 p (.ins Qa dx<|putF "steps" (V.ref ps) (putF "numbers" (V.ref pn) 096)) b=G o:=λb o Y e=>by
  rw[zan Y];apply j.g _ _ ?_;rw[zan Y];apply a.g _ _ ?_;rw[zan Y];show e
 apply(by rw[zao,fl4_put],([],O _ _ npp<|n6.g _ _ pd,.nil),([.ref t0,.ref x,.ref C,.ref U],O _ _ npf n6.at',.cons (t0,R,_,O _ _ nt0<|(n3.g.trans<|L.g.trans (u.g.trans n6.g)) _ _ n2.at',.cons R .nil)<|.cons (x,R,_,O _ _ nt1<|(L.g.trans<|u.g.trans n6.g) _ _ n3.at',.cons R .nil) (.cons (C,R,_,O _ _ nt2<|(u.g.trans n6.g) _ _ L.at',.cons R .nil)<|.cons (U,R,_,O _ _ nt3<|n6.g _ _ u.at',.cons R .nil) .nil)),([],?_,(λy I=>nomatch I),R,λi y h=>by simp at h),by rw[zan nps];show j.at',(λm f e=>(by cases e),y2b),(λk c l r v e=>by cases e),zap pd n6.nil);rw[zan npn];apply j.g _ _ ?_;rw[zan npn];show a.at'
abbrev Ke:Stmt:=inClass (top 54) 6
theorem K5:FnScope ["self","number","part"] ["self","number"] (defScope Ke):={}
theorem zn6(T:Txt K mg w tw ow fa Qa Qb)(d:DfnM K Qa "of_nothing" "Standings.of_nothing" Ke ["self","number"])(Vf:04 2 "turned" ["standing"] zj4)(Q8:CalM P w K mg base 2 Qa "of_and" ["self","one","other"]<|zgh P w Qa)(Qo:CalM P w K mg base 2 Qa "of_some_set" ["self","standings"]<|zgf P w Qa)(Qk:CalM P w K mg base 2 Qa "of_some_place" ["self","unplaced","placed"]<|zgg P w Qa):∀lv,CalM P w K mg base (3+lv) Qa "of_nothing" ["self","number"] (zio P w Qa lv)
 |0=>(d.never λvs H Q E z=>by let(_,_,_,_,_,_,_,_,_,h,_):=z;show Xa h<|y1h _).mono 00
 |lv+1=>by
  let D:=zn6 T d Vf Q8 Qo Qk lv;apply d.cal K5 21 22
  .nofun
  let(LA,co,fs,sts,k,c,rfl,L,ek,hh,g,q):=h;change Room (3+lv) _ at hr;let(rs,a,vs,ep,er,ea,pt):=L.part ek;let nm:∀m:Str,_->List.lookup m LA.fl=B:=λm (h:m∈(["of_nothing","of_and","of_some_set","of_some_place"]:List Str))=>by
   simp only[y06,y0l,or_false]at h;rcases h with rfl|rfl|rfl|rfl<;>show zbj (by decide) (by decide) (by decide) (by decide)
  apply(_,(zab (zar (i:=2) K5.nd R 17<|zam 93 021 (pv 1) (λ_ _=>rfl))<|zab (zaz (zaf op_eq (zam 07 (pv 2) zac λ_ _=>rfl) zal 08) (zad<|zai (zae Vf hr 00 01<|pa_c (zat D T.cl_Standings hr 00 (pv 0)<|pa_c (zam 07 (pv 2) zac λ_ _=>rfl) zaa) zaa)) zak) (zab (zaz (zaf op_eq (zam 07 (pv 2) zac λ_ _=>rfl) zal 08) (zad<|zai (zat Q8 T.cl_Standings hr 00 (pv 0)<|pa_c (zat D T.cl_Standings hr 00 (pv 0)<|pa_c (zam 07 (pv 2) zac λ_ _=>rfl) zaa) (pa_c (zat D T.cl_Standings hr 00 (pv 0)<|pa_c (zam 07 (pv 2) zac λ_ _=>rfl) zaa) zaa))) zak)<|zab (zaz (zaf op_eq (zam 07 (pv 2) zac λ_ _=>rfl) zal 08) (zad<|zai (zat Qo T.cl_Standings hr 00 (pv 0)<|pa_c (zax<|pa_c (zat D T.cl_Standings hr 00 (pv 0)<|pa_c (zam 07 (pv 2) zac λ_ _=>rfl) zaa) zaa) zaa)) zak) (zab (zaz (zaf op_eq (zam 07 (pv 2) zac λ_ _=>rfl) zal 08) (zad<|zai (zat Qk T.cl_Standings hr 00 (pv 0)<|pa_c (zat D T.cl_Standings hr 00 (pv 0)<|pa_c (zam 07 (pv 2) zac λ_ _=>rfl) zaa) (pa_c (zax zaa) zaa))) zak)<|zad (zai 078)))),?_);apply za1 [G 023,G<|nV k,B] R ?_;trivial;apply fdm L.e1 T.cl_Standings T.n_parts zdn<|ixm (.of ep) (zaj er) ?_;cases c with
  |bare wd i j =>
   apply atom λl Y=>?_;let(C,hi,hj,rfl):=pt;let u:=zb8 C;apply Y ?_;apply ixm 83 zay (R,?_);apply itF (u _ 02)<|ixm 83 zay (R,?_);apply itF (u _ 02)<|ixm 83 zay (R,?_);apply itF (u _ 02)<|ixm 83 zay (R,?_);show itF (u _ 02)<|q fs H 0 (.same0 L<|Same.refl _) zvo
  |neg c =>
   let(b,rfl,eb):=pt;let M:c.hgt+1<lv+1:=hh;let J:fs.length+(c.cost+2)<1000000:=g;apply ixm 83 zay (R,?_);apply itT R<|mtm L.e1 029 (ixm 83 027 (LA,co,fs,sts,b,c,R,L,eb,by omega,by omega,λo H1 n Nq s=>(n,R,λH2 p=>q o H2 _ ((Nq.aft p).le<|show c.cost<=c.cost+2 by omega)<|zzf s)))
  |con c e =>
   apply atom λl Y=>?_;let(b,b2,rfl,eb,I):=pt;let M:max c.hgt e.hgt+1<lv+1:=hh;let J:fs.length+(c.cost+e.cost+2)<1000000:=g;apply Y ?_;apply ixm 83 zay (R,?_);apply itF (by intro z;show Xa (V.str.inj z) 02)<|ixm 83 zay (R,?_);apply itT R<|mtm L.e1 029 (mtm L.e1 029<|ixm 83 027 (LA,co,fs,sts,b,c,R,L,eb,by omega,by omega,λU H1 n1 v s1=>?_));let l1:=v.lf;let ea1:=L.tups v.up _ _ ea;apply mtm v.sn.e1 029<|ixm (.of ea1) 041 (LA,co,U,sts,b2,e,R,v.sn,I,by omega,by omega,λbc H2 n2 N2 s2=>?_);let l2:=N2.lf;let s1':=s1.ext N2.ex.T.nd N2.ex.p;show(LA,co,bc,sts,n1,n2,R,N2.sn,by omega,s1'.lt,s2.lt,λH3 y=>q _ H3 _ ((v.trans<|N2.trans y).le<|show c.cost+(e.cost+1)<=c.cost+e.cost+2 by omega)<|zzg N2.sn.T s1' s2)
  |so st i c =>
   apply atom λl Y=>?_;let(b,hi,rfl,eb):=pt;let M:c.hgt+1<lv+1:=hh;let J:fs.length+(4*c.cost+2)<1000000:=g;let e1:∀z:Str,z∈(["not","and"]:List Str)->¬V.str (soW st)=V.str z:=λz hz e=>by
    let:=V.str.inj e;subst this;revert hz;cases st<;>decide
   apply Y ?_;apply ixm 83 zay (R,?_);apply itF (e1 _ 02)<|ixm 83 zay (R,?_);apply itF (e1 _ 02)<|ixm 83 zay (R,?_);cases st with
   |true =>
    apply itT (show V.str (soW N)=V.str "some set" from rfl)<|mtm L.e1 029 (mtm L.e1 029<|ixm 83 041 (LA,co,fs,sts,b,c,R,L,eb,by omega,by omega,λU H1 n1 v s1=>mkT λr H2 n2=>?_));let l1:=v.lf;show(LA,r,co,U,sts,[n1],[n1],R,v.sn.same n2.g,by omega,n2.at',by simp,by simp,λ_ z=>z,(λx O=>by rw[y03.mp O];show s1.lt),λks H3 kp y=>q _ H3 _ (((v.aft n2.g).trans y).le<|show c.cost+1<=4*c.cost+2 by omega)<|zzd v.sn.T kp s1)
   |false =>
    apply itF (by intro z;show Xa (V.str.inj z) 02)<|ixm 83 zay (R,?_);apply itT (show V.str (soW Fa)=V.str "some place" from rfl)<|mtm L.e1 029 (mtm L.e1 029<|ixm 83 041 (LA,co,fs,sts,b,c,R,L,eb,by omega,by omega,λU H1 n1 v s1=>mkT λr H2 n2=>?_));let l1:=v.lf;show(LA,r,co,U,sts,n1,[],[],R,v.sn.same n2.g,by omega,n2.at',by decide,by decide,(λ_ z=>nomatch z),(λ_ z=>nomatch z),s1.lt,λks H3 kp y=>q _ H3 _ (((v.aft n2.g).trans y).le<|show c.cost+1<=4*c.cost+2 by omega)<|zze v.sn.T kp s1)
abbrev Kc:Stmt:=inClass (top 54) 11
theorem Q3:FnScope ["self","number","standing","part","form"] ["self","number","standing"] (defScope Kc):={}
theorem zw1(T:Txt K mg w tw ow fa Qa Qb)(d:DfnM K Qa "with_whole" "Standings.with_whole" Kc ["self","number","standing"])(Po:04 1 "holds_with" ["word","mark"] zit):∀lv,CalM P w K mg base (2+lv) Qa "with_whole" ["self","number","standing"] (zql P w Qa lv)
 |0=>(d.never λvs H Q E z=>by let(_,_,_,_,_,_,_,_,_,_,_,h,_):=z;show Xa h<|y1h _).mono 00
 |lv+1=>by
  let Qe:=zw1 T d Po lv;apply d.cal Q3 21 22
  .nofun
  let(LA,co,fs,sts,k,n,sz,c,rfl,L,ek,hh,sg,sm,q):=h;change Room (2+lv) _ at hr;apply(_,(zab (zaz (zaf (zbl K) (pv 2) (zaq<|pa_c 030 (pa_c 038 zaa))<|by with_unfolding_all rfl) (zad<|zai (za5 za6 (pv 2) 030 08)) zak)<|zab (zar (i:=3) Q3.nd R (Or.inr R)<|zam 93 021 (pv 1) (λ_ _=>rfl)) (zab (zar (i:=4) Q3.nd R 17<|zam 93 021 (pv 2) (λ_ _=>rfl))<|zab (zaz (zaf op_eq (zam 07 (pv 3) zac λ_ _=>rfl) zal 08) (zad<|zai (zrb<|zat Qe T.cl_Standings hr 00 (pv 0) (pa_c (zam 07 (pv 3) zac λ_ _=>rfl) 033))) zak) (zab (zaz (zaf op_eq (zam 07 (pv 3) zac λ_ _=>rfl) zal 08) (zad<|zai (zce (zat Qe T.cl_Standings hr 00 (pv 0)<|pa_c (zam 07 (pv 3) zac λ_ _=>rfl) (pa_c (zam 07 (pv 4) zac λ_ _=>rfl) zaa))<|zby (zat Qe T.cl_Standings hr 00 (pv 0)<|pa_c (zam 07 (pv 3) zac λ_ _=>rfl) (pa_c (zam 07 (pv 4) zac λ_ _=>rfl) zaa)))) zak)<|zab (zaz (zaf (zbl K) (zam 07 (pv 3) zac λ_ _=>rfl) (zaq 053)<|by with_unfolding_all rfl) (zad<|zai (za2 (zk9 K R) 01 T.b_any boot_any<|pa_c (za9 ["inner"] [(0,"self"),(3,"part")] 014 01 (zcy K<|zam 07 (pv 4) (zpd zhp zac) (λ_ _=>rfl)) (λ_ _ _ _ _=>(zaw (i:=0) (show List.Nodup (["inner","self","part"]:List Str) by decide+kernel) 01 86)) (λ_ _ _ _ _=>zbs) λ_ _ _ _ _=>(zat Qe T.cl_Standings hr 00 (pv 1)<|pa_c (zam 07 (pv 2) zac λ_ _=>rfl) 013)) zaa)) zak) (zad<|zai (zae Po hr 00 01<|pa_c (zam 07 (pv 3) zac λ_ _=>rfl) 033))))),?_);apply za1 [G 023,G<|nV k,G<|nV n,B,B] R ?_;trivial;apply mkT λp1 H1 n1=>(_,.inr<|.of n1.at',R,R,?_);let L1:=L.same n1.g;let ei:inV (nV n) [V.int 2,V.int 3]=decide (2=n\/3=n):=in2 2 3 n;rw[ei];by_cases h:2=n\/3=n
  .refine itT h ?_;let J:=q H1 n1.g;rcases h with rfl|rfl
   .rw[ans_2]at J;show J
   .rw[ans_3]at J;show J
  rw[Xf h];apply atom λzG Y=>?_;let n2:n≠2:=λz=>h<|.inl z.symm;let I:n≠3:=λz=>h<|.inr z.symm;let(rs,a,vs,ep,er,ea,pt):=L1.part ek;let(rf,af,dv,du):=L1.any sg.lt;let nm:List.lookup ("with_whole":Str) LA.fl=B:=zbj 02 02 02 02;apply Y ?_;apply iteF<|fdm L1.e1 T.cl_Standings T.n_parts zdn (ixm (.of ep) (zaj er)<|fdm L1.e1 T.cl_Standings T.n_forms zbv (ixm (.of dv) (zaj du) ?_));cases c with
  |bare wd i j =>
   apply atom λzG Y=>?_;let(C,hi,hj,rfl):=pt;let nn:=zb8 C;rw[zou n2 I]at q;apply Y ?_;apply ixm 83 zay (R,?_);apply itF (nn _ 02)<|ixm 83 zay (R,?_);apply itF (nn _ 02)<|ixm 83 zay (mkT λr H2 n2=>(_,.inr<|.of n2.at',R,R,?_));rw[show inV (V.str wd) [V.str "some set",V.str "some place"]=Fa by
    rw[show[V.str "some set",V.str "some place"]=(["some set","some place"]:List Str).map V.str from rfl,zcj];apply Xf λl=>?_;simp only[y06,y0l,or_false]at l;rcases l with rfl|rfl
    .exact nn _ 02 R
    .exact nn _ 02 rfl]
   show iteF<|ixm (.of<|n2.g _ _ ea) zay (wd,n,R,q H2<|n1.g.trans n2.g)
  |neg c =>
   let(m,rfl,em):=pt;let M:c.hgt+1<lv+1:=hh;rw[ztt n2 I]at q;apply ixm 83 zay (R,?_);show itT R<|mtm L1.e1 nm (ixm 83 027 (LA,co,fs,sts,m,n,sz,c,R,L1,em,by omega,sg.neg n2 I,sm,λH2 p=>(_,R,q H2<|n1.g.trans p)))
  |con c e =>
   apply atom λzG Y=>?_;let(m,m2,rfl,em,em2):=pt;let(mm,x,y,rfl,ef,s1,s2):=sg.con n2 I;let M:max c.hgt e.hgt+1<lv+1:=hh;rw[ztu ef]at q;let(rf',kt,g,o,nf):=L1.form ef;rw[dv]at g;cases g;rw[du]at o;cases o;let bi:H1 af=G (.tup [nV x,nV y]):=nf;apply Y ?_;apply ixm 83 zay (R,?_);apply itF (by intro z;show Xa (V.str.inj z) 02)<|ixm 83 zay (R,?_);apply itT R<|mtm L1.e1 nm (ixm 83 027<|ixm (.of bi) zay (LA,co,fs,sts,m,x,sz,c,R,L1,em,by omega,s1,sm.1,λH2 p=>(_,R,?_)));cases b1:ans fs c x with
   |false=>rw[b1]at q;show iteF<|q H2 (n1.g.trans p)
   |true=>rw[b1]at q;show iteT<|mtm ((L1.same p).e1) nm (ixm (.of<|p _ _ ea) 041<|ixm (.of<|p _ _ bi) 027 (LA,co,fs,sts,m2,y,sz,e,R,L1.same p,em2,by omega,s2,sm.2,λH3 g3=>q H3<|n1.g.trans (p.trans g3)))
  |so st i c =>
   apply atom λzG Y=>?_;let(m,hi,rfl,em):=pt;let(mm,u,xs,rfl,ef,hxl,O):=sg.so L.T.nd sm n2 I;let M:c.hgt+1<lv+1:=hh;rw[zxr ef]at q;let(rf',kt,g,o,nf):=L1.form ef;rw[dv]at g;cases g;rw[du]at o;cases o;let e1:∀z:Str,z∈(["not","and"]:List Str)->¬V.str (soW st)=V.str z:=λz hz e=>by
    let:=V.str.inj e;subst this;revert hz;cases st<;>decide
   obtain⟨vf,tx,bi,kr,pk⟩:∃vf tx,H1 af=G (.tup vf)/\H1 tx=G (.tup<|xs.map nV)/\atI vf (-1)=G (.ref tx):=by
    cases st with
    |true=>let(tx,bi,et):=nf;show(_,tx,bi,et,R)
    |false=>let(tx,bi,et):=nf;show(_,tx,bi,et,R)
   apply Y ?_;apply ixm 83 zay (R,?_);apply itF (e1 _ 02)<|ixm 83 zay (R,?_);apply itF (e1 _ 02)<|ixm 83 zay (mkT λr H2 n2=>(_,.inr<|.of n2.at',R,R,?_));rw[show inV (V.str<|soW st) [V.str "some set",V.str "some place"]=N by cases st<;>decide+kernel];let hl:(xs.map nV).length<=1000:=by rw[y00];omega
   apply iteT (_,.of<|n2.g _ _ bi,_,pk,(_,.of<|n2.g _ _ kr),zxn (K:=K) (a:=tx) (xs:=xs.map nV) (λU=>∃v,U=[v,G 023,G 09]) (λv=>match v with|.int z=>.bl (ans fs c z.toNat)|_=>.non) hl (.of<|n2.g _ _ kr) (_,R) ?_ ?_)
   .rintro D i U H3 x hi l hx' gg hD a7 ⟨v,rfl⟩;let(z,mz,rfl):=y0g.mp l;trivial;let L3:=(L1.same n2.g).same gg;show mtm L3.e1 nm (_,.of<|gg _ _ (n2.g _ _ ea),_,zaj (j:=2) R,LA,co,fs,sts,m,z,sz,c,R,L3,em,by omega,O z mz,sm.1,λH4 g4=>zc3 hl hx' hD (g4 _ _ a7) (gg.trans g4) (_,R) R)
   .intro D H3 hD g3 eD;apply(D,R,xs.map<|ans fs c,.of ?_,?_)
    .rw[eD,y0w,y0w];rfl
    .rw[List.any_map];show q H3<|n1.g.trans (n2.g.trans g3)
end
abbrev sp_law:=zqk
section
variable {P:ik}{w:World}{K:Frag}{mg:Y1}{base:Heap}{f:Ad}{fd:i8}{tw ow fa Qa Qb:Ad}
variable (T:Txt K mg w tw ow fa Qa Qb)
include T in
theorem all(Tc:Dfn K mg "is_letter_with_figures" Q2 ["thing","letters"])(Qa9:Dfn K mg "is_place" T7 ["thing"])(Qbq:Dfn K mg "is_set" P4 ["thing"])(Qbm:Dfn K mg "is_name" Pm ["thing"])(Qbf:Dfn K mg "is_frame" T6 ["thing"])(Y:Dfn K mg "is_of_sort" Vi ["thing","sort","deepest"])(Qbd:Dfn K mg "has_form" V6 ["thing","deepest"])(Qaa:Dfn K mg "inner_sayings" Vp ["saying"])(Qbl:Dfn K mg "is_bare" Pl ["saying"])(Qak:Dfn K mg "count_parts" Vb ["saying"])(P8:Dfn K mg "is_any_saying" Vr ["thing"])(Qbr:Dfn K mg "is_let" Tv ["saying","known","barred","most"])(P1:Dfn K mg "is_tree_saying" Ve ["thing","frame"])(Qae:Dfn K mg "check_frame" V2 ["frame"])(Pj:Dfn K mg "check_tree_frame" Kz ["frame"])(P3:Dfn K mg "check_tree_let" Vd ["saying","frame"])(Qbg:Dfn K mg "is_whole" Tz ["thing"])(Qbb:Dfn K mg "is_below" T5 ["thing","bound"])(Qax:Dfn K mg "is_letter" Tm ["thing","tracks"])(Qaq:Dfn K mg "count_with" V8 ["letters","track"])(Pq:Dfn K mg "each_place_once" K6 ["frame","letters"])(Qbx:Dfn K mg "told" Qam ["truth"])(Qai:Dfn K mg "sides_asked" V3 ["word","left","right"])(Pu:Dfn K mg "mark_of_related" K7 ["word","one","other","left","right"])(Qbo:Dfn K mg "mark_of" Pp ["word","one","other","left","right"])(Qar:Dfn K mg "holds_with" Td ["word","mark"])(Qbs:Dfn K mg "turned" Py ["standing"])(Qac:Dfn K mg "worth_keeping" Vm ["standings"])(Kl:DfnI K Qa "Standings.__init__" Km ["self"])(Ko:DfnM K Qa "numbered" "Standings.numbered" Kn ["self","form"])(Kt:DfnM K Qa "part_of" "Standings.part_of" Ku ["self","saying","names"])(K1:DfnM K Qa "of_and" "Standings.of_and" K2 ["self","one","other"])(Q5:DfnM K Qa "of_some_set" "Standings.of_some_set" Q4 ["self","standings"])(Qw:DfnM K Qa "of_some_place" "Standings.of_some_place" Qy ["self","unplaced","placed"])(Q9:DfnM K Qa "of_nothing" "Standings.of_nothing" Ke ["self","number"])(K8:DfnM K Qa "above" "Standings.above" Kf ["self","number","letter","left","right"])(Qs:DfnM K Qa "above_unsettled" "Standings.above_unsettled" Qi ["self","number","letter","left","right"])(Ka:DfnM K Qa "above_sets" "Standings.above_sets" Qp ["self","part","letter","lefts","rights"])(Q0:DfnM K Qa "above_places" "Standings.above_places" Qm ["self","part","letter","lefts","rights"])(Kb:DfnM K Qa "with_whole" "Standings.with_whole" Kc ["self","number","standing"])(Qav:Dfn K mg "letters_of" Te ["tree"])(v:Dfn K mg "gone_up" Pg ["tree","first","coming"])(Qa4:Dfn K mg "tree_fits" Tl ["frame","tree"]){c a:Ad}(Kv:DfnC K mg "tree_holds_by" Kx ["saying","frame","tree"] c a)(L:Dfn K mg "tree_holds" Ta ["saying","frame","tree"])(Qaj:Dfn K mg "_law_cell_at" Vz ["_law_script","_law_k"])(Qbj:Dfn K mg "_law_name" T9 ["_law_kind","_law_number","_law_place"])(Qa1:Dfn K mg "_law_frame" To ["_law_number","_law_many"])(Qbi:Dfn K mg "_law_size" Ty ["_law_tree"])(Qa0:Dfn K mg "_law_trees" Tk ["_law_cells","_law_letters","_law_most"])(Qa5:Dfn K mg "_law_nodes" Tt ["_law_tree","_law_parent","_law_side","_law_found"])(Qbe:Dfn K mg "_law_bare" T8 ["_law_number","_law_names"])(Qbp:Dfn K mg "_law_new" Ph ["_law_number","_law_names"])(Qau:Dfn K mg "_law_saying" Vg ["_law_left","_law_names","_law_deep","_law_most"])(Qah:Dfn K mg "_law_choices" V1 ["_law_name_here","_law_many"])(Pz:Dfn K mg "_law_bare_value" Vc ["_law_saying_here","_law_nodes_here","_law_named"])(Qa2:Dfn K mg "_law_value" Tq ["_law_saying_here","_law_nodes_here","_law_named"])(Qaz:Dfn K mg "_law_holds" Tu ["_law_saying_here","_law_frame_here","_law_nodes_here"])(Qaf:Dfn K mg "_law_no_tree" V4 ["_law_saying_here","_law_frame_here","_law_tree"])(Qa3:Dfn K mg "_law_right" Ts ["_law_saying_here","_law_frame_here","_law_tree"])(Qa7:Dfn K mg "_law_steep" Vt ["_law_left","_law_names","_law_deep"])(Qab:Dfn K mg "_law_told_sets" Vk ["_law_saying_here"])(Pd:Dfn K mg "_law_greater_right" Ks ["_law_script","_law_cells"])(y:BltK base mg)(F:Fun K "law" "law" Qbh f fd):FnOk P w K mg base CX0 111 f fd ["_law_script"] (sp_law K [(a,qs_tree_holds_by)]):=by
 let c1:=ok_lf (P:=P) (w:=w) (base:=base) T Tc;let Q:=zve T Qa9 c1;let r:=ok_set T Qbq c1;let s:=ok_nm T Qbm Q r;let c5:=zvl T Qbf s;let c6:=zov T Y Qbd Q r s 12;let c7:=zvi (P:=P) (w:=w) (base:=base) T Qaa;let c8:=zrs T Qbl c7;let c9:=zlh T Qak c7 13;let c10:=zrx T P8 c6.1 c9;let c11:=ztv (bw:=SS.rowWords) T Qbr c7 c8 13;let H:=zrr T P1 c5 c10 c11;let k1:=zmn T Qae c5;let k2:=zpj T Pj k1;let k3:=zy2 T P3 k2 H;let O:=zrn (P:=P) (w:=w) (base:=base) T Qbg;let b2:=zrv T Qbb O;let r1:=zmm T Qax b2;let r3:=zru (P:=P) (w:=w) (base:=base) T Qaq;let r4:=zyt T Pq Q r3;let r5:=zkn (P:=P) (w:=w) (base:=base) T Qav;let E:=zml T Qa4 r5 r1 r4;let I:=zvc (P:=P) (w:=w) (base:=base) T Qbx;let m2:=zvd (P:=P) (w:=w) (base:=base) T Qai;let m3:=zyw T Pu I m2;let m4:=zyx T Qbo I m3;let m5:=zvj (P:=P) (w:=w) (base:=base) T Qar;let m6:=zro T Qbs I;let m7:=zvg (P:=P) (w:=w) (base:=base) T Qac;let u:=zvh (P:=P) (w:=w) (base:=base) T Kl;let s1:=zy1 (P:=P) (w:=w) (base:=base) T Ko;let s2:=zy3 T K1 s1;let p:=zyz T Q5 m7 s1;let D:=zy0 T Qw m7 s1;let s5:=zn5 T Kt c8 Q 30;let A:=zn6 T Q9 m6 s2 p D 24;let g:=zw1 T Kb m5 24;let i:=ztw T Qs K8 Ka Q0 I m4 m6 s2 p D 24;let g1:=zn7 (P:=P) (w:=w) (base:=base) T v 15;let M:=zyy T Kv y g1 u s5 A i g;let J:=ok_jth T L k3 E M;let l1:=zza (P:=P) (w:=w) (base:=base) T Qaj;let l2:=zyv (P:=P) (w:=w) (base:=base) T Qbj;let l3:=zy8 T Qa1 l2;let l4:=zrw (P:=P) (w:=w) (base:=base) T Qbe;let q:=zvf (P:=P) (w:=w) (base:=base) T Qbp;let l6:=zlg T Qau l4 q;let l7:=zlf T Qa7 q 4;let x:=zn2 (P:=P) (w:=w) (base:=base) T Qbi 61;let C:=zvb T Qa0 x;let n1:=zn4 (P:=P) (w:=w) (base:=base) T Qa5 20;let U:=zy9 (P:=P) (w:=w) (base:=base) T Qah;let o:=zzb (P:=P) (w:=w) (base:=base) T Pz;let v3:=zn0 T Qa2 U o 9;let v4:=zvk T Qaz v3;let d:=zyu T Qaf J;let e:=zpi T Qa3 J n1 v4 d;let l:=zrp (P:=P) (w:=w) (base:=base) T Qab 8;let j:=zy7 T Pd l7 (l6 3) C l e;show ok_law T F l1 l3 (l6 4) C e j
end
theorem txt_mk{K:Frag}{mg:Y1}{w:World}{r ow A s p:Ad}(Y:mg "isinstance"=B)(M:mg "tuple"=B)(J:mg "str"=B)(U:mg "list"=B)(C:mg "int"=B)(g:mg "bool"=B)(a:mg "set"=B)(q:mg "len"=B)(f:mg "all"=B)(l:mg "any"=B)(c:mg "sum"=B)(u:mg "max"=B)(d:mg "zip"=B)(h13:mg "range"=B)(o:mg "enumerate"=B)(h15:mg "sorted"=B)(v:mg "dict"=B)(T:GlV mg "FIGURES"<|.str FIGS)(i:GlV mg "LONGEST_NAME"<|.int 4)(I:GlV mg "SMALL_LETTERS"<|.str SMALL)(h20:GlV mg "GREAT_LETTERS"<|.str GREAT)(h21:GlV mg "MOST_NAMES"<|.int 4)(h22:GlV mg "MOST_TREE_NAMES"<|.int 3)(Q:GlV mg "DEEPEST"<|.int 12)(y:GlV mg "MOST_PARTS"<|.int 60)(h25:GlV mg "WAITING"<|.int 0)(h26:GlV mg "SECOND"<|.int 1)(h27:GlV mg "YES"<|.int 2)(h28:GlV mg "NO"<|.int 3)(D:GlV mg "TELLING_WORDS"<|.ref r)(h30:∀H,SqT K H r [.str "some",.str "all"])(h31:GlV mg "ROW_WORDS"<|.ref ow)(j:∀H,SqT K H ow [.str "ahead",.str "next"])(h33:GlV mg "FORMS"<|.ref A)(x:Forms K w A)(h35:mg "Standings"=G (.ref s))(h36:Cls K s)(E:NoAttr K s "parts")(h38:NoAttr K s "forms")(L:NoAttr K s "numbers")(h40:NoAttr K s "steps")(h41:mg "NoTree"=G (.ref p))(O:KSup K p)(h43:KExc K p)(h44:PySem.W.mroIn K p (.ref p)=G N)(h45:PySem.W.excIn K p veM "ValueError.__new__"=N):∃(qtw qow qfa e:Ad) ,Txt K mg w qtw qow qfa s e  :=
 (r,ow,A,p,(Y,M,J,U,C,g,a,q,f,l,c,u,d,h13,o,h15,v,T,i,I,h20,h21,h22,Q,y,h25,h26,h27,h28,D,h30,h31,j,h33,x,h35,h36,E,h38,L,h40,h41,O,h43,h44,h45))
end K43
open PySem PySem.W PyProof.Rows
set_option hygiene false in
local macro_rules
| `(tactic|exact_mod_cast 0) => `(tactic|((try dsimp only[L2.KOf]);refine' L2.dfn_mk KX Gq ?a ?l ?c ?k (λ_ _ _ _ _ _=>by first|exact L2.fit1 λ_=>rfl|exact L2.fit2 λ_ _=>rfl|exact L2.fit3 λ_ _ _=>rfl|exact L2.fit4 λ_ _ _ _=>rfl|exact L2.fit5 λ_ _ _ _ _=>rfl);((case a=>k_is);(case l=>k_is);(case c=>k_is);(case k=>k_is))))
namespace PySem.W.Fast
def tw3125438306129627439:=True
def tw18370401753355438429:=True
def tw11918105823503532635:=True
def tw3527539986067570040:=True
def tw17639538440465625624:=True
def tw7300106450780607485:=True
def tw14798337092754147004:=True
def tw12209610808169710921:=True
def tw4559372969768479447:=True
def tw10690676702626073863:=True
def tw10648035198157693058:=True
def tw18183655641526021656:=True
def tw6955339875115977579:=True
def tw9534154089783338886:=True
def tw8355666424326341802:=True
def tw479314854028719242:=True
def tw17107983327651090562:=True
def tw679800185177394812:=True
def tw13981960099535032333:=True
def tw5218792877478229093:=True
def tw5219122740705341235:=True
def tw12032806122913190616:=True
def tw2812880329247653916:=True
def tw16772872157326168774:=True
def tw3342787653944881565:=True
def tw17649897657734892650:=True
def tw11570146712276085412:=True
def tw3057910597942626112:=True
def tw14596399565243490231:=True
def tw10534934440868493017:=True
def tw9702300196228792463:=True
def tw10108044241566487821:=True
def tw16395721090150966974:=True
def tw13554163832115062160:=True
def tw10529030631365492583:=True
def tw2786521837751409340:=True
def tw3193344973932288887:=True
def tw8924422897499571332:=True
def tw2528352794310364261:=True
def tw15818229258232555486:=True
def tw9197927163303259030:=True
def tw18041502056078101468:=True
def tw14166693828279619011:=True
def tw7029539967318881876:=True
def tw3949595969285432225:=True
def tw614025042430810454:=True
def tw10576434066907037756:=True
def tw2311424647857362714:=True
def tw12560003174406568835:=True
def tw17399752889804778300:=True
def tw1387958976583251303:=True
def tw13549784556790571424:=True
def tw6823774558721514718:=True
def tw2276946808351784445:=True
def tw5345947378884594052:=True
def tw9577232619568707217:=True
def tw8668247854910985952:=True
def tw2492124144811226438:=True
def tw17492551251086385272:=True
def tw6704009714608607869:=True
def tw17223268800095610237:=True
def tw8095460134782123263:=True
def tw15772533492891750869:=True
def tw9745741392663305925:=True
def tw7879143079692820160:=True
def tw13373911610410269149:=True
def tw23622185047675044:=True
def tw14566837426855008630:=True
def tw711925032621397119:=True
def tw12203652278801610617:=True
def tw13830400996869391631:=True
def tw18194609051999739072:=True
def tw6243522473897144440:=True
def tw8461556800066242993:=True
def tw5469759929082272859:=True
def tw18112145357376059201:=True
def tw16234058299963233975:=True
def tw9622441421261378688:=True
def tw6883652169677980024:=True
def tw14165070909241294202:=True
def tw5123443844085482427:=True
def tw4151211252882985794:=True
def tw6843854751417250942:=True
def tw11849484182903345116:=True
def tw8668280056700843647:=True
def tw1711678329596419873:=True
def tw15156390695779775890:=True
def tw13521711701631074943:=True
def tw6337324934687919207:=True
def tw11803070460096147467:=True
def tw7048355497602905796:=True
def tw3809488122335530548:=True
def tw12065287285732956840:=True
def tw9354324086097956803:=True
def tw11132078398356920993:=True
def tw6151129470021670310:=True
def tw370909252853656660:=True
def tw8035087289690534217:=True
def tw3744644917020570972:=True
def tw5566603847717137929:=True
def tw18428875954720414152:=True
def tw7969367533191866643:=True
def tw14919727220690230806:=True
def tw15000127750092877521:=True
def tw3033510497295024015:=True
def tw10355537146603553921:=True
def tw16951923427705308630:=True
def tw2210375196725152608:=True
def tw8737042206122311896:=True
def tw165796729509807211:=True
def tw16430012807455325512:=True
def tw6256036197293886861:=True
def tw10129195048020398209:=True
def tw6996306053258766934:=True
def tw8092418877368644188:=True
def tw4960645020494895858:=True
def tw17864263164220835799:=True
def tw16965973876260943030:=True
def tw13926028368285899451:=True
def tw7908548944582708597:=True
def tw13765039413492610404:=True
def tw12244489483859965402:=True
def tw14616313952623587201:=True
def tw12838147494782750572:=True
def tw14938992918641108917:=True
def tw17410320555303150286:=True
def tw7628102202973088361:=True
def tw8444266233664696453:=True
def tw12469278989833186247:=True
def tw12079700099699789751:=True
def tw6280068148798844949:=True
def tw6980753984396552108:=True
def tw4042708625451839528:=True
def tw3212084393253524477:=True
def tw4517466170907042795:=True
def tw9511016941418787180:=True
def tw12242389969263404833:=True
def tw8240511615512957255:=True
def tw18379475268357604386:=True
def tw8586193442350341582:=True
def tw18312393735178365585:=True
def tw5723342184023481726:=True
def tw6664923875613363036:=True
def tw3738766593219005874:=True
def tw6253175212261525961:=True
def tw3559927475671659321:=True
def tw15197158059880882528:=True
def tw1399558979661086182:=True
def tw18363551807927995808:=True
def tw14943748567427628898:=True
def tw5562399738330187497:=True
def tw11947802800838319277:=True
def tw7969112462610244451:=True
def tw14742585544222011574:=True
def tw12660894541712326801:=True
def tw1715970990111840102:=True
def tw7550561649962808035:=True
def tw796794576109405917:=True
def tw12558029313215460954:=True
def tw602504062989424569:=True
def tw16230484225132957175:=True
def tw3712657598004092149:=True
def tw4278883977945349344:=True
def tw4987848226986140789:=True
def tw17363705151521697253:=True
def tw14504948088282342449:=True
def tw17752026778907788739:=True
def tw2091197157840495181:=True
def tw10611459550855493749:=True
def tw12667774328547956141:=True
def tw13719421297606488700:=True
def tw11097284900062505318:=True
def tw922101287172917462:=True
def tw11731031337332062857:=True
def tw7072824717003917078:=True
def tw7012240398222704983:=True
def tw2454589803494904564:=True
def tw7307344941891283913:=True
def tw13541467135108539140:=True
def tw3795977768026490476:=True
def tw17007165008058951960:=True
def tw50935720310978861:=True
def tw17513398111964976518:=True
def tw6117469856951985868:=True
def tw14180419317408314256:=True
def tw2808441495269318150:=True
def tw17183691949152090184:=True
def tw9570957293479179225:=True
def tw6606415083681653644:=True
def tw609871082152800086:=True
def tw5931833288291421859:=True
def tw9094386571319209128:=True
def tw10854341883328849381:=True
def tw4740427758791430986:=True
def tw18276104898430934585:=True
def tw8905534387207932542:=True
def tw10069796751218509010:=True
def tw5374720266949533590:=True
def tw14900291225154117404:=True
def tw7794117157535114532:=True
def tw7467700067231646657:=True
def tw14011306492928520073:=True
def tw1567066053438039836:=True
def tw18044037384444060861:=True
def tw10787467341992708702:=True
def tw17194969760028700054:=True
def tw2236868190100121152:=True
def tw16184676656693583806:=True
def tw9802377741244151496:=True
def tw6149088288426400965:=True
def tw7610578690533671405:=True
def tw8926118139787882581:=True
def tw9007012848757728404:=True
def tw11095421699941900719:=True
def tw10941088298049150799:=True
def tw1193300253504591778:=True
def tw1333705774141231270:=True
def tw3644356429794010605:=True
def tw17606951400262764980:=True
def tw7729404352429224478:=True
def tw3524842329882923210:=True
def tw4178078340374340460:=True
def tw1109742876479160169:=True
def tw70668324337193179:=True
def tw8802921620457366163:=True
def tw15502245414895948685:=True
def tw14437767864745271587:=True
def tw15679676888826348399:=True
def tw14589140087161449995:=True
def tw8786958584844982762:=True
def tw6422362495051282385:=True
def tw14372334943120108003:=True
def tw5373992827522865564:=True
def tw11986888618145821093:=True
def tw2212636314037775883:=True
def tw6199605960275612572:=True
def tw3095653159667249190:=True
def tw7958116906292565299:=True
def tw6854545687053159878:=True
def tw12979014539435875282:=True
def tw12091673962195237355:=True
def tw14813233600129620352:=True
def tw6932854697147407635:=True
def tw1245887632170723012:=True
def tw11103983390296433448:=True
def tw4545886544729158475:=True
def tw10194962034169223401:=True
def tw17264890040685357096:=True
def tw2660461312991481816:=True
def tw4615993808844125291:=True
def tw12728368367785945408:=True
def tw17836306417489529814:=True
def tw1141582211243530529:=True
def tw2503079261234728597:=True
def tw17434227760597470324:=True
def tw9952607542731303961:=True
def tw11523077109944639600:=True
def tw1859214055420469280:=True
def tw10352083154185095995:=True
def tw5026602365994059386:=True
def tw14179390654629614160:=True
def tw2809952692823122026:=True
def tw5055293122673337833:=True
def tw4425303856808084090:=True
def tw17586048743391611408:=True
def tw2344429062396644232:=True
def tw10351763967354156189:=True
def tw1949702887708046042:=True
def tw8810971198074434350:=True
def tw16905436535817518984:=True
def tw1145748554990121365:=True
def tw6796456740586684054:=True
def tw18264635513328839465:=True
def tw14200318508702032057:=True
def tw3075585161205683525:=True
def tw17947930780719208286:=True
def tw9459235447942595533:=True
def tw1384595814023489661:=True
def tw16377619386738817263:=True
def tw13984424264562071887:=True
def tw6660083933506222684:=True
def tw6356051550434417034:=True
def tw6111587997233060987:=True
def tw12377096703184622479:=True
def tw4835206337422332601:=True
def tw14092320358814227487:=True
def tw16629265066406671707:=True
def tw4617639037508556404:=True
def tw5533966313991365823:=True
def tw14525870514833790237:=True
def tw14022242409298137603:=True
def tw13589052563482668130:=True
def tw4951759589923368040:=True
def tw2260141978878356166:=True
def tw17952080424291438384:=True
def tw3293922126359577119:=True
def tw11685532461390274568:=True
def tw17158099287544654830:=True
def tw16090727209137861072:=True
def tw18102750312126907229:=True
def tw11633831243900256423:=True
def tw4186337439361531864:=True
def tw14819362945095377634:=True
def tw11448049517820480736:=True
def tw13036085388425234373:=True
def tw2395488498948194021:=True
def tw16950080293714202682:=True
def tw17656006502068303301:=True
def tw6425624954950430229:=True
def tw14201873695547892840:=True
def tw16997359597505851993:=True
def tw6291104807024345464:=True
def tw5338695004079749235:=True
def tw16893425803182304232:=True
def tw5884969239500207802:=True
def tw8362320667623664358:=True
def tw8681920380052165598:=True
def tw14490150550589206982:=True
def tw2399725095873736706:=True
def tw7775407799184690244:=True
def tw1926886825007040627:=True
def tw2392737173998133645:=True
def tw12200498517007406550:=True
def tw13407040654728941203:=True
def tw17279036017520926643:=True
def tw3027352538607397201:=True
def tw15252359764153540427:=True
def tw16867869643371073176:=True
def tw15643400046609645672:=True
def tw8925009853915060392:=True
def tw14912589866835231383:=True
def tw15949810953886527984:=True
def tw16705032657939301597:=True
def tw12086601010848174161:=True
def tw11577988144633466901:=True
def tw6484167434980145072:=True
def tw4130893994976853201:=True
def tw9258935262075468198:=True
def tw2216666238768595583:=True
def tw3594116112797861177:=True
def tw5480436702730892795:=True
def tw17293348660813586682:=True
def tw12829010399373544011:=True
end PySem.W.Fast
set_option maxRecDepth 100000 in
set_option maxHeartbeats 0 in
theorem PySem.Challenge.cw_setsays_k43_whole_tree_holds_plain_holds : PySem.Challenge.rw_setsays_k43_whole_tree_holds_plain.Holds := by
 w_on;o_law;k_head;(case hw=>w_witness2)
 k_fill
 apply L2.walk_ofT (l:=PySem.Challenge.rw_setsays_k43_whole_tree_holds_plain) (n:=63) (k:=111) (x:="_law_script") (CX:=L2.CX0) (sp:=K43.sp_law) R (by decide) R (R,by decide,by decide) (λw h Y=>PySem.W.km_in_of Y) ?F (λ_ _ _ a ns hl hO hS=>(a,ns,R,hS,hl,hO,λ_=>rfl)) λ_ _ _ _ z=>z
 case F =>
  intro w mg fa h KX Gq hmg;obtain⟨tw,g_TELLING_WORDS,t_TELLING_WORDS⟩:∃q,L2.GlV mg "TELLING_WORDS" (.ref q)/\∀H,L2.SqT (L2.KOf KX) H q [.str "some",.str "all"]:=by
   dsimp only[L2.KOf];refine' L2.glt_mk KX Gq 05 05 (by decide) (by show .cons (_,R) 045)
  obtain⟨ow,g_ROW_WORDS,t_ROW_WORDS⟩:∃q,L2.GlV mg "ROW_WORDS" (.ref q)/\∀H,L2.SqT (L2.KOf KX) H q [.str "ahead",.str "next"]:=by
   dsimp only[L2.KOf];refine' L2.glt_mk KX Gq 05 05 (by decide) (by show .cons (_,R) 045)
  obtain⟨ff,g_FORMS,f_FORMS⟩:∃q,L2.GlV mg "FORMS" (.ref q)/\SS.Forms (L2.KOf KX) w q:=by
   dsimp only[L2.KOf];refine' SS.forms_mk KX Gq 05 (by decide) 05 (by show((_,_,R,R),((_,_,R,R),((_,_,R,R),((_,_,R,R),((_,_,R,R),((_,_,R,R),((_,_,R,R),((_,_,R,R),((_,_,R,R),((_,_,R,R),((_,_,R,R),((_,_,R,R),((_,_,R,R),trivial)))))))))))))) ?he;refine' .cons ((_,R),_,R,SS.sqt_mk 05 (by decide) (by show .cons (_,R) 045)) (.cons ((_,R),_,R,SS.sqt_mk 05 (by decide) (by show .cons (_,R) 045)) (.cons ((_,R),_,R,SS.sqt_mk 05 (by decide) (by show .cons (_,R) 045)) (.cons ((_,R),_,R,SS.sqt_mk 05 (by decide) (by show .cons (_,R) 045)) (.cons ((_,R),_,R,SS.sqt_mk 05 (by decide) (by show .cons (_,R) 045)) (.cons ((_,R),_,R,SS.sqt_mk 05 (by decide) (by show .cons (_,R) 045)) (.cons ((_,R),_,R,SS.sqt_mk 05 (by decide) (by show .cons (_,R) 045)) (.cons ((_,R),_,R,SS.sqt_mk 05 (by decide) (by show .cons (_,R) 045)) (.cons ((_,R),_,R,SS.sqt_mk 05 (by decide) (by show .cons (_,R) (.nil))) (.cons ((_,R),_,R,SS.sqt_mk 05 (by decide) (by show .cons (_,R) 045)) (.cons ((_,R),_,R,SS.sqt_mk 05 (by decide) (by show .cons (_,R) 045)) (.cons ((_,R),_,R,SS.sqt_mk 05 (by decide) (by show .cons (_,R) 045)) (.cons ((_,R),_,R,SS.sqt_mk 05 (by decide) (by show .cons (_,R) 045)) (.nil)))))))))))))
  obtain⟨Qa,m_Standings,cl_Standings,n_parts,n_forms,n_numbers,n_steps,Kl,Ko,Kt,K1,Q5,Qw,Q9,K8,Qs,Ka,Q0,Kb⟩:∃q:Ad,mg "Standings"=G (.ref q)/\L2.Cls (L2.KOf KX) q/\L2.NoAttr (L2.KOf KX) q "parts"/\L2.NoAttr (L2.KOf KX) q "forms"/\L2.NoAttr (L2.KOf KX) q "numbers"/\L2.NoAttr (L2.KOf KX) q "steps"/\L2.DfnI (L2.KOf KX) q "Standings.__init__" K43.Km ["self"]/\L2.DfnM (L2.KOf KX) q "numbered" "Standings.numbered" K43.Kn ["self","form"]/\L2.DfnM (L2.KOf KX) q "part_of" "Standings.part_of" K43.Ku ["self","saying","names"]/\L2.DfnM (L2.KOf KX) q "of_and" "Standings.of_and" K43.K2 ["self","one","other"]/\L2.DfnM (L2.KOf KX) q "of_some_set" "Standings.of_some_set" K43.Q4 ["self","standings"]/\L2.DfnM (L2.KOf KX) q "of_some_place" "Standings.of_some_place" K43.Qy ["self","unplaced","placed"]/\L2.DfnM (L2.KOf KX) q "of_nothing" "Standings.of_nothing" K43.Ke ["self","number"]/\L2.DfnM (L2.KOf KX) q "above" "Standings.above" K43.Kf ["self","number","letter","left","right"]/\L2.DfnM (L2.KOf KX) q "above_unsettled" "Standings.above_unsettled" K43.Qi ["self","number","letter","left","right"]/\L2.DfnM (L2.KOf KX) q "above_sets" "Standings.above_sets" K43.Qp ["self","part","letter","lefts","rights"]/\L2.DfnM (L2.KOf KX) q "above_places" "Standings.above_places" K43.Qm ["self","part","letter","lefts","rights"]/\L2.DfnM (L2.KOf KX) q "with_whole" "Standings.with_whole" K43.Kc ["self","number","standing"]:=by
   dsimp only[L2.KOf];refine'(_,PySem.W.mg_of KX Gq 05,(05,05,05,05),L2.noattr_mk 05,L2.noattr_mk 05,L2.noattr_mk 05,L2.noattr_mk 05,L2.dfni_mk 05 05 05 05 05 05 05 (λ_ _ _ _ _ _=>L2.fit1 λ_=>rfl),L2.dfnm_mk 05 05 05 05 05 (λ_ _ _ _ _ _=>L2.fit2 λ_ _=>rfl),L2.dfnm_mk 05 05 05 05 05 (λ_ _ _ _ _ _=>L2.fit3 λ_ _ _=>rfl),L2.dfnm_mk 05 05 05 05 05 (λ_ _ _ _ _ _=>L2.fit3 λ_ _ _=>rfl),L2.dfnm_mk 05 05 05 05 05 (λ_ _ _ _ _ _=>L2.fit2 λ_ _=>rfl),L2.dfnm_mk 05 05 05 05 05 (λ_ _ _ _ _ _=>L2.fit3 λ_ _ _=>rfl),L2.dfnm_mk 05 05 05 05 05 (λ_ _ _ _ _ _=>L2.fit2 λ_ _=>rfl),L2.dfnm_mk 05 05 05 05 05 (λ_ _ _ _ _ _=>L2.fit5 λ_ _ _ _ _=>rfl),L2.dfnm_mk 05 05 05 05 05 (λ_ _ _ _ _ _=>L2.fit5 λ_ _ _ _ _=>rfl),L2.dfnm_mk 05 05 05 05 05 (λ_ _ _ _ _ _=>L2.fit5 λ_ _ _ _ _=>rfl),L2.dfnm_mk 05 05 05 05 05 (λ_ _ _ _ _ _=>L2.fit5 λ_ _ _ _ _=>rfl),L2.dfnm_mk 05 05 05 05 05 (λ_ _ _ _ _ _=>L2.fit3 λ_ _ _=>rfl))
  obtain⟨ktw,kow,kfa,kcNoTree,T⟩:∃(ktw kow kfa kcNoTree:Ad) ,K43.Txt (L2.KOf KX) mg w ktw kow kfa Qa kcNoTree  :=by
   dsimp only[L2.KOf];refine' K43.txt_mk 032 032 032 032 032 032 032 032 032 032 032 032 032 032 032 032 032 (L2.glv_mk KX Gq 05 (by show(_,R))) (L2.glv_mk KX Gq 05 (by show(_,R))) (L2.glv_mk KX Gq 05 (by show(_,R))) (L2.glv_mk KX Gq 05 (by show(_,R))) (L2.glv_mk KX Gq 05 (by show(_,R))) (L2.glv_mk KX Gq 05 (by show(_,R))) (L2.glv_mk KX Gq 05 (by show(_,R))) (L2.glv_mk KX Gq 05 (by show(_,R))) (L2.glv_mk KX Gq 05 (by show(_,R))) (L2.glv_mk KX Gq 05 (by show(_,R))) (L2.glv_mk KX Gq 05 (by show(_,R))) (L2.glv_mk KX Gq 05 (by show(_,R))) g_TELLING_WORDS t_TELLING_WORDS g_ROW_WORDS t_ROW_WORDS g_FORMS f_FORMS m_Standings cl_Standings n_parts n_forms n_numbers n_steps (PySem.W.mg_of KX Gq 05) (05,05,05) (05,05,05,05,05,05) 05 (by k_exc)
  obtain⟨c_tree_holds_by,t_tree_holds_by,Kv,n_tree_holds_by⟩:∃c_tree_holds_by t_tree_holds_by,L2.DfnC (L2.KOf KX) mg "tree_holds_by" K43.Kx ["saying","frame","tree"] c_tree_holds_by t_tree_holds_by/\(L2.KOf KX).lookup t_tree_holds_by=B:=by
   dsimp only[L2.KOf];refine'(_,_,L2.dfnc_mk KX Gq 05 05 05 05 (L2.kcode_mk 05 R R R R R (by decide)) (λ_ _ _ _ _ _=>L2.fit3 λ_ _ _=>rfl),?n0)
   case n0=>first|k_is|kernel_rfl
  let L:∃fd:FuncData,(∀(s:Shared) (v:Va),BindsTo s fd ([v],[]) [("_law_script",v)])/\L2.Fun (L2.KOf KX) "law" "law" K43.Qbh fa fd:=by
   dsimp only[L2.KOf];refine' L2.law_mk KX Gq hmg 05 05 05 05 ?b
   showλs u =>.of_eq R
  obtain⟨fd,hb,F⟩:=L;show(fd,[(t_tree_holds_by,K43.qs_tree_holds_by)],hb,L2.ts_all (List.forall_mem_cons.mpr ((Kv.tab (by decide+kernel),n_tree_holds_by),λ_ z=>nomatch z)),λbase _ _ kb=>K43.all T 42 42 42 42 42 42 42 42 42 42 42 42 42 42 42 42 42 42 42 42 42 42 42 42 42 42 42 42 Kl Ko Kt K1 Q5 Qw Q9 K8 Qs Ka Q0 Kb 42 42 42 Kv 42 42 42 42 42 42 42 42 42 42 42 42 42 42 42 42 42 42 42  kb F)
