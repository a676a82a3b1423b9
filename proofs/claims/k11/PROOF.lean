import PyProof.Rows.All
import Wide.All
import OpenK.AllK
import Wide.FinOn
import Lean
import PyProof.EqAt
import PyProof.EqKinds
import PyProof.TupleCall
import PyProof.CodeObjX
import PyProof.NeKinds
import PyProof.ZipIter
import PyProof.EnumStmt
import PyProof.EnumMake
import KE.KDictOf
import PyProof.AttrMissHeap
import PyProof.Rows.SeqMore2
import PyProof.Rows.MinMaxN
import PyProof.DefMake
import PyProof.DefStmt
import PyProof.RaisesMany
import PyProof.ExcClass2
import PyProof.Rows.Own
import PyProof.Rows.CatchOwn
import PyProof.RulesDel
import KE.KIsAll
import PyProof.IsiH_list
import PyProof.ExcArgsOwn
import OpenK.KOwn
import PyProof.ExcBaseAll.ValueError
import PyProof.FString5
import PyProof.ListMulRoad
import PyProof.FactsAll.tuple_2
import PyProof.Rows.Range3
import PySem.SetOps
import PyProof.ListNew
import KE.KDictList
import PySem.Challenge.RW_setsays_k11_whole_holds_plain
set_option Elab.async false
set_option linter.all false
set_option maxRecDepth 100000
open List renaming length_map → y00, size_toArray → y03, getElem?_eq_some_iff → y05, mem_cons_of_mem → y06, mem_cons_self → y07, mem_cons → y08, mem_singleton → y09, length_append → y0a, getElem?_eq_getElem → y0b, length_cons → y0c, mem_append → y0g, map_cons → y0h, mem_of_getElem? → y0j, getElem?_map → y0k, mem_map → y0m, length_singleton → y0n, take_of_length_le → y0o, not_mem_nil → y0q, map_append → y0r, getElem_mem → y0t, getD_eq_getElem?_getD → y0u, idxOf_lt_length_iff → y0v, all_eq_true → y0w, map_map → y0x, mem_filter → y0z, lookup_cons → y12, length_take → y13, mem_append_right → y15, getElem?_append_left → y16, length_filter_le → y1b, getElem?_append_right → y1f, range_succ_eq_map → y1g, mem_range → y1h, take_add_one → y1i, all_cons → y1j, length_nil → y1l, find?_cons → y1m, filter_append → y1n, length_range → y1p, nodup_cons → y1r, append_nil → y1s, length_drop → y1v, getElem?_cons_succ → y1x, getD_cons_zero → y1y, filterMap_cons → y1z, range_succ → y22, getElem?_eq_none → y23, filter_cons → y29, replicate_succ → y2a, all_map → y2c, length_eq_zero_iff → y2g, forIn_cons → y2h, filter_cons_of_pos → y2i, filter_cons_of_neg → y2j, drop_eq_nil_of_le → y2m, append_assoc → y2p, map_congr_left → y2t, getElem_of_mem → y2u, filter_map → y2v, getElem?_inj → y2z, flatten_cons → y30, filter_congr → y31, any_cons → y33, getElem?_set_self → y36, take_append_drop → y37, nil_append → y38, mem_iff_getElem? → y39, length_set → y3a, nodup_nil → y3c, forIn_nil → y3d, map_id → y3f, length_pos_iff → y3g, nodup_append → y3j, eraseIdx_eq_take_drop_succ → y3k, map_nil → y3n, cons_append → y3q, of_mem_zip → y3t, idxOf_cons → y3u, nodup_iff_pairwise_ne → y3x, length_eraseIdx_of_lt → y3y, getElem?_replicate → y42, pairwise_lt_range → y44, getElem_cons_drop → y45, length_replicate → y49
open Nat renaming le_refl → y01, ne_of_lt → y0i, lt_of_lt_of_le → y0p, le_trans → y0y, pow_le_pow_right → y11, zero_le → y14, mul_le_mul_right → y18, mul_le_mul_left → y1a, not_lt_zero → y1q, lt_succ_self → y1u, le_of_lt → y1w, ne_of_gt → y21, lt_irrefl → y27, succ_le_succ → y28, pow_succ → y2b, lt_of_le_of_lt → y2f, lt_succ_of_lt → y2o, le_succ → y2s, lt_trans → y2w, add_mul → y32, le_of_succ_le_succ → y35, not_succ_le_zero → y3b, one_mul → y3e, add_assoc → y3h, zero_add → y3m, min_eq_right → y3o, le_of_not_lt → y3p, pow_pos → y3r, min_eq_left → y3s, mul_assoc → y40, le_mul_of_pos_right → y41, mul_comm → y47, le_of_eq → y48
open PySem.Heap renaming get?_push_of_some → y02, get?_push_size → y0d, lt_size → y0f, size_push → y10, get?_update_self → y24, get?_update_other → y2n
open Bool renaming and_eq_true → y04, false_ne_true → y0e, false_eq_true → y0s, eq_false_iff → y17, false_and → y1d, true_and → y1e, not_true → y1o, eq_iff_iff → y1t, and_false → y20, or_eq_true → y25, and_true → y2k, not_false → y2q, false_or → y43
open Int renaming toNat_natCast → y0l, zero_add → y2r, emod_lt_of_pos → y3i, one_mul → y3v, emod_nonneg → y3w, fdiv_eq_ediv_of_nonneg → y3z
open Option renaming map_eq_some_iff → y19, toList_some → y2d, map_some → y2e, isSome_map → y2x, isSome_iff_exists → y2y, getD_some → y34
open Array renaming length_toList → y1c, getElem?_eq_getElem → y1k, getElem?_toList → y26, forIn_toList → y2l, toList_push → y3l, getElem?_eq_none → y46
open PySem renaming wpAny_bind → ia, wpAny_pure → ib, Shared → ic, sizeLine → ie, Program → ig, compareOp → ii, starEach → ij, wpAny_call_entry → ik, wpAny_truthy_bool → il, boot_len → im, mainGlobals → io, Paired → iq, Around → ir, wpAny_newObj_type → iu, wpAny_callSpecial?_slot → iw, wpAny_holding → ix, sysModules → iy, wpAny_field → iz, wpAny_seqItems → i0, wpAny_setField → i4, wpAny_setField_rec → i6, wpAny_setState_of → i7, wpAny_specialOf → i8, wpAny_mono → i9, scanBound → iA, letOwnedTupleGo → iB, binaryOp → iC, rawInt → iD, wpAny_isInstance → iE, wpAny_askSetting → iF, bootBuiltins → iG, FuncData → iH, codeAny_builtin → iI, wpAny_pyIter_list → iJ, wpAny_rule → iK, SetTable → iL, wpAny_passesOwn → iM, assignEach → iN, wpAny_Call_Name_kw → iO, sliceBounds → iP, foldedSetIterable → iQ, codeAny → iR, codeAny_mono → iS, NameKind → iU, backTo → iV, wpAny_setEntries_of → iW, swapsWith → iX, tupleKind_room_in1 → iZ, firstArgMember → ja, getItem → jd, wpAny_pyIter_slot → jf, pyNext → jg, behindInMarks → jh, plainId_quiet → ji, wpAny_attempt → jk, wpAny_execs_cons → jl, intKind → jm, call_meets → jn, callerA → jo, IsPair → jp, wpAny_execs_nil → jq, GenState → jr, pyIter → js, subscripted → jt, ZipApart → ju, wpAny_newTuple → jv, relayAll → jw, isSubtype_type → jx, tupleKind → jy, BindsTo → jz, valueAt → j0, wpAny_standAt → j3, wpAny_onRaise → j4, findBy → j5, IsPart → j6, typeLookup → j7, setsByText → j8, bindArgs → j9
open PyProof.Rows renaming boot_isinstance → i5, kindOf → iT, envOfC → iY, boot_all → jb, AllBare → jc, IntsAre → je
open Lean renaming maxHeartbeats → jj
open PySem PySem.Spec PyProof.Rows
open PySem.W (Frag)
abbrev Y0:=Value->ic->Prop
abbrev Y1:=Str->Option Value
abbrev Y2:=List (Addr×Obj)
abbrev Y3:=List (Pos×Str)
abbrev Y4:=List (Str×Addr)
abbrev Y6:=List (Nat×Str)
abbrev Y8:=Array (Option Value)
abbrev Y9:=Option Value->ic->Prop
set_option hygiene false in
local macro_rules
| `(tactic|ac_rfl) => `(tactic|intro pins s σ H x y v u Q I rx ry h)
set_option hygiene false in
local macro_rules
| `(tactic|infer_instance) => `(tactic|intro X hP hw hK hc i pins s σ H E I hf st hg)
namespace L2
theorem ex5{α β:Type}{A B C:α->β->Prop}{G:Prop}(h:∃x y,A x y/\B x y/\C x y)(k:∀x y,A x y->B x y->C x y->G):G:=let⟨x,y,a,b,c⟩:=h;k x y a b c
abbrev Key:=Sum Int Str
def blI(b:Bool):Int:=if b=true then 1 else 0
def isBl(k:Int):Value->Bool
 |.bool b=>k==blI b
 |_=>false
def keyIs:Key->Value->Bool
 |.inl k,v=>Value.isInt k v||isBl k v
 |.inr x,v=>Value.isStrOf x v
def keyH(w:World):Key->Int
 |.inl k=>hashInt k
 |.inr x=>hashStr w x
theorem zlm:∀{v:Value},isBl k v=true->∃b,k=blI b/\v=Value.bool b:=by
 intro v h;cases v
 case bool b=>exact⟨b,eq_of_beq h,rfl⟩
 all_goals exact absurd h y0e
theorem zaz:∀{k:Key} {v:Value},keyIs k v=true->(∃i t,k=Sum.inl i/\v=Value.int i t)\/(∃x t,k=Sum.inr x/\v=Value.str x t)\/∃b,k=Sum.inl (blI b)/\v=Value.bool b
 |.inl i,v,h=>by
  rcases(y25 _ _).mp (show(Value.isInt i v||isBl i v)=true from h)with h|h
  ·obtain⟨t,e⟩:=Value.isInt_shape (k:=i) (v:=v) h;exact .inl ⟨i,t,rfl,e⟩
  ·obtain⟨b,e,e'⟩:=zlm h;exact .inr (.inr ⟨b,by rw[e],e'⟩)
 |.inr x,v,h=>by
  obtain⟨t,e⟩:=Value.isStrOf_shape (x:=x) (v:=v) h;exact .inr (.inl ⟨x,t,rfl,e⟩)
theorem zn3(i:Int)(t:Tok):keyIs (.inl i) (.int i t)=true:=by simp[keyIs,Value.isInt]
theorem zqo(b:Bool):keyIs (.inl (blI b)) (.bool b)=true:=by simp[keyIs,isBl]
theorem ztl(h:Q (hashInt (blI b)) {s with toks:=s.toks+1}):wpAny (model prog w) A (pyHash (.bool b)) Q E s:=by
 have hT:s.TypeIs (.bool b) "bool":=rfl;have hr:=rawHash_range (blI b);unfold pyHash;refine ia ?_;rw[cRoomFor,if_neg (show¬[Value.bool b].any Value.onHeap=true from y0e)];refine ib (ia (i8 hT PySem.F.slot_bool_hash.lookup ?_));show wpAny _ _ (if(some (Value.builtin "int.__hash__")==some Value.none)=true then _ else _) Q E s;rw[if_neg (show¬(some (Value.builtin "int.__hash__")==some Value.none)=true from y0e)];refine ia (i8 hT PySem.F.slot_bool_hash.lookup ?_);show wpAny _ _ (callSpecialIfBoundUnlessNone? (.bool b) "__hash__" _>>=_) Q E s;refine ia (wpAny_callSpecialIfBoundUnlessNone?_slot hT PySem.F.slot_bool_hash (ik PySem.F.slot_bool_hash hT PySem.F.entry_int_hash ?_ (PySem.F.args_int_hash_1 _)));refine(show wpAny _ _ (do ret (←mkInt (rawHash (blI b)))) _ _ s from wpAny_ret_mkInt ?_);show wpAny _ _ (if(decide (-(2:Int)^63<=rawHash (blI b))&&decide (rawHash (blI b)<2^63))=true then _ else _) Q E _;rw[if_pos (by rw[decide_eq_true hr.1,decide_eq_true hr.2];rfl)];exact ib h
theorem zn2(x:Str)(t:Tok):keyIs (.inr x) (.str x t)=true:=by simp[keyIs,Value.isStrOf]
theorem zke(a b:Int):decide ((Sum.inl a:Key)=Sum.inl b)=(a==b):=by
 by_cases e:a=b
 ·subst e;simp
 ·have h:¬(Sum.inl a:Key)=Sum.inl b:=λq=>e (Sum.inl.inj q);rw[decide_eq_false h];exact(beq_eq_false_iff_ne.mpr e).symm
theorem zvf(a b:Str):decide ((Sum.inr a:Key)=Sum.inr b)=decide (a=b):=by
 by_cases e:a=b
 ·subst e;simp
 ·have h:¬(Sum.inr a:Key)=Sum.inr b:=λq=>e (Sum.inr.inj q);rw[decide_eq_false h,decide_eq_false e]
theorem zro(a:Int)(b:Str):decide ((Sum.inl a:Key)=Sum.inr b)=false:=decide_eq_false (λq=>nomatch q)
theorem zrn(a:Str)(b:Int):decide ((Sum.inr a:Key)=Sum.inl b)=false:=decide_eq_false (λq=>nomatch q)
def mixKind(prog:ig)(w:World):PySem.KeyKind prog w Key where
 is:=keyIs
 hash:=keyH w
 inj:=λv a b ha hb=>by
  rcases zaz ha with⟨i,t,rfl,rfl⟩|⟨x,t,rfl,rfl⟩|⟨c,rfl,rfl⟩
  ·rcases zaz hb with⟨j,u,rfl,e⟩|⟨y,u,rfl,e⟩|⟨d,rfl,e⟩
   ·injection e with e1 _;rw[e1]
   ·exact nomatch e
   ·exact nomatch e
  ·rcases zaz hb with⟨j,u,rfl,e⟩|⟨y,u,rfl,e⟩|⟨d,rfl,e⟩
   ·exact nomatch e
   ·injection e with e1 _;rw[e1]
   ·exact nomatch e
  ·rcases zaz hb with⟨j,u,rfl,e⟩|⟨y,u,rfl,e⟩|⟨d,rfl,e⟩
   ·exact nomatch e
   ·exact nomatch e
   ·injection e with e1;rw[e1]
 byValue:=λk v h=>by
  rcases zaz h with⟨i,t,rfl,rfl⟩|⟨x,t,rfl,rfl⟩|⟨c,rfl,rfl⟩<;>rfl
 pyHash:=λhv h=>by
  rcases zaz hv with⟨i,t,rfl,rfl⟩|⟨x,t,rfl,rfl⟩|⟨c,rfl,rfl⟩
  ·exact wpAny_pyHash_int h
  ·exact wpAny_pyHash_str h
  ·exact ztl h
 eqBool:=λhu hv h=>by
  rcases zaz hu with⟨i,t,rfl,rfl⟩|⟨x,t,rfl,rfl⟩|⟨c,rfl,rfl⟩
  ·rcases zaz hv with⟨j,u,rfl,rfl⟩|⟨y,u,rfl,rfl⟩|⟨d,rfl,rfl⟩
   ·rw[zke]at h;exact wpAny_eqBool_int h
   ·rw[zro]at h;exact SeqAt.EqAt.int_str i t y u _ _ _ _ h
   ·rw[zke]at h;exact SeqAt.EqAt.int_bool i t d _ _ _ _ h
  ·rcases zaz hv with⟨j,u,rfl,rfl⟩|⟨y,u,rfl,rfl⟩|⟨d,rfl,rfl⟩
   ·rw[zrn]at h;exact SeqAt.EqAt.str_int x t j u _ _ _ _ h
   ·rw[zvf]at h;exact wpAny_eqBool_str h
   ·rw[zrn]at h;exact SeqAt.EqAt.str_bool x t d _ _ _ _ h
  ·rcases zaz hv with⟨j,u,rfl,rfl⟩|⟨y,u,rfl,rfl⟩|⟨d,rfl,rfl⟩
   ·rw[zke]at h;exact SeqAt.EqAt.bool_int c j u _ _ _ _ h
   ·rw[zro]at h;exact SeqAt.EqAt.bool_str c y u _ _ _ _ h
   ·rw[zke,show(blI c==blI d)=(c==d) by cases c<;>cases d<;>rfl]at h;exact SeqAt.EqAt.bool_bool c d _ _ _ _ h
 «strs»:=λk x t v h=>by
  rcases zaz h with⟨i,u,rfl,e⟩|⟨y,u,rfl,e⟩|⟨d,rfl,e⟩
  ·exact nomatch e
  ·injection e with e1 _
   subst e1;cases v<;>rfl
  ·exact nomatch e
theorem zi0(prog:ig)(w:World)(i:Int)(t:Tok):(mixKind prog w).is (.inl i) (.int i t)=true:=zn3 i t
theorem ziz(prog:ig)(w:World)(x:Str)(t:Tok):(mixKind prog w).is (.inr x) (.str x t)=true:=zn2 x t
inductive V where
 |non|bl (b:Bool)|int (i:Int)|str (x:Str)|byt (b:Array UInt8)|flt (b:UInt64)|ref (a:Addr)|ty (n:String)
 deriving DecidableEq
def RelV:V->Value->Prop
 |.non,u=>u=Value.none
 |.bl b,u=>u=Value.bool b
 |.int i,u=>∃t,u=Value.int i t
 |.str x,u=>∃t,u=Value.str x t
 |.byt b,u=>∃t,u=Value.bytes b t
 |.flt b,u=>∃t,u=Value.float b t
 |.ref a,u=>u=Value.ref a
 |.ty n,u=>u=Value.type n
abbrev Vals:List V->List Value->Prop:=iq RelV
theorem Vals.length(r:Vals xs us):xs.length=us.length:=Paired.length r
theorem Vals.get:∀{xs:List V} {us:List Value} {i:Nat} {x:V},Vals xs us->xs[i]?=some x->∃u,us[i]?=some u/\RelV x u
 |_,_,_,_,.nil,e=>by simp at e
 |_,_,0,_,.cons r _,e=>by simp at e;subst e;exact⟨_,rfl,r⟩
 |_,_,i+1,x,.cons _ t,e=>by
  obtain⟨u,h1,h2⟩:=Vals.get (i:=i) (x:=x) t (by simpa using e);exact⟨u,by simpa using h1,h2⟩
theorem Vals.set(r:RelV x u):∀{xs:List V} {us:List Value} (i:Nat),Vals xs us->Vals (xs.set i x) (us.set i u)
 |_,_,_,.nil=>.nil
 |_,_,0,.cons _ t=>.cons r t
 |_,_,i+1,.cons q t=>.cons q (Vals.set r i t)
theorem Vals.append:∀{xs ys:List V} {us ws:List Value},Vals xs us->Vals ys ws->Vals (xs++ys) (us++ws)
 |_,_,_,_,.nil,s=>s
 |_,_,_,_,.cons r t,s=>.cons r (Vals.append t s)
theorem Vals.take:∀{xs:List V} {us:List Value} (n:Nat),Vals xs us->Vals (xs.take n) (us.take n)
 |_,_,0,_=>.nil
 |_,_,_+1,.nil=>.nil
 |_,_,n+1,.cons r t=>.cons r (Vals.take n t)
theorem Vals.drop:∀{xs:List V} {us:List Value} (n:Nat),Vals xs us->Vals (xs.drop n) (us.drop n)
 |_,_,0,r=>r
 |_,_,_+1,.nil=>.nil
 |_,_,n+1,.cons _ t=>Vals.drop n t
def RelO:Option V->Option Value->Prop
 |some v,some u=>RelV v u
 |none,none=>True
 |_,_=>False
def KV{κ:Type}:List (κ×V)->List (κ×Value)->Prop:=iq λ(p:κ×V) (q:κ×Value)=>p.1=q.1/\RelV p.2 q.2
def kV:Key->V
 |.inl i=>.int i
 |.inr x=>.str x
inductive HO where
  |lst (xs:List V)
  |tup (xs:List V)
  |dK (kvs:List (Key×V))|dT (kvs:List (List Key×V))
  |set (S:Int->Bool) (n:Nat)
  |ins (C dx:Addr) (fs:List (Str×V))
  |own (x:Addr)
  |xd (fs:List (Str×V))
  |met (f x:Addr)
  |rng (lo hi:Int)
  |frz (o:Obj) (u:HO)
  |tbl (qs:Y3) (ps:Array Value)
  |ext (φ:Heap->Prop)
abbrev Hp:=Addr->Option HO
def upd(H:Hp)(a:Addr)(o:HO):Hp:=λb=>if b=a then some o else H b
theorem zaw:upd H a o a=some o:=by unfold upd;rw[if_pos rfl]
theorem zar(h:b≠a):upd H a o b=H b:=by unfold upd;rw[if_neg h]
theorem zdf{H:Hp}{a b:Addr}{o u:HO}(h:H a=some o)(h':H b=some u)(d:o≠u):a≠b:=by
 intro e;subst e;rw[h]at h';exact d (Option.some.inj h')
theorem zao{H:Hp}{a b:Addr}{o:HO}(h:H a=some o)(h':H b=none):a≠b:=by
 intro e;subst e;rw[h]at h';cases h'
section
variable (P:ig)(w:World)
def CodeObj(o:Obj)(q:Str):Prop:=∃vs t,o.data=.fields vs/\vs[1]?=some (.str q t)
def ObjOk(H:Hp)(h:Heap)(a:Addr):HO->Prop
 |.lst xs=>xs.length<=ie/\∃(its:List Value) (n:Nat),Vals xs its/\h.get? a=some {cls:=.type "list",data:=.seq its.toArray n}
 |.tup xs=>xs.length<=ie/\∃its:List Value,Vals xs its/\IsTup h a its.toArray
 |.dK kvs=>kvs.length<=ie/\(a==iy)=false/\∃vs,KV kvs vs/\h.DictOf (mixKind P w) a vs
 |.dT kvs=>kvs.length<=ie/\(a==iy)=false/\∃xs:List (List Key×Addr×Value),
   iq (λ(p:List Key×V) (q:List Key×Addr×Value)=>p.1=q.1/\H q.2.1=some (.tup (p.1.map kV))/\RelV p.2 q.2.2) kvs xs/\
   ∃o es ep,h.get? a=some o/\o.ExactDict/\o.data=.dict es ep/\es.toList=xs.map (entryOfKey (jy (mixKind P w)))/\(xs.map (·.1)).Nodup
 |.set S n=>h.SetOf (jm P w) a S n
 |.ins C dx fs=>H dx=some (.own a)/\fs.length<=1000/\dx≠a/\h.get? a=some (PySem.W.instObj C dx)/\
   ∃mA,h.Ns1 dx mA/\(∀f,RelO (fs.lookup f) (mA f))/\PySem.Within mA (fs.map (·.1))
 |.own _=>∃o,h.get? a=some o
 |.xd fs=>∃mA,h.Ns1 a mA/\∀f,RelO (fs.lookup f) (mA f)
 |.rng lo hi=>∃t u v,h.get? a=some {cls:=.type "range",data:=.fields #[.int lo t,.int hi u,.int 1 v]}
 |.frz o u=>h.get? a=some o/\ObjOk H h a u
 |.tbl qs ps=>∃more:Array Value,h.get? a=some {cls:=.none,data:=.fields (ps++more)}/\TriplesOk (ps++more).toList/\∀p∈qs,∀v,codeAmong p.1 (ps++more).toList=some v->∃c o,v=.ref c/\H c=some (.frz o (.own c))/\CodeObj o p.2
 |.met f x=>h.get? a=some (PySem.W.methodObj (.ref f) (.ref x))
 |.ext φ=>φ h/\(∃o,h.get? a=some o)/\∀h1 h2:Heap,φ h1->(∀o,h1.get? a=some o->h2.get? a=some o)->φ h2
def HOk(H:Hp)(h:Heap):Prop:=∀a o,H a=some o->ObjOk P w H h a o
end
section
variable {P:ig}{w:World}{H H':Hp}{h h':Heap}{a:Addr}{o:HO}
theorem ObjOk.lt(x:ObjOk P w H h a o):a<h.objs.size:=by
 cases o with
 |lst xs=>obtain⟨_,_,_,_,e⟩:=x;exact y0f e
 |tup xs=>obtain⟨_,_,_,p⟩:=x;exact p.lt
 |dK kvs=>obtain⟨_,_,_,_,o,_,_,e,_⟩:=x;exact y0f e
 |dT kvs=>obtain⟨_,_,_,_,o,_,_,e,_⟩:=x;exact y0f e
 |set S n=>obtain⟨o,_,_,_,e,_⟩:=x;exact y0f e
 |ins C dx fs=>obtain⟨_,_,_,e,_⟩:=x;exact y0f e
 |own y=>obtain⟨_,e⟩:=x;exact y0f e
 |xd fs=>obtain⟨_,⟨_,_,_,e,_⟩,_⟩:=x;exact y0f e
 |rng lo hi=>obtain⟨_,_,_,e⟩:=x;exact y0f e
 |frz ob u=>obtain⟨e,_⟩:=x;exact y0f e
 |tbl qs ps=>obtain⟨_,e,_⟩:=x;exact y0f e
 |met f y=>exact y0f (show h.get? a=some _ from x)
 |ext φ=>obtain⟨_,⟨_,e⟩,_⟩:=x;exact y0f e
theorem Paired.mapP:∀{l₁:List α} {l₂:List β},iq F l₁ l₂->(∀a b,F a b->G a b)->iq G l₁ l₂
 |_,_,.nil,_=>.nil
 |_,_,.cons r t,f=>.cons (f _ _ r) (Paired.mapP t f)
theorem ObjOk.stay(x:ObjOk P w H h a o)(k:∀b u,(b=a\/H b=some (.own a))->h.get? b=some u->h'.get? b=some u)
  (ho:∀b,H b=some (.own a)->H' b=some (.own a)) (hf:∀b o u q,CodeObj o q->H b=some (.frz o u)->H' b=some (.frz o u)) (ht:∀b xs,H b=some (.tup xs)->H' b=some (.tup xs)):ObjOk P w H' h' a o:=by
 induction o with
 |lst xs=>obtain⟨z,its,n,r,e⟩:=x;exact⟨z,its,n,r,k _ _ (.inl rfl) e⟩
 |tup xs=>obtain⟨z,its,r,ob,e,c⟩:=x;exact⟨z,its,r,ob,k _ _ (.inl rfl) e,c⟩
 |dK kvs=>obtain⟨z,y,vs,r,ob,es,ep,e,c⟩:=x;exact⟨z,y,vs,r,ob,es,ep,k _ _ (.inl rfl) e,c⟩
 |dT kvs =>
  obtain⟨z,y,xs,r,ob,es,ep,e,c⟩:=x;exact⟨z,y,xs,Paired.mapP r λp q z=>⟨z.1,ht _ _ z.2.1,z.2.2⟩,ob,es,ep,k _ _ (.inl rfl) e,c⟩
 |set S n=>obtain⟨ob,es,ep,t,e,c⟩:=x;exact⟨ob,es,ep,t,k _ _ (.inl rfl) e,c⟩
 |ins C dx fs =>
  obtain⟨d,z,ne,e,mA,⟨od,es,ep,e2,c⟩,r⟩:=x;exact⟨ho _ d,z,ne,k _ _ (.inl rfl) e,mA,⟨od,es,ep,k _ _ (.inr d) e2,c⟩,r⟩
 |own y=>obtain⟨ob,e⟩:=x;exact⟨ob,k _ _ (.inl rfl) e⟩
 |xd fs=>obtain⟨mA,⟨od,es,ep,e,c⟩,r⟩:=x;exact⟨mA,⟨od,es,ep,k _ _ (.inl rfl) e,c⟩,r⟩
 |rng lo hi=>obtain⟨t,u,v,e⟩:=x;exact⟨t,u,v,k _ _ (.inl rfl) e⟩
 |frz ob u ih=>obtain⟨e,q⟩:=x;exact⟨k _ _ (.inl rfl) e,ih q⟩
 |tbl qs ps=>obtain⟨more,e,t,c⟩:=x;exact⟨more,k _ _ (.inl rfl) e,t,λp hp v q=>let⟨c1,o,r,z,co⟩:=c p hp v q;⟨c1,o,r,hf _ _ _ _ co z,co⟩⟩
 |met f y =>
  have e:h.get? a=some (PySem.W.methodObj (.ref f) (.ref y)):=x;show h'.get? a=some (PySem.W.methodObj (.ref f) (.ref y));exact k a _ (.inl rfl) e
 |ext φ=>obtain⟨p,⟨o,e⟩,st⟩:=x;exact⟨st _ _ p λo q=>k _ _ (.inl rfl) q,⟨o,k _ _ (.inl rfl) e⟩,st⟩
theorem HOk.lt(x:HOk P w H h)(e:H a=some o):a<h.objs.size:=(x a o e).lt
theorem HOk.fresh(x:HOk P w H h)(e:h.objs.size<=a):H a=none:=by
 cases q:H a with
 |none=>rfl
 |some u=>exact absurd (y0p (x.lt q) e) (y27 _)
theorem HOk.kept(x:HOk P w H h)(k:∀b u,h.get? b=some u->h'.get? b=some u):HOk P w H h':=λa o e =>
 (x a o e).stay (λb u _ q=>k b u q) (λ_ q=>q) (λ_ _ _ _ _ q=>q) λ_ _ q=>q
theorem HOk.laid(x:HOk P w H h)(k:∀b u,h.get? b=some u->h'.get? b=some u)(hp:h.objs.size<=a)(new:ObjOk P w (upd H a o) h' a o):HOk P w (upd H a o) h':=λb u e=>by
 have hn:=x.fresh hp;by_cases hb:b=a
 ·subst hb;rw[zaw]at e;cases e;exact new
 ·rw[zar hb]at e;exact(x b u e).stay (λc v _ q=>k c v q) (λc q=>by rw[zar (zao q hn)];exact q) (λc _ _ _ _ q=>by rw[zar (zao q hn)];exact q) λc xs q=>by rw[zar (zao q hn)];exact q
end
def Rd(H:Hp)(a:Addr)(u:HO):Prop:=H a=some u\/∃o,H a=some (.frz o u)
theorem Rd.ok(r:Rd H a u)(x:HOk P w H h):ObjOk P w H h a u:=by
 rcases r with r|⟨o,r⟩
 ·exact x a u r
 ·obtain⟨_,q⟩:=x a _ r;exact q
def Mut:Option HO->Prop
 |some (.lst _)=>True
 |some (.dK _)=>True
 |some (.dT _)=>True
 |some (.set _ _)=>True
 |some (.ins _ _ _)=>True
 |some (.ext _)=>True
 |_=>False
section
variable {P:ig}{w:World}{H:Hp}{h h':Heap}{x e:Addr}{o':HO}
theorem HOk.write(ok:HOk P w H h)(mu:Mut (H x))(he:e=x\/H e=some (.own x))(k:∀b u,b≠e->h.get? b=some u->h'.get? b=some u)(heo:∃u,h'.get? e=some u)
  (new:ObjOk P w (upd H x o') h' x o'):HOk P w (upd H x o') h':=λb u q=>by
 have nown:∀c y,H c=some (.own y)->c≠x:=λc y r z=>by subst z;rw[r]at mu;exact mu
 have ntup:∀c xs,H c=some (.tup xs)->c≠x:=λc xs r z=>by subst z;rw[r]at mu;exact mu
 have nfrz:∀c o y,H c=some (.frz o y)->c≠x:=λc o y r z=>by subst z;rw[r]at mu;exact mu
 by_cases hb:b=x
 ·subst hb;rw[zaw]at q;cases q;exact new
 ·rw[zar hb]at q;by_cases hbe:b=e
  ·have q':H b=some (.own x):=by
    rcases he with z|z
    ·exact absurd (hbe.trans z) hb
    ·rw[hbe];exact z
   rw[q]at q';cases q';obtain⟨v,hv⟩:=heo;exact⟨v,by rw[hbe];exact hv⟩
  ·refine(ok b u q).stay (λc v hc r=>k c v ?_ r) (λc r=>by rw[zar (nown c b r)];exact r) (λc o y _ _ r=>by rw[zar (nfrz c o y r)];exact r) λc xs r=>by rw[zar (ntup c xs r)];exact r
   rcases hc with rfl|hc
   ·exact hbe
   ·rintro rfl;rcases he with z|z
    ·exact nown c b hc z
    ·rw[hc]at z;cases z;exact hb rfl
end
structure Un(fs ex:List Addr)(H H':Hp)(h h':Heap):Prop where
 keep:∀b o,h.get? b=some o->H b=none->b∉fs->b∉ex->h'.get? b=some o
 slot:∀b o,h.get? b=some o->H b=none->b∈fs->b∉ex->∃sl,h'.get? b=some {o with slots:=sl}
 free:∀b o,h.get? b=some o->H b=none->b∉ex->H' b=none
 there:∀b o,h.get? b=some o->b∉ex->∃o',h'.get? b=some o'
 tups:∀b xs,H b=some (.tup xs)->H' b=some (.tup xs)
 frzs:∀b o u,H b=some (.frz o u)->H' b=some (.frz o u)
 tbls:∀b qs ps,H b=some (.tbl qs ps)->H' b=some (.tbl qs ps)
section
variable {fs fs' ex ex':List Addr}{H H1 H2:Hp}{h h1 h2 h':Heap}{a x e:Addr}{o:HO}
theorem Un.any(u:Un fs ex H H1 h h1)(q:h.get? b=some ob)(n:H b=none)(hx:b∉ex):∃sl,h1.get? b=some {ob with slots:=sl}:=by
 by_cases hb:b∈fs
 ·exact u.slot b ob q n hb hx
 ·exact⟨ob.slots,u.keep b ob q n hb hx⟩
theorem Un.kept(k:∀b u,h.get? b=some u->h'.get? b=some u):Un fs ex H H h h' :=
 ⟨λb ob q _ _ _=>k b ob q,λb ob q _ _ _=>⟨ob.slots,k b ob q⟩,λ_ _ _ n _=>n,λb ob q _=>⟨ob,k b ob q⟩,λ_ _ q=>q,λ_ _ _ q=>q,λ_ _ _ q=>q⟩
theorem Un.refl:Un fs ex H H h h:=Un.kept λ_ _ q=>q
theorem Un.laid(k:∀b u,h.get? b=some u->h'.get? b=some u)(hp:h.objs.size<=a)(hn:H a=none):Un fs ex H (upd H a o) h h' where
 keep:=λb u q _ _ _=>k b u q
 slot:=λb u q _ _ _=>⟨u.slots,k b u q⟩
 free:=λb u q n _=>by rw[zar (y0i (y0p (y0f q) hp))];exact n
 there:=λb u q _=>⟨u,k b u q⟩
 tups:=λb xs q=>by rw[zar (zao q hn)];exact q
 frzs:=λb u xs q=>by rw[zar (zao q hn)];exact q
 tbls:=λb qs ps q=>by rw[zar (zao q hn)];exact q
theorem Un.write(mu:Mut (H x))(he:e=x\/H e=some (.own x))(k:∀b u,b≠e->h.get? b=some u->h'.get? b=some u)(heo:∃u,h'.get? e=some u):Un fs ex H (upd H x o) h h':=by
 have hx:∀b,H b=none->b≠x:=λb n z=>by subst z;rw[n]at mu;exact mu
 have hb:∀b,H b=none->b≠e:=λb n z=>by
  subst z;rcases he with r|r
  ·exact hx b n r
  ·rw[n]at r;cases r
 have hm:∀b u,H b=some u->¬Mut (some u)->b≠x:=λb u q nm z=>by subst z;rw[q]at mu;exact nm mu
 refine⟨λb u q n _ _=>k b u (hb b n) q,λb u q n _ _=>⟨u.slots,k b u (hb b n) q⟩,λb u q n _=>by rw[zar (hx b n)];exact n,λb u q _=>?_,
  λb xs q=>by rw[zar (hm b _ q λz=>z)];exact q,λb u xs q=>by rw[zar (hm b _ q λz=>z)];exact q,λb qs ps q=>by rw[zar (hm b _ q λz=>z)];exact q⟩
 by_cases hbe:b=e
 ·subst hbe;exact heo
 ·exact⟨u,k b u hbe q⟩
end
def trk(h:Heap)(H:Hp):List Addr:=(List.range h.objs.size).filter λa=>(H a).isSome
def hidT(h:Heap)(H:Hp):Heap:=PySem.W.hideAll h (trk h H)
theorem zoe(h:Heap)(H:Hp):(hidT h H).objs.size=h.objs.size:=PySem.W.hideAll_size _ _
theorem zqq(e:h.get? b=some o)(n:H b=none):(hidT h H).get? b=some o :=
 PySem.W.hideAll_get _ e λhm=>by
  have q:(H b).isSome=true:=(y0z.mp hm).2;rw[n]at q;simp at q
theorem zte(e:(hidT h H).get? b=some o):h.get? b=some o/\H b=none:=by
 have e':h.get? b=some o:=PySem.W.of_hideAll (trk h H) e;refine⟨e',?_⟩;cases q:H b with
 |none=>rfl
 |some x =>
  have hm:b∈trk h H:=y0z.mpr ⟨y1h.mpr (y0f e'),by simp[q]⟩;have z:(hidT h H).get? b=none:=PySem.W.hideAll_none (trk h H) hm;rw[z]at e;cases e
def allNews(g h:Heap)(L:Addr):List (Addr×Obj):=(List.range h.objs.size).filterMap λa=>if a=L\/(g.get? a).isSome=true then none else(h.get? a).map λo=>(a,o)
def rest(g h:Heap)(L d:Addr):List (Addr×Obj):=(allNews g h L).filter λp=>decide (p.1≠d)
structure Mod(K:Frag)(mg:Y1)(base:Heap):Prop where
 kin:K.In base
 glob:base.Ns io mg
 blt:∃mb,base.Ns builtinsNs mb/\∀x:Str,x≠"__name__"->mb x=iG x
 nolimit:base.NoLimit
structure Cx where
 prog:ig
 w:World
 K:Frag
 mg:Str->Option Value
 base:Heap
 A:ir
 N:List Str
 s₀:ic
 H₀:Hp
 env:Env
 outer:List Env
 stack:List Env
 ex:List Addr
 fn:Str->Bool
 calm:Bool
 pn:List (Addr×Obj)
 xe:Value->ic->Prop
def frs(l:List Env):List Addr:=l.filterMap (·.frame)
abbrev Cx.fs(X:Cx):List Addr:=frs X.outer
def Vis(sc:Scope)(x:Str):Prop:=sc.names.lookup x=some .local\/sc.names.lookup x=some .cell\/sc.names.lookup x=some .free
def Loc(sc:Scope)(x:Str):Prop:=sc.names.lookup x=some .local\/sc.names.lookup x=some .cell
def Look(env:Env)(h:Heap)(m:Y1)(x:Str)(u:Value):Prop :=
 (env.kindOf x=some .local/\m x=some u)\/((env.kindOf x=some .cell\/env.kindOf x=some .free)/\∃c,env.cells.lookup x=some c/\h.IsCell c (some u))
structure Cx.Ok(X:Cx):Prop where
 mod:Mod X.K X.mg X.base
 kind:X.env.scope.kind=.function
 glob:X.env.globals=io
 blt:X.env.builtins=builtinsNs
 above:X.s₀.heap.objs.size<=X.env.locals
 inj:∀x y c,X.env.cells.lookup x=some c->X.env.cells.lookup y=some c->x=y
 has:∀x,(X.env.kindOf x=some .cell\/X.env.kindOf x=some .free)->∃c,X.env.cells.lookup x=some c
 cab:∀x c,X.fn x=true->X.env.cells.lookup x=some c->X.s₀.heap.objs.size<=c
 hd:X.calm=true->X.A.handled=none
 frames:X.A.frames=some X.stack
 stk:X.stack=X.outer\/(X.stack=X.env::X.outer/\X.env.frame=some X.env.locals)
 exf:∀b∈X.ex,b≠X.env.locals/\∀x c,X.env.cells.lookup x=some c->c≠b
 bs:∀b o,X.base.get? b=some o->X.s₀.heap.get? b=some o/\X.H₀ b=none
 bsz:X.base.objs.size<=X.s₀.heap.objs.size
 noex:∀b o,X.base.get? b=some o->b∉X.ex
 exfs:∀b∈X.ex,b∉X.fs
 funs:X.s₀.heap.FunFrames X.base X.outer
 frf:∀b∈X.fs,X.H₀ b=none
structure Inv(X:Cx)(pins:Y2)(σ:List (Option V))(H:Hp)(s:ic):Prop where
 ok:X.Ok
 os:s.os=X.s₀.os
 bare:jc s.gens
 base:Un X.fs X.ex X.H₀ H X.s₀.heap s.heap
 loc:∃m,s.heap.Ns X.env.locals m/\∀(i:Nat) (x:Str) (v:V),X.N[i]?=some x->σ[i]?=some (some v)->Vis X.env.scope x->∃u,RelV v u/\Look X.env s.heap m x u
 cell:∀x c,X.env.cells.lookup x=some c->∃v,s.heap.IsCell c v
 free:H X.env.locals=none
 freeC:∀x c,X.env.cells.lookup x=some c->H c=none
 pin:∀p∈X.pn++pins,s.heap.get? p.1=some p.2/\H p.1=none/\p.1≠X.env.locals/\p.1∉X.fs/\∀v,p.2.data ≠ .cell v
 hok:HOk X.prog X.w H s.heap
 len:σ.length=X.N.length
section
variable {X:Cx}{pins:Y2}{σ:List (Option V)}{H H':Hp}{s:ic}{h':Heap}
theorem Cx.Ok.nofr(ok:X.Ok)(e:X.base.get? b=some o):b∉X.fs:=λhb=>by
 have:=(ok.funs.mem hb).1;rw[e]at this;cases this
theorem Inv.bs(I:Inv X pins σ H s):∀b o,X.base.get? b=some o->s.heap.get? b=some o/\H b=none:=λb o e =>
 ⟨I.base.keep b o (I.ok.bs b o e).1 (I.ok.bs b o e).2 (I.ok.nofr e) (I.ok.noex b o e),I.base.free b o (I.ok.bs b o e).1 (I.ok.bs b o e).2 (I.ok.noex b o e)⟩
theorem Inv.bk(I:Inv X pins σ H s):∀b o,X.base.get? b=some o->s.heap.get? b=some o:=λb o e=>(I.bs b o e).1
theorem Inv.mod(I:Inv X pins σ H s):Mod X.K X.mg X.base:=I.ok.mod
theorem Inv.kIn(I:Inv X pins σ H s):X.K.In s.heap:=I.ok.mod.kin.keeps I.bk
theorem Inv.lt(I:Inv X pins σ H s):X.env.locals<s.heap.objs.size:=let⟨_,hn,_⟩:=I.loc;hn.lt
theorem Inv.sz(I:Inv X pins σ H s):X.s₀.heap.objs.size<=s.heap.objs.size:=y0y I.ok.above (y1w I.lt)
theorem Inv.nofs(I:Inv X pins σ H s){a:Addr}(h:s.heap.objs.size<=a):a∉X.fs:=λhb=>by
 obtain⟨_,o,ho,_⟩:=I.ok.funs.mem hb;exact absurd (y0p (y0f ho) (y0y I.sz h)) (y27 _)
theorem Inv.cne(I:Inv X pins σ H s):∀x c,X.env.cells.lookup x=some c->c≠X.env.locals:=λx c e z=>by
 obtain⟨v,o,ho,hd⟩:=I.cell x c e;obtain⟨m,⟨o',es,ep,ho',hd',_⟩,_⟩:=I.loc;rw[z,ho']at ho;cases ho;rw[hd']at hd;cases hd
theorem Inv.funs(I:Inv X pins σ H s):s.heap.FunFrames X.base X.outer:=by
 have all:∀(l:List Env),(∀b∈frs l,b∈X.fs)->X.s₀.heap.FunFrames X.base l->s.heap.FunFrames X.base l:=by
  intro l
  induction l with
  |nil=>intro _ _;trivial
  |cons env r ih =>
   intro hs hl;obtain⟨hk,⟨L,o,hf,hn,ho,hd⟩,hr⟩:=hl;have hL:L∈X.fs:=hs L (by unfold frs;rw[y1z,hf];exact y07);obtain⟨sl,e⟩:=I.base.slot L o ho (I.ok.frf L hL) hL λz=>I.ok.exfs L z hL;exact⟨hk,⟨L,_,hf,hn,e,hd⟩,ih (λb hb=>hs b (by unfold frs;rw[y1z,hf];exact y06 _ hb)) hr⟩
 exact all X.outer (λ_ hb=>hb) I.ok.funs
theorem Inv.stack(I:Inv X pins σ H s):s.heap.FunFrames X.base X.stack:=by
 rcases I.ok.stk with e|⟨e,hf⟩
 ·rw[e];exact I.funs
 ·rw[e];obtain⟨m,hn,_⟩:=I.loc;refine .cons (by rw[I.ok.kind];decide) hf hn ?_ I.funs;exact Heap.get?_none_of_le (y0y I.ok.bsz I.ok.above)
theorem Inv.stkSub(I:Inv X pins σ H s):∀b∈frs X.stack,b∈X.env.locals::X.fs:=λb hb=>by
 rcases I.ok.stk with e|⟨e,hf⟩
 ·rw[e]at hb;exact y06 _ hb
 ·rw[e]at hb;unfold frs at hb;rw[y1z,hf]at hb;exact hb
theorem Inv.stkFree(I:Inv X pins σ H s):∀b∈frs X.stack,H b=none:=λb hb=>by
 rcases y08.mp (I.stkSub b hb)with e|hb
 ·rw[e];exact I.free
 ·obtain⟨_,o,ho,_⟩:=I.ok.funs.mem hb;exact I.base.free b o ho (I.ok.frf b hb) λz=>I.ok.exfs b z hb
theorem Inv.step{g':Array jr}{t':Nat}{d':Drawn}{ch:List Addr}(I:Inv X pins σ H s)
  (hch:∀b∈ch,(b∈X.ex\/X.s₀.heap.objs.size<=b)/\b≠X.env.locals/\(∀x c,X.env.cells.lookup x=some c->c≠b)/\∀p∈X.pn++pins,p.1≠b)
  (keep:∀b o,b≠X.env.locals->b∉X.fs->b∉ch->s.heap.get? b=some o->H b=none->h'.get? b=some o)
  (slot:∀b o,b≠X.env.locals->b∈X.fs->b∉ch->s.heap.get? b=some o->H b=none->∃sl,h'.get? b=some {o with slots:=sl}) (free:∀b o,b∉ch->s.heap.get? b=some o->H b=none->H' b=none)
  (there:∀b o,b∉ch->s.heap.get? b=some o->∃o',h'.get? b=some o')
  (tups:∀b xs,H b=some (.tup xs)->H' b=some (.tup xs)) (frzs:∀b o u,H b=some (.frz o u)->H' b=some (.frz o u)) (tbls:∀b qs ps,H b=some (.tbl qs ps)->H' b=some (.tbl qs ps))
  (ns:∀m,s.heap.Ns X.env.locals m->h'.Ns X.env.locals m) (hok:HOk X.prog X.w H' h') (hg:jc g') :
  Inv X pins σ H' {s with heap:=h',gens:=g',drawn:=d',toks:=t'}:=by
 have neL:∀b o,X.s₀.heap.get? b=some o->b≠X.env.locals:=λb o e=>y0i (y0p (y0f e) I.ok.above);have neC:∀b o,X.s₀.heap.get? b=some o->b∉X.ex->b∉ch:=λb o e hx hb=>by
  rcases(hch b hb).1 with z|z
  ·exact hx z
  ·exact absurd (y0p (y0f e) z) (y27 _)
 have cellK:∀x c,X.env.cells.lookup x=some c->∀v,s.heap.IsCell c v->h'.IsCell c v:=λx c e v ⟨o,ho,hd⟩=>by
  have nch:c∉ch:=λz=>(hch c z).2.2.1 x c e rfl;by_cases hc:c∈X.fs
  ·obtain⟨sl,q⟩:=slot c o (I.cne x c e) hc nch ho (I.freeC x c e);exact⟨_,q,hd⟩
  ·exact⟨o,keep c o (I.cne x c e) hc nch ho (I.freeC x c e),hd⟩
 refine⟨I.ok,I.os,hg,⟨λb o e n hb hx=>?_,λb o e n hb hx=>?_,λb o e n hx=>?_,λb o e hx=>?_,λb xs e=>tups b xs (I.base.tups b xs e),λb o xs e=>frzs b o xs (I.base.frzs b o xs e),λb qs ps e=>tbls b qs ps (I.base.tbls b qs ps e)⟩,?_,λx c e=>?_,?_,λx c e=>?_,λp hp=>?_,hok,I.len⟩
 ·exact keep b o (neL b o e) hb (neC b o e hx) (I.base.keep b o e n hb hx) (I.base.free b o e n hx)
 ·obtain⟨sl,e1⟩:=I.base.slot b o e n hb hx;obtain⟨sl',e2⟩:=slot b _ (neL b o e) hb (neC b o e hx) e1 (I.base.free b o e n hx);exact⟨sl',e2⟩
 ·obtain⟨o',e1⟩:=I.base.there b o e hx;exact free b o' (neC b o e hx) e1 (I.base.free b o e n hx)
 ·obtain⟨o',e1⟩:=I.base.there b o e hx;exact there b o' (neC b o e hx) e1
 ·obtain⟨m,hn,hl⟩:=I.loc;refine⟨m,ns m hn,λi x v e1 e2 e3=>?_⟩;obtain⟨u,r,l⟩:=hl i x v e1 e2 e3;refine⟨u,r,?_⟩;rcases l with l|⟨k,c,e,z⟩
  ·exact .inl l
  ·exact .inr ⟨k,c,e,cellK x c e _ z⟩
 ·obtain⟨v,z⟩:=I.cell x c e;exact⟨v,cellK x c e v z⟩
 ·obtain⟨m,⟨o,_,_,ho,_⟩,_⟩:=I.loc;exact free _ o (λz=>(hch _ z).2.1 rfl) ho I.free
 ·obtain⟨v,o,ho,hd⟩:=I.cell x c e;exact free c o (λz=>(hch c z).2.2.1 x c e rfl) ho (I.freeC x c e)
 ·obtain⟨e,n,ne,nf,d⟩:=I.pin p hp;have nch:p.1∉ch:=λz=>(hch p.1 z).2.2.2 p hp rfl;exact⟨keep p.1 p.2 ne nf nch e n,free p.1 p.2 nch e n,ne,nf,d⟩
theorem Inv.un{t':Nat}(I:Inv X pins σ H s)(u:Un X.fs [] H H' s.heap h')(hok:HOk X.prog X.w H' h'):Inv X pins σ H' {s with heap:=h',toks:=t'}:=by
 obtain⟨m,⟨o,es,ep,ho,r⟩,_⟩:=id I.loc;obtain⟨sl,hL⟩:=u.any ho I.free (by simp);exact I.step (g':=s.gens) (d':=s.drawn) (ch:=[]) (λ_ z=>nomatch z) (λb o _ hb _ e n=>u.keep b o e n hb (by simp)) (λb o _ hb _ e n=>u.slot b o e n hb (by simp)) (λb o _ e n=>u.free b o e n (by simp)) (λb o _ e=>u.there b o e (by simp)) u.tups u.frzs u.tbls (λm' hm=>by
  obtain⟨o',es',ep',ho',r'⟩:=hm;rw[ho]at ho';cases ho';exact⟨_,es',ep',hL,r'⟩) hok I.bare
theorem Inv.call{g':Array jr}{t':Nat}{d':Drawn}{ch:List Addr}(I:Inv X pins σ H s)(u:Un (frs X.stack) ch H H' s.heap h')(hok:HOk X.prog X.w H' h')(hg:jc g')
  (hch:∀b∈ch,(b∈X.ex\/X.s₀.heap.objs.size<=b)/\b≠X.env.locals/\(∀x c,X.env.cells.lookup x=some c->c≠b)/\∀p∈X.pn++pins,p.1≠b) :
  Inv X pins σ H' {s with heap:=h',gens:=g',drawn:=d',toks:=t'}:=by
 obtain⟨m,⟨o,es,ep,ho,r⟩,_⟩:=id I.loc;obtain⟨sl,hL⟩:=u.any ho I.free λz=>(hch _ z).2.1 rfl;exact I.step (ch:=ch) hch (λb o hL hb hc e n=>u.keep b o e n (λz=>(y08.mp (I.stkSub b z)).elim hL hb) hc) (λb o _ _ hc e n=>u.any e n hc) (λb o hc e n=>u.free b o e n hc) (λb o hc e=>u.there b o e hc) u.tups u.frzs u.tbls (λm' hm=>by
  obtain⟨o',es',ep',ho',r'⟩:=hm;rw[ho]at ho';cases ho';exact⟨_,es',ep',hL,r'⟩) hok hg
theorem Inv.turned{t':Nat}{it:Addr}(I:Inv X pins σ H s)(k:∀b o,b≠it->s.heap.get? b=some o->h'.get? b=some o)(hn:H it=none)(hL:it≠X.env.locals)
  (h1:it∈X.ex\/X.s₀.heap.objs.size<=it) (h2:∀x c,X.env.cells.lookup x=some c->c≠it) (h3:∀p∈X.pn++pins,p.1≠it):Inv X pins σ H {s with heap:=h',toks:=t'}:=by
 have nit:∀b u,H b=some u->b≠it:=λb u e z=>by rw[z,hn]at e;cases e
 refine I.step (g':=s.gens) (d':=s.drawn) (ch:=[it]) (λb hb=>?_) (λb o _ _ hc e _=>k b o (λz=>hc (by simp[z])) e) (λb o _ _ hc e _=>⟨o.slots,k b o (λz=>hc (by simp[z])) e⟩) (λ_ _ _ _ n=>n)
  (λb o hc e=>⟨o,k b o (λz=>hc (by simp[z])) e⟩) (λ_ _ e=>e) (λ_ _ _ e=>e) (λ_ _ _ e=>e) (λm hm=>?_) (λb u e=>?_) I.bare
 ·have e:b=it:=by simpa using hb
  subst e;exact⟨h1,hL,h2,h3⟩
 ·obtain⟨o,es,ep,ho,r⟩:=hm;exact⟨o,es,ep,k _ o (Ne.symm hL) ho,r⟩
 ·refine(I.hok b u e).stay (λc v hc q=>k c v ?_ q) (λ_ q=>q) (λ_ _ _ _ _ q=>q) λ_ _ q=>q;rcases hc with z|z
  ·rw[z];exact nit b u e
  ·exact nit c _ z
theorem Inv.tok(I:Inv X pins σ H s)(t:Nat):Inv X pins σ H {s with toks:=t}:=I.un (h':=s.heap) (t':=t) Un.refl I.hok
theorem Inv.kept(I:Inv X pins σ H s)(k:∀b u,s.heap.get? b=some u->h'.get? b=some u):Inv X pins σ H {s with heap:=h',toks:=t'}:=I.un (Un.kept k) (I.hok.kept k)
theorem Inv.laid{a:Addr}{o:HO}{t':Nat}(I:Inv X pins σ H s)(k:∀b u,s.heap.get? b=some u->h'.get? b=some u)(hp:s.heap.objs.size<=a)(new:ObjOk X.prog X.w (upd H a o) h' a o):
  Inv X pins σ (upd H a o) {s with heap:=h',toks:=t'}:=I.un (Un.laid k hp (I.hok.fresh hp)) (I.hok.laid k hp new)
theorem Inv.write(I:Inv X pins σ H s)(mu:Mut (H x))(he:e=x\/H e=some (.own x))(k:∀b u,b≠e->s.heap.get? b=some u->h'.get? b=some u)(heo:∃u,h'.get? e=some u)
  (new:ObjOk X.prog X.w (upd H x o) h' x o):Inv X pins σ (upd H x o) {s with heap:=h',toks:=t'}:=I.un (Un.write mu he k heo) (I.hok.write mu he k heo new)
theorem Inv.pins_of(I:Inv X pins σ H s)(h:∀p∈pins',s.heap.get? p.1=some p.2/\H p.1=none/\p.1≠X.env.locals/\p.1∉X.fs/\∀v,p.2.data ≠ .cell v):Inv X pins' σ H s :=
 ⟨I.ok,I.os,I.bare,I.base,I.loc,I.cell,I.free,I.freeC,λp hp=>(y0g.mp hp).elim (λz=>I.pin p (List.mem_append_left _ z)) (h p),I.hok,I.len⟩
theorem zka{N:List Str}(hN:N.Nodup){i j:Nat}{x:Str}(a:N[i]?=some x)(b:N[j]?=some x):i=j:=by
 obtain⟨h1,e1⟩:=y05.mp a;obtain⟨h2,e2⟩:=y05.mp b;exact(List.getElem_inj hN).mp (e1.trans e2.symm)
theorem zg2(I:Inv X pins σ H s)(hN:X.N.Nodup)(hi:X.N[i]?=some x)(hx:Loc X.env.scope x)(r:RelV v u)
  (h:∀s',Inv X pins (σ.set i (some v)) H s'->(∃a,Heap.SameBut a s.heap s'.heap/\(a=X.env.locals\/X.env.cells.lookup x=some a))->Q () s') (hf:X.fn x=true\/X.env.scope.names.lookup x=some .local:=by first|exact .inl rfl|exact .inr rfl|assumption):wpAny M A (storeName X.env x u) Q E s:=by
 obtain⟨m,hn,hl⟩:=id I.loc;have hcls:(X.env.scope.kind ==.class||(X.env.scope.kind ==.module&&X.env.locals !=X.env.globals))=false:=by rw[I.ok.kind];rfl
 have hiσ:i<σ.length:=by rw[I.len];exact(y05.mp hi).1
 have cne:=I.cne;have tracked:∀{a:Addr} {h':Heap},(∃o,s.heap.get? a=some o/\H a=none)->Heap.SameBut a s.heap h'->HOk X.prog X.w H h':=λ{a h'} ha hs b ob e=>by
  obtain⟨_,_,hfree⟩:=ha;refine(I.hok b ob e).stay (λc w' hc q=>(hs.2 c ?_).trans q) (λ_ q=>q) (λ_ _ _ _ _ q=>q) λ_ _ q=>q;rintro rfl;rcases hc with rfl|hc
  ·rw[hfree]at e;cases e
  ·rw[hfree]at hc;cases hc
 rcases hx with hk|hk
 ·refine wpAny_storeName_local hk hn (λh' hn' hs=>?_) hcls;obtain⟨oL,_,_,hoL,_⟩:=id hn;refine h _ ⟨I.ok,I.os,I.bare,⟨λb o e n hb hx=>?_,λb o e n hb hx=>?_,I.base.free,λb o e hx=>?_,I.base.tups,I.base.frzs,I.base.tbls⟩,⟨_,hn',λj y v' e1 e2 e3=>?_⟩,λy c e=>?_,I.free,I.freeC,λp hp=>?_,tracked ⟨oL,hoL,I.free⟩ hs,by simpa using I.len⟩ ⟨_,hs,.inl rfl⟩
  ·exact(hs.2 b (y0i (y0p (y0f e) I.ok.above))).trans (I.base.keep b o e n hb hx)
  ·obtain⟨sl,e1⟩:=I.base.slot b o e n hb hx;exact⟨sl,(hs.2 b (y0i (y0p (y0f e) I.ok.above))).trans e1⟩
  ·obtain⟨o',e1⟩:=I.base.there b o e hx;exact⟨o',(hs.2 b (y0i (y0p (y0f e) I.ok.above))).trans e1⟩
  ·by_cases hj:j=i
   ·subst hj;rw[hi]at e1;cases e1;rw[y36 hiσ]at e2;cases e2;exact⟨u,r,.inl ⟨hk,by simp⟩⟩
   ·rw[List.getElem?_set_ne (Ne.symm hj)]at e2;obtain⟨u',r',q⟩:=hl j y v' e1 e2 e3;refine⟨u',r',?_⟩;rcases q with⟨k,e⟩|⟨k,c,e,z⟩
    ·refine .inl ⟨k,?_⟩;have:y≠x:=λe=>hj (zka hN e1 (e▸hi));simp[this,e]
    ·exact .inr ⟨k,c,e,z.sameBut hs (cne y c e)⟩
  ·obtain⟨w',z⟩:=I.cell y c e;exact⟨w',z.sameBut hs (cne y c e)⟩
  ·obtain⟨e,n,ne,nf,d⟩:=I.pin p hp;exact⟨(hs.2 p.1 ne).trans e,n,ne,nf,d⟩
 ·have hfn:X.fn x=true:=by
   rcases hf with z|z
   ·exact z
   ·rw[z]at hk;cases hk
  obtain⟨c,hc⟩:=I.ok.has x (.inl hk);obtain⟨w',z⟩:=I.cell x c hc;refine wpAny_storeName_cell I.ok.kind hk hc z (λh' hc' hs=>?_);obtain⟨oc,hoc,hocd⟩:=id z;refine h {s with heap:=h'} ⟨I.ok,I.os,I.bare,⟨λb o e n hb hx=>?_,λb o e n hb hx=>?_,I.base.free,λb o e hx=>?_,I.base.tups,I.base.frzs,I.base.tbls⟩,⟨m,hn.sameBut hs (Ne.symm (cne x c hc)),λj y v' e1 e2 e3=>?_⟩,λy c' e=>?_,I.free,I.freeC,λp hp=>?_,tracked ⟨oc,hoc,I.freeC x c hc⟩ hs,by simpa using I.len⟩ ⟨c,hs,.inr hc⟩
  ·exact(hs.2 b (y0i (y0p (y0f e) (I.ok.cab x c hfn hc)))).trans (I.base.keep b o e n hb hx)
  ·obtain⟨sl,e1⟩:=I.base.slot b o e n hb hx;exact⟨sl,(hs.2 b (y0i (y0p (y0f e) (I.ok.cab x c hfn hc)))).trans e1⟩
  ·obtain⟨o',e1⟩:=I.base.there b o e hx;exact⟨o',(hs.2 b (y0i (y0p (y0f e) (I.ok.cab x c hfn hc)))).trans e1⟩
  ·by_cases hj:j=i
   ·subst hj;rw[hi]at e1;cases e1;rw[y36 hiσ]at e2;cases e2;exact⟨u,r,.inr ⟨.inl hk,c,hc,hc'⟩⟩
   ·rw[List.getElem?_set_ne (Ne.symm hj)]at e2;obtain⟨u',r',q⟩:=hl j y v' e1 e2 e3;refine⟨u',r',?_⟩;rcases q with q|⟨k,c',e,z'⟩
    ·exact .inl q
    ·refine .inr ⟨k,c',e,z'.sameBut hs ?_⟩;rintro rfl;exact hj (zka hN e1 (I.ok.inj _ _ _ e hc▸hi))
  ·by_cases hcc:c'=c
   ·subst hcc;exact⟨_,hc'⟩
   ·obtain⟨w2,z2⟩:=I.cell y c' e;exact⟨w2,z2.sameBut hs hcc⟩
  ·obtain⟨e,n,ne,nf,d⟩:=I.pin p hp;refine⟨(hs.2 p.1 ?_).trans e,n,ne,nf,d⟩;intro q;rw[q,hoc]at e;have q':oc=p.2:=Option.some.inj e;exact d w' (by rw[←q'];exact hocd)
theorem zjn(I:Inv X pins σ H s)(hN:X.N.Nodup)(hi:X.N[i]?=some x)(hx:Loc X.env.scope x)(r:RelV v u)
  (h:∀s',Inv X pins (σ.set i (some v)) H s'->Q () s') (hf:X.fn x=true\/X.env.scope.names.lookup x=some .local:=by first|exact .inl rfl|exact .inr rfl|assumption):wpAny M A (storeName X.env x u) Q E s :=
 zg2 I hN hi hx r (λs' I' _=>h s' I') hf
theorem Inv.call'{ch:List Addr}(I:Inv X pins σ H s)(ho:s'.os=s.os)(u:Un (frs X.stack) ch H H' s.heap s'.heap)(hok:HOk X.prog X.w H' s'.heap)(hg:jc s'.gens)
  (hch:∀b∈ch,(b∈X.ex\/X.s₀.heap.objs.size<=b)/\b≠X.env.locals/\(∀x c,X.env.cells.lookup x=some c->c≠b)/\∀p∈X.pn++pins,p.1≠b):Inv X pins σ H' s':=by
 obtain⟨h',g',d',t',o'⟩:=s';have e:o'=s.os:=ho;subst e;exact I.call (g':=g') (t':=t') (d':=d') u hok hg hch
end
abbrev XK:=Value->Option Addr->Hp->Prop
abbrev St:=List (Option V)
abbrev VK:=V->Hp->Prop
abbrev TE:=St->Hp->VK->Prop
abbrev TT:=St->Hp->(Bool->Hp->Prop)->Prop
abbrev TA:=St->Hp->(List V->Hp->Prop)->Prop
structure Ends where
 nx:St->Hp->Prop
 rt:VK
 bk:St->Hp->Prop:=λ_ _=>False
 ct:St->Hp->Prop:=λ_ _=>False
abbrev TS:=Ends->St->Hp->Prop
def EP(X:Cx)(pins:Y2)(σ:St)(Q:VK)(u:Value)(s':ic):Prop:=∃v H',Inv X pins σ H' s'/\RelV v u/\Q v H'
def TP(X:Cx)(pins:Y2)(σ:St)(Q:Bool->Hp->Prop)(b:Bool)(s':ic):Prop:=∃H',Inv X pins σ H' s'/\Q b H'
def AP(X:Cx)(pins:Y2)(σ:St)(Q:List V->Hp->Prop)(us:List Value)(s':ic):Prop:=∃vs H',Inv X pins σ H' s'/\Vals vs us/\Q vs H'
def SP(X:Cx)(pins:Y2)(D:Ends)(f:Flow)(s':ic):Prop :=
 match f with
 |.next=>∃σ' H',Inv X pins σ' H' s'/\D.nx σ' H'
 |.brk=>∃σ' H',Inv X pins σ' H' s'/\D.bk σ' H'
 |.cont=>∃σ' H',Inv X pins σ' H' s'/\D.ct σ' H'
 |.ret u=>∃v σ' H',Inv X pins σ' H' s'/\RelV v u/\D.rt v H'
def PE(X:Cx)(e:Expr)(t:TE):Prop :=
 ∀(pins:Y2) (s:ic) (σ:St) (H:Hp) (Q:VK),Inv X pins σ H s->t σ H Q->wpAny (model X.prog X.w) X.A (eval e X.env) (EP X pins σ Q) X.xe s
def PT(X:Cx)(e:Expr)(t:TT):Prop :=
 ∀(pins:Y2) (s:ic) (σ:St) (H:Hp) (Q:Bool->Hp->Prop),Inv X pins σ H s->t σ H Q->wpAny (model X.prog X.w) X.A (isTrue e X.env (eval e X.env)) (TP X pins σ Q) X.xe s
def PW(X:Cx)(e:Expr)(t:TT):Prop :=
 ∀(whole:Sem Value) (pins:Y2) (s:ic) (σ:St) (H:Hp) (Q:Bool->Hp->Prop),Inv X pins σ H s->t σ H Q->wpAny (model X.prog X.w) X.A (isTrue e X.env whole) (TP X pins σ Q) X.xe s
theorem PW.pt(h:PW X e t):PT X e t:=h _
def PA(X:Cx)(es:List Expr)(t:TA):Prop :=
 ∀(pos:Pos) (pins:Y2) (s:ic) (σ:St) (H:Hp) (Q:List V->Hp->Prop),Inv X pins σ H s->t σ H Q->wpAny (model X.prog X.w) X.A (spliced (iV pos (ij es X.env))) (AP X pins σ Q) X.xe s
def PS(X:Cx)(st:Stmt)(t:TS):Prop :=
 ∀(pins:Y2) (s:ic) (σ:St) (H:Hp) (D:Ends),Inv X pins σ H s->t D σ H->wpAny (model X.prog X.w) X.A (exec st X.env) (SP X pins D) X.xe s
def PSs(X:Cx)(st:List Stmt)(t:TS):Prop :=
 ∀(pins:Y2) (s:ic) (σ:St) (H:Hp) (D:Ends),Inv X pins σ H s->t D σ H->wpAny (model X.prog X.w) X.A (execs st X.env) (SP X pins D) X.xe s
theorem thn{α:Type}{t:Sem α}{Q Q':α->ic->Prop}{M:Model}{A:ir}{E:Y0}{s:ic}(h:wpAny M A t Q E s)(hQ:∀a s,Q a s->Q' a s):wpAny M A t Q' E s:=i9 h hQ λ_ _ x=>x
section
variable {X:Cx}
def tVar(i:Nat):TE:=λσ H Q=>match σ[i]? with
 |some (some v)=>Q v H
 |_=>False
theorem zr3(h:tVar i σ H Q):∃v,σ[i]?=some (some v)/\Q v H:=by
 unfold tVar at h;split at h
 ·rename_i e;exact⟨_,e,h⟩
 ·exact h.elim
def tC(v:V):TE:=λ_ H Q=>Q v H
theorem zum{i:Nat}{x:Str}{pos:Pos}(hN:X.N[i]?=some x)(hv:Vis X.env.scope x)(hd:(x==("__debug__":Str))=false:=by decide)(hcd:(x==("__classdict__":Str))=false:=by decide):PE X (.Name x pos) (tVar i):=by
 intro pins s σ H Q I h;obtain⟨v,e,h⟩:=zr3 h;obtain⟨m,hn,hl⟩:=I.loc;obtain⟨u,r,l⟩:=hl i x v hN e hv;have fin:EP X pins σ Q u s:=⟨v,H,I,r,h⟩;rcases l with⟨hk,hm⟩|⟨hk,c,hc,hcell⟩
 ·exact wpAny_Name (wpAny_loadName_local I.ok.kind hk hn hm fin) hd
 ·rcases hk with hk|hk
  ·exact wpAny_Name (wpAny_loadName_cell I.ok.kind hk hc hcell fin) hd
  ·exact wpAny_Name (wpAny_loadName_free I.ok.kind hk hc hcell fin hcd) hd
theorem zad:PE X (.Constant (.int i) j pos) (tC (.int i)):=λ_ _ _ H _ I h=>wpAny_Constant_int ⟨.int i,H,I.tok _,⟨_,rfl⟩,h⟩
theorem zfc:PE X (.Constant (.bool b) j pos) (tC (.bl b)):=λ_ _ _ H _ I h=>Constant_bool ⟨.bl b,H,I,rfl,h⟩
theorem zre:PE X (.Constant .none j pos) (tC .non):=λ_ _ _ H _ I h=>Constant_none ⟨.non,H,I,rfl,h⟩
theorem zam:PE X (.Constant (.str x) j pos) (tC (.str x)):=λ_ _ _ H _ I h=>Calls.Constant_str ⟨.str x,H,I.tok _,⟨_,rfl⟩,h⟩
def Gl(X:Cx)(x:Str):Prop:=X.env.kindOf x=some .globalImplicit
theorem zi1{E:Y0}{pins:Y2}{s:ic}{σ:St}{H:Hp}{x:Str}{u:Value}{pos:Pos}{Q:Y0}(I:Inv X pins σ H s)(hg:Gl X x)(hm:X.mg x=some u)(h:Q u s)
  (hd:(x==("__debug__":Str))=false:=by decide):wpAny (model X.prog X.w) X.A (eval (.Name x pos) X.env) Q E s :=
 Calls.Name_function_global I.ok.kind hg (Calls.loadGlobal_global (by rw[I.ok.glob];exact I.mod.glob.keeps I.bk) hm h) hd
theorem zet{E:Y0}{pins:Y2}{s:ic}{σ:St}{H:Hp}{x:Str}{u:Value}{pos:Pos}{Q:Y0}(I:Inv X pins σ H s)(hg:Gl X x)(hm:X.mg x=none)(hv:iG x=some u)(h:Q u s)
  (hn:x≠"__name__":=by decide) (hd:(x==("__debug__":Str))=false:=by decide):wpAny (model X.prog X.w) X.A (eval (.Name x pos) X.env) Q E s:=by
 obtain⟨mb,h1,h2⟩:=I.mod.blt;exact Calls.Name_function_global I.ok.kind hg (Calls.loadGlobal_builtin (by rw[I.ok.glob];exact I.mod.glob.keeps I.bk) hm (by rw[I.ok.blt];exact h1.keeps I.bk) ((h2 x hn).trans hv) h) hd
theorem zst(hg:Gl X x)(hm:X.mg x=some u)(r:RelV v u)(hd:(x==("__debug__":Str))=false:=by decide):PE X (.Name x pos) (tC v) :=
 λ_ _ _ H _ I h=>zi1 I hg hm ⟨v,H,I,r,h⟩ hd
theorem zcb{x:Str}{v:V}{u:Value}{pos:Pos}(hg:Gl X x)(hm:X.mg x=none)(hv:iG x=some u)(r:RelV v u)(hn:x≠"__name__":=by decide)(hd:(x==("__debug__":Str))=false:=by decide):PE X (.Name x pos) (tC v) :=
 λ_ _ _ H _ I h=>zet I hg hm hv ⟨v,H,I,r,h⟩ hn hd
variable {a b:Expr}{ta tb:TE}{pos:Pos}
def tB(t:TE):TT:=λσ H Q=>t σ H λx H1=>∃c,x=.bl c/\Q c H1
theorem zbe(h:PE X e t)(he:∀whole,isTrue e X.env whole=(do let v ←whole;standAt e.pos;holding [v] (truthy v)):=by intro _;rfl):PT X e (tB t):=by
 intro pins s σ H Q I hw;refine isTrue_plain (thn (h pins s σ H _ I hw) λv s1 zz=>ex5 zz λx H1 I1 r1 q1=>?_) (he _);obtain⟨d,rfl,q⟩:=q1;cases r1;exact il ⟨H1,I1,q⟩
variable {tA tB':TT}{rest:List Expr}
def tAnd(t u:TT):TT:=λσ H Q=>t σ H λc H1=>if c=true then u σ H1 Q else Q false H1
def tOr(t u:TT):TT:=λσ H Q=>t σ H λc H1=>if c=true then Q true H1 else u σ H1 Q
def tNot(t:TT):TT:=λσ H Q=>t σ H λc H1=>Q (!c) H1
theorem zcy(ha:PT X a tA):PW X (.BoolOp .And [a] pos) tA:=by
 intro wh pins s σ H Q I h;refine isTrue_and (thn (ha pins s σ H Q I h) λc s1 e=>?_);cases c with
 |true=>exact isTrue_and_nil e
 |false=>exact e
theorem zbv(ha:PT X a tA):PW X (.BoolOp .Or [a] pos) tA:=by
 intro wh pins s σ H Q I h;refine isTrue_or (thn (ha pins s σ H Q I h) λc s1 e=>?_);cases c with
 |false=>exact isTrue_or_nil e
 |true=>exact e
theorem zdp(ha:PT X a tA)(hb:PW X (.BoolOp .And (b::rest) pos) tB'):PW X (.BoolOp .And (a::b::rest) pos) (tAnd tA tB'):=by
 intro wh pins s σ H Q I h;refine isTrue_and (thn (ha pins s σ H _ I h) λc s1 ⟨H1,I1,q1⟩=>?_);cases c with
 |true=>exact hb wh pins s1 σ H1 Q I1 q1
 |false=>exact⟨H1,I1,q1⟩
theorem zb8(ha:PT X a tA)(hb:PW X (.BoolOp .Or (b::rest) pos) tB'):PW X (.BoolOp .Or (a::b::rest) pos) (tOr tA tB'):=by
 intro wh pins s σ H Q I h;refine isTrue_or (thn (ha pins s σ H _ I h) λc s1 ⟨H1,I1,q1⟩=>?_);cases c with
 |true=>exact⟨H1,I1,q1⟩
 |false=>exact hb wh pins s1 σ H1 Q I1 q1
theorem zb3(ha:PT X a tA):PT X (.UnaryOp .Not a pos) (tNot tA):=by
 intro pins s σ H Q I h;exact isTrue_not (ha pins s σ H (λc H1=>Q (!c) H1) I h)
def tAndV(ta tb:TE):TE:=λσ H Q=>ta σ H λx H1=>∃c,x=.bl c/\if c=true then tb σ H1 Q else Q (.bl false) H1
def tOrV(ta tb:TE):TE:=λσ H Q=>ta σ H λx H1=>∃c,x=.bl c/\if c=true then Q (.bl true) H1 else tb σ H1 Q
def tNotV(ta:TE):TE:=λσ H Q=>ta σ H λx H1=>∃c,x=.bl c/\Q (.bl (!c)) H1
theorem zb1(h:PE X a t):PE X (.BoolOp op [a] pos) t:=λpins s σ H Q I hw=>BoolOp_one (h pins s σ H Q I hw)
theorem zb4(ha:PE X a ta)(hb:PE X (.BoolOp .And (b::rest) pos) tb):PE X (.BoolOp .And (a::b::rest) pos) (tAndV ta tb):=by
 intro pins s σ H Q I h;refine BoolOp_and (thn (ha pins s σ H _ I h) λv s1 zz=>ex5 zz λx H1 I1 r1 q1=>?_);obtain⟨c,rfl,q1⟩:=q1;cases r1;refine il ?_;cases c with
 |true=>exact hb pins s1 σ H1 Q I1 q1
 |false=>exact⟨.bl false,H1,I1,rfl,q1⟩
theorem zun(ha:PE X a ta)(hb:PE X (.BoolOp .Or (b::rest) pos) tb):PE X (.BoolOp .Or (a::b::rest) pos) (tOrV ta tb):=by
 intro pins s σ H Q I h;refine BoolOp_or (thn (ha pins s σ H _ I h) λv s1 zz=>ex5 zz λx H1 I1 r1 q1=>?_);obtain⟨c,rfl,q1⟩:=q1;cases r1;refine il ?_;cases c with
 |false=>exact hb pins s1 σ H1 Q I1 q1
 |true=>exact⟨.bl true,H1,I1,rfl,q1⟩
theorem zm7(ha:PE X a ta):PE X (.UnaryOp .Not a pos) (tNotV ta):=by
 intro pins s σ H Q I h;refine UnaryOp_ (thn (ha pins s σ H _ I h) λv s1 zz=>ex5 zz λx H1 I1 r1 q1=>?_);obtain⟨c,rfl,q1⟩:=q1;cases r1;exact not_of (il ⟨.bl (!c),H1,I1,rfl,q1⟩)
def tIf(t:TT)(ta tb:TE):TE:=λσ H Q=>t σ H λc H1=>if c=true then ta σ H1 Q else tb σ H1 Q
theorem zca(hc:PT X c tA)(ha:PE X a ta)(hb:PE X b tb):PE X (.IfExp c a b pos) (tIf tA ta tb):=by
 intro pins s σ H Q I h;refine wpAny_IfExp (thn (hc pins s σ H _ I h) λd s1 ⟨H1,I1,q1⟩=>?_);cases d with
 |true=>exact ha pins s1 σ H1 Q I1 q1
 |false=>exact hb pins s1 σ H1 Q I1 q1
end
def SqL(K:Frag)(H:Hp)(a:Addr)(xs:List V):Prop :=
 Rd H a (.lst xs)\/
  ∃(o:Obj) (its:Array Value) (n:Nat),K.lookup a=some o/\o.cls=.type "list"/\o.dict=none/\o.data=.seq its n/\its.size<=ie/\Vals xs its.toList
def SqT(K:Frag)(H:Hp)(a:Addr)(xs:List V):Prop :=
 Rd H a (.tup xs)\/
  ∃(o:Obj) (its:Array Value) (n:Nat),K.lookup a=some o/\o.cls=.type "tuple"/\o.data=.seq its n/\its.size<=ie/\Vals xs its.toList
def absV:Value->Option V
 |.none=>some .non
 |.bool b=>some (.bl b)
 |.int i _=>some (.int i)
 |.str x _=>some (.str x)
 |.bytes b _=>some (.byt b)
 |.float b _=>some (.flt b)
 |.ref a=>some (.ref a)
 |.type n=>some (.ty n)
 |_=>none
theorem RelV.abs(r:RelV x u):absV u=some x:=by
 cases x with
 |non=>cases r;rfl
 |bl _=>cases r;rfl
 |int _=>obtain⟨t,rfl⟩:=r;rfl
 |str _=>obtain⟨t,rfl⟩:=r;rfl
 |byt _=>obtain⟨t,rfl⟩:=r;rfl
 |flt _=>obtain⟨t,rfl⟩:=r;rfl
 |ref _=>cases r;rfl
 |ty _=>cases r;rfl
theorem RelV.inj(r:RelV x u)(q:RelV y u):x=y:=Option.some.inj (r.abs.symm.trans q.abs)
theorem Vals.inj:∀{xs ys:List V} {us:List Value},Vals xs us->Vals ys us->xs=ys
 |_,_,_,.nil,.nil=>rfl
 |_,_,_,.cons r t,.cons r' t'=>by rw[r.inj r',Vals.inj t t']
section
variable {X:Cx}{pins:Y2}{σ:St}{H:Hp}{s:ic}{a:Addr}{xs ys:List V}
theorem SqL.of{K:Frag}(h:H a=some (.lst xs)):SqL K H a xs:=.inl (.inl h)
theorem SqT.of{K:Frag}(h:H a=some (.tup xs)):SqT K H a xs:=.inl (.inl h)
theorem Inv.list(I:Inv X pins σ H s)(h:SqL X.K H a xs):∃its:List Value,Vals xs its/\PlainL s.heap a its.toArray/\xs.length<=ie:=by
 rcases h with h|⟨o,its,n,hk,hc,hd,hs,hz,r⟩
 ·obtain⟨z,its,n,r,e⟩:=h.ok I.hok;exact⟨its,r,⟨_,n,e,rfl,rfl,rfl⟩,z⟩
 ·refine⟨its.toList,r,⟨o,n,I.kIn a o hk,hc,hd,by simpa using hs⟩,?_⟩;have e:=r.length;simp only[y1c]at e;omega
theorem Inv.tuple(I:Inv X pins σ H s)(h:SqT X.K H a xs):∃its:List Value,Vals xs its/\IsTup s.heap a its.toArray/\xs.length<=ie:=by
 rcases h with h|⟨o,its,n,hk,hc,hs,hz,r⟩
 ·obtain⟨z,its,r,p⟩:=h.ok I.hok;exact⟨its,r,p,z⟩
 ·refine⟨its.toList,r,⟨o,I.kIn a o hk,hc,n,by simpa using hs⟩,?_⟩;have e:=r.length;simp only[y1c]at e;omega
theorem Inv.list_inj(I:Inv X pins σ H s)(h:SqL X.K H a xs)(h':SqL X.K H a ys):xs=ys:=by
 obtain⟨its,r,⟨o,n,e,_,_,d⟩,_⟩:=I.list h;obtain⟨its',r',⟨o',n',e',_,_,d'⟩,_⟩:=I.list h';rw[e]at e';cases e';rw[d]at d';injection d' with d1 _
 have:its=its':=by simpa using congrArg Array.toList d1
 subst this;exact r.inj r'
theorem Inv.tuple_inj(I:Inv X pins σ H s)(h:SqT X.K H a xs)(h':SqT X.K H a ys):xs=ys:=by
 obtain⟨its,r,⟨o,e,_,n,d⟩,_⟩:=I.tuple h;obtain⟨its',r',⟨o',e',_,n',d'⟩,_⟩:=I.tuple h';rw[e]at e';cases e';rw[d]at d';injection d' with d1 _
 have:its=its':=by simpa using congrArg Array.toList d1
 subst this;exact r.inj r'
end
abbrev Cx.wish(X:Cx)(E:Y0):Cx:={X with xe:=E}
abbrev Cx.nox(X:Cx):Cx:=X.wish λ_ _=>False
theorem Cx.Ok.wish{X:Cx}(ok:X.Ok)(E:Y0):(X.wish E).Ok :=
 ⟨ok.mod,ok.kind,ok.glob,ok.blt,ok.above,ok.inj,ok.has,ok.cab,ok.hd,ok.frames,ok.stk,ok.exf,ok.bs,ok.bsz,ok.noex,ok.exfs,ok.funs,ok.frf⟩
theorem Cx.Ok.unwish{X:Cx}(ok:(X.wish E).Ok):X.Ok :=
 ⟨ok.mod,ok.kind,ok.glob,ok.blt,ok.above,ok.inj,ok.has,ok.cab,ok.hd,ok.frames,ok.stk,ok.exf,ok.bs,ok.bsz,ok.noex,ok.exfs,ok.funs,ok.frf⟩
section
variable {X:Cx}{pins:Y2}{σ:St}{H:Hp}{s:ic}{E:Y0}
theorem Inv.wish(I:Inv X pins σ H s)(E:Y0):Inv (X.wish E) pins σ H s:=⟨I.ok.wish E,I.os,I.bare,I.base,I.loc,I.cell,I.free,I.freeC,I.pin,I.hok,I.len⟩
theorem Inv.unwish(I:Inv (X.wish E) pins σ H s):Inv X pins σ H s:=⟨I.ok.unwish,I.os,I.bare,I.base,I.loc,I.cell,I.free,I.freeC,I.pin,I.hok,I.len⟩
theorem SP.unwish(h:SP (X.wish E) pins D f s'):SP X pins D f s':=by
 cases f with
 |next=>obtain⟨σ',H',I,q⟩:=h;exact⟨σ',H',I.unwish,q⟩
 |brk=>obtain⟨σ',H',I,q⟩:=h;exact⟨σ',H',I.unwish,q⟩
 |cont=>obtain⟨σ',H',I,q⟩:=h;exact⟨σ',H',I.unwish,q⟩
 |ret u=>obtain⟨v,σ',H',I,r,q⟩:=h;exact⟨v,σ',H',I.unwish,r,q⟩
theorem PSs.nox{st:List Stmt}{t:TS}(h:PSs X.nox st t):PSs X st t:=λpins s σ H D I hw =>
 i9 (h pins s σ H D (I.wish _) hw) (λ_ _ q=>q.unwish) λ_ _ z=>False.elim z
end
section
variable {X:Cx}{st:Stmt}{rest:List Stmt}{t u:TS}{e:Expr}{te:TE}{pos:Pos}
def tNext:TS:=λD σ H=>D.nx σ H
def tSeq(t u:TS):TS:=λD σ H=>t {D with nx:=u D} σ H
theorem zal:PSs X [] tNext:=λ_ _ σ H _ I h=>jq ⟨σ,H,I,h⟩
theorem zab(h1:PS X st t)(h2:PSs X rest u):PSs X (st::rest) (tSeq t u):=by
 intro pins s σ H D I h;refine jl (thn (h1 pins s σ H {D with nx:=u D} I h) λf s1 q=>?_);cases f with
 |next =>
  obtain⟨σ',H',I',q⟩:=q;exact h2 pins s1 σ' H' D I' q
 |ret v=>exact q
 |brk=>exact q
 |cont=>exact q
theorem zac(h1:PS X st t):PSs X [st] t:=by
 intro pins s σ H D I h;refine jl (thn (h1 pins s σ H D I h) λf s1 q=>?_);cases f with
 |next=>exact jq q
 |ret v=>exact q
 |brk=>exact q
 |cont=>exact q
def tBreak:TS:=λD σ H=>D.bk σ H
def tCont:TS:=λD σ H=>D.ct σ H
theorem Inv.quiet{pins:Y2}{σ:St}{H:Hp}{s:ic}(I:Inv X pins σ H s):interactive X.env=false:=by simp[interactive,I.ok.kind]
def tDrop(te:TE):TS:=λD σ H=>te σ H λ_ H1=>D.nx σ H1
theorem zc0(he:PE X e te)(hs:iX e none pos.line X.env=pure false:=by rfl):PS X (.Expr e pos) (tDrop te):=by
 intro pins s σ H D I h;exact wpAny_Expr_any (thn (he pins s σ H _ I h) λv s1 zz=>ex5 zz λx H1 I1 r1 q1=>⟨σ,H1,I1,q1⟩) I.quiet hs
def tRet(te:TE):TS:=λD σ H=>te σ H D.rt
theorem zah(he:PE X e te):PS X (.Return (some e) pos) (tRet te):=by
 intro pins s σ H D I h;exact wpAny_Return_some (thn (he pins s σ H _ I h) λv s1 zz=>ex5 zz λx H1 I1 r1 q1=>⟨x,σ,H1,I1,r1,q1⟩)
def tRetN:TS:=λD _ H=>D.rt .non H
def tIfS(c:TT)(t u:TS):TS:=λD σ H=>c σ H λb H1=>if b=true then t D σ H1 else u D σ H1
theorem zay(hc:PT X c tc)(ha:PSs X a t)(hb:PSs X b u):PS X (.If c a b pos) (tIfS tc t u):=by
 intro pins s σ H D I h;refine wpAny_If (thn (hc pins s σ H _ I h) λd s1 ⟨H1,I1,q1⟩=>?_);cases d with
 |true=>exact ha pins s1 σ H1 D I1 q1
 |false=>exact hb pins s1 σ H1 D I1 q1
def tNever:TS:=λ_ _ _=>False
theorem zgc:PS X st tNever:=λ_ _ _ _ _ _ h=>h.elim
end
abbrev TG:=V->St->Hp->(St->Hp->Prop)->Prop
abbrev TGs:=List V->St->Hp->(St->Hp->Prop)->Prop
def PG(X:Cx)(target:Expr)(t:TG):Prop :=
 ∀(pins:Y2) (s:ic) (σ:St) (H:Hp) (v:V) (u:Value) (Q:St->Hp->Prop),Inv X pins σ H s->RelV v u->t v σ H Q->
  wpAny (model X.prog X.w) X.A (assign target X.env u) (λ_ s'=>∃σ' H',Inv X pins σ' H' s'/\Q σ' H') X.xe s
def PGs(X:Cx)(ts:List Expr)(t:TGs):Prop :=
 ∀(pins:Y2) (s:ic) (σ:St) (H:Hp) (vs:List V) (us:List Value) (Q:St->Hp->Prop),Inv X pins σ H s->Vals vs us->t vs σ H Q->
  wpAny (model X.prog X.w) X.A (assignInOrder ((iN ts X.env).map (·.2)) us) (λ_ s'=>∃σ' H',Inv X pins σ' H' s'/\Q σ' H') X.xe s
abbrev TSet:=V->V->V->Hp->(Hp->Prop)->Prop
def PSet(X:Cx)(t:TSet):Prop :=
 ∀(pins:Y2) (s:ic) (σ:St) (H:Hp) (o i v:V) (ov iv u:Value) (Q:Hp->Prop),Inv X pins σ H s->RelV o ov->RelV i iv->RelV v u->t o i v H Q->
  wpAny (model X.prog X.w) X.A (setItem ov iv u) (λ_ s'=>∃H',Inv X pins σ H' s'/\Q H') X.xe s
abbrev TIp:=V->V->Hp->VK->Prop
section
variable {X:Cx}{pos:Pos}
def gName(i:Nat):TG:=λv σ H Q=>Q (σ.set i (some v)) H
theorem zau(hN:X.N.Nodup)(hi:X.N[i]?=some x)(hx:Loc X.env.scope x)(hf:X.fn x=true\/X.env.scope.names.lookup x=some .local:=by first|exact .inl rfl|exact .inr rfl|assumption):PG X (.Name x pos) (gName i):=by
 intro pins s σ H v u Q I r h;exact wpAny_assign_Name (zjn I hN hi hx r (λs' I'=>⟨_,H,I',h⟩) hf)
def gNil:TGs:=λvs σ H Q=>vs=[]/\Q σ H
def gCons(t:TG)(u:TGs):TGs:=λvs σ H Q=>∃v r,vs=v::r/\t v σ H λσ' H'=>u r σ' H' Q
theorem zm5:PGs X [] gNil:=by
 intro pins s σ H vs us Q I r h;obtain⟨e,h⟩:=h;subst e;cases r;exact assignInOrder_nil ⟨σ,H,I,h⟩
theorem zd5(h1:PG X e t)(h2:PGs X es u)
  (hs:(iN (e::es) X.env).map (·.2)=assign e X.env::(iN es X.env).map (·.2):=by rfl):PGs X (e::es) (gCons t u):=by
 intro pins s σ H vs us Q I r h;obtain⟨v,vr,e1,h⟩:=h;subst e1;cases r with
 |cons r rr =>
  rw[hs];refine assignInOrder_cons (thn (h1 pins s σ H _ _ _ I r h) λ_ s1 ⟨σ1,H1,I1,q1⟩=>?_);exact h2 pins s1 σ1 H1 _ _ Q I1 rr q1
def gTup(K:Frag)(n:Nat)(t:TGs):TG:=λv σ H Q=>∃a xs,v=.ref a/\SqT K H a xs/\xs.length=n/\t xs σ H Q
theorem zul{es:List Expr}{k:Nat}{t:TGs}{n:Nat}(hc:X.calm=true)(h:PGs X es t)
  (hn:(iN es X.env).length=n:=by rfl) (hst:(iN es X.env).findIdx? (·.1)=none:=by rfl):PG X (.Tuple es k pos) (gTup X.K n t):=by
 intro pins s σ H v u Q I r hw;obtain⟨a,xs,e1,hq,hl,hw⟩:=hw;subst e1;cases r;obtain⟨its,rv,ht,hz⟩:=I.tuple hq;refine assign_Tuple_tuple (I.ok.hd hc) ht (by simp[hn,←hl,rv.length]) hst λh' hx=>?_;have I1:Inv X pins σ H {s with heap:=h'}:=I.kept (t':=s.toks) λb o e=>hx b o (y0i (y0f e)) e;exact h pins _ σ H xs _ Q I1 (by simpa using rv) hw
def gSub(to ti:TE)(t:TSet):TG:=λv σ H Q=>to σ H λo H1=>ti σ H1 λi H2=>t o i v H2 λH3=>Q σ H3
theorem zrd(ho:PE X o to)(hi:PE X i ti)(hs:PSet X t)
  (ha:∀v,assign (.Subscript o i pos) X.env v=(do
   let ov ←holding [v] (eval o X.env);let iv ←holding [v,ov] (eval i X.env)
   standAt pos
   holding [v,ov,iv] (setItem ov iv v)
   release [v,ov,iv] []):=by intro _;rfl):PG X (.Subscript o i pos) (gSub to ti t):=by
 intro pins s σ H v u Q I r h;rw[ha];refine ia (ix (thn (ho pins s σ H _ I h) λov s1 zz=>ex5 zz λx H1 I1 r1 q1=>?_));refine ia (ix (thn (hi pins s1 σ H1 _ I1 q1) λiv s2 zz=>ex5 zz λy H2 I2 r2 q2=>?_));refine ia (j3 (ia (ix (thn (hs pins s2 σ H2 x y v ov iv u _ I2 r1 r2 r q2) λ_ s3 ⟨H3,I3,q3⟩=>?_))));exact wpAny_release ⟨σ,H3,I3,q3⟩
def tAsg(te:TE)(g:TG):TS:=λD σ H=>te σ H λx H1=>g x σ H1 D.nx
theorem zrb(he:PE X e te)(hg:PG X tg g)(hs:swapsWithSole [tg] e pos.line X.env=pure false:=by rfl)(hw:swappedStores [tg] e X.env=pure none:=by rfl)
  (h1:(iN [tg] X.env).map (·.2)=[assign tg X.env]:=by rfl):PS X (.Assign [tg] e pos) (tAsg te g):=by
 intro pins s σ H D I h;refine wpAny_Assign_stores (thn (he pins s σ H _ I h) λv s1 zz=>ex5 zz λx H1 I1 r1 q1=>?_) hs hw;rw[h1];exact thn (hg pins s1 σ H1 x v _ I1 r1 q1) λ_ s2 q=>q
theorem zas(hN:X.N.Nodup)(hi:X.N[i]?=some x)(hx:Loc X.env.scope x)(he:PE X e te)(hs:iX e (some (.Name x pos')) pos.line X.env=pure false:=by rfl)(hf:X.fn x=true\/X.env.scope.names.lookup x=some .local:=by first|exact .inl rfl|exact .inr rfl|assumption):
  PS X (.Assign [.Name x pos'] e pos) (tAsg te (gName i)):=by
 intro pins s σ H D I h;refine wpAny_Assign_Name (thn (he pins s σ H _ I h) λv s1 zz=>ex5 zz λy H1 I1 r1 q1=>?_) hs;exact zjn I1 hN hi hx r1 (λs2 I2=>⟨_,H1,I2,q1⟩) hf
def tPar(i j:Nat)(ta:TA):TS:=λD σ H=>ta σ H λvs H1=>∃v w,vs=[v,w]/\D.nx ((σ.set i (some v)).set j (some w)) H1
def tAug(i:Nat)(te:TE)(ti:TIp):TS:=λD σ H=>∃x,σ[i]?=some (some x)/\te σ H λy H1=>ti x y H1 λz H2=>D.nx (σ.set i (some z)) H2
def ipI(f:Int->Int->Int):TIp:=λx y H Q=>∃i j,x=.int i/\y=.int j/\Q (.int (f i j)) H
end
structure It where
 go:Nat->Hp->Prop
 yld:Nat->Hp->V->Hp->Prop
 stop:Nat->Hp->Prop
def FpOk(X:Cx)(pins:Y2)(H:Hp)(b:Addr):Prop :=
 H b=none/\b≠X.env.locals/\b∉X.fs/\(b∈X.ex\/X.s₀.heap.objs.size<=b)/\(∀x c,X.env.cells.lookup x=some c->c≠b)/\∀p∈X.pn++pins,p.1≠b
theorem Inv.fpOk{X:Cx}{pins:Y2}{σ:St}{H H':Hp}{s:ic}{b:Addr}(I:Inv X pins σ H s)(hb:s.heap.objs.size<=b)(hn:H' b=none):FpOk X pins H' b:=by
 refine⟨hn,y21 (y0p I.lt hb),I.nofs hb,.inr (y0y I.sz hb),λx c e z=>?_,λp hp z=>?_⟩
 ·obtain⟨v,q⟩:=I.cell x c e;exact absurd (y0p q.lt (by rw[z];exact hb)) (y27 _)
 ·exact absurd (y0p (y0f (I.pin p hp).1) (by rw[z];exact hb)) (y27 _)
structure Turn(P:ig)(w:World)(K:Frag)(tg:Expr)(J:It)(fp:List Addr)(it:Addr)(tn:Nat->Heap->Prop):Prop where
 mem:it∈fp
 obj:∀i h,tn i h->∀b∈fp,∃o,h.get? b=some o/\∀v,o.data ≠ .cell v
 keep:∀i h h',tn i h->(∀b∈fp,∀o,h.get? b=some o->h'.get? b=some o)->tn i h'
 item:∀(X:Cx),X.prog=P->X.w=w->X.K=K->X.calm=true->∀(i:Nat) (pins:Y2) (s:ic) (σ:St) (H:Hp) (E:Y0),Inv X pins σ H s->(∀b∈fp,FpOk X pins H b)->tn i s.heap->J.go i H->
  wpAny (model P w) X.A (jg (.ref it)) (λr s1=>∃u,r=some u/\
   wpAny (model P w) X.A (iB tg (.ref it) u) (λ_ s2=>∃x H',Inv X pins σ H' s2/\RelV x u/\J.yld i H x H'/\tn (i+1) s2.heap/\∀b∈fp,H' b=none) E s1) E s
 done:∀(X:Cx),X.prog=P->X.w=w->X.K=K->X.calm=true->∀(i:Nat) (pins:Y2) (s:ic) (σ:St) (H:Hp) (E:Y0),Inv X pins σ H s->(∀b∈fp,FpOk X pins H b)->tn i s.heap->J.stop i H->
  wpAny (model P w) X.A (jg (.ref it)) (λr s1=>r=none/\Inv X pins σ H s1) E s
 self:∀(A:ir) (i:Nat) (s:ic) (Q:Y0) (E:Y0),tn i s.heap->Q (.ref it) s->wpAny (model P w) A (js (.ref it)) Q E s
abbrev TI:=St->Hp->(It->Hp->Prop)->Prop
def PIE(X:Cx)(pins:Y2)(σ:St)(tg:Expr)(R:It->Hp->Prop)(itv:Value)(s2:ic):Prop :=
 ∃(it:Addr) (fp:List Addr) (tn:Nat->Heap->Prop) (J:It) (H':Hp),itv=.ref it/\Inv X pins σ H' s2/\Turn X.prog X.w X.K tg J fp it tn/\tn 0 s2.heap/\(∀b∈fp,FpOk X pins H' b)/\R J H'
def PI(X:Cx)(tg iter:Expr)(wi:TI):Prop :=
 ∀(pins:Y2) (s:ic) (σ:St) (H:Hp) (R:It->Hp->Prop),Inv X pins σ H s->wi σ H R->
  wpAny (model X.prog X.w) X.A (eval iter X.env) (λv s1=>wpAny (model X.prog X.w) X.A (js v) (PIE X pins σ tg R) X.xe s1) X.xe s
theorem zoi(ho:s.heap.get? it=some o)(hc:o.cls=.type n)(hd:o.data=.fields vs)
  (hn:["enumerate","zip","dict_itemiterator","dict_reverseitemiterator","odict_iterator","itertools.zip_longest","itertools.pairwise"].contains n=false) (hQ:Q () s):wpAny M A (iB tg (.ref it) u) Q E s:=by
 unfold iB;cases tg<;>first
  |exact ib hQ
  |(cases u<;>first
    |exact ib hQ
    |(refine ia (wpAny_load ho ?_)
      rw[hc,hd];show wpAny M A (if(["enumerate","zip","dict_itemiterator","dict_reverseitemiterator","odict_iterator","itertools.zip_longest","itertools.pairwise"].contains n&&vs[0]? ==some (iD _))=true then _ else _) Q E s;rw[if_neg (by intro h;rw[hn,y1d]at h;cases h)];exact ib hQ))
def Itl(K:Frag)(a:Addr):It :=
 ⟨λi H=>∃xs x,SqL K H a xs/\xs[i]?=some x,λi H x H'=>H'=H/\∀xs,SqL K H a xs->xs[i]?=some x,λi H=>∃xs,SqL K H a xs/\xs.length<=i⟩
def Itt(K:Frag)(a:Addr):It :=
 ⟨λi H=>∃xs x,SqT K H a xs/\xs[i]?=some x,λi H x H'=>H'=H/\∀xs,SqT K H a xs->xs[i]?=some x,λi H=>∃xs,SqT K H a xs/\xs.length<=i⟩
def Itr(lo:Int)(n:Nat):It:=⟨λi _=>i<n,λi H x H'=>H'=H/\x=.int (lo+i),λi _=>n<=i⟩
theorem zl6{P:ig}{w:World}{K:Frag}{tg:Expr}(a it:Addr):Turn P w K tg (Itl K a) [it] it (λi h=>h.IsListIter it a i) where
 mem:=by simp
 obj:=λi h st b hb=>by
  have e:b=it:=by simpa using hb
  subst e;obtain⟨o,e,c,d⟩:=st;exact⟨o,e,λv z=>by rw[d]at z;cases z⟩
 keep:=λi h h' st k=>st.at λo e=>k it (by simp) o e
 item:=by
  infer_instance;subst hP hw hK;obtain⟨xs,x,hq,hx⟩:=hg;obtain⟨its,rv,p,hz⟩:=I.list hq;obtain⟨u,hu,ru⟩:=rv.get hx;obtain⟨f0,f1,f2,f3,f4,f5⟩:=hf it (by simp);refine wpAny_pyNext_list_item st p.isList (x:=u) (by simpa using hu) λh' st' sb=>?_;have I1:Inv X pins σ H {s with heap:=h'}:=I.turned (t':=s.toks) (λb o hb e=>(sb.2 b hb).trans e) f0 f1 f3 f4 f5;obtain⟨o,e,c,d⟩:=id st';exact⟨u,rfl,zoi (s:={s with heap:=h'}) e c d (by decide) ⟨x,H,I1,ru,⟨rfl,λys hy=>by rw[I.list_inj hy hq];exact hx⟩,st',λb hb=>(hf b hb).1⟩⟩
 done:=by
  infer_instance;subst hP hw hK;obtain⟨xs,hq,hx⟩:=hg;obtain⟨its,rv,p,hz⟩:=I.list hq;obtain⟨f0,f1,f2,f3,f4,f5⟩:=hf it (by simp);have hl:=rv.length;exact wpAny_pyNext_list_end (I.ok.hd hc) st p.isList (by simp;omega) λh' eb=>⟨rfl,I.turned (t':=s.toks) (λb o hb e=>eb b o hb e) f0 f1 f3 f4 f5⟩
 self:=λ_ _ _ _ _ st h=>wpAny_pyIter_listiter st h
theorem zku{P:ig}{w:World}{K:Frag}{tg:Expr}(a it:Addr):Turn P w K tg (Itt K a) [it] it (λi h=>h.IsTupleIter it a i) where
 mem:=by simp
 obj:=λi h st b hb=>by
  have e:b=it:=by simpa using hb
  subst e;obtain⟨o,e,c,d⟩:=st;exact⟨o,e,λv z=>by rw[d]at z;cases z⟩
 keep:=λi h h' st k=>st.at λo e=>k it (by simp) o e
 item:=by
  infer_instance;subst hP hw hK;obtain⟨xs,x,hq,hx⟩:=hg;obtain⟨its,rv,p,hz⟩:=I.tuple hq;obtain⟨u,hu,ru⟩:=rv.get hx;obtain⟨f0,f1,f2,f3,f4,f5⟩:=hf it (by simp);refine wpAny_pyNext_tuple_item st (show s.heap.IsTuple a its.toArray from p) (x:=u) (by simpa using hu) λh' st' sb=>?_;have I1:Inv X pins σ H {s with heap:=h'}:=I.turned (t':=s.toks) (λb o hb e=>(sb.2 b hb).trans e) f0 f1 f3 f4 f5;obtain⟨o,e,c,d⟩:=id st';exact⟨u,rfl,zoi (s:={s with heap:=h'}) e c d (by decide) ⟨x,H,I1,ru,⟨rfl,λys hy=>by rw[I.tuple_inj hy hq];exact hx⟩,st',λb hb=>(hf b hb).1⟩⟩
 done:=by
  infer_instance;subst hP hw hK;obtain⟨xs,hq,hx⟩:=hg;obtain⟨its,rv,p,hz⟩:=I.tuple hq;obtain⟨f0,f1,f2,f3,f4,f5⟩:=hf it (by simp);have hl:=rv.length;exact wpAny_pyNext_tuple_end (I.ok.hd hc) st (show s.heap.IsTuple a its.toArray from p) (by simp;omega) λh' eb=>⟨rfl,I.turned (t':=s.toks) (λb o hb e=>eb b o hb e) f0 f1 f3 f4 f5⟩
 self:=λ_ _ _ _ _ st h=>wpAny_pyIter_tupleiter st h
theorem zkv{P:ig}{w:World}{K:Frag}{tg:Expr}(it:Addr)(lo:Int)(n:Nat):Turn P w K tg (Itr lo n) [it] it (λi h=>IsRangeIter h it (lo+(i:Nat)*1) ((n:Int)-(i:Nat)) 1) where
 mem:=by simp
 obj:=λi h st b hb=>by
  have e:b=it:=by simpa using hb
  subst e;exact⟨_,st,λv z=>by
   have z':Data.fields _=Data.cell v:=z;cases z'⟩
 keep:=λi h h' st k=>k it (by simp) _ st
 item:=by
  infer_instance;subst hP hw hK;obtain⟨f0,f1,f2,f3,f4,f5⟩:=hf it (by simp);have W:=Walks.range (prog:=X.prog) (w:=X.w) (I.ok.hd hc) it lo 1 n;refine W.item i s _ _ hg st λv h' tk hv st' kk=>?_;obtain⟨t,rfl⟩:=hv;have I1:Inv X pins σ H {s with heap:=h',toks:=tk}:=I.turned (λb o hb e=>kk b o (by simpa using hb) e) f0 f1 f3 f4 f5;refine⟨_,rfl,zoi (s:={s with heap:=h',toks:=tk}) (n:="range_iterator") st' rfl rfl (by decide) ⟨.int (lo+i),H,I1,⟨t,?_⟩,⟨rfl,rfl⟩,st',λb hb=>(hf b hb).1⟩⟩;rw[Int.mul_one]
 done:=by
  infer_instance;subst hP hw hK;obtain⟨f0,f1,f2,f3,f4,f5⟩:=hf it (by simp);exact wpAny_pyNext_range_end (I.ok.hd hc) st (by have:n<=i:=hg;omega) λh' eb=>⟨rfl,I.turned (t':=s.toks) (λb o hb e=>eb b o hb e) f0 f1 f3 f4 f5⟩
 self:=λ_ _ _ _ _ st h=>wpAny_pyIter_rangeiter st h
section
variable {X:Cx}{tg:Expr}
def iList(K:Frag)(tl:TE):TI:=λσ H R=>tl σ H λx H1=>∃a,x=.ref a/\(∃xs,SqL K H1 a xs)/\R (Itl K a) H1
def iTup(K:Frag)(tl:TE):TI:=λσ H R=>tl σ H λx H1=>∃a,x=.ref a/\(∃xs,SqT K H1 a xs)/\R (Itt K a) H1
theorem zsq{l:Expr}{tl:TE}(hl:PE X l tl):PI X tg l (iList X.K tl):=by
 intro pins s σ H R I h;refine thn (hl pins s σ H _ I h) λv s1 zz=>ex5 zz λx H1 I1 r1 q1=>?_;obtain⟨a,e,⟨xs,hq⟩,q⟩:=q1;subst e;cases r1;obtain⟨its,rv,p,hz⟩:=I1.list hq;refine iJ p.isList ?_;refine⟨s1.heap.objs.size,[s1.heap.objs.size],_,_,H1,rfl,I1.kept (t':=s1.toks) λb o e=>y02 _ e,zl6 a _,⟨_,y0d _ rfl,rfl,rfl⟩,λb hb=>?_,q⟩;have e:b=s1.heap.objs.size:=by simpa using hb
 subst e;exact I1.fpOk (y01 _) (I1.hok.fresh (y01 _))
theorem zuj{l:Expr}{tl:TE}(hl:PE X l tl):PI X tg l (iTup X.K tl):=by
 intro pins s σ H R I h;refine thn (hl pins s σ H _ I h) λv s1 zz=>ex5 zz λx H1 I1 r1 q1=>?_;obtain⟨a,e,⟨xs,hq⟩,q⟩:=q1;subst e;cases r1;obtain⟨its,rv,p,hz⟩:=I1.tuple hq;refine wpAny_pyIter_tuple (show s1.heap.IsTuple a its.toArray from p) ?_;refine⟨s1.heap.objs.size,[s1.heap.objs.size],_,_,H1,rfl,I1.kept (t':=s1.toks) λb o e=>y02 _ e,zku a _,⟨_,y0d _ rfl,rfl,rfl⟩,λb hb=>?_,q⟩;have e:b=s1.heap.objs.size:=by simpa using hb
 subst e;exact I1.fpOk (y01 _) (I1.hok.fresh (y01 _))
theorem zpn{pins:Y2}{σ:St}{H:Hp}{s:ic}{R:It->Hp->Prop}{E:Y0}{lo hi:Int}{t u v:Tok}{tk:Nat}(I:Inv X pins σ H s)(h1:-(2^62)<=lo)(h2:lo<2^62)(h3:-(2^62)<=hi)(h4:hi<2^62)
  (q:R (Itr lo (hi-lo).toNat) H):wpAny (model X.prog X.w) X.A (js (.ref s.heap.objs.size)) (PIE X pins σ tg R) E {s with heap:=s.heap.push {cls:=.type "range",data:=.fields #[.int lo t,.int hi u,.int 1 v]},toks:=tk}:=by
 refine wpAny_pyIter_range (IsRange.new ..) (small_one h1 h2 h3 h4) ?_;have I1:Inv X pins σ H {s with heap:=s.heap.push {cls:=.type "range",data:=.fields #[.int lo t,.int hi u,.int 1 v]},toks:=tk}:=I.kept λb o e=>y02 _ e;refine⟨(s.heap.push {cls:=.type "range",data:=.fields #[.int lo t,.int hi u,.int 1 v]}).objs.size,[(s.heap.push {cls:=.type "range",data:=.fields #[.int lo t,.int hi u,.int 1 v]}).objs.size],_,_,H,rfl,
  I1.kept (t':=tk) λb o e=>y02 _ e,zkv _ lo (hi-lo).toNat,?_,λb hb=>?_,q⟩
 ·have e1:lo+((0:Nat):Int)*1=lo:=by simp
  have e2:(((hi-lo).toNat:Nat):Int)-((0:Nat):Int)=Builtin.Range.rangeSize lo hi 1:=by rw[rangeSize_one];split<;>omega
  show IsRangeIter _ _ (lo+((0:Nat):Int)*1) ((((hi-lo).toNat:Nat):Int)-((0:Nat):Int)) 1;rw[e1,e2];exact y0d _ rfl
 ·have e:b=(s.heap.push {cls:=.type "range",data:=.fields #[.int lo t,.int hi u,.int 1 v]}).objs.size:=by simpa using hb
  subst e;exact I1.fpOk (y01 _) (I1.hok.fresh (y01 _))
def iRng1(ta:TA):TI:=λσ H R=>ta σ H λvs H1=>∃j:Int,vs=[.int j]/\-(2^62)<=j/\j<2^62/\R (Itr 0 j.toNat) H1
def iRng2(ta:TA):TI:=λσ H R=>ta σ H λvs H1=>∃i j:Int,vs=[.int i,.int j]/\(-(2^62)<=i/\i<2^62/\-(2^62)<=j/\j<2^62)/\R (Itr i (j-i).toNat) H1
theorem zbo{a:Expr}{ta:TA}{p pos:Pos}(hg:Gl X "range")(hm:X.mg "range"=none)(ha:PA X [a] ta)(hs:ij [a] X.env=[(false,eval a X.env)]:=by rfl):PI X tg (.Call (.Name "range" p) [a] [] pos) (iRng1 ta):=by
 intro pins s σ H R I h;refine Call_ (zet I hg hm boot_range (PyProof.Rows.callWith_type1 (thn (ha pos pins s σ H _ I h) λus s1 zz=>ex5 zz λvs H1 I1 r1 q1=>?_) hs rfl));obtain⟨j,e,q1,q2,q⟩:=q1;subst e;cases r1 with
 |cons r rr =>
  cases rr;obtain⟨t,rfl⟩:=r;exact call_range_1 (zpn I1 (by omega) (by omega) q1 q2 (by simpa using q))
def tFor(wi:TI)(g:TG)(tb:TS):TS:=λD σ H=>wi σ H λJ H1=>∃W:Nat->Nat->St->Hp->Prop,(∃m,W 0 m σ H1)/\∀i m σ H,W i m σ H->
 (J.stop i H/\D.nx σ H)\/(J.go i H/\∃N:St->Hp->Prop,(∀σ' H',N σ' H'->∃m',m'<m/\W (i+1) m' σ' H')/\∀x H',J.yld i H x H'->g x σ H' λσ2 H2=>tb {D with nx:=N,ct:=N,bk:=D.nx} σ2 H2)
def pinsAt(fp:List Addr)(h:Heap):List (Addr×Obj):=fp.filterMap λb=>(h.get? b).map λo=>(b,o)
theorem zct(hb:b∈fp)(e:h.get? b=some o):(b,o)∈pinsAt fp h:=List.mem_filterMap.mpr ⟨b,hb,by rw[e];rfl⟩
theorem znw(hp:p∈pinsAt fp h):p.1∈fp/\h.get? p.1=some p.2:=by
 obtain⟨b,hb,e⟩:=List.mem_filterMap.mp hp;cases q:h.get? b with
 |none=>rw[q]at e;cases e
 |some o =>
  rw[q]at e;have e':(b,o)=p:=Option.some.inj e;subst e';exact⟨hb,q⟩
theorem Inv.pinned{pins:Y2}{σ:St}{H:Hp}{s:ic}{fp:List Addr}(I:Inv X pins σ H s)(hf:∀b∈fp,FpOk X pins H b)(ho:∀b∈fp,∃o,s.heap.get? b=some o/\∀v,o.data ≠ .cell v):Inv X (pins++pinsAt fp s.heap) σ H s :=
 I.pins_of λp hp=>(y0g.mp hp).elim (λz=>I.pin p (y15 _ z)) λz=>by
  obtain⟨hb,e⟩:=znw z;obtain⟨f0,f1,f2,_⟩:=hf p.1 hb;obtain⟨o,e',d⟩:=ho p.1 hb;rw[e]at e';cases e';exact⟨e,f0,f1,f2,d⟩
theorem Inv.unpinned{pins pl:Y2}{σ:St}{H:Hp}{s:ic}(I:Inv X (pins++pl) σ H s):Inv X pins σ H s:=I.pins_of λp hp=>I.pin p (y15 _ (List.mem_append_left _ hp))
theorem zck(hp:PassesOwn (model X.prog X.w) X.A X.env X.xe)(hc:X.calm=true)(hi:PI X tg iter wi)(hg:PG X tg g)(hb:PSs X body tb)
  (hs:∀x,iQ iter X.env x=pure x:=by intro _;rfl):PS X (.For tg iter body [] pos) (tFor wi g tb):=by
 intro pins s σ H D I h;refine wpAny_For (thn (hi pins s σ H _ I h) λv s1 h1=>thn h1 λitv s2 h2=>?_) hs;obtain⟨it,fp,tn,J,H2,e,I2,T,st2,f2,W,⟨m0,w0⟩,turn⟩:=h2;subst e;have stat:∀{H':Hp},(∀b∈fp,H' b=none)->∀b∈fp,FpOk X pins H' b:=λhn b hb=>⟨hn b hb,(f2 b hb).2⟩;refine codeAny_forLoop_any (λn s'=>∃i σ' H',Inv X pins σ' H' s'/\tn i s'.heap/\(∀b∈fp,H' b=none)/\W i n σ' H') ?_ m0 ⟨0,σ,H2,I2,st2,λb hb=>(f2 b hb).1,w0⟩;rintro n s3 ⟨i,σ3,H3,I3,st3,fr3,w3⟩;rcases turn i n σ3 H3 w3 with⟨stop,qn⟩|⟨go,N,hN,step⟩
 ·refine iM hp (thn (T.done X rfl rfl rfl hc i pins s3 σ3 H3 X.xe I3 (stat fr3) st3 stop) λr s4 ⟨hr,I4⟩=>?_);subst hr;exact jq ⟨σ3,H3,I4,qn⟩
 ·refine iM hp (thn (T.item X rfl rfl rfl hc i pins s3 σ3 H3 X.xe I3 (stat fr3) st3 go) λr s4 ⟨u,hr,h4⟩=>?_);subst hr;refine iM hp (thn h4 λ_ s5 zz=>ex5 zz λx H5 I5 r5 zq=>?_);obtain⟨y5,st5,fr5⟩:=zq;have I5':=I5.pinned (stat fr5) (T.obj _ _ st5);refine iM hp (thn (hg _ s5 σ3 H5 x u _ I5' r5 (step x H5 y5)) λ_ s6 ⟨σ6,H6,I6,q6⟩=>?_);refine iM hp (thn (hb _ s6 σ6 H6 _ I6 q6) λf s7 q7=>?_);have again:∀{σ7:St} {H7:Hp},Inv X (pins++pinsAt fp s5.heap) σ7 H7 s7->N σ7 H7->∃m,m<n/\∃i σ' H',Inv X pins σ' H' s7/\tn i s7.heap/\(∀b∈fp,H' b=none)/\W i m σ' H':=λ{σ7 H7} I7 n7=>by
   obtain⟨m',hm,w7⟩:=hN σ7 H7 n7;refine⟨m',hm,i+1,σ7,H7,I7.unpinned,T.keep _ _ _ st5 λb hb o e=>(I7.pin (b,o) (y15 _ (y15 _ (zct hb e)))).1,λb hb=>?_,w7⟩;obtain⟨o,e,d⟩:=T.obj _ _ st5 b hb;exact(I7.pin (b,o) (y15 _ (y15 _ (zct hb e)))).2.1
  cases f with
  |next=>obtain⟨σ7,H7,I7,n7⟩:=q7;exact again I7 n7
  |cont=>obtain⟨σ7,H7,I7,n7⟩:=q7;exact again I7 n7
  |brk=>obtain⟨σ7,H7,I7,q7⟩:=q7;exact⟨σ7,H7,I7.unpinned,q7⟩
  |ret v=>obtain⟨x7,σ7,H7,I7,r7,q7⟩:=q7;exact⟨x7,σ7,H7,I7.unpinned,r7,q7⟩
end
theorem zqv{K:Frag}{a:Addr}{xs:List V}{g:TG}{tb:TS}{D:Ends}{σ:St}{H:Hp}(Pv:Nat->St->Hp->Prop)(h0:Pv 0 σ H)(hl:∀i σ H,i<=xs.length->Pv i σ H->SqL K H a xs)
  (hs:∀i x σ H,xs[i]?=some x->Pv i σ H->g x σ H λσ2 H2=>tb {D with nx:=Pv (i+1),ct:=Pv (i+1),bk:=D.nx} σ2 H2) (hd:∀σ H,Pv xs.length σ H->D.nx σ H) :
  ∃W:Nat->Nat->St->Hp->Prop,(∃m,W 0 m σ H)/\∀i m σ H,W i m σ H->
   ((Itl K a).stop i H/\D.nx σ H)\/((Itl K a).go i H/\∃N:St->Hp->Prop,(∀σ' H',N σ' H'->∃m',m'<m/\W (i+1) m' σ' H')/\∀x H',(Itl K a).yld i H x H'->g x σ H' λσ2 H2=>tb {D with nx:=N,ct:=N,bk:=D.nx} σ2 H2):=by
 refine⟨λi m σ H=>m=xs.length-i/\i<=xs.length/\Pv i σ H,⟨xs.length,by simp,y14 _,h0⟩,?_⟩;rintro i m σ H ⟨rfl,hi,p⟩;have q:=hl i σ H hi p;by_cases hlt:i<xs.length
 ·refine .inr ⟨⟨xs,xs[i],q,by simp[hlt]⟩,Pv (i+1),λσ' H' p'=>⟨xs.length-(i+1),by omega,rfl,hlt,p'⟩,λx H' y=>?_⟩;obtain⟨e,y⟩:=y;subst e;exact hs i x σ _ (y xs q) p
 ·have e:i=xs.length:=by omega
  subst e;exact .inl ⟨⟨xs,q,y01 _⟩,hd σ H p⟩
theorem zok{lo:Int}{n:Nat}{g:TG}{tb:TS}{D:Ends}{σ:St}{H:Hp}(Pv:Nat->St->Hp->Prop)(h0:Pv 0 σ H)
  (hs:∀i σ H,i<n->Pv i σ H->g (.int (lo+i)) σ H λσ2 H2=>tb {D with nx:=Pv (i+1),ct:=Pv (i+1),bk:=D.nx} σ2 H2) (hd:∀σ H,Pv n σ H->D.nx σ H) :
  ∃W:Nat->Nat->St->Hp->Prop,(∃m,W 0 m σ H)/\∀i m σ H,W i m σ H->
   ((Itr lo n).stop i H/\D.nx σ H)\/((Itr lo n).go i H/\∃N:St->Hp->Prop,(∀σ' H',N σ' H'->∃m',m'<m/\W (i+1) m' σ' H')/\∀x H',(Itr lo n).yld i H x H'->g x σ H' λσ2 H2=>tb {D with nx:=N,ct:=N,bk:=D.nx} σ2 H2):=by
 refine⟨λi m σ H=>m=n-i/\i<=n/\Pv i σ H,⟨n,by simp,y14 _,h0⟩,?_⟩;rintro i m σ H ⟨rfl,hi,p⟩;by_cases hlt:i<n
 ·refine .inr ⟨hlt,Pv (i+1),λσ' H' p'=>⟨n-(i+1),by omega,rfl,hlt,p'⟩,λx H' y=>?_⟩;obtain⟨e,y⟩:=y;subst e y;exact hs i σ _ hlt p
 ·have e:i=n:=by omega
  subst e;exact .inl ⟨y01 _,hd σ H p⟩
abbrev R2:=V->V->Hp->VK->Prop
def OpR(X:Cx)(f:Value->Value->Sem Value)(r:R2):Prop :=
 ∀(pins:Y2) (s:ic) (σ:St) (H:Hp) (x y:V) (v u:Value) (Q:VK),Inv X pins σ H s->RelV x v->RelV y u->r x y H Q->
  wpAny (model X.prog X.w) X.A (f v u) (EP X pins σ Q) X.xe s
def CallR(X:Cx)(f:Value)(r:List V->Hp->VK->Prop):Prop :=
 ∀(pins:Y2) (s:ic) (σ:St) (H:Hp) (xs:List V) (us:List Value) (Q:VK),Inv X pins σ H s->Vals xs us->r xs H Q->
  wpAny (model X.prog X.w) X.A (call f us) (EP X pins σ Q) X.xe s
def TruR(X:Cx)(r:V->Hp->(Bool->Hp->Prop)->Prop):Prop :=
 ∀(pins:Y2) (s:ic) (σ:St) (H:Hp) (x:V) (v:Value) (Q:Bool->Hp->Prop),Inv X pins σ H s->RelV x v->r x H Q->
  wpAny (model X.prog X.w) X.A (truthy v) (TP X pins σ Q) X.xe s
def tOp(r:R2)(ta tb:TE):TE:=λσ H Q=>ta σ H λx H1=>tb σ H1 λy H2=>r x y H2 Q
def tUn(r:V->Hp->VK->Prop)(ta:TE):TE:=λσ H Q=>ta σ H λx H1=>r x H1 Q
def rI(C:Int->Int->Prop)(g:Int->Int->V):R2:=λx y H Q=>∃i,x=.int i/\∃j,y=.int j/\C i j/\Q (g i j) H
def rI0(g:Int->Int->V):R2:=λx y H Q=>∃i,x=.int i/\∃j,y=.int j/\Q (g i j) H
def rU(g:Int->V):V->Hp->VK->Prop:=λx H Q=>∃i,x=.int i/\Q (g i) H
section
variable {X:Cx}{a b c:Expr}{ta tb tc:TE}{pos:Pos}
theorem binT(ha:PE X a ta)(hb:PE X b tb){pins:Y2}{s:ic}{σ:St}{H:Hp}{R:V->V->Hp->Prop}(I:Inv X pins σ H s)
  (h:ta σ H λx H1=>tb σ H1 λy H2=>R x y H2) {Q:Y0} {f:Value->Value->Sem Value}
  (hf:∀v u s2 x y H2,Inv X pins σ H2 s2->RelV x v->RelV y u->R x y H2->wpAny (model X.prog X.w) X.A (f v u) Q X.xe s2) :
  wpAny (model X.prog X.w) X.A (eval a X.env) (λv s₁=>wpAny (model X.prog X.w) X.A (eval b X.env) (λu s₂=>wpAny (model X.prog X.w) X.A (f v u) Q X.xe s₂) X.xe s₁) X.xe s:=by
 refine thn (ha pins s σ H _ I h) λv s1 zz=>ex5 zz λx H1 I1 r1 q1=>?_;refine thn (hb pins s1 σ H1 _ I1 q1) λu s2 zz=>ex5 zz λy H2 I2 r2 q2=>?_;exact hf v u s2 x y H2 I2 r1 r2 q2
theorem zav(ho:OpR X (iC op) r)(ha:PE X a ta)(hb:PE X b tb):PE X (.BinOp a op b pos) (tOp r ta tb):=by
 intro pins s σ H Q I h;exact wpAny_BinOp (binT ha hb I h λv u s2 x y H2 I2 rx ry q=>ho pins s2 σ H2 x y v u Q I2 rx ry q)
theorem opI{f:Value->Value->Sem Value}{C:Int->Int->Prop}{g:Int->Int->Int}
  (rule:∀(i j:Int) (t u:Tok) (s:ic) (Q:Y0) (E:Y0),C i j->Q (.int (g i j) s.toks) {s with toks:=s.toks+1}->wpAny (model X.prog X.w) X.A (f (.int i t) (.int j u)) Q E s) :
  OpR X f (rI C λi j=>.int (g i j)):=by
 ac_rfl;obtain⟨i,rfl,j,rfl,hc,q⟩:=h;obtain⟨t,rfl⟩:=rx;obtain⟨t',rfl⟩:=ry;exact rule i j t t' s _ _ hc ⟨.int (g i j),H,I.tok _,⟨_,rfl⟩,q⟩
theorem opI0{f:Value->Value->Sem Value}{g:Int->Int->Int}
  (rule:∀(i j:Int) (t u:Tok) (s:ic) (Q:Y0) (E:Y0),Q (.int (g i j) s.toks) {s with toks:=s.toks+1}->wpAny (model X.prog X.w) X.A (f (.int i t) (.int j u)) Q E s) :
  OpR X f (rI0 λi j=>.int (g i j)):=by
 ac_rfl;obtain⟨i,rfl,j,rfl,q⟩:=h;obtain⟨t,rfl⟩:=rx;obtain⟨t',rfl⟩:=ry;exact rule i j t t' s _ _ ⟨.int (g i j),H,I.tok _,⟨_,rfl⟩,q⟩
theorem opB0{f:Value->Value->Sem Value}{g:Int->Int->Bool}
  (rule:∀(i j:Int) (t u:Tok) (s:ic) (Q:Y0) (E:Y0),Q (.bool (g i j)) s->wpAny (model X.prog X.w) X.A (f (.int i t) (.int j u)) Q E s) :
  OpR X f (rI0 λi j=>.bl (g i j)):=by
 ac_rfl;obtain⟨i,rfl,j,rfl,q⟩:=h;obtain⟨t,rfl⟩:=rx;obtain⟨t',rfl⟩:=ry;exact rule i j t t' s _ _ ⟨.bl (g i j),H,I,rfl,q⟩
def CDiv(i j:Int):Prop:=0<j/\j<1073741824
def CPow(i j:Int):Prop:=0<=j/\j<=1000000/\i.natAbs<2^64
def CMul(i j:Int):Prop:=(-(2^64)<i/\i<2^64)\/(-(2^64)<j/\j<2^64)
theorem CMul.ok(h:CMul i j):IntMulOk i j:=by
 rcases h with⟨h1,h2⟩|⟨h1,h2⟩
 ·exact .of_left (intBits_le_64 h1 h2)
 ·exact .of_right (intBits_le_64 h1 h2)
theorem zkt(k:Nat):(0:Int)<=2^k:=by
 rw[two_pow_cast];exact Int.natCast_nonneg _
theorem zep:OpR X (iC .Add) (rI0 λi j=>.int (i+j)):=opI0 λ_ _ _ _ _ _ _ q=>add_int q
theorem zcl:OpR X (iC .Sub) (rI0 λi j=>.int (i-j)):=opI0 λ_ _ _ _ _ _ _ q=>sub_int q
theorem zrg:OpR X (iC .Mult) (rI CMul λi j=>.int (i*j)):=opI λ_ _ _ _ _ _ _ hc q=>mul_int q hc.ok
theorem zc2:OpR X (iC .FloorDiv) (rI CDiv λi j=>.int (i/j)):=opI λi j _ _ _ _ _ hc q=>by
 have h1:(0:Int)<j:=hc.1;have h2:j<1073741824:=hc.2;exact floordiv_int (by omega) (by rw[y3z i (by omega)];exact q) (.inl (PyProof.noPylong_small (by omega)))
theorem zb5:OpR X (iC .Mod) (rI (λ_ j=>0<j) λi j=>.int (i%j)):=opI λi j _ _ _ _ _ hc q=>by
 have h1:(0:Int)<j:=hc;exact mod_int' (by omega) (by rw[Int.fmod_eq_emod_of_nonneg i (by omega)];exact q)
theorem zeo:OpR X (iC .LShift) (rI CPow λi j=>.int (i*2^j.toNat)):=opI λ_ _ _ _ _ _ _ hc q=>lshift_int_small hc.1 hc.2.1 hc.2.2 q
theorem zrf:OpR X (iC .RShift) (rI (λ_ j=>0<=j) λi j=>.int (i/2^j.toNat)):=opI λi j _ _ _ _ _ hc q =>
 rshift_int hc (by rw[y3z i (zkt _)];exact q)
theorem zj6:OpR X (iC .BitAnd) (rI0 λi j=>.int (Builtin.bitAnd i j)):=opI0 λ_ _ _ _ _ _ _ q=>and_int q
theorem zsz:OpR X (iC .BitOr) (rI0 λi j=>.int (Builtin.bitOr i j)):=opI0 λ_ _ _ _ _ _ _ q=>or_int q
theorem zup:OpR X (iC .BitXor) (rI0 λi j=>.int (Builtin.bitXor i j)):=opI0 λ_ _ _ _ _ _ _ q=>xor_int q
end
def scal:V->V->Bool
 |.non,.non=>true|.non,.int _=>true|.int _,.non=>true|.non,.bl _=>true|.bl _,.non=>true|.non,.str _=>true|.str _,.non=>true
 |.int _,.int _=>true|.bl _,.bl _=>true|.str _,.str _=>true|.byt _,.byt _=>true
 |.int _,.str _=>true|.str _,.int _=>true|.bl _,.str _=>true|.str _,.bl _=>true
 |_,_=>false
def rEq:R2:=λx y H Q=>scal x y=true/\Q (.bl (decide (x=y))) H
def rNe:R2:=λx y H Q=>scal x y=true/\Q (.bl (!decide (x=y))) H
theorem zot:decide (V.int i=V.int j)=(i==j):=by
 rw[y1t];simp
theorem zru:decide (V.bl i=V.bl j)=(i==j):=by
 rw[y1t];simp
theorem zos:decide (V.str i=V.str j)=(i==j):=by
 rw[y1t];simp
theorem zou:decide (V.byt i=V.byt j)=(i.toList==j.toList):=by
 rw[y1t];cases i;cases j;simp
section
variable {X:Cx}{a b c:Expr}{ta tb tc:TE}{pos:Pos}
theorem za4{pins:Y2}{σ:St}{H:Hp}{s:ic}{Q:VK}{k k':Bool}(I:Inv X pins σ H s)(q:Q (.bl k) H)(e:k=k'):EP X pins σ Q (.bool k') s:=by
 subst e;exact⟨.bl k,H,I,rfl,q⟩
theorem za3:OpR X (ii .Eq) rEq:=by
 ac_rfl;obtain⟨hs,q⟩:=h;cases x with
 |non =>
  cases rx;cases y with
  |non=>cases ry;exact PySem.EqNone.eq_none_none (za4 I q (by simp))
  |bl j=>cases ry;exact PySem.EqNone.eq_none_bool (za4 I q (by simp))
  |int j=>obtain⟨t',rfl⟩:=ry;exact PySem.EqNone.eq_none_int (za4 I q (by simp))
  |str j=>obtain⟨t',rfl⟩:=ry;exact PySem.EqNone.eq_none_str (za4 I q (by simp))
  |_=>exact absurd (show false=true from hs) y0e
 |bl i =>
  cases rx;cases y with
  |non=>cases ry;exact PySem.EqNone.eq_bool_none (za4 I q (by simp))
  |bl j=>cases ry;exact eq_bool (za4 I q zru)
  |str j=>obtain⟨t',rfl⟩:=ry;exact PySem.EqMixed.eq_bool_str (za4 I q (by simp))
  |_=>exact absurd (show false=true from hs) y0e
 |int i =>
  obtain⟨t,rfl⟩:=rx;cases y with
  |non=>cases ry;exact PySem.EqNone.eq_int_none (za4 I q (by simp))
  |int j=>obtain⟨t',rfl⟩:=ry;exact eq_int (za4 I q zot)
  |str j=>obtain⟨t',rfl⟩:=ry;exact PySem.EqMixed.eq_int_str (za4 I q (by simp))
  |_=>exact absurd (show false=true from hs) y0e
 |str i =>
  obtain⟨t,rfl⟩:=rx;cases y with
  |non=>cases ry;exact PySem.EqNone.eq_str_none (za4 I q (by simp))
  |bl j=>cases ry;exact PySem.EqMixed.eq_str_bool (za4 I q (by simp))
  |int j=>obtain⟨t',rfl⟩:=ry;exact PySem.EqMixed.eq_str_int (za4 I q (by simp))
  |str j=>obtain⟨t',rfl⟩:=ry;exact eq_str (za4 I q zos)
  |_=>exact absurd (show false=true from hs) y0e
 |byt i =>
  obtain⟨t,rfl⟩:=rx;cases y with
  |byt j=>obtain⟨t',rfl⟩:=ry;exact PySem.W.eq_bytes (za4 I q zou)
  |_=>exact absurd (show false=true from hs) y0e
 |_=>cases y<;>exact absurd (show false=true from hs) y0e
theorem zgf:OpR X (ii .NotEq) rNe:=by
 ac_rfl;obtain⟨hs,q⟩:=h;cases x with
 |non =>
  cases rx;cases y with
  |non=>cases ry;exact PySem.EqNone.ne_none_none (za4 I q (by simp))
  |bl j=>cases ry;exact PySem.EqNone.ne_none_bool (za4 I q (by simp))
  |int j=>obtain⟨t',rfl⟩:=ry;exact PySem.EqNone.ne_none_int (za4 I q (by simp))
  |str j=>obtain⟨t',rfl⟩:=ry;exact PySem.EqNone.ne_none_str (za4 I q (by simp))
  |_=>exact absurd (show false=true from hs) y0e
 |bl i =>
  cases rx;cases y with
  |non=>cases ry;exact PySem.EqNone.ne_bool_none (za4 I q (by simp))
  |bl j=>cases ry;exact ne_bool (za4 I q (congrArg not zru))
  |str j=>obtain⟨t',rfl⟩:=ry;exact PySem.EqMixed.ne_bool_str (za4 I q (by simp))
  |_=>exact absurd (show false=true from hs) y0e
 |int i =>
  obtain⟨t,rfl⟩:=rx;cases y with
  |non=>cases ry;exact PySem.EqNone.ne_int_none (za4 I q (by simp))
  |int j=>obtain⟨t',rfl⟩:=ry;exact ne_int (za4 I q (congrArg not zot))
  |str j=>obtain⟨t',rfl⟩:=ry;exact PySem.EqMixed.ne_int_str (za4 I q (by simp))
  |_=>exact absurd (show false=true from hs) y0e
 |str i =>
  obtain⟨t,rfl⟩:=rx;cases y with
  |non=>cases ry;exact PySem.EqNone.ne_str_none (za4 I q (by simp))
  |bl j=>cases ry;exact PySem.EqMixed.ne_str_bool (za4 I q (by simp))
  |int j=>obtain⟨t',rfl⟩:=ry;exact PySem.EqMixed.ne_str_int (za4 I q (by simp))
  |str j=>obtain⟨t',rfl⟩:=ry;exact ne_str (za4 I q (congrArg not zos))
  |_=>exact absurd (show false=true from hs) y0e
 |byt i =>
  obtain⟨t,rfl⟩:=rx;cases y with
  |byt j=>obtain⟨t',rfl⟩:=ry;exact PySem.W.ne_bytes (za4 I q (congrArg not zou))
  |_=>exact absurd (show false=true from hs) y0e
 |_=>cases y<;>exact absurd (show false=true from hs) y0e
theorem zp1:OpR X (ii .Lt) (rI0 λi j=>.bl (decide (i<j))):=opB0 λ_ _ _ _ _ _ _ q=>lt_int q
theorem zuu:OpR X (ii .LtE) (rI0 λi j=>.bl (decide (i<=j))):=opB0 λ_ _ _ _ _ _ _ q=>le_int q
theorem zhp:OpR X (ii .Gt) (rI0 λi j=>.bl (decide (j<i))):=opB0 λ_ _ _ _ _ _ _ q=>gt_int q
theorem znd:OpR X (ii .Lt) (λx y H Q=>∃i j,x=.str i/\y=.str j/\Q (.bl (decide (i.cps.toList<j.cps.toList))) H):=by
 ac_rfl;obtain⟨i,j,rfl,rfl,q⟩:=h;obtain⟨t,rfl⟩:=rx;obtain⟨t',rfl⟩:=ry;exact lt_str (za4 I q rfl)
theorem zho:OpR X (ii .In) (λx y H Q=>∃i j,x=.str i/\y=.str j/\Q (.bl (!(Builtin.Str.occurrences j i 0 j.length 1).isEmpty)) H):=by
 ac_rfl;obtain⟨i,j,rfl,rfl,q⟩:=h;obtain⟨t,rfl⟩:=rx;obtain⟨t',rfl⟩:=ry;exact in_str (za4 I q rfl)
theorem zs0:OpR X (ii .IsNot) (λx y H Q=>y=.non/\Q (.bl (!decide (x=.non))) H):=by
 ac_rfl;obtain⟨rfl,q⟩:=h;cases ry;refine isnot_none_gen (za4 I q ?_);cases x<;>first
  |(cases rx;rfl)
  |(obtain⟨t,rfl⟩:=rx;rfl)
theorem nomark(b:Expr)(h:op ≠ .In:=by decide)(h2:op ≠ .NotIn:=by decide):jh op b=false:=by
 have e1:(op==CmpOp.In)=false:=by cases op<;>first|rfl|exact absurd rfl h
 have e2:(op==CmpOp.NotIn)=false:=by cases op<;>first|rfl|exact absurd rfl h2
 cases b<;>simp[jh,e1,e2]
theorem za5(ho:OpR X (ii op) r)(ha:PE X a ta)(hb:PE X b tb)(hm:jh op b=false):PE X (.Compare a [op] [b] pos) (tOp r ta tb):=by
 intro pins s σ H Q I h;exact wpAny_Compare1 (binT ha hb I h λv u s2 x y H2 I2 rx ry q=>ho pins s2 σ H2 x y v u Q I2 rx ry q) hm
def tTest(t:TE):TT:=λσ H Q=>t σ H λx H'=>∃k,x=.bl k/\Q k H'
theorem zag(ho:OpR X (ii op) r)(ha:PE X a ta)(hb:PE X b tb)(hm:jh op b=false):PT X (.Compare a [op] [b] pos) (tTest (tOp r ta tb)):=by
 intro pins s σ H Q I h;refine wpAny_isTrue_Compare1 (thn (ha pins s σ H _ I h) λv s1 zz=>ex5 zz λx H1 I1 r1 q1=>thn (hb pins s1 σ H1 _ I1 q1) λu s2 zz=>ex5 zz λy H2 I2 r2 q2 =>
  thn (ho pins s2 σ H2 x y v u _ I2 r1 r2 q2) λc s3 ⟨z,H3,I3,r3,k,e,q3⟩=>?_) hm
 subst e;cases r3;exact il ⟨H3,I3,q3⟩
def tChain(r r':R2)(ta tb tc:TE):TE:=λσ H Q=>ta σ H λx H1=>tb σ H1 λy H2=>r x y H2 λz H3=>∃k,z=.bl k/\
 (if k=true then tc σ H3 λw' H4=>r' y w' H4 Q else Q (.bl false) H3)
theorem zpz(ho:OpR X (ii op) r)(ho':OpR X (ii op') r')(ha:PE X a ta)(hb:PE X b tb)(hc:PE X c tc)
  (hm:lastMarks [op,op'] [b,c]=false:=by with_unfolding_all rfl):PE X (.Compare a [op,op'] [b,c] pos) (tChain r r' ta tb tc):=by
 intro pins s σ H Q I h;refine Compare_chain (thn (ha pins s σ H _ I h) λv s1 zz=>ex5 zz λx H1 I1 r1 q1=>chain_link (thn (hb pins s1 σ H1 _ I1 q1) λu s2 zz=>ex5 zz λy H2 I2 r2 q2 =>
  thn (ho pins s2 σ H2 x y v u _ I2 r1 r2 q2) λd s3 ⟨z,H3,I3,r3,k,e,q3⟩=>?_)) hm
 subst e;cases r3;refine il ?_;cases k with
 |false=>exact ite_ff ⟨.bl false,H3,I3,rfl,q3⟩
 |true=>exact ite_tt (chain_last (thn (hc pins s3 σ H3 _ I3 q3) λw' s4 zz=>ex5 zz λz' H4 I4 r4 q4=>ho' pins s4 σ H4 y z' u w' Q I4 r2 r4 q4))
theorem zd4(ho:OpR X (ii op) r)(ho':OpR X (ii op') r')(ha:PE X a ta)(hb:PE X b tb)(hc:PE X c tc)
  (hm:lastMarks [op,op'] [b,c]=false:=by with_unfolding_all rfl):PT X (.Compare a [op,op'] [b,c] pos) (tTest (tChain r r' ta tb tc)):=by
 intro pins s σ H Q I h;refine isTrue_chain (thn (ha pins s σ H _ I h) λv s1 zz=>ex5 zz λx H1 I1 r1 q1=>test_link (thn (hb pins s1 σ H1 _ I1 q1) λu s2 zz=>ex5 zz λy H2 I2 r2 q2 =>
  thn (ho pins s2 σ H2 x y v u _ I2 r1 r2 q2) λd s3 ⟨z,H3,I3,r3,k,e,q3⟩=>?_)) hm
 subst e;cases r3;refine il ?_;cases k with
 |false =>
  obtain⟨k',e',q'⟩:=q3;cases e';exact ite_ff ⟨H3,I3,q'⟩
 |true =>
  refine ite_tt (test_last (thn (hc pins s3 σ H3 _ I3 q3) λw' s4 zz=>ex5 zz λz' H4 I4 r4 q4=>thn (ho' pins s4 σ H4 y z' u w' _ I4 r2 r4 q4) λd' s5 zz=>ex5 zz λz2 H5 I5 r5 zq=>?_));obtain⟨k2,e2,q5⟩:=zq;subst e2;cases r5;exact il ⟨H5,I5,q5⟩
def TruV(K:Frag)(x:V)(H:Hp)(k:Bool):Prop :=
 match x with
 |.non=>k=false
 |.bl b=>k=b
 |.int i=>k=(i !=0)
 |.str y=>y.length<=ie/\k=((y.length:Int) !=0)
 |.byt y=>y.size<=ie/\k=((y.size:Int) !=0)
 |.ref p=>(∃xs,SqL K H p xs/\k=!xs.isEmpty)\/(∃xs,SqT K H p xs/\k=!xs.isEmpty)\/∃kvs,H p=some (.dK kvs)/\k=!kvs.isEmpty
 |_=>False
theorem zll{κ:Type}{kvs:List (κ×V)}{vs:List (κ×Value)}(r:KV kvs vs):(!vs.isEmpty)=!kvs.isEmpty:=by
 cases r<;>rfl
theorem zfz(r:Vals xs its):(!its.toArray.isEmpty)=!xs.isEmpty:=by
 cases r<;>simp
theorem line63:(ie:Nat)<2^63:=by rw[sizeLine_eq];decide
theorem zt2:TruR X (λx H Q=>∃k,TruV X.K x H k/\Q k H):=by
 intro pins s σ H x v Q I rx h;obtain⟨k,e,q⟩:=h;have hl:=line63;have hs:ie=16777216:=sizeLine_eq;cases x with
 |non =>
  cases rx;have e':k=false:=e;subst e';exact truthy_none ⟨H,I,q⟩
 |bl b =>
  cases rx;have e':k=b:=e;subst e';exact il ⟨H,I,q⟩
 |int i =>
  obtain⟨t,rfl⟩:=rx;have e':k=(i !=0):=e;subst e';exact PySem.P.truthy_int ⟨H,I,q⟩
 |str y =>
  obtain⟨t,rfl⟩:=rx;obtain⟨hy,e'⟩:y.length<=ie/\k=((y.length:Int) !=0):=e;subst e';exact PySem.P.truthy_str (by omega) ⟨H,I.tok _,q⟩
 |byt y =>
  obtain⟨t,rfl⟩:=rx;obtain⟨hy,e'⟩:y.size<=ie/\k=((y.size:Int) !=0):=e;subst e';exact PySem.W.truthy_bytes (by omega) ⟨H,I.tok _,q⟩
 |ref p =>
  cases rx;have e':(∃xs,SqL X.K H p xs/\k=!xs.isEmpty)\/(∃xs,SqT X.K H p xs/\k=!xs.isEmpty)\/∃kvs,H p=some (.dK kvs)/\k=!kvs.isEmpty:=e;rcases e' with⟨xs,hx,e'⟩|⟨xs,hx,e'⟩|⟨kvs,hx,e'⟩
  ·subst e';obtain⟨its,r,pl,hz⟩:=I.list hx;have hlen:=r.length;exact wpAny_truthy_list pl.isList (by simp only[y03];omega) ⟨H,I.tok _,by rw[zfz r];exact q⟩
  ·subst e';obtain⟨its,r,pl,hz⟩:=I.tuple hx;have hlen:=r.length;exact truthy_tuple pl (by simp only[y03];omega) ⟨H,I.tok _,by rw[zfz r];exact q⟩
  ·subst e';obtain⟨hz,hS,vs,r,m⟩:kvs.length<=ie/\(p==iy)=false/\∃vs,KV kvs vs/\s.heap.DictOf (mixKind X.prog X.w) p vs:=I.hok p _ hx;have hlen:kvs.length=vs.length:=Paired.length r;exact wpAny_truthy_dict hS m (by omega) ⟨H,I.tok _,by rw[zll r];exact q⟩
 |_=>exact(show False from e).elim
theorem zj4(ha:PE X a ta)(he:∀whole,isTrue a X.env whole=(do let v ←whole;standAt a.pos;holding [v] (truthy v))):
  PT X a (λσ H Q=>ta σ H λx H'=>∃k,TruV X.K x H' k/\Q k H'):=by
 intro pins s σ H Q I h;exact isTrue_plain (thn (ha pins s σ H _ I h) λv s1 zz=>ex5 zz λx H1 I1 r1 q1=>zt2 pins s1 σ H1 x v Q I1 r1 q1) (he _)
theorem vals1(r:Vals [x] us):∃u,us=[u]/\RelV x u:=by
 cases r with
 |cons r1 r2=>cases r2;exact⟨_,rfl,r1⟩
theorem vals2(r:Vals [x,y] us):∃u w',us=[u,w']/\RelV x u/\RelV y w':=by
 cases r with
 |cons r1 r2 =>
  cases r2 with
  |cons r3 r4=>cases r4;exact⟨_,_,rfl,r1,r3⟩
theorem ze4(hc:X.calm=true):CallR X (.builtin "max") (λxs H Q=>∃i j,xs=[.int i,.int j]/\Q (.int (if j>i then j else i)) H):=by
 intro pins s σ H xs us Q I r h;obtain⟨i,j,rfl,q⟩:=h;obtain⟨u,w',rfl,⟨t,rfl⟩,⟨t',rfl⟩⟩:=vals2 r;refine max_two_ints (I.ok.hd hc) λh' tk k=>⟨_,H,I.kept k,?_,q⟩;by_cases hj:j>i
 ·rw[if_pos hj,if_pos hj];exact⟨_,rfl⟩
 ·rw[if_neg hj,if_neg hj];exact⟨_,rfl⟩
theorem zh4(hc:X.calm=true):CallR X (.builtin "min") (λxs H Q=>∃i j,xs=[.int i,.int j]/\Q (.int (if j<i then j else i)) H):=by
 intro pins s σ H xs us Q I r h;obtain⟨i,j,rfl,q⟩:=h;obtain⟨u,w',rfl,⟨t,rfl⟩,⟨t',rfl⟩⟩:=vals2 r;refine min_two_ints (I.ok.hd hc) λh' tk k=>⟨_,H,I.kept k,?_,q⟩;by_cases hj:j<i
 ·rw[if_pos hj,if_pos hj];exact⟨_,rfl⟩
 ·rw[if_neg hj,if_neg hj];exact⟨_,rfl⟩
theorem ze5:CallR X (.type "int") (λxs H Q=>(∃i,xs=[.int i]/\Q (.int i) H)\/∃k,xs=[.bl k]/\Q (.int (if k then 1 else 0)) H):=by
 intro pins s σ H xs us Q I r h;rcases h with⟨i,rfl,q⟩|⟨k,rfl,q⟩
 ·obtain⟨u,rfl,t,rfl⟩:=vals1 r;exact call_int_int ⟨.int i,H,I,⟨_,rfl⟩,q⟩
 ·obtain⟨u,rfl,r1⟩:=vals1 r;cases r1;exact call_int_bool ⟨.int (if k then 1 else 0),H,I.tok _,⟨_,rfl⟩,q⟩
end
structure ObjM(h:Heap)(x dx C:Addr)(mA:Y1):Prop where
 obj:h.get? x=some (PySem.W.instObj C dx)
 ns:h.Ns1 dx mA
 ne:dx≠x
theorem zn0{h:Heap}(n:h.Ns1 dx mA):∃od,h.get? dx=some od/\∀name,PySem.W.lookIn name od=some (mA name):=by
 obtain⟨o,es,ep,ho,hd,hk,_,hm⟩:=n;refine⟨o,ho,λname=>?_⟩;have e:=hm name;unfold nsFind j5 at e;rw[←Array.find?_toList]at e;unfold PySem.W.lookIn;rw[hd];dsimp only;split
 ·rename_i y q;rw[q]at e;exact congrArg some e
 ·rename_i q;rw[q]at e;have a:es.toList.any (·.refKey)=false:=by
   rw[List.any_eq_false];intro y hy;obtain⟨z,t,hkey⟩:=hk y (Array.mem_toList_iff.mp hy);simp[DictEntry.refKey,hkey]
  have a':¬es.toList.any (·.refKey)=true:=by rw[a];exact y0e
  rw[if_neg a'];exact congrArg some e
theorem ObjM.look(I:ObjM h x dx C mA):∃od,PySem.W.InstAt h x (PySem.W.instObj C dx) C (some od)/\∀name,PySem.W.lookIn name od=some (mA name) :=
 let⟨od,ho,hl⟩:=zn0 I.ns
 ⟨od,⟨I.obj,rfl,rfl,ho⟩,hl⟩
section
variable {prog:ig}{w:World}{A:ir}{E:Y0}{s:ic}{K:Frag}{x dx C f:Addr}{mA:Y1}{name:Str}{v:Value}
theorem ztm(X:K.In s.heap)(I:ObjM s.heap x dx C mA)(hg:PySem.W.plainGet K C name=true)(hh:PySem.W.hasDictIn K C=true)
  (ha:PySem.W.findIn K (.ref C) name=some none) (hv:mA name=some v) (hv':PySem.W.handedIn v=true) (h:Q v {s with toks:=s.toks+1}) :
  wpAny (model prog w) A (getAttr (.ref x) name expr) Q E s:=by
 obtain⟨od,J,hl⟩:=I.look;exact PySem.W.get_value X J (PySem.W.plainGet_of hg).1 (PySem.W.findObj_own hh ha rfl (by rw[hl,hv])) hv' h
theorem zqt(X:K.In s.heap)(I:ObjM s.heap x dx C mA)(hg:PySem.W.plainGet K C name=true)
  (hf:PySem.W.findIn K (.ref C) name=some (some (.ref f))) (ht:PySem.W.isFn K (.ref f)=true) (hv:mA name=none) (h:Q (.ref f,[.ref x]) s) :
  wpAny (model prog w) A (getMethod (.ref x) name pl) Q E s:=by
 obtain⟨od,J,hl⟩:=I.look;exact PySem.W.method_fn X J (PySem.W.plainGet_of hg).1 (PySem.W.plainGet_of hg).2 hf (beq_iff_eq.mp ht) (by show(PySem.W.lookIn name od).map (·.isSome)=some false;rw[hl,hv];rfl) h
theorem zsf(X:K.In s.heap)(I:ObjM s.heap x dx C mA)
  (hs:PySem.W.findIn K (.ref C) "__setattr__"=some (some (.builtin "object.__setattr__"))) (hp:PySem.W.plainOver K C=true) (ht:PySem.W.takerIn K C name=some none) (hh:PySem.W.hasDictIn K C=true)
  (hw:PySem.Within mA ns) (hsz:ns.length<=ie)
  (h:∀h',ObjM h' x dx C (λy=>if y=name then some v else mA y)->Heap.SameBut dx s.heap h'->Q () {s with heap:=h',toks:=s.toks+2}) :
  wpAny (model prog w) A (setAttr (.ref x) name v) Q E s:=by
 obtain⟨od,J,hl⟩:=I.look;refine PySem.W.set_plain X J hs (PySem.W.osa_open (s:={s with toks:=s.toks+1}) (r:=none) X J hp ht λb=>?_);obtain⟨cd,hc,hd'⟩:=PySem.W.any_some hh;have hx:s.heap.get? x=some ⟨.ref C,some dx,.plain,#[]⟩:=I.obj;refine ia (ib (ia (ia (wpAny_loadPart hx (ia (PySem.W.Looks.here (s:={s with toks:=s.toks+1}) (PySem.W.looks_clsIn X hc) ?_))))));rw[hd'];refine ib (a:=some dx) (ia (ib (ia ?_)));refine wpAny_nsSet1 (s:={s with toks:=s.toks+1}) I.ns λh' hn2 hs2=>?_;obtain⟨oD,esD,epD,hoD,hdD,hcD⟩:=hn2.count (PySem.Within.cons name v hw);refine ia (wpAny_lookBehind hoD (by rw[hdD];exact pastItsLine_dict (y0y hcD (by rw[y0c];omega))) ?_);exact ib (h _ ⟨(hs2.2 _ (Ne.symm I.ne)).trans I.obj,hn2,I.ne⟩ hs2)
theorem zqm(X:K.In s.heap)(hm:PySem.W.makesIn K C=true)
  (hi:PySem.W.findIn K (.ref C) "__init__"=some (some (.ref f))) (hf:PySem.W.typeIn K (.ref f)=some (.type "function"))
  (h:iR (model prog w) (A.under (.builtin "type.__call__" ⟨.ref C::vs,kw⟩)) (.call (.ref f) ⟨.ref (s.heap.objs.size+1)::vs,kw⟩) (PySem.W.InitBack (s.heap.objs.size+1) R)
   {s with heap:=(s.heap.push PySem.W.emptyDict).push (PySem.W.instObj C s.heap.objs.size)}) :
  iR (model prog w) A (.call (.ref C) ⟨vs,kw⟩) R s:=by
 obtain⟨hh,g,d,t,os⟩:=s;exact PySem.W.make_core (PySem.W.makes_of X hm) (PySem.W.looks_findIn X hi) (λself=>PySem.W.bind_fn X self hf) (.inl rfl) h
end
def putF(f:Str)(v:V):List (Str×V)->List (Str×V)
 |[]=>[(f,v)]
 |(g,x)::r=>if g=f then(g,v)::r else(g,x)::putF f v r
theorem zes(f g:Str)(v:V):∀fs:List (Str×V),(putF f v fs).lookup g=if g=f then some v else fs.lookup g
 |[]=>by
  show List.lookup g [(f,v)]=_;by_cases h:g=f
  ·have hb:(g==f)=true:=beq_iff_eq.mpr h;simp only[List.lookup,hb,if_pos h]
  ·have hb:(g==f)=false:=beq_eq_false_iff_ne.mpr h;simp only[List.lookup,hb,if_neg h]
 |(k,x)::r=>by
  have ih:=zes f g v r;rw[show putF f v ((k,x)::r)=(if k=f then(k,v)::r else(k,x)::putF f v r)from rfl];by_cases hk:k=f
  ·rw[if_pos hk];by_cases h:g=k
   ·have hb:(g==k)=true:=beq_iff_eq.mpr h;simp only[List.lookup,hb,if_pos (h.trans hk)]
   ·have hb:(g==k)=false:=beq_eq_false_iff_ne.mpr h;simp only[List.lookup,hb,if_neg (λe:g=f=>h (e.trans hk.symm))]
  ·rw[if_neg hk];by_cases h:g=k
   ·have hb:(g==k)=true:=beq_iff_eq.mpr h;simp only[List.lookup,hb,if_neg (λe:g=f=>hk (h.symm.trans e))]
   ·have hb:(g==k)=false:=beq_eq_false_iff_ne.mpr h;simp only[List.lookup,hb];exact ih
theorem zeu(f:Str)(v:V):∀fs:List (Str×V),f∈(putF f v fs).map (·.1)/\∀g,g∈fs.map (·.1)->g∈(putF f v fs).map (·.1)
 |[]=>⟨by simp[putF],λg h=>by simp at h⟩
 |(k,x)::r=>by
  obtain⟨i1,i2⟩:=zeu f v r;rw[show putF f v ((k,x)::r)=(if k=f then(k,v)::r else(k,x)::putF f v r)from rfl];by_cases hk:k=f
  ·rw[if_pos hk];subst hk;exact⟨by simp,λg h=>by simpa using h⟩
  ·rw[if_neg hk];refine⟨?_,λg h=>?_⟩
   ·rw[y0h];exact y06 _ i1
   ·rw[y0h]at h ⊢;rcases y08.mp h with e|e
    ·exact y08.mpr (.inl e)
    ·exact y06 _ (i2 g e)
theorem zcd(f:Str)(v:V):∀fs:List (Str×V),(putF f v fs).length<=fs.length+1
 |[]=>by simp[putF]
 |(k,x)::r=>by
  have ih:=zcd f v r;rw[show putF f v ((k,x)::r)=(if k=f then(k,v)::r else(k,x)::putF f v r)from rfl];by_cases hk:k=f
  ·rw[if_pos hk,y0c,y0c];omega
  ·rw[if_neg hk,y0c,y0c];omega
theorem RelO.some_of(r:RelO (some v) o):∃u,o=some u/\RelV v u:=by
 cases o with
 |none=>exact(show False from r).elim
 |some u=>exact⟨u,rfl,r⟩
theorem RelO.none_of(r:RelO none o):o=none:=by
 cases o with
 |none=>rfl
 |some u=>exact(show False from r).elim
theorem zoh(r:RelV v u):PySem.W.handedIn u=true:=by
 cases v with
 |non=>cases(show u=Value.none from r);rfl
 |bl b=>cases(show u=Value.bool b from r);rfl
 |int i=>obtain⟨t,e⟩:=(show∃t,u=Value.int i t from r);cases e;rfl
 |str x=>obtain⟨t,e⟩:=(show∃t,u=Value.str x t from r);cases e;rfl
 |byt b=>obtain⟨t,e⟩:=(show∃t,u=Value.bytes b t from r);cases e;rfl
 |flt b=>obtain⟨t,e⟩:=(show∃t,u=Value.float b t from r);cases e;rfl
 |ref a=>cases(show u=Value.ref a from r);rfl
 |ty n=>cases(show u=Value.type n from r);rfl
section
variable {P:ig}{w:World}{H H':Hp}{h h':Heap}{a C dx:Addr}{fs fs':List (Str×V)}
theorem zgl(hok:HOk P w H h)(e:H a=some (.ins C dx fs)):∃mA,ObjM h a dx C mA/\(∀f,RelO (fs.lookup f) (mA f))/\PySem.Within mA (fs.map (·.1))/\fs.length<=1000/\H dx=some (.own a):=by
 obtain⟨d,z,ne,ob,mA,n,r,q⟩:=(show ObjOk P w H h a (.ins C dx fs)from hok a _ e);exact⟨mA,⟨ob,n,ne⟩,r,q,z,d⟩
end
structure Cls(K:Frag)(C:Addr):Prop where
 pg:PySem.W.plainGet K C Str.empty=true
 hd:PySem.W.hasDictIn K C=true
 po:PySem.W.plainOver K C=true
 sa:PySem.W.findIn K (.ref C) "__setattr__"=some (some (.builtin "object.__setattr__"))
theorem Cls.get{K:Frag}{C:Addr}(c:Cls K C)(f:Str):PySem.W.plainGet K C f=true:=c.pg
def NoAttr(K:Frag)(C:Addr)(f:Str):Prop:=PySem.W.findIn K (.ref C) f=some none
theorem NoAttr.taker{K:Frag}{C:Addr}{f:Str}(n:NoAttr K C f):PySem.W.takerIn K C f=some none:=by
 unfold PySem.W.takerIn;rw[show PySem.W.findIn K (.ref C) f=some none from n];rfl
structure Meth(K:Frag)(C:Addr)(m:Str)(f:Addr):Prop where
 at_:PySem.W.findIn K (.ref C) m=some (some (.ref f))
 fn:PySem.W.isFn K (.ref f)=true
 kp:PySem.W.keepIn K (.ref f)=true
section
variable {X:Cx}{pins:Y2}{σ:St}{H:Hp}{s:ic}{a C dx:Addr}{fs:List (Str×V)}{f:Str}{v:V}{A:ir}{E:Y0}
theorem zlp(I:Inv X pins σ H s)(e:H a=some (.ins C dx fs))(c:Cls X.K C)(n:NoAttr X.K C f)(l:fs.lookup f=some v)
  (h:∀u s',Inv X pins σ H s'->RelV v u->Q u s'):wpAny (model X.prog X.w) A (getAttr (.ref a) f b) Q E s:=by
 obtain⟨mA,O,r,_,_,_⟩:=zgl I.hok e;obtain⟨u,hu,ru⟩:=RelO.some_of (v:=v) (o:=mA f) (by rw[←l];exact r f);exact ztm I.kIn O (c.get f) c.hd n hu (zoh ru) (h u _ (I.tok _) ru)
theorem zlo(I:Inv X pins σ H s)(e:H a=some (.ins C dx fs))(c:Cls X.K C)(k:Meth X.K C m g)(l:fs.lookup m=none)
  (h:Q (.ref g,[.ref a]) s):wpAny (model X.prog X.w) A (getMethod (.ref a) m pl) Q E s:=by
 obtain⟨mA,O,r,_,_,_⟩:=zgl I.hok e;have hn:mA m=none:=RelO.none_of (by rw[←l];exact r m);exact zqt I.kIn O (c.get m) k.at_ k.fn hn h
theorem zkw(I:Inv X pins σ H s)(e:H a=some (.ins C dx fs))(c:Cls X.K C)(n:NoAttr X.K C f)(hl:fs.length<1000)(ry:RelV y u)
  (h:∀s',Inv X pins σ (upd H a (.ins C dx (putF f y fs))) s'->Q () s'):wpAny (model X.prog X.w) A (setAttr (.ref a) f u) Q E s:=by
 obtain⟨mA,O,r,wi,_,ho⟩:=zgl I.hok e;have hz:(fs.map (·.1)).length<=ie:=by rw[y00,sizeLine_eq];omega
 refine zsf I.kIn O c.sa c.po n.taker c.hd wi hz λh' O' sb=>h _ ?_;have hd:∃o,h'.get? dx=some o:=let⟨o,_,_,e',_⟩:=O'.ns;⟨o,e'⟩;refine I.write (x:=a) (e:=dx) (by rw[e];exact True.intro) (.inr ho) (λb q hb z=>(sb.2 b hb).trans z) hd ?_;refine⟨by rw[zar O.ne];exact ho,?_,O.ne,O'.obj,_,O'.ns,λg=>?_,λg hg=>?_⟩
 ·have:=zcd f y fs;omega
 ·show RelO ((putF f y fs).lookup g) (if g=f then some u else mA g);rw[zes];by_cases q:g=f
  ·rw[if_pos q,if_pos q];exact ry
  ·rw[if_neg q,if_neg q];exact r g
 ·by_cases q:g=f
  ·rw[q];exact(zeu f y fs).1
  ·refine(zeu f y fs).2 g (wi g λz=>hg ?_);show(if g=f then some u else mA g)=none;rw[if_neg q];exact z
theorem Inv.made(I:Inv X pins σ H s):Inv X pins σ (upd (upd H s.heap.objs.size (.own (s.heap.objs.size+1))) (s.heap.objs.size+1) (.ins C s.heap.objs.size []))
  {s with heap:=(s.heap.push PySem.W.emptyDict).push (PySem.W.instObj C s.heap.objs.size)}:=by
 have e1:(s.heap.push PySem.W.emptyDict).get? s.heap.objs.size=some PySem.W.emptyDict:=y0d s.heap rfl;have e2:((s.heap.push PySem.W.emptyDict).push (PySem.W.instObj C s.heap.objs.size)).get? (s.heap.objs.size+1)=some (PySem.W.instObj C s.heap.objs.size):=by
  have:=y0d (s.heap.push PySem.W.emptyDict) (o:=PySem.W.instObj C s.heap.objs.size) rfl;rwa[y10]at this
 have e3:(s.heap.push PySem.W.emptyDict).Ns s.heap.objs.size (λ_=>none):=⟨PySem.W.emptyDict,#[],_,e1,rfl,(λe he=>absurd he (by simp)),λ_=>rfl⟩;have I1:=I.laid (a:=s.heap.objs.size) (o:=.own (s.heap.objs.size+1)) (h':=s.heap.push PySem.W.emptyDict) (t':=s.toks) (λb u q=>y02 _ q) (y01 _) ⟨_,e1⟩;refine I1.laid (a:=s.heap.objs.size+1) (o:=.ins C s.heap.objs.size []) (t':=s.toks) (λb u q=>y02 _ q) (y48 (y10 _ _)) ?_;have ne:s.heap.objs.size≠s.heap.objs.size+1:=y0i (y1u _);refine⟨by rw[zar ne,zaw],y14 _,ne,e2,λ_=>none,(Heap.Ns1.of_empty e3).at λo q=>y02 _ q,λ_=>True.intro,λy hy=>absurd rfl hy⟩
theorem ztx(hb:attributeBase e f env (eval e env)=eval e env)
  (h:wpAny (model prog w) A (eval e env) (λo s₁=>wpAny (model prog w) A (getAttr o f true) Q E s₁) E s):wpAny (model prog w) A (eval (.Attribute e f pos) env) Q E s :=
 Attribute_any_ h (by rw[arm_eval_Attribute,hb])
end
def tFld(K:Frag)(ta:TE)(f:Str):TE:=λσ H Q=>ta σ H λx H1=>∃a,x=.ref a/\∃C dx fs,H1 a=some (.ins C dx fs)/\Cls K C/\NoAttr K C f/\∃v,fs.lookup f=some v/\Q v H1
def sFld(K:Frag)(ta tv:TE)(f:Str):TS:=λD σ H=>tv σ H λy H1=>ta σ H1 λx H2=>∃a C dx fs,x=.ref a/\H2 a=some (.ins C dx fs)/\Cls K C/\NoAttr K C f/\fs.length<1000/\
 D.nx σ (upd H2 a (.ins C dx (putF f y fs)))
section
variable {X:Cx}{o e value:Expr}{f:Str}{pos pos' tpos:Pos}{ta tv:TE}
theorem zce(he:PE X e ta)(hb:attributeBase e f X.env (eval e X.env)=eval e X.env):PE X (.Attribute e f pos) (tFld X.K ta f):=by
 intro pins s σ H Q I h;refine ztx hb (thn (he pins s σ H _ I h) λu s1 zz=>ex5 zz λx H1 I1 rx zq=>?_);obtain⟨a,ex,C,dx,fs,ea,c,n,v,l,q⟩:=zq;subst ex;obtain rfl:u=Value.ref a:=rx;exact zlp I1 ea c n l λu' s2 I2 ru=>⟨v,H1,I2,ru,q⟩
theorem zmy(ha:PE X o ta)(hv:PE X value tv)(hs:iX value (some (.Attribute o f pos')) pos.line X.env=pure false):PS X (.Assign [.Attribute o f pos'] value pos) (sFld X.K ta tv f):=by
 intro pins s σ H D I h;refine plainObj_wpAny_Assign_Attribute (thn (hv pins s σ H _ I h) λu s1 zz=>ex5 zz λy H1 I1 ry q=>thn (ha pins s1 σ H1 _ I1 q) λov s2 ⟨x,H2,I2,rx,a,C,dx,fs,ex,ea,c,n,l,q2⟩=>?_) hs;subst ex;obtain rfl:ov=Value.ref a:=rx;exact zkw I2 ea c n l ry λs3 I3=>⟨σ,_,I3,q2⟩
end
section
variable {X:Cx}{pins:Y2}{σ:St}{H:Hp}{s:ic}{A:ir}{E:Y0}{Q:Y0}{c:Value}{b:Bool}
inductive TyOf(K:Frag)(H:Hp):V->Value->Prop where
 |non:TyOf K H .non (.type "NoneType")
 |bl (x:Bool):TyOf K H (.bl x) (.type "bool")
 |int (i:Int):TyOf K H (.int i) (.type "int")
 |str (x:Str):TyOf K H (.str x) (.type "str")
 |flt (x:UInt64):TyOf K H (.flt x) (.type "float")
 |lst {a:Addr} {xs:List V} (e:H a=some (.lst xs)):TyOf K H (.ref a) (.type "list")
 |frz {a:Addr} {o:Obj} {xs:List V} (e:H a=some (.frz o (.lst xs))):TyOf K H (.ref a) (.type "list")
 |tup {a:Addr} {xs:List V} (e:H a=some (.tup xs)):TyOf K H (.ref a) (.type "tuple")
 |dK {a:Addr} {kvs:List (Key×V)} (e:H a=some (.dK kvs)):TyOf K H (.ref a) (.type "dict")
 |dT {a:Addr} {kvs:List (List Key×V)} (e:H a=some (.dT kvs)):TyOf K H (.ref a) (.type "dict")
 |ins {a C dx:Addr} {fs:List (Str×V)} (e:H a=some (.ins C dx fs)) (cl:Cls K C) (ha:PySem.W.findIn K (.ref C) "__class__"=some (some (.builtin "object.__class__")))
   (hn:PySem.W.specialIn K (.builtin "object.__class__") "__get__"=some (some (.builtin "getset_descriptor.__get__"))) (htk:PySem.W.takesIn K (.builtin "object.__class__")=some true)
   (hm:PySem.W.mroIn K C (.type "object")=some true):TyOf K H (.ref a) (.ref C)
theorem zn8(I:Inv X pins σ H s)(rx:RelV x u)(ty:TyOf X.K H x t)(e:PySem.W.kitOne X.K t c=some b)(h:∀tk,Q (.bool b) {s with toks:=tk}):
  wpAny (model X.prog X.w) A (call (.builtin "isinstance") [u,c]) Q E s:=by
 cases ty with
 |non=>cases(show u=Value.none from rx);exact PySem.W.kia_one PySem.W.kitx_none I.kIn True.intro e (λz=>nomatch z) h
 |bl y=>cases(show u=Value.bool y from rx);exact PySem.W.kia_one PySem.W.kitx_bool I.kIn True.intro e (λz=>nomatch z) h
 |int i=>obtain⟨t,q⟩:=(show∃t,u=Value.int i t from rx);cases q;exact PySem.W.kia_one PySem.W.kitx_int I.kIn True.intro e (λz=>nomatch z) h
 |str y=>obtain⟨t,q⟩:=(show∃t,u=Value.str y t from rx);cases q;exact PySem.W.kia_one PySem.W.kitx_str I.kIn True.intro e (λz=>nomatch z) h
 |flt y=>obtain⟨t,q⟩:=(show∃t,u=Value.float y t from rx);cases q;exact PySem.W.kia_one PySem.W.kitx_float I.kIn True.intro e (λz=>nomatch z) h
 |@lst a xs ea =>
  cases(show u=Value.ref a from rx);obtain⟨_,_,n,_,h1⟩:=(show ObjOk X.prog X.w H s.heap a (.lst xs)from I.hok a _ ea);exact PySem.W.kia_one PySem.W.kitx_list I.kIn ⟨_,h1,rfl⟩ e (λz=>nomatch z) h
 |@frz a ob xs ea =>
  cases(show u=Value.ref a from rx);obtain⟨_,_,_,n,_,h1⟩:=(show ObjOk X.prog X.w H s.heap a (.frz ob (.lst xs))from I.hok a _ ea);exact PySem.W.kia_one PySem.W.kitx_list I.kIn ⟨_,h1,rfl⟩ e (λz=>nomatch z) h
 |@tup a xs ea =>
  cases(show u=Value.ref a from rx);obtain⟨_,_,_,p⟩:=(show ObjOk X.prog X.w H s.heap a (.tup xs)from I.hok a _ ea);obtain⟨o,h1,h2,_⟩:=p;exact PySem.W.kia_one PySem.W.kitx_tuple I.kIn ⟨o,h1,h2⟩ e (λz=>nomatch z) h
 |@dK a kvs ea =>
  cases(show u=Value.ref a from rx);obtain⟨_,_,vs,_,p⟩:=(show ObjOk X.prog X.w H s.heap a (.dK kvs)from I.hok a _ ea);obtain⟨o,es,ep,h1,h2,_⟩:=p;exact PySem.W.kia_one PySem.W.kitx_dict I.kIn ⟨o,h1,h2.1⟩ e (λz=>nomatch z) h
 |@dT a kvs ea =>
  cases(show u=Value.ref a from rx);obtain⟨_,_,xs,_,o,es,ep,h1,h2,_⟩:=(show ObjOk X.prog X.w H s.heap a (.dT kvs)from I.hok a _ ea);exact PySem.W.kia_one PySem.W.kitx_dict I.kIn ⟨o,h1,h2.1⟩ e (λz=>nomatch z) h
 |@ins a C dx fs ea cl ha hn htk hm =>
  cases(show u=Value.ref a from rx);obtain⟨mA,O,_⟩:=zgl I.hok ea;obtain⟨od,J,_⟩:=O.look;exact PySem.W.kia_one (PySem.W.kitx_own (cl.get _) cl.hd ha hn htk hm) I.kIn J e (λz=>nomatch z) h
end
structure Room(k:Nat)(A:ir):Prop where
 hd:A.handled=none
 dp:A.depth+3*k+5<recursionLimit
 un:A.units+16*k+200<cLine
theorem Room.mono(r:Room k A)(h:j<=k):Room j A:=⟨r.hd,by have:=r.dp;omega,by have:=r.un;omega⟩
theorem Room.deeper(r:Room (k+1) A)(env:Env):Room k (A.deeper env) :=
 ⟨r.hd,by have:=r.dp;show A.depth+1+3*k+5<_;omega,by have:=r.un;show A.units+3+16*k+200<_;omega⟩
theorem zli{A:ir}:(A.under (.builtin "type.__call__" ⟨.ref C::us,kw⟩)).depth=A.depth+1:=by
 first|rfl|simp[Around.under,Code.weight,Code.isCreation,Code.isGuard,Code.isCaller,Code.frames,Code.isFrame,guardIds]
theorem zlh{A:ir}:(A.under (.builtin "type.__call__" ⟨.ref C::us,kw⟩)).units=A.units+1:=by
 first|rfl|simp[Around.under,Code.cUnits,Code.frames,Code.isFrame]
theorem Room.make(r:Room (k+1) A)(C:Addr)(us:List Value)(kw:List (Str×Value)):Room k (A.under (.builtin "type.__call__" ⟨.ref C::us,kw⟩)) :=
 ⟨r.hd,by have:=r.dp;rw[zli];omega,by have:=r.un;rw[zlh];omega⟩
theorem Room.depth(r:Room k A):A.depth<recursionLimit:=by have:=r.dp;omega
theorem Room.units(r:Room k A):A.units+64<cLine:=by have:=r.un;omega
def tNil:TA:=λ_ H Q=>Q [] H
def tCons(ta:TE)(tr:TA):TA:=λσ H Q=>ta σ H λx H1=>tr σ H1 λxs H2=>Q (x::xs) H2
section
variable {X:Cx}{e:Expr}{es:List Expr}{te:TE}{t:TA}{pos:Pos}
theorem zaa:PA X [] tNil:=λ_ _ _ _ H Q I h=>Calls.spliced_nil ⟨[],H,I,.nil,h⟩
theorem zsx(ha:PE X e te)(hr:PA X es t)(hs:ij (e::es) X.env=(false,eval e X.env)::ij es X.env:=by rfl):PA X (e::es) (tCons te t):=by
 intro pos pins s σ H Q I h;rw[hs];show wpAny _ _ (spliced ((false,eval e X.env)::iV pos (ij es X.env))) _ _ s;refine Calls.spliced_cons (thn (ha pins s σ H _ I h) λu s1 zz=>ex5 zz λx H1 I1 r1 q1=>?_);exact thn (hr pos pins s1 σ H1 _ I1 q1) λus s2 zz=>ex5 zz λxs H2 I2 r2 q2=>⟨x::xs,H2,I2,.cons r1 r2,q2⟩
def tTup(t:TA):TE:=λσ H Q=>t σ H λxs H1=>xs.length<=ie/\∀p,H1 p=none->Q (.ref p) (upd H1 p (.tup xs))
def tLst(t:TA):TE:=λσ H Q=>t σ H λxs H1=>xs.length<=ie/\∀p,H1 p=none->Q (.ref p) (upd H1 p (.lst xs))
end
abbrev Sp:=List V->Hp->VK->XK->Prop
abbrev CXT:=List Env->Hp->ic->XK->Value->ic->Prop
structure Env0(P:ig)(w:World)(K:Frag)(mg:Y1)(base:Heap)(A:ir)(outer:List Env)(s:ic)(H:Hp):Prop where
 frames:A.frames=some outer
 mod:Mod K mg base
 bs:∀b o,base.get? b=some o->s.heap.get? b=some o/\H b=none
 bsz:base.objs.size<=s.heap.objs.size
 funs:s.heap.FunFrames base outer
 frf:∀b∈frs outer,H b=none
 hok:HOk P w H s.heap
 bare:jc s.gens
def CE(outer:List Env)(P:ig)(w:World)(H:Hp)(s:ic)(Q:VK)(u:Value)(s':ic):Prop :=
 ∃v H',s'.os=s.os/\jc s'.gens/\Un (frs outer) [] H H' s.heap s'.heap/\HOk P w H' s'.heap/\RelV v u/\Q v H'
def CR(CX:CXT)(outer:List Env)(P:ig)(w:World)(H:Hp)(s:ic)(Q:VK)(E:XK)(r:Result)(s':ic):Prop :=
 match r with
 |.ok (.ret u)=>CE outer P w H s Q u s'
 |.ok _=>False
 |.error e=>CX outer H s E e s'
structure FnOk(P:ig)(w:World)(K:Frag)(mg:Y1)(base:Heap)(CX:CXT)(k:Nat)(f:Addr)(fd:iH)(ps:List Str)(sp:Sp):Prop where
 len:∀vs H Q E,sp vs H Q E->vs.length=ps.length
 run:∀(A:ir) (outer:List Env) (s:ic) (H:Hp) (args:Args) (us:List Value) (vs:List V) (Q:VK) (E:XK),Room k A->Env0 P w K mg base A outer s H->jz s fd args (ps.zip us)->Vals vs us->sp vs H Q E->
  iR (model P w) A (.call (.ref f) args) (CR CX outer P w H s Q E) s
theorem FnOk.mono{P:ig}{w:World}{K:Frag}{mg:Y1}{base:Heap}{CX:CXT}{j k:Nat}{f:Addr}{fd:iH}{ps:List Str}{sp:Sp}(F:FnOk P w K mg base CX j f fd ps sp)(h:j<=k):
  FnOk P w K mg base CX k f fd ps sp:=⟨F.len,λA outer s H args us vs Q E hr=>F.run A outer s H args us vs Q E (hr.mono h)⟩
theorem Env0.make{P:ig}{w:World}{K:Frag}{mg:Y1}{base:Heap}{A:ir}{outer:List Env}{s:ic}{H:Hp}(e:Env0 P w K mg base A outer s H)(C:Addr)(us:List Value)(kw:List (Str×Value)):
  Env0 P w K mg base (A.under (.builtin "type.__call__" ⟨.ref C::us,kw⟩)) outer s H:=⟨by first|exact e.frames|(simpa[Around.under,Code.envs,Code.isFrame,pushEnvs]using e.frames),e.mod,e.bs,e.bsz,e.funs,e.frf,e.hok,e.bare⟩
section
variable {X:Cx}{pins:Y2}{σ:St}{H:Hp}{s s':ic}
theorem Inv.env0(I:Inv X pins σ H s):Env0 X.prog X.w X.K X.mg X.base X.A X.stack s H :=
 ⟨I.ok.frames,I.ok.mod,I.bs,y0y I.ok.bsz I.sz,I.stack,I.stkFree,I.hok,I.bare⟩
theorem Inv.after(I:Inv X pins σ H s)(h:CE X.stack X.prog X.w H s Q u s'):EP X pins σ Q u s':=by
 obtain⟨v,H',os,bare,un,hok,r,q⟩:=h;obtain⟨hh,g,d,t,os'⟩:=s';obtain rfl:os'=s.os:=os;exact⟨v,H',I.call (h':=hh) (g':=g) (d':=d) (t':=t) (ch:=[]) un hok bare (λb z=>absurd z (by simp)),r,q⟩
end
def tCall(sp:Sp)(dvs:List V)(E:XK)(t:TA):TE:=λσ H Q=>t σ H λvs H1=>sp (vs++dvs) H1 Q E
def tMeth(C:Addr)(m:Str)(sp:Sp)(dvs:List V)(E:XK)(ta:TE)(t:TA):TE:=λσ H Q=>ta σ H λx H1=>∃a,x=.ref a/\∃dx fs,H1 a=some (.ins C dx fs)/\fs.lookup m=none/\
 t σ H1 λvs H2=>sp (x::(vs++dvs)) H2 Q E
def tMake(C:Addr)(sp:Sp)(dvs:List V)(E:XK)(t:TA):TE:=λσ H Q=>t σ H λvs H1=>∀x dx,H1 x=none->H1 dx=none->dx≠x->
 sp (.ref x::(vs++dvs)) (upd (upd H1 dx (.own x)) x (.ins C dx [])) (λv H2=>v=.non/\Q (.ref x) H2) E
def Binds(K:Frag)(fd:iH)(ps:List Str)(ds:List Value):Prop :=
 ∀(s:ic) (us:List Value),K.In s.heap->(us++ds).length=ps.length->jz s fd ⟨us,[]⟩ (ps.zip (us++ds))
theorem Binds.all{K:Frag}{fd:iH}{ps:List Str}(h:∀us:List Value,us.length=ps.length->j9 fd ⟨us,[]⟩=pure (ps.zip us)):Binds K fd ps []:=λs us _ hl=>by
 rw[y1s]at hl ⊢;exact .of_eq (h us hl)
def Passes(CX:CXT)(X:Cx)(E:XK):Prop:=∀(pins:Y2) (σ:St) (H:Hp) (s:ic) (e:Value) (s':ic),Inv X pins σ H s->CX X.stack H s E e s'->X.xe e s'
section
variable {X:Cx}{CX:CXT}{k:Nat}{f C:Addr}{fd:iH}{ps:List Str}{sp:Sp}{dvs:List V}{ds:List Value}{E:XK}{x m:Str}{p pos apos:Pos}{e o:Expr}{es:List Expr}{ta:TE}{t:TA}
theorem zq9{pins:Y2}{σ:St}{H:Hp}{s:ic}{Q:VK}{us:List Value}{vs:List V}(F:FnOk X.prog X.w X.K X.mg X.base CX k f fd ps sp)(hr:Room k X.A)(hb:Binds X.K fd ps ds)(hd:Vals dvs ds)(hx:Passes CX X E)
  (I:Inv X pins σ H s) (r:Vals vs us) (h:sp (vs++dvs) H Q E):wpAny (model X.prog X.w) X.A (call (.ref f) us) (EP X pins σ Q) X.xe s:=by
 have r2:Vals (vs++dvs) (us++ds):=r.append hd;have hl:(us++ds).length=ps.length:=by rw[←r2.length];exact F.len _ _ _ _ h
 refine wpAny_call (iS (F.run X.A X.stack s H ⟨us,[]⟩ (us++ds) (vs++dvs) Q E hr I.env0 (hb s us I.kIn hl) r2 h) λr s' hq=>?_);cases r with
 |error e=>exact hx pins σ H s e s' I hq
 |ok fl =>
  cases fl with
  |ret u=>exact I.after hq
  |next=>exact False.elim hq
  |brk=>exact False.elim hq
  |cont=>exact False.elim hq
theorem zsv(F:FnOk X.prog X.w X.K X.mg X.base CX k f fd ps sp)(hr:Room k X.A)(hg:Gl X x)(hm:X.mg x=some (.ref f))(hk:PySem.W.keepIn X.K (.ref f)=true)(hb:Binds X.K fd ps ds)(hd:Vals dvs ds)(hx:Passes CX X E)
  (ha:PA X (e::es) t) (hdb:(x==("__debug__":Str))=false:=by decide) (he:ij (e::es) X.env=(false,eval e X.env)::ij es X.env:=by rfl) (hpl:(iV pos (ij es X.env)).any (·.1)=false:=by rfl) :
  PE X (.Call (.Name x p) (e::es) [] pos) (tCall sp dvs E t):=by
 intro pins s σ H Q I h;refine iO (zi1 I hg hm ?_ hdb);refine PySem.W.callWith_K (h₀:=X.base) I.ok.mod.kin hk (thn (ha pos pins s σ H _ I h) λus s1 zz=>ex5 zz λvs H1 I1 r q=>⟨I1.kIn,?_⟩) he hpl;exact zq9 F hr hb hd hx I1 r q
theorem zss{pl:Sem Bool}(he:PE X o ta)(c:Cls X.K C)(hm:Meth X.K C m f)(F:FnOk X.prog X.w X.K X.mg X.base CX k f fd ps sp)(hr:Room k X.A)(hb:Binds X.K fd ps ds)(hd:Vals dvs ds)(hx:Passes CX X E)(ha:PA X (e::es) t)
  (hst:ij (e::es) X.env=(false,eval e X.env)::ij es X.env:=by rfl) (hpl:(iV pos (ij es X.env)).any (·.1)=false:=by rfl)
  (ht:eval (.Call (.Attribute o m apos) (e::es) [] pos) X.env=(do
   let ov ←eval o X.env
   standAt apos.atName
   let(f,first) ←holding [ov] (getMethod ov m pl)
   callWith pos f first (iV pos (ij (e::es) X.env)) (backToKw pos (keywordEach [] X.env))):=by rfl) :
  PE X (.Call (.Attribute o m apos) (e::es) [] pos) (tMeth C m sp dvs E ta t):=by
 intro pins s σ H Q I h;refine PySem.W.methodCall_KW (pl:=pl) (thn (he pins s σ H _ I h) λu s1 ⟨x,H1,I1,rx,a,ex,dx,fs,ea,l,q⟩=>?_) ht;subst ex;obtain rfl:u=Value.ref a:=rx;refine zlo I1 ea c hm l ?_;refine PySem.W.callWith_K (first:=[.ref a]) (h₀:=X.base) I.ok.mod.kin hm.kp (thn (ha pos pins s1 σ H1 _ I1 q) λus s2 zz=>ex5 zz λvs H2 I2 r q2=>⟨I2.kIn,?_⟩) hst hpl;exact zq9 (us:=.ref a::us) (vs:=.ref a::vs) F hr hb hd hx I2 (.cons rfl r) q2
structure Mk(K:Frag)(C f:Addr):Prop where
 makes:PySem.W.makesIn K C=true
 init:PySem.W.findIn K (.ref C) "__init__"=some (some (.ref f))
 fn:PySem.W.isFn K (.ref f)=true
 kp:PySem.W.keepIn K (.ref C)=true
theorem zpl{pins:Y2}{σ:St}{H:Hp}{s:ic}{Q:VK}{us:List Value}{vs:List V}(M:Mk X.K C f)(F:FnOk X.prog X.w X.K X.mg X.base CX k f fd ps sp)(hr:Room (k+1) X.A)(hb:Binds X.K fd ps ds)(hd:Vals dvs ds)
  (hx:Passes CX X E) (I:Inv X pins σ H s) (r:Vals vs us)
  (h:∀x dx,H x=none->H dx=none->dx≠x->sp (.ref x::(vs++dvs)) (upd (upd H dx (.own x)) x (.ins C dx [])) (λv H2=>v=.non/\Q (.ref x) H2) E) :
  wpAny (model X.prog X.w) X.A (call (.ref C) us) (EP X pins σ Q) X.xe s:=by
 have hq:=h (s.heap.objs.size+1) s.heap.objs.size (I.hok.fresh (y2s _)) (I.hok.fresh (y01 _)) (y0i (y1u _));have I2:=Inv.made (C:=C) I;have r2:Vals (V.ref (s.heap.objs.size+1)::(vs++dvs)) (Value.ref (s.heap.objs.size+1)::(us++ds)):=.cons rfl (r.append hd);have hl:(Value.ref (s.heap.objs.size+1)::us++ds).length=ps.length:=by
  have e:=r2.length;rw[F.len _ _ _ _ hq]at e;exact e.symm
 refine wpAny_call (zqm (f:=f) I.kIn M.makes M.init (beq_iff_eq.mp M.fn) (iS (F.run _ X.stack _ _ ⟨Value.ref (s.heap.objs.size+1)::us,[]⟩ (Value.ref (s.heap.objs.size+1)::(us++ds)) _ _ E (hr.make C us [])
  (I2.env0.make C us []) (hb _ (Value.ref (s.heap.objs.size+1)::us) I2.kIn hl) r2 hq) λr s' hq'=>?_))
 cases r with
 |error e=>exact hx pins σ _ _ e s' I2 hq'
 |ok fl =>
  cases fl with
  |ret u =>
   obtain⟨v,H',I3,rv,ev,q3⟩:=I2.after hq';subst ev;exact⟨rv,⟨V.ref (s.heap.objs.size+1),H',I3,rfl,q3⟩⟩
  |next=>exact False.elim hq'
  |brk=>exact False.elim hq'
  |cont=>exact False.elim hq'
theorem zpt(M:Mk X.K C f)(F:FnOk X.prog X.w X.K X.mg X.base CX k f fd ps sp)(hr:Room (k+1) X.A)(hg:Gl X x)(hm:X.mg x=some (.ref C))(hb:Binds X.K fd ps ds)(hd:Vals dvs ds)(hx:Passes CX X E)
  (hdb:(x==("__debug__":Str))=false:=by decide):PE X (.Call (.Name x p) [] [] pos) (tMake C sp dvs E tNil):=by
 intro pins s σ H Q I h;refine iO (zi1 I hg hm ?_ hdb);exact PySem.W.callWith_K0 I.kIn M.kp (zpl (us:=[]) M F hr hb hd hx I .nil h)
end
structure FnScope(N P:List Str)(sc:Scope):Prop where
 kind:sc.kind=.function:=by rfl
 co:sc.isCoroutine=false:=by rfl
 gen:sc.isGenerator=false:=by rfl
 nd:N.Nodup:=by decide+kernel
 pre:N.take P.length=P:=by rfl
 par:∀x∈P,sc.names.lookup x=some .local\/sc.names.lookup x=some .cell:=by decide+kernel
 nofree:∀y∈sc.names,y.2 ≠ .free:=by decide+kernel
theorem zh9{iT:Str->Option iU}{x:Str}:∀{binds:List (Str×Value)} {m:Y1},(∀v,(x,v)∉binds)->bindL iT binds m x=m x
 |[],_,_=>rfl
 |(n,v)::r,m,h=>by
  unfold bindL;rw[zh9 λw hw=>h w (y06 _ hw)];split
  ·have:x≠n:=by rintro rfl;exact h v y07
   simp[this]
  ·rfl
theorem zib{iT:Str->Option iU}{x:Str}:∀{binds:List (Str×Value)} {m:Y1},(∀v,(x,v)∉binds)->bindC iT binds m x=m x
 |[],_,_=>rfl
 |(n,v)::r,m,h=>by
  unfold bindC;rw[zib λw hw=>h w (y06 _ hw)];split
  ·rfl
  ·have:x≠n:=by rintro rfl;exact h v y07
   simp[this]
theorem zia{iT:Str->Option iU}{x:Str}{v:Value}:∀{P:List Str} {vs:List Value} {i:Nat} {m:Y1},P.Nodup->P[i]?=some x->vs[i]?=some v->iT x=some .local->
  bindL iT (P.zip vs) m x=some v
 |[],_,_,_,_,h,_,_=>by simp at h
 |_::_,[],_,_,_,_,h,_=>by simp at h
 |p::P,w::vs,0,m,nd,h1,h2,hk=>by
  simp at h1 h2;subst h1;subst h2;show bindL iT ((p,w)::P.zip vs) m p=_;unfold bindL;rw[zh9 λv hv=>(y1r.mp nd).1 (y3t hv).1,if_pos hk];simp
 |p::P,w::vs,i+1,m,nd,h1,h2,hk=>by
  show bindL iT ((p,w)::P.zip vs) m x=_;unfold bindL;exact zia (i:=i) (y1r.mp nd).2 (by simpa using h1) (by simpa using h2) hk
theorem zic{iT:Str->Option iU}{x:Str}{v:Value}:∀{P:List Str} {vs:List Value} {i:Nat} {m:Y1},P.Nodup->P[i]?=some x->vs[i]?=some v->iT x≠some .local->
  bindC iT (P.zip vs) m x=some v
 |[],_,_,_,_,h,_,_=>by simp at h
 |_::_,[],_,_,_,_,h,_=>by simp at h
 |p::P,w::vs,0,m,nd,h1,h2,hk=>by
  simp at h1 h2;subst h1;subst h2;show bindC iT ((p,w)::P.zip vs) m p=_;unfold bindC;rw[zib λv hv=>(y1r.mp nd).1 (y3t hv).1,if_neg hk];simp
 |p::P,w::vs,i+1,m,nd,h1,h2,hk=>by
  show bindC iT ((p,w)::P.zip vs) m x=_;unfold bindC;exact zic (i:=i) (y1r.mp nd).2 (by simpa using h1) (by simpa using h2) hk
def start(N:List Str)(vs:List V):St:=vs.map some++List.replicate (N.length-vs.length) none
def cxOf(CX:CXT)(P:ig)(w:World)(K:Frag)(mg:Y1)(base:Heap)(N:List Str)(qual:Str)(scope:Scope)(f:Addr)(cd:Value)(A:ir)(outer:List Env)(s:ic)(H:Hp)(E:XK):Cx where
 prog:=P
 w:=w
 K:=K
 mg:=mg
 base:=base
 A:=A.deeper (iY qual scope s.heap.objs.size f cd)
 N:=N
 s₀:=s
 H₀:=H
 env:=iY qual scope s.heap.objs.size f cd
 outer:=outer
 stack:=iY qual scope s.heap.objs.size f cd::outer
 ex:=[]
 calm:=true
 fn:=λ_=>true
 pn:=[]
 xe:=λe s'=>wpAny (model P w) (A.deeper (iY qual scope s.heap.objs.size f cd)) (leaving (iY qual scope s.heap.objs.size f cd) e) (λ_ s''=>CX outer H s E e s'') (λe' s''=>CX outer H s E e' s'') s'
theorem zkn{sc:Scope}(h:sc.names.lookup x=some .cell):∃c,(cellsFrom n sc.names []).lookup x=some c:=by
 have q:=PySem.W.cellsFrom_some sc.names n [] (.inl h);exact y2y.mp q
theorem zn9{CX:CXT}{P:ig}{w:World}{K:Frag}{mg:Y1}{base:Heap}{N ps:List Str}{qual:Str}{scope:Scope}{f:Addr}{cd:Value}{A:ir}{outer:List Env}{s s1:ic}{H:Hp}{E:XK}{us:List Value}{vs:List V}
  (S:FnScope N ps scope) (hd:A.handled=none) (e0:Env0 P w K mg base A outer s H) (hl:vs.length=ps.length) (r:Vals vs us)
  (x:InCallC s s.heap.objs.size (bindL (iY qual scope s.heap.objs.size f cd).kindOf (ps.zip us) λ_=>none) (cellsFrom (s.heap.objs.size+1) scope.names []) (bindC (iY qual scope s.heap.objs.size f cd).kindOf (ps.zip us) λ_=>none) s1) :
  Inv (cxOf CX P w K mg base N qual scope f cd A outer s H E) [] (start N vs) H s1:=by
 have hpl:ps.length<=N.length:=by have:=congrArg List.length S.pre;rw[y13]at this;omega
 obtain⟨h1,tk,rfl,hk⟩:=x.done;have noA:∀b:Addr,b∉(cxOf CX P w K mg base N qual scope f cd A outer s H E).ex:=λb z=>absurd (show b∈([]:List Addr)from z) (by simp);refine⟨⟨e0.mod,S.kind,rfl,rfl,y01 _,λy z c h1 h2=>?_,λy hy=>?_,λy c _ h=>?_,λ_=>hd,Around.frames_deeper e0.frames,.inr ⟨rfl,rfl⟩,λb z=>absurd z (noA b),e0.bs,e0.bsz,λb _ _=>noA b,λb z=>absurd z (noA b),e0.funs,e0.frf⟩,
  rfl,e0.bare,Un.kept hk,⟨_,x.toInCall.ns,λi y v h1 h2 h3=>?_⟩,λy c h=>⟨_,x.cell y c h⟩,e0.hok.fresh (y01 _),λy c h=>?_,λp hp=>absurd (show p∈([]:Y2)from hp) (by simp),e0.hok.kept hk,?_⟩
 ·exact name_of_addr x.apart (PySem.mem_of_lookup h1) (PySem.mem_of_lookup h2)
 ·have hy:scope.names.lookup y=some .cell\/scope.names.lookup y=some .free:=hy;rcases hy with hy|hy
  ·exact zkn hy
  ·exact absurd rfl (S.nofree _ (PySem.mem_of_lookup hy))
 ·exact y1w (x.above y c (PySem.mem_of_lookup h))
 ·have hi:i<vs.length:=by
   unfold start at h2;by_cases hi:i<vs.length
   ·exact hi
   ·rw[y1f (by simpa using hi)]at h2;rw[y42]at h2;split at h2<;>cases h2
  have ha:vs[i]?=some v:=by
   unfold start at h2;rw[y16 (by simpa using hi),y0k]at h2;cases e:vs[i]? with
   |none=>rw[e]at h2;cases h2
   |some a=>rw[e]at h2;cases h2;rfl
  obtain⟨u,hu,rv⟩:=r.get ha;have hp:ps[i]?=some y:=by
   rw[←S.pre,List.getElem?_take_of_lt (by omega)];exact h1
  have ndP:ps.Nodup:=by rw[←S.pre];exact S.nd.sublist (List.take_sublist _ _)
  refine⟨u,rv,?_⟩;rcases S.par y (y0j hp)with k|k
  ·exact .inl ⟨k,zia ndP hp hu k⟩
  ·obtain⟨c,e⟩:=zkn (n:=s.heap.objs.size+1) k;refine .inr ⟨.inl k,c,e,?_⟩;have q:=x.cell y c e;rw[zic ndP hp hu (by show scope.names.lookup y≠_;rw[k];decide)]at q;exact q
 ·exact e0.hok.fresh (y1w (x.above y c (PySem.mem_of_lookup h)))
 ·unfold start;show _=N.length;rw[y0a,y00,y49];omega
theorem zv9{CX:CXT}{P:ig}{w:World}{K:Frag}{mg:Y1}{base:Heap}{k:Nat}{f:Addr}{name qual:Str}{params:Arguments}{body:List Stmt}{scope:Scope}{dV kV doc pm cdv ct oc:Value}{an od:Option Addr}
  {osl:Y8} {N ps:List Str} {sp:Sp} (lk:K.lookup f=some ⟨oc,od,.func (PySem.W.fnOf name qual params body scope dV kV doc pm an cdv ct),osl⟩) (hcd:PySem.W.codeIn K cdv qual=true) (S:FnScope N ps scope)
  (len:∀vs H Q E,sp vs H Q E->vs.length=ps.length)
  (hbody:∀(A:ir) (outer:List Env) (s:ic) (H:Hp) (vs:List V) (Q:VK) (E:XK),Room k (A.deeper (iY qual scope s.heap.objs.size f cdv))->sp vs H Q E->
   ∃t,PSs (cxOf CX P w K mg base N qual scope f cdv A outer s H E) body t/\t {nx:=λ_ H'=>Q .non H',rt:=Q} (start N vs) H) :
  FnOk P w K mg base CX (k+1) f (PySem.W.fnOf name qual params body scope dV kV doc pm an cdv ct) ps sp:=by
 refine⟨len,λA outer s H args us vs Q E hr e0 hb r hsp=>?_⟩;have hl:=len _ _ _ _ hsp;have KX:K.In s.heap:=e0.mod.kin.keeps λb o e=>(e0.bs b o e).1;have lim:s.heap.NoLimit:=e0.mod.nolimit.keeps λb o e=>(e0.bs b o e).1;have hkind:∀y∈ps.zip us,scope.names.lookup y.1=some .local\/(scope.names.lookup y.1=some .cell/\((cellsFrom (s.heap.objs.size+1) scope.names []).lookup y.1).isSome=true):=λ⟨n,v⟩ hy=>by
  rcases S.par n (y3t hy).1 with q|q
  ·exact .inl q
  ·exact .inr ⟨q,PySem.W.cellsFrom_some _ _ _ (.inl q)⟩
 refine codeAny_call_function hr.depth (KX _ _ lk) rfl S.co S.gen rfl (PySem.W.codeRec_of KX hcd) (hb _ _ _ _ ?_);refine wpAny_newFunctionEnv_cells S.kind hkind λenv he s1 x=>?_;subst he;refine⟨lim.keeps x.toInCall.keep,codeAny_func ?_⟩;obtain⟨t,ht,hq⟩:=hbody A outer s H vs Q E (hr.deeper _) hsp;have I:Inv (cxOf CX P w K mg base N qual scope f cdv A outer s H E) [] (start N vs) H s1:=zn9 S hr.hd e0 hl r x;refine i9 (ht [] s1 (start N vs) H _ I hq) (λfl s' hs=>?_) λe s' hs=>hs;have fin:∀{σ':St} {H':Hp} {v:V} {u:Value},Inv (cxOf CX P w K mg base N qual scope f cdv A outer s H E) [] σ' H' s'->RelV v u->Q v H'->CE outer P w H s Q u s' :=
  λ{σ' H' v u} J rv q=>⟨v,H',J.os,J.bare,J.base,J.hok,rv,q⟩
 cases fl with
 |ret u =>
  obtain⟨v,σ',H',J,rv,q⟩:=hs;exact fin J rv q
 |next =>
  obtain⟨σ',H',J,q⟩:=hs;exact fin (v:=V.non) (u:=Value.none) J rfl q
 |brk =>
  obtain⟨_,_,_,q⟩:=hs;exact False.elim q
 |cont =>
  obtain⟨_,_,_,q⟩:=hs;exact False.elim q
section
variable {X:Cx}{x:Str}{p pos:Pos}{e:Expr}{es:List Expr}{t:TA}{id T:String}{r:List V->Hp->VK->Prop}
def tCB(r:List V->Hp->VK->Prop)(t:TA):TE:=λσ H Q=>t σ H λvs H1=>r vs H1 Q
theorem zp0(hc:CallR X (.builtin id) r)(hg:Gl X x)(hm:X.mg x=none)(hv:iG x=some (.builtin id))(ha:PA X (e::es) t)(hn:x≠"__name__":=by decide)(hdb:(x==("__debug__":Str))=false:=by decide)
  (he:ij (e::es) X.env=(false,eval e X.env)::ij es X.env:=by rfl) (hpl:(iV pos (ij es X.env)).any (·.1)=false:=by rfl):PE X (.Call (.Name x p) (e::es) [] pos) (tCB r t):=by
 intro pins s σ H Q I h;refine iO (zet I hg hm hv ?_ hn hdb);exact PyProof.Rows.callWith_builtin1 (thn (ha pos pins s σ H _ I h) λus s1 zz=>ex5 zz λvs H1 I1 r1 q1=>hc pins s1 σ H1 vs us Q I1 r1 q1) he hpl
theorem zm9(hc:CallR X (.type T) r)(hg:Gl X x)(hm:X.mg x=none)(hv:iG x=some (.type T))(ha:PA X (e::es) t)(hn:x≠"__name__":=by decide)(hdb:(x==("__debug__":Str))=false:=by decide)
  (he:ij (e::es) X.env=(false,eval e X.env)::ij es X.env:=by rfl) (hpl:(iV pos (ij es X.env)).any (·.1)=false:=by rfl):PE X (.Call (.Name x p) (e::es) [] pos) (tCB r t):=by
 intro pins s σ H Q I h;refine iO (zet I hg hm hv ?_ hn hdb);exact PyProof.Rows.callWith_type1 (thn (ha pos pins s σ H _ I h) λus s1 zz=>ex5 zz λvs H1 I1 r1 q1=>hc pins s1 σ H1 vs us Q I1 r1 q1) he hpl
end
end L2
namespace HT
open PySem PyProof.Rows
section
open PySem.SeqAt
open PySem.AutoSeq1 (wpAny_loadPart')
open PySem.MeetsSeq PySem.MeetsSeq2 PySem.MeetsSeq3
end
section
variable {prog:ig}{w:World}{A:ir}{E:Y0}{s:ic}
def sIx(n d:Nat):Option Int->Nat
 |none=>d
 |some v=>if v<0 then(v+(n:Int)).toNat else min v.toNat n
theorem sIx_none(n d:Nat):sIx n d none=d:=rfl
theorem sIx_nat(n d k:Nat):sIx n d (some (k:Int))=min k n:=by
 show(if(k:Int)<0 then((k:Int)+(n:Int)).toNat else min (k:Int).toNat n)=min k n;rw[if_neg (by omega),y0l]
theorem sIx_le(n d:Nat)(hd:d<=n)(o:Option Int):sIx n d o<=n:=by
 cases o with
 |none=>exact hd
 |some v =>
  show(if v<0 then(v+(n:Int)).toNat else min v.toNat n)<=n;by_cases hv:v<0
  ·rw[if_pos hv];omega
  ·rw[if_neg hv];exact Nat.min_le_right _ _
theorem clip_eq(v:Int)(n d:Nat):(if v<0 then max (v+(n:Int)) 0 else min v (n:Int))=((sIx n d (some v):Nat):Int):=by
 show(if v<0 then max (v+(n:Int)) 0 else min v (n:Int))=(((if v<0 then(v+(n:Int)).toNat else min v.toNat n):Nat):Int);by_cases hv:v<0
 ·simp only[if_pos hv];omega
 ·simp only[if_neg hv];omega
theorem zl1(lo hi:Option Int)(n:Nat):Builtin.Slice.sliceAdjust lo hi 1 (n:Int)=(((sIx n 0 lo:Nat):Int),((sIx n n hi:Nat):Int)):=by
 have h1:¬((1:Int)<0):=by omega
 unfold Builtin.Slice.sliceAdjust;simp only[h1,if_false];refine Prod.ext ?_ ?_
 ·cases lo with
  |none=>rfl
  |some v=>exact clip_eq v n 0
 ·cases hi with
  |none=>rfl
  |some v=>exact clip_eq v n n
theorem zk4(i j:Nat):Builtin.Slice.slicePlaces (i:Int) (j:Int) 1=j-i:=by
 unfold Builtin.Slice.slicePlaces;have h1:(1:Int)>0:=by omega
 simp only[h1,if_true,Int.ediv_one];split<;>omega
theorem zfn(p:j6 v o)(h:Q o s):wpAny (model prog w) A (Builtin.Slice.slicePartIndex v) Q E s:=by
 cases p with
 |none=>exact slicePart_none h
 |int i t=>exact slicePart_int h
theorem zdu{sl:Addr}{vl vu:Value}{lo hi:Option Int}{n:Nat}{Q:Int×Int×Nat->ic->Prop}(hs:s.heap.IsSliceOf sl vl vu .none)(pl:j6 vl lo)(pu:j6 vu hi)
  (h:Q (((sIx n 0 lo:Nat):Int),1,sIx n n hi-sIx n 0 lo) s):wpAny (model prog w) A (Builtin.Slice.sliceApplied (.ref sl) (pure (n:Int))) Q E s:=by
 obtain⟨os,hos,hcs,hds⟩:=id hs;unfold Builtin.Slice.sliceApplied Builtin.Slice.sliceFields;refine ia (ia (iz hos hds (x:=vl) rfl (ia (iz hos hds (x:=vu) rfl (ia (iz hos hds (x:=.none) rfl (ib ?_)))))));refine ia (slicePart_none ?_);show wpAny _ _ (if((1:Int)==0)=true then _ else _) _ _ s;rw[if_neg (by decide)];refine ia (zfn pl (ia (zfn pu (ia (ib ?_)))));show wpAny _ _ (match Builtin.Slice.sliceAdjust lo hi 1 (n:Int)with|(lo,hi)=>pure (lo,(1:Int),Builtin.Slice.slicePlaces lo hi 1)) _ _ s;rw[zl1 lo hi n];show wpAny _ _ (pure (((sIx n 0 lo:Nat):Int),(1:Int),Builtin.Slice.slicePlaces ((sIx n 0 lo:Nat):Int) ((sIx n n hi:Nat):Int) 1)) _ _ s;rw[zk4];exact ib h
theorem zpq(xs:Array Value)(i k:Nat):((List.range k).filterMap λ(m:Nat)=>xs[((i:Int)+(m:Int)*1).toNat]?).toArray=((xs.toList.drop i).take k).toArray:=by
 have e:(λ(m:Nat)=>xs[((i:Int)+(m:Int)*1).toNat]?)=λm=>xs[i+m]?:=by
  funext m;have:((i:Int)+(m:Int)*1).toNat=i+m:=by omega
  rw[this]
 rw[e];have:=pick_run xs i k;rw[List.filterMap_map]at this;have e2:((λx=>xs[x]?)∘λx=>i+x)=λm=>xs[i+m]?:=rfl;rw[e2]at this;rw[this]
theorem getItem_tuple_cut{t sl:Addr}{items:Array Value}{vl vu:Value}{lo hi:Option Int}{Q:Y0}(ht:IsTup s.heap t items)(hs:s.heap.IsSliceOf sl vl vu .none)(pl:j6 vl lo)(pu:j6 vu hi)
  (hw:¬(sIx items.size 0 lo=0/\sIx items.size items.size hi=items.size))
  (h:Q (.ref s.heap.objs.size) {s with heap:=s.heap.push {cls:=.type "tuple",data:=.seq ((items.toList.drop (sIx items.size 0 lo)).take (sIx items.size items.size hi-sIx items.size 0 lo)).toArray} })
  (hsz:items.size<=ie):wpAny (model prog w) A (jd (.ref t) (.ref sl)) Q E s:=by
 have htake:sizeOk (.seq ((items.toList.drop (sIx items.size 0 lo)).take (sIx items.size items.size hi-sIx items.size 0 lo)).toArray):=by
  show((items.toList.drop (sIx items.size 0 lo)).take (sIx items.size items.size hi-sIx items.size 0 lo)).toArray.size<=ie;rw[y03,y13,y1v,y1c];omega
 have hj:sIx items.size items.size hi<=items.size:=sIx_le _ _ (y01 _) hi;obtain⟨os,hos,hcs,hds⟩:=id hs;have hTs:s.TypeIs (.ref sl) "slice":=⟨os,hos,hcs⟩;unfold jd
 try with_reducible refine ix ?_
 first|refine ia (ib ?_)|skip
 refine ia (wpAny_sequenceKey ht.typeIs (by decide) ?_);refine ia (iw (name:=Str.ofString "__getitem__") ht.typeIs PyProof.Rows.slot_tuple_getitem
  (ik PyProof.Rows.slot_tuple_getitem ht.typeIs entry_tuple_getitem ?_ (args_tuple_getitem _ _)))
 show wpAny _ _ (Builtin.Tuple.tupleItemsOf (.ref t)>>=_) _ _ s;refine ia (tupleItemsOf_ ht ?_);refine ia (wpAny_typeOf hTs ?_);rw[if_pos (by decide)];refine ia (zdu hs pl pu ?_);have hno:¬((((sIx items.size 0 lo:Nat):Int)==0&&(1:Int)==1&&(sIx items.size items.size hi-sIx items.size 0 lo)==items.size)=true):=by
  intro q;rw[y04,y04]at q;have q1:((sIx items.size 0 lo:Nat):Int)=0:=eq_of_beq q.1.1;have q2:sIx items.size items.size hi-sIx items.size 0 lo=items.size:=eq_of_beq q.2;exact hw ⟨by omega,by omega⟩
 show wpAny _ _ (if(((sIx items.size 0 lo:Nat):Int)==0&&(1:Int)==1&&(sIx items.size items.size hi-sIx items.size 0 lo)==items.size)=true then _ else _) _ _ s;rw[if_neg hno,zpq]
 first
  |exact ia (m:=Builtin.Tuple.tupleExact _) (iu (ib ⟨_,rfl,ib h⟩) htake)
  |exact ia (m:=Builtin.Tuple.tupleExact _) (iu (ia (ib (ib ⟨_,rfl,ib h⟩))) htake)
  |exact ia (ia (m:=Builtin.Tuple.tupleExact _) (iu (ib (ib ⟨_,rfl,ib h⟩)) htake))
  |exact ia (ia (m:=Builtin.Tuple.tupleExact _) (iu (ib ⟨_,rfl,ib h⟩) htake))
end
end HT
namespace L2
abbrev TO:=St->Hp->(Option Int->Hp->Prop)->Prop
def PO(X:Cx)(e:Option Expr)(t:TO):Prop :=
 ∀(pins:Y2) (s:ic) (σ:St) (H:Hp) (Q:Option Int->Hp->Prop),Inv X pins σ H s->t σ H Q->
  wpAny (model X.prog X.w) X.A (evalPart e X.env) (λu s'=>∃o H',Inv X pins σ H' s'/\j6 u o/\Q o H') X.xe s
def tNoPart:TO:=λ_ H Q=>Q none H
def tPart(t:TE):TO:=λσ H Q=>t σ H λx H1=>∃i,x=.int i/\Q (some i) H1
theorem zln:∀{us:List Value},Vals (ns.map V.int) us->je us ns:=by
 induction ns with
 |nil=>intro us r;rw[y3n]at r;cases r;exact .nil
 |cons n ns ih =>
  intro us r;rw[y0h]at r;cases r with
  |cons r1 r2 =>
   obtain⟨t,e⟩:=r1;subst e;exact .cons n t (ih r2)
section
variable {X:Cx}{e:Expr}{te:TE}{lo hi:Option Expr}{tl th:TO}{pos p2:Pos}
theorem zb9:PO X none tNoPart:=by
 intro pins s σ H Q I h;rw[evalPart_none];exact ib ⟨none,H,I,.none,h⟩
theorem zbw(h:PE X e te):PO X (some e) (tPart te):=by
 intro pins s σ H Q I hw;rw[evalPart_some];refine thn (h pins s σ H _ I hw) λu s1 zz=>ex5 zz λx H1 I1 r1 q1=>?_;obtain⟨i,rfl,q⟩:=q1;obtain⟨t,rfl⟩:=r1;exact⟨some i,H1,I1,.int i t,q⟩
def SlR(X:Cx)(r:V->Option Int->Option Int->Hp->VK->Prop):Prop :=
 ∀(pins:Y2) (s:ic) (σ:St) (H:Hp) (x:V) (v vl vu:Value) (lo hi:Option Int) (sl:Addr) (Q:VK),Inv X pins σ H s->RelV x v->s.heap.IsSliceOf sl vl vu .none->j6 vl lo->j6 vu hi->r x lo hi H Q->
  ∃T id,j7 (.type T) "__getitem__"=pure (some (.builtin id))/\s.TypeIs v T/\wpAny (model X.prog X.w) X.A (jd v (.ref sl)) (EP X pins σ Q) X.xe s
def tSl(r:V->Option Int->Option Int->Hp->VK->Prop)(te:TE)(tl th:TO):TE:=λσ H Q=>te σ H λx H1=>tl σ H1 λl H2=>th σ H2 λu H3=>r x l u H3 Q
theorem zbm(hr:SlR X r)(he:PE X e te)(hl:PO X lo tl)(hu:PO X hi th):PE X (.Subscript e (.Slice lo hi none p2) pos) (tSl r te tl th):=by
 intro pins s σ H Q I h;refine Subscript_ (thn (he pins s σ H _ I h) λv s1 zz=>ex5 zz λx H1 I1 r1 q1=>?_);refine wpAny_Slice (thn (hl pins s1 σ H1 _ I1 q1) λvl s2 zz=>ex5 zz λl H2 I2 pl q2=>thn (hu pins s2 σ H2 _ I2 q2) λvu s3 zz=>ex5 zz λu H3 I3 pu q3=>?_);rw[evalPart_none];refine ib ?_;have I4:Inv X pins σ H3 {s3 with heap:=s3.heap.push {cls:=.type "slice",data:=.fields #[vl,vu,.none]} }:=I3.kept (t':=s3.toks) λb ob q=>y02 _ q;obtain⟨T,id,hT,ht,hg⟩:=hr pins {s3 with heap:=s3.heap.push {cls:=.type "slice",data:=.fields #[vl,vu,.none]} } σ H3 x v vl vu l u s3.heap.objs.size Q I4 r1 (Heap.IsSliceOf.new ..) pl pu q3;show wpAny (model X.prog X.w) X.A (subscriptTail e (.Slice lo hi none p2) v (.ref s3.heap.objs.size)) (EP X pins σ Q) X.xe {s3 with heap:=s3.heap.push {cls:=.type "slice",data:=.fields #[vl,vu,.none]} };exact tail_any (ops:=[.ref s3.heap.objs.size,v]) ht hT hg (by with_unfolding_all rfl)
def cutV(xs:List V)(lo hi:Option Int):List V:=(xs.drop (HT.sIx xs.length 0 lo)).take (HT.sIx xs.length xs.length hi-HT.sIx xs.length 0 lo)
theorem ze0(xs:List V)(lo hi:Option Int):(cutV xs lo hi).length<=xs.length:=by
 unfold cutV;rw[y13,y1v];omega
def rSlT(K:Frag):V->Option Int->Option Int->Hp->VK->Prop:=λx lo hi H Q=>∃a xs,x=.ref a/\SqT K H a xs/\
 ¬(HT.sIx xs.length 0 lo=0/\HT.sIx xs.length xs.length hi=xs.length)/\∀p,H p=none->Q (.ref p) (upd H p (.tup (cutV xs lo hi)))
theorem zt7:SlR X (rSlT X.K):=by
 intro pins s σ H x v vl vu lo hi sl Q I rx hs pl pu h;obtain⟨a,xs,rfl,hx,hw,q⟩:=h;cases rx;obtain⟨its,r,ht,hz⟩:=I.tuple hx;have hlen:its.toArray.size=xs.length:=by rw[y03];exact r.length.symm
 refine⟨"tuple",_,PyProof.Rows.slot_tuple_getitem.lookup,ht.typeIs,?_⟩;refine HT.getItem_tuple_cut ht hs pl pu (by rw[hlen];exact hw) ?_ (by rw[hlen];exact hz);rw[hlen];refine⟨.ref s.heap.objs.size,_,I.laid (t':=s.toks) (o:=.tup (cutV xs lo hi)) (λb ob q=>y02 _ q) (y01 _) ?_,rfl,q _ (I.hok.fresh (y01 _))⟩;exact⟨y0y (ze0 xs lo hi) hz,_,(r.drop (HT.sIx xs.length 0 lo)).take (HT.sIx xs.length xs.length hi-HT.sIx xs.length 0 lo),IsTup.new _ _⟩
end
def ixN(n:Nat)(i:Int):Option Nat:=if 0<=i then(if i<n then some i.toNat else none)else if -(n:Int)<=i then some (i+n).toNat else none
def atI{α:Type}(xs:List α)(i:Int):Option α:=(ixN xs.length i).bind λj=>xs[j]?
theorem zn7(h:ixN n i=some j):seqIndex? i n=some j/\j<n/\-(n:Int)<=i/\i<n:=by
 unfold ixN at h;by_cases h0:0<=i
 ·rw[if_pos h0]at h;by_cases h1:i<n
  ·rw[if_pos h1]at h;have e:i.toNat=j:=Option.some.inj h;exact⟨by rw[seqIndex_of h0 h1,e],by omega,by omega,h1⟩
  ·rw[if_neg h1]at h;cases h
 ·rw[if_neg h0]at h;by_cases h1:-(n:Int)<=i
  ·rw[if_pos h1]at h;have e:(i+n).toNat=j:=Option.some.inj h;exact⟨by rw[seqIndex_neg (by omega) h1,e],by omega,h1,by omega⟩
  ·rw[if_neg h1]at h;cases h
theorem zjg{α:Type}{xs:List α}{i:Int}{v:α}(h:atI xs i=some v):∃j,seqIndex? i xs.length=some j/\xs[j]?=some v/\j<xs.length/\-(xs.length:Int)<=i/\i<xs.length:=by
 unfold atI at h;cases e:ixN xs.length i with
 |none=>rw[e]at h;cases h
 |some j =>
  rw[e]at h;obtain⟨h1,h2,h3,h4⟩:=zn7 e;exact⟨j,h1,h,h2,h3,h4⟩
theorem zak{α:Type}{xs:List α}{j:Nat}{v:α}(h:xs[j]?=some v):atI xs (j:Int)=some v:=by
 have hj:j<xs.length:=(y05.mp h).1;have e:ixN xs.length (j:Int)=some j:=by
  unfold ixN;rw[if_pos (by omega),if_pos (by omega)];simp
 unfold atI;rw[e];exact h
def PlainIx(b:Expr):Prop:=∀o i,jt b false o i=operate [o,i] (jd o i)
def IxR(X:Cx)(r:R2):Prop :=
 ∀(value slice:Expr) (pins:Y2) (s:ic) (σ:St) (H:Hp) (x y:V) (v u:Value) (Q:VK),Inv X pins σ H s->RelV x v->RelV y u->r x y H Q->
  jt slice false v u=operate [v,u] (jd v u)->wpAny (model X.prog X.w) X.A (subscriptTail value slice v u) (EP X pins σ Q) X.xe s
def MtR(X:Cx)(id:String)(r:V->List V->Hp->VK->Prop):Prop :=
 ∀(pins:Y2) (s:ic) (σ:St) (H:Hp) (x:V) (xs:List V) (v:Value) (us:List Value) (Q:VK),Inv X pins σ H s->RelV x v->Vals xs us->r x xs H Q->
  wpAny (model X.prog X.w) X.A (call (.builtin id) (v::us)) (EP X pins σ Q) X.xe s
section
variable {X:Cx}{a b:Expr}{ta tb:TE}{pos:Pos}
theorem zap(hr:IxR X r)(ha:PE X a ta)(hb:PE X b tb)(hs:PlainIx b):PE X (.Subscript a b pos) (tOp r ta tb):=by
 intro pins s σ H Q I h;exact Subscript_ (binT ha hb I h λv u s2 x y H2 I2 rx ry q=>hr a b pins s2 σ H2 x y v u Q I2 rx ry q (hs _ _))
def rIxL(K:Frag):R2:=λx y H Q=>∃p,x=.ref p/\∃xs i,y=.int i/\SqL K H p xs/\∃v,atI xs i=some v/\Q v H
def rIxT(K:Frag):R2:=λx y H Q=>∃p,x=.ref p/\∃xs i,y=.int i/\SqT K H p xs/\∃v,atI xs i=some v/\Q v H
def rIxS:R2:=λx y H Q=>∃z,x=.str z/\∃i,y=.int i/\z.length<=ie/\∃c,atI z.cps.toList i=some c/\Q (.str ⟨#[c]⟩) H
theorem ztj:IxR X (rIxL X.K):=by
 intro value slice pins s σ H x y v u Q I rx ry h hs;obtain⟨p,rfl,xs,i,rfl,hq,z,he,q⟩:=h;cases rx;obtain⟨t,rfl⟩:=ry;obtain⟨its,r,pl,hz⟩:=I.list hq;obtain⟨j,h1,h2,h3,h4,h5⟩:=zjg he;obtain⟨w,ew,rw'⟩:=r.get h2;have hl:=r.length;have hn:=line63;have fin:EP X pins σ Q w s:=⟨z,H,I,rw',q⟩;by_cases h0:0<=i
 ·have hj:i.toNat=j:=by
   rw[seqIndex_of h0 h5]at h1;exact Option.some.inj h1
  exact item_listR pl.isList h0 (by omega) (by rw[hj];simpa using ew) fin hs
 ·have hj:(i+(its.toArray.size:Int)).toNat=j:=by
   rw[seqIndex_neg (by omega) h4]at h1;rw[y03,←hl];exact Option.some.inj h1
  exact subscriptTail_builtinR (x:=w) pl.isList.typeIs slot_list_getitem.lookup
   (wpAny_getItem_list_neg (Q:=λr s'=>r=w/\EP X pins σ Q r s') pl.isList (by omega) (by rw[y03]<;>omega) (by omega) (by rw[hj];simpa using ew) ⟨rfl,fin⟩) hs
theorem zvh:IxR X (rIxT X.K):=by
 intro value slice pins s σ H x y v u Q I rx ry h hs;obtain⟨p,rfl,xs,i,rfl,hq,z,he,q⟩:=h;cases rx;obtain⟨t,rfl⟩:=ry;obtain⟨its,r,pl,hz⟩:=I.tuple hq;obtain⟨j,h1,h2,h3,h4,h5⟩:=zjg he;obtain⟨w,ew,rw'⟩:=r.get h2;have hl:=r.length;have hn:=line63;have fin:EP X pins σ Q w s:=⟨z,H,I,rw',q⟩;exact subscriptTail_builtinR (x:=w) pl.typeIs slot_tuple_getitem.lookup
  (getItem_tuple (j:=j) (Q:=λr s'=>r=w/\EP X pins σ Q r s') pl (by omega) (by omega) (by rw[y03,←hl];exact h1) (by simpa using ew) ⟨rfl,fin⟩) hs
theorem zhv:IxR X rIxS:=by
 intro value slice pins s σ H x y v u Q I rx ry h hs;obtain⟨z,rfl,i,rfl,hz,c,he,q⟩:=h;obtain⟨t,rfl⟩:=rx;obtain⟨t',rfl⟩:=ry;obtain⟨j,h1,h2,h3,h4,h5⟩:=zjg he;have hl:z.cps.toList.length=z.length:=by simp[Str.length]
 rw[hl]at h1 h4 h5;have hn:=line63;exact tail_any (typeIs_str s z t) slot_str_getitem.lookup (getItem_str (c:=c) (by
  have e1:decide (i < -(2^63:Int))=false:=decide_eq_false (by omega);have e2:decide (i>=2^63)=false:=decide_eq_false (by omega);rw[e1,e2,Bool.or_false]) (by rw[h1];simpa using h2) ⟨.str ⟨#[c]⟩,H,I.tok _,⟨_,rfl⟩,q⟩) hs
theorem zlg(its:List Value)(n j:Nat)(u:Value):Obj.mapSeq (·.setIfInBounds j u) {cls:=.type "list",data:=.seq its.toArray n}={cls:=.type "list",data:=.seq (its.set j u).toArray n}:=by
 simp[Obj.mapSeq]
theorem Inv.lst{pins:Y2}{σ:St}{H:Hp}{s:ic}{p:Addr}{xs:List V}(I:Inv X pins σ H s)(h:H p=some (.lst xs)):
  ∃(its:List Value) (n:Nat),Vals xs its/\s.heap.get? p=some {cls:=.type "list",data:=.seq its.toArray n}/\xs.length<=ie:=by
 obtain⟨z,its,n,r,e⟩:=I.hok p _ h;exact⟨its,n,r,e,z⟩
theorem Inv.lstUpd{pins:Y2}{σ:St}{H:Hp}{s:ic}{p:Addr}{xs ys:List V}{its its':List Value}{n n':Nat}{f:Obj->Obj}(I:Inv X pins σ H s)(h:H p=some (.lst xs))
  (ho:s.heap.get? p=some {cls:=.type "list",data:=.seq its.toArray n}) (hf:f {cls:=.type "list",data:=.seq its.toArray n}={cls:=.type "list",data:=.seq its'.toArray n'}) (r:Vals ys its') (hz:ys.length<=ie) (t:Nat) :
  Inv X pins σ (upd H p (.lst ys)) {s with heap:=s.heap.update p f,toks:=t}:=by
 have e:(s.heap.update p f).get? p=some {cls:=.type "list",data:=.seq its'.toArray n'}:=by
  rw[y24 f ho (by rw[hf]<;>rfl),hf]
 refine I.write (x:=p) (e:=p) (by rw[h];trivial) (.inl rfl) (λb u hb q=>(y2n _ _ (Ne.symm hb)).trans q) ⟨_,e⟩ ?_;exact⟨hz,its',n',r,e⟩
def rSetL:V->V->V->Hp->(Hp->Prop)->Prop:=λo i v H Q=>∃p xs k j,o=.ref p/\i=.int k/\H p=some (.lst xs)/\ixN xs.length k=some j/\Q (upd H p (.lst (xs.set j v)))
theorem zjz:PSet X rSetL:=by
 intro pins s σ H o i v ov iv u Q I ro ri rv h;obtain⟨p,xs,k,j,rfl,rfl,hp,hj,q⟩:=h;cases ro;obtain⟨t,rfl⟩:=ri;obtain⟨its,n,r,ho,hz⟩:=I.lst hp;obtain⟨h1,h2,h3,h4⟩:=zn7 hj;have hl:=r.length;have hn:=line63;have I':Inv X pins σ (upd H p (.lst (xs.set j v))) {s with heap:=s.heap.update p (Obj.mapSeq (·.setIfInBounds j u))} :=
  I.lstUpd hp ho (zlg its n j u) (r.set rv j) (by rw[y3a];exact hz) s.toks
 by_cases h0:0<=k
 ·have hk:k.toNat=j:=by
   rw[seqIndex_of h0 h4]at h1;exact Option.some.inj h1
  exact PySem.W.ki_setAt ho h0 (by omega) (by rw[y03,←hl];exact h4) (by rw[hk];exact⟨_,I',q⟩)
 ·have hk:(k+(its.toArray.size:Int)).toNat=j:=by
   rw[seqIndex_neg (by omega) h3]at h1;rw[y03,←hl];exact Option.some.inj h1
  exact PySem.W.ki_setBack ho (by omega) (by rw[y03,←hl];exact h3) (by omega) (by rw[hk];exact⟨_,I',q⟩)
theorem zhc(lo hi:Option Int)(n:Nat):(iP lo hi none n).1=((HT.sIx n 0 lo:Nat):Int)/\(iP lo hi none n).2.1=((HT.sIx n n hi:Nat):Int)/\(iP lo hi none n).2.2=1:=by
 refine⟨?_,?_,rfl⟩
 ·cases lo with
  |none=>simp[iP,HT.sIx]
  |some i =>
   simp only[iP,HT.sIx,Option.getD_none,show(1:Int)>0 by decide,if_true];by_cases h:i<0
   ·simp only[h,if_true]<;>omega
   ·simp only[h,if_false]<;>omega
 ·cases hi with
  |none=>simp[iP,HT.sIx]
  |some i =>
   simp only[iP,HT.sIx,Option.getD_none,show(1:Int)>0 by decide,if_true];by_cases h:i<0
   ·simp only[h,if_true]<;>omega
   ·simp only[h,if_false]<;>omega
theorem zf6(its:List Value)(lo hi:Option Int):slicePick its.toArray lo hi none=((its.drop (HT.sIx its.length 0 lo)).take (HT.sIx its.length its.length hi-HT.sIx its.length 0 lo)).toArray:=by
 obtain⟨h1,h2,h3⟩:=zhc lo hi its.toArray.size;unfold slicePick;rw[h1,h2,h3];simp only[sliceRange_one,pick_run,y03]<;>rfl
def rSlL(K:Frag):V->Option Int->Option Int->Hp->VK->Prop:=λx lo hi H Q=>∃a xs,x=.ref a/\SqL K H a xs/\∀p,H p=none->Q (.ref p) (upd H p (.lst (cutV xs lo hi)))
theorem zsc:SlR X (rSlL X.K):=by
 intro pins s σ H x v vl vu lo hi sl Q I rx hs pl pu h;obtain⟨a,xs,rfl,hx,q⟩:=h;cases rx;obtain⟨its,r,ht,hz⟩:=I.list hx;have hlen:=r.length;refine⟨"list",_,slot_list_getitem.lookup,ht.isList.typeIs,?_⟩;refine wpAny_getItem_list_slice ht.isList hs pl pu .none (by simp) ?_ (by rw[y03]<;>omega);rw[zf6,←hlen];refine⟨.ref s.heap.objs.size,_,I.laid (t':=s.toks) (o:=.lst (cutV xs lo hi)) (λb ob q=>y02 _ q) (y01 _) ?_,rfl,q _ (I.hok.fresh (y01 _))⟩;exact⟨y0y (ze0 xs lo hi) hz,_,0,(r.drop (HT.sIx xs.length 0 lo)).take (HT.sIx xs.length xs.length hi-HT.sIx xs.length 0 lo),y0d _ rfl⟩
def flatV:V->Bool
 |.non=>true
 |.bl _=>true
 |.int _=>true
 |.str _=>true
 |_=>false
def eqV:V->V->Bool
 |.non,.non=>true
 |.bl a,.bl b=>a==b
 |.bl a,.int b=>(if a then 1 else 0)==b
 |.int a,.bl b=>a==(if b then 1 else 0)
 |.int a,.int b=>a==b
 |.str a,.str b=>a==b
 |_,_=>false
theorem zkj(ry:RelV y u)(rx:RelV x v)(fy:flatV y=true)(fx:flatV x=true):SeqAt.EqAt A s u v (eqV y x):=by
 cases y with
 |non =>
  cases ry;cases x with
  |non=>cases rx;exact SeqAt.EqAt.same _
  |bl b=>cases rx;exact SeqAt.EqAt.none_bool b
  |int b=>obtain⟨t,rfl⟩:=rx;exact SeqAt.EqAt.none_int b t
  |str b=>obtain⟨t,rfl⟩:=rx;exact SeqAt.EqAt.none_str b t
  |_=>exact absurd (show false=true from fx) y0e
 |bl a =>
  cases ry;cases x with
  |non=>cases rx;exact SeqAt.EqAt.bool_none a
  |bl b=>cases rx;exact SeqAt.EqAt.bool_bool a b
  |int b=>obtain⟨t,rfl⟩:=rx;exact SeqAt.EqAt.bool_int a b t
  |str b=>obtain⟨t,rfl⟩:=rx;exact SeqAt.EqAt.bool_str a b t
  |_=>exact absurd (show false=true from fx) y0e
 |int a =>
  obtain⟨t',rfl⟩:=ry;cases x with
  |non=>cases rx;exact SeqAt.EqAt.int_none a t'
  |bl b=>cases rx;exact SeqAt.EqAt.int_bool a t' b
  |int b=>obtain⟨t,rfl⟩:=rx;exact SeqAt.EqAt.int_int a t' b t
  |str b=>obtain⟨t,rfl⟩:=rx;exact SeqAt.EqAt.int_str a t' b t
  |_=>exact absurd (show false=true from fx) y0e
 |str a =>
  obtain⟨t',rfl⟩:=ry;cases x with
  |non=>cases rx;exact SeqAt.EqAt.str_none a t'
  |bl b=>cases rx;exact SeqAt.EqAt.str_bool a t' b
  |int b=>obtain⟨t,rfl⟩:=rx;exact SeqAt.EqAt.str_int a t' b t
  |str b=>obtain⟨t,rfl⟩:=rx;exact SeqAt.EqAt.str_str a t' b t
  |_=>exact absurd (show false=true from fx) y0e
 |_=>exact absurd (show false=true from fy) y0e
def eqU(x:V)(u:Value):Bool:=match u with
 |.none=>eqV .non x
 |.bool b=>eqV (.bl b) x
 |.int i _=>eqV (.int i) x
 |.str z _=>eqV (.str z) x
 |_=>false
theorem zrr(r:RelV y u)(f:flatV y=true):eqU x u=eqV y x:=by
 cases y with
 |non=>cases r;rfl
 |bl b=>cases r;rfl
 |int i=>obtain⟨t,rfl⟩:=r;rfl
 |str z=>obtain⟨t,rfl⟩:=r;rfl
 |_=>exact absurd (show false=true from f) y0e
theorem ze7:∀{xs:List V} {us:List Value},Vals xs us->xs.all flatV=true->us.any (eqU x)=xs.any λy=>eqV y x
 |_,_,.nil,_=>rfl
 |y::xs,u::us,.cons r t,f=>by
  rw[y1j,y04]at f;rw[y33,y33,zrr r f.1,ze7 t f.2]
theorem zc8(rx:RelV x v)(fx:flatV x=true):∀{xs:List V} {us:List Value},Vals xs us->xs.all flatV=true->∀u∈us,SeqAt.EqAt A s u v (eqU x u)
 |_,_,.nil,_=>λu hu=>by cases hu
 |y::xs,u::us,.cons r t,f=>λu' hu=>by
  rw[y1j,y04]at f;rcases y08.mp hu with rfl|hu
  ·rw[zrr r f.1];exact zkj r rx f.1 fx
  ·exact zc8 rx fx t f.2 u' hu
def inV(x:V)(xs:List V):Bool:=xs.any λy=>eqV y x
def rIn(K:Frag)(neg:Bool):R2:=λx y H Q=>∃p xs,y=.ref p/\(SqL K H p xs\/SqT K H p xs)/\flatV x=true/\xs.all flatV=true/\Q (.bl (if neg then !inV x xs else inV x xs)) H
theorem zne:OpR X (ii .In) (rIn X.K false):=by
 ac_rfl;obtain⟨p,xs,rfl,hq,fx,fs,q⟩:=h;cases ry;rcases hq with hq|hq
 ·obtain⟨its,r,pl,hz⟩:=I.list hq;refine SeqAt.in_listAt (eqU x) pl.isList (λw hw=>zc8 rx fx r fs w (by simpa using hw)) ⟨.bl _,H,I,rfl,?_⟩;rw[show its.toArray.any (eqU x)=its.any (eqU x) by simp,ze7 r fs];exact q
 ·obtain⟨its,r,pl,hz⟩:=I.tuple hq;refine SeqAt.in_tupleAt (eqU x) pl (λw hw=>zc8 rx fx r fs w (by simpa using hw)) ⟨.bl _,H,I,rfl,?_⟩;rw[show its.toArray.any (eqU x)=its.any (eqU x) by simp,ze7 r fs];exact q
theorem zhn:OpR X (ii .NotIn) (rIn X.K true):=by
 ac_rfl;obtain⟨p,xs,rfl,hq,fx,fs,q⟩:=h;cases ry;rcases hq with hq|hq
 ·obtain⟨its,r,pl,hz⟩:=I.list hq;refine SeqAt.notIn_listAt (eqU x) pl.isList (λw hw=>zc8 rx fx r fs w (by simpa using hw)) ⟨.bl _,H,I,rfl,?_⟩;rw[show its.toArray.any (eqU x)=its.any (eqU x) by simp,ze7 r fs];exact q
 ·obtain⟨its,r,pl,hz⟩:=I.tuple hq;refine SeqAt.notIn_tupleAt (eqU x) pl (λw hw=>zc8 rx fx r fs w (by simpa using hw)) ⟨.bl _,H,I,rfl,?_⟩;rw[show its.toArray.any (eqU x)=its.any (eqU x) by simp,ze7 r fs];exact q
theorem zh7:CallR X (.builtin "len") (λxs H Q=>∃p ys,xs=[.ref p]/\(SqL X.K H p ys\/SqT X.K H p ys)/\Q (.int ys.length) H):=by
 intro pins s σ H xs us Q I r h;obtain⟨p,ys,rfl,hq,q⟩:=h;obtain⟨u,rfl,rx⟩:=vals1 r;cases rx;have hn:=line63;rcases hq with hq|hq
 ·obtain⟨its,r',pl,hz⟩:=I.list hq;have hlen:=r'.length;exact Calls.call_len_list pl.isList (by simp only[y03]<;>omega) ⟨.int ys.length,H,I.tok _,⟨s.toks+1,by rw[y03,hlen]⟩,q⟩
 ·obtain⟨its,r',pl,hz⟩:=I.tuple hq;have hlen:=r'.length;exact len_tuple pl (by simp only[y03]<;>omega) ⟨.int ys.length,H,I.tok _,⟨s.toks+1,by rw[y03,hlen]⟩,q⟩
theorem zh6:CallR X (.builtin "len") (λxs H Q=>∃z,xs=[.str z]/\z.length<=ie/\Q (.int z.length) H):=by
 intro pins s σ H xs us Q I r h;obtain⟨z,rfl,hz,q⟩:=h;obtain⟨u,rfl,t,rfl⟩:=vals1 r;have hn:=line63;exact len_str (by omega) ⟨.int z.length,H,I.tok _,⟨_,rfl⟩,q⟩
theorem zh5:CallR X (.type "list") (λxs H Q=>∃p ys,xs=[.ref p]/\(SqL X.K H p ys\/SqT X.K H p ys)/\∀l,H l=none->Q (.ref l) (upd H l (.lst ys))):=by
 intro pins s σ H xs us Q I r h;obtain⟨p,ys,rfl,hq,q⟩:=h;obtain⟨u,rfl,rx⟩:=vals1 r;cases rx;have fin:∀(its:List Value),Vals ys its->ys.length<=ie->∀(h':Heap) (c':Nat),(∀b o',s.heap.get? b=some o'->h'.get? b=some o')->
   h'.get? s.heap.objs.size=some {cls:=.type "list",dict:=none,data:=.seq its.toArray c',slots:=#[]}->EP X pins σ Q (.ref s.heap.objs.size) {s with heap:=h'}:=λits r' hz h' c' kp e =>
  ⟨.ref s.heap.objs.size,_,I.laid (t':=s.toks) kp (y01 _) (show ObjOk X.prog X.w _ h' _ (.lst ys)from⟨hz,its,c',r',e⟩),rfl,q _ (I.hok.fresh (y01 _))⟩
 rcases hq with hq|hq
 ·obtain⟨its,r',pl,hz⟩:=I.list hq;have hlen:=r'.length;obtain⟨o,ho,hc,n,hd⟩:=pl.isList;exact call_list_seq p (.inl rfl) ho hc hd (λh' c' kp e=>fin its r' hz h' c' kp e) (by simp only[y03]<;>omega)
 ·obtain⟨its,r',pl,hz⟩:=I.tuple hq;have hlen:=r'.length;obtain⟨o,ho,hc,n,hd⟩:=pl;exact call_list_seq p (.inr rfl) ho hc hd (λh' c' kp e=>fin its r' hz h' c' kp e) (by simp only[y03]<;>omega)
theorem zgs:CallR X (.type "tuple") (λxs H Q=>∃p ys,xs=[.ref p]/\((SqL X.K H p ys/\∀l,H l=none->Q (.ref l) (upd H l (.tup ys)))\/(SqT X.K H p ys/\Q (.ref p) H))):=by
 intro pins s σ H xs us Q I r h;obtain⟨p,ys,rfl,h⟩:=h;obtain⟨u,rfl,rx⟩:=vals1 r;cases rx;rcases h with⟨hq,q⟩|⟨hq,q⟩
 ·obtain⟨its,r',pl,hz⟩:=I.list hq;have hlen:=r'.length;refine call_tuple_list pl.isList (λh' kp=>?_) (by simp only[y03]<;>omega);have I1:Inv X pins σ H {s with heap:=h'}:=I.kept (t':=s.toks) kp;have I2:Inv X pins σ (upd H h'.objs.size (.tup ys)) {s with heap:=h'.push {cls:=.type "tuple",data:=.seq its.toArray} } :=
   I1.laid (t':=s.toks) (λb o e=>y02 _ e) (y01 _) (show ObjOk X.prog X.w _ _ _ (.tup ys)from⟨hz,its,r',IsTup.new _ _⟩)
  exact⟨.ref h'.objs.size,_,I2,rfl,q _ (I1.hok.fresh (y01 _))⟩
 ·obtain⟨its,r',pl,hz⟩:=I.tuple hq;exact call_tuple_same pl ⟨.ref p,H,I,rfl,q⟩
def tyV(K:Frag)(T:String)(x:V)(H:Hp):Prop:=match x with
 |.str _=>T="str"
 |.int _=>T="int"
 |.ref p=>(T="list"/\∃xs,SqL K H p xs)\/(T="tuple"/\∃o,K.lookup p=some o/\o.cls=.type "tuple"/\o.dict=none)\/
   (T="dict"/\((∃kvs,H p=some (.dK kvs))\/∃kvs,H p=some (.dT kvs)))\/(T="set"/\∃S n,H p=some (.set S n))
 |_=>False
theorem zq5{pins:Y2}{σ:St}{H:Hp}{s:ic}{T:String}{x:V}{v:Value}(I:Inv X pins σ H s)(r:RelV x v)(ty:tyV X.K T x H):
  s.TypeIs v T/\∀a,v=.ref a->∃ob,s.heap.get? a=some ob/\ob.dict=none:=by
 cases x with
 |str z =>
  obtain⟨t,rfl⟩:=r;cases(show T="str" from ty);exact⟨typeIs_str s z t,λ_ e=>nomatch e⟩
 |int i =>
  obtain⟨t,rfl⟩:=r;cases(show T="int" from ty);exact⟨typeIs_int s i t,λ_ e=>nomatch e⟩
 |ref p =>
  cases r;rcases ty with⟨rfl,xs,hq⟩|⟨rfl,o,hk,hc,hd⟩|⟨rfl,hk⟩|⟨rfl,S,n,hk⟩
  ·obtain⟨its,_,pl,_⟩:=I.list hq;refine⟨pl.isList.typeIs,λa e=>?_⟩;cases e;obtain⟨o,n,e,c,hd,_⟩:=pl;exact⟨o,e,hd⟩
  ·refine⟨⟨o,I.kIn p o hk,hc⟩,λa e=>?_⟩;cases e;exact⟨o,I.kIn _ o hk,hd⟩
  ·have z:∃o,s.heap.get? p=some o/\o.ExactDict:=by
    rcases hk with⟨kvs,hk⟩|⟨kvs,hk⟩
    ·obtain⟨_,_,_,_,o,_,_,e,ex,_⟩:=I.hok p _ hk;exact⟨o,e,ex⟩
    ·obtain⟨_,_,_,_,o,_,_,e,ex,_⟩:=I.hok p _ hk;exact⟨o,e,ex⟩
   obtain⟨o,e,ex⟩:=z;refine⟨⟨o,e,ex.1⟩,λa e2=>?_⟩;cases e2;exact⟨o,e,ex.2.1⟩
  ·obtain⟨o,_,_,_,e,ex,_⟩:=I.hok p _ hk;refine⟨⟨o,e,ex.1⟩,λa e2=>?_⟩;cases e2;exact⟨o,e,ex.2.1⟩
 |_=>exact False.elim ty
def tBM0(K:Frag)(T:String)(r:V->List V->Hp->VK->Prop)(to:TE):TE:=λσ H Q=>to σ H λx H1=>tyV K T x H1/\r x [] H1 Q
def tBM(K:Frag)(T:String)(r:V->List V->Hp->VK->Prop)(to:TE)(t:TA):TE:=λσ H Q=>to σ H λx H1=>tyV K T x H1/\t σ H1 λxs H2=>r x xs H2 Q
variable {o e:Expr}{es:List Expr}{to:TE}{t:TA}{name:Str}{apos cpos:Pos}{T id:String}{r:V->List V->Hp->VK->Prop}
theorem zuo(pa:PlainAttrs T)(slot:Slot T name id)(hty:typeOf (.builtin id)=pure (.type "method_descriptor"))(hm:MtR X id r)(ho:PE X o to)
  (hbase:attributeBase o name X.env (eval o X.env)=eval o X.env:=by rfl) (hline:(apos.endLine==cpos.line)=true:=by rfl):PE X (.Call (.Attribute o name apos) [] [] cpos) (tBM0 X.K T r to):=by
 intro pins s σ H Q I h;refine wpAny_Call_method0_late hbase hline (thn (ho pins s σ H _ I h) λv s1 zz=>ex5 zz λx H1 I1 r1 zq=>?_);obtain⟨ty,q1⟩:=zq;obtain⟨h1,h2⟩:=zq5 I1 r1 ty;exact⟨T,id,pa,slot,hty,h1,h2,Calls.callWith_builtin rfl (PySem.evalArgs_none (hm pins s1 σ H1 x [] v [] Q I1 r1 .nil q1))⟩
theorem zv5(pa:PlainAttrs T)(slot:Slot T name id)(hty:typeOf (.builtin id)=pure (.type "method_descriptor"))(hm:MtR X id r)(ho:PE X o to)(ha:PA X (e::es) t)
  (hbase:attributeBase o name X.env (eval o X.env)=eval o X.env:=by rfl)
  (hfew:((iV cpos (ij (e::es) X.env)).all (λx=>!x.1)&&(backToKw cpos (keywordEach [] X.env)).all (λx=>x.1.isSome)
   && decide ((e::es).length+([]:List Keyword).length+(if([]:List Keyword).isEmpty then 0 else 1)<30))=true:=by rfl)
  (hline:(apos.endLine==cpos.line)=true:=by rfl) (hs:ij (e::es) X.env=(false,eval e X.env)::ij es X.env:=by rfl) (hplain:(iV cpos (ij es X.env)).any (·.1)=false:=by rfl) :
  PE X (.Call (.Attribute o name apos) (e::es) [] cpos) (tBM X.K T r to t):=by
 intro pins s σ H Q I h;refine wpAny_Call_method_late hbase hfew hline rfl (thn (ho pins s σ H _ I h) λv s1 zz=>ex5 zz λx H1 I1 r1 zq=>?_);obtain⟨ty,q1⟩:=zq;obtain⟨h1,h2⟩:=zq5 I1 r1 ty;refine⟨T,id,pa,slot,hty,h1,h2,?_⟩;have hA:=ha cpos pins s1 σ H1 _ I1 q1;rw[hs]at hA ⊢;refine Calls.callWith_builtin (by show(false||(iV cpos (ij es X.env)).any (·.1))=false;rw[hplain]<;>rfl) (Calls.evalArgs_plain ?_);exact thn hA λus s2 zz=>ex5 zz λvs H2 I2 r2 q2=>hm pins s2 σ H2 x vs v us Q I2 r1 r2 q2
end
def MtM(X:Cx)(id:String)(r:V->List V->Hp->VK->Prop):Prop :=
 ∀(pins:Y2) (s:ic) (σ:St) (H:Hp) (x:V) (xs:List V) (v:Value) (us:List Value) (Q:VK),Inv X pins σ H s->RelV x v->Vals xs us->r x xs H Q->
  wpAny (model X.prog X.w) X.A (call (.builtin id) (v::us)) (EP X pins σ Q) X.xe s
theorem Vals.one:∀{x:V} {us:List Value},Vals [x] us->∃u,us=[u]/\RelV x u:=λh=>vals1 h
theorem Vals.zero:∀{us:List Value},Vals [] us->us=[]
 |_,.nil=>rfl
theorem Vals.dropLast(h:Vals xs us):Vals xs.dropLast us.dropLast:=by
 induction h with
 |nil=>exact .nil
 |cons r t ih =>
  cases t with
  |nil=>exact .nil
  |cons q t'=>exact .cons r ih
theorem Vals.rep(h:Vals xs us):∀k:Nat,Vals (List.replicate k xs).flatten (List.replicate k us).flatten
 |0=>.nil
 |k+1=>by
  rw[y2a,y2a,y30,y30];exact Vals.append h (Vals.rep h k)
theorem zlv{α:Type}(l:List α):l.eraseIdx (l.length-1)=l.dropLast:=by
 induction l with
 |nil=>rfl
 |cons a r ih =>
  cases r with
  |nil=>rfl
  |cons b r =>
   have e:(a::b::r).length-1=((b::r).length-1)+1:=by
    have h1:(a::b::r).length=r.length+2:=rfl;have h2:(b::r).length=r.length+1:=rfl;omega
   rw[e,List.eraseIdx_cons_succ,ih]
   all_goals rfl
theorem zhx(its:List Value):∀(k:Nat) (acc:List Value),
  List.foldl (λx1 x2=>x1++x2) acc.toArray (List.replicate k its.toArray)=(acc++(List.replicate k its).flatten).toArray
 |0,acc=>by simp
 |k+1,acc=>by
  have e:acc.toArray++its.toArray=(acc++its).toArray:=by simp
  have e2:(acc++its)++(List.replicate k its).flatten=acc++(List.replicate (k+1) its).flatten:=by
   rw[y2a,y30,y2p]
  rw[←e2,←zhx its k (acc++its),←e,y2a,List.foldl_cons]
section
variable {X:Cx}{pins:Y2}{σ:St}{H:Hp}{s:ic}{l b:Addr}{xs ys zs:List V}
theorem Inv.lset{its its':List Value}(I:Inv X pins σ H s)(hH:H l=some (.lst xs))
  (e:s.heap.get? l=some {cls:=.type "list",data:=.seq its.toArray n}) (hf:f its.toArray=its'.toArray) (hv:Vals ys its') (hz:ys.length<=ie) :
  Inv X pins σ (upd H l (.lst ys)) {s with heap:=s.heap.update l (Obj.mapSeq f),toks:=t'}:=by
 have q:=PySem.IsL.update e f;rw[hf]at q;refine I.write (x:=l) (e:=l) (by rw[hH];exact trivial) (.inl rfl) (λb' u hb hu=>(y2n s.heap (Obj.mapSeq f) (Ne.symm hb)).trans hu) ⟨_,q⟩ ?_;exact⟨hz,its',_,hv,q⟩
theorem Inv.lnew(I:Inv X pins σ H s)(hv:Vals ys its)(hz:ys.length<=ie):
  Inv X pins σ (upd H s.heap.objs.size (.lst ys)) {s with heap:=s.heap.push {cls:=.type "list",data:=.seq its.toArray},toks:=t'} :=
 I.laid (λ_ _ q=>y02 _ q) (y01 _) ⟨hz,its,0,hv,y0d _ rfl⟩
theorem Inv.fresh(I:Inv X pins σ H s):H s.heap.objs.size=none:=I.hok.fresh (y01 _)
theorem Inv.lstM(I:Inv X pins σ H s)(hH:H l=some (.lst xs)):xs.length<=ie/\∃(its:List Value) (n:Nat),Vals xs its/\xs.length=its.length/\s.heap.get? l=some {cls:=.type "list",data:=.seq its.toArray n}:=by
 obtain⟨z,its,n,r,e⟩:=I.hok l _ hH;exact⟨z,its,n,r,r.length,e⟩
theorem notLongL(h:n<=ie):Builtin.List.listTooLong n=false:=by
 unfold Builtin.List.listTooLong;exact decide_eq_false (by omega)
end
section
variable {X:Cx}
def rAppend:V->List V->Hp->VK->Prop:=λx vs H Q=>∃l xs y,x=.ref l/\vs=[y]/\H l=some (.lst xs)/\xs.length<ie/\Q .non (upd H l (.lst (xs++[y])))
theorem zcm:MtM X "list.append" rAppend:=by
 intro pins s σ H x vs v us Q I rx rv h;obtain⟨l,xs,y,rfl,rfl,hH,hz,q⟩:=h;cases rx;obtain⟨u,rfl,ru⟩:=rv.one;obtain⟨z,its,n,r,hl,e⟩:=I.lstM hH;refine jn F.slot_list_append ⟨_,e,rfl⟩ F.entry_list_append (F.args_list_append_2 _ _) (PySem.list_append l its.toArray n u (by rw[y03];omega)) ⟨e,?_⟩;refine⟨.non,_,I.lset (its':=its++[u]) hH e (by simp) (r.append (.cons ru .nil)) ?_,rfl,q⟩;rw[y0a,y0n];omega
def rExtend:V->List V->Hp->VK->Prop:=λx vs H Q=>∃l b xs zs,x=.ref l/\vs=[.ref b]/\H l=some (.lst xs)/\H b=some (.lst zs)/\xs.length+zs.length<=ie/\Q .non (upd H l (.lst (xs++zs)))
def rPop:V->List V->Hp->VK->Prop:=λx vs H Q=>∃l xs y,x=.ref l/\vs=[]/\H l=some (.lst xs)/\xs[xs.length-1]?=some y/\Q y (upd H l (.lst xs.dropLast))
theorem zu7:MtM X "list.pop" rPop:=by
 intro pins s σ H x vs v us Q I rx rv h;obtain⟨l,xs,y,rfl,rfl,hH,hy,q⟩:=h;cases rx;have hus:=rv.zero;subst hus;obtain⟨z,its,n,r,hl,e⟩:=I.lstM hH;obtain⟨u,hu,ru⟩:=r.get hy;have hy':its.toArray[its.toArray.size-1]?=some u:=by
  show its.toArray[its.length-1]?=some u;rw[←y26,←hl];exact hu
 refine jn F.slot_list_pop ⟨_,e,rfl⟩ F.entry_list_pop (F.args_list_pop_1 _) (MeetsSeq.list_pop_last l its.toArray n u hy' (by rw[y03];omega)) ⟨e,?_⟩;refine⟨y,_,I.lset (its':=its.dropLast) hH e ?_ r.dropLast ?_,ru,q⟩
 ·show its.toArray.eraseIdxIfInBounds (its.toArray.size-1)=its.dropLast.toArray;rw[y03,List.eraseIdxIfInBounds_toArray,zlv]
 ·rw[List.length_dropLast];omega
def rPopAt:V->List V->Hp->VK->Prop:=λx vs H Q=>∃l xs i k y,x=.ref l/\vs=[.int i]/\H l=some (.lst xs)/\-(2^63)<=i/\i<2^63/\seqIndex? i xs.length=some k/\xs[k]?=some y/\Q y (upd H l (.lst (xs.eraseIdx k)))
def rCat:R2:=λx y H Q=>∃l b xs zs,x=.ref l/\y=.ref b/\H l=some (.lst xs)/\H b=some (.lst zs)/\xs.length+zs.length<=ie/\∀p,H p=none->Q (.ref p) (upd H p (.lst (xs++zs)))
theorem zux:OpR X (iC .Add) rCat:=by
 ac_rfl;obtain⟨l,b,xs,zs,rfl,rfl,hH,hB,hz,q⟩:=h;cases rx;cases ry;obtain⟨z,its,n,r,hl,e⟩:=I.lstM hH;obtain⟨z2,its2,n2,r2,hl2,e2⟩:=I.lstM hB;refine PySem.P.add_list e e2 ?_ (by rw[y03,y03];omega);have ea:its.toArray++its2.toArray=(its++its2).toArray:=by simp
 rw[ea];exact⟨.ref _,_,I.lnew (t':=s.toks) (r.append r2) (by rw[y0a];omega),rfl,q _ I.fresh⟩
def rRep:R2:=λx y H Q=>∃l k xs,x=.ref l/\y=.int k/\H l=some (.lst xs)/\-(2^63)<=k/\k<2^63/\xs.length*k.toNat<=ie/\
 ∀p,H p=none->Q (.ref p) (upd H p (.lst (List.replicate k.toNat xs).flatten))
theorem zti{α:Type}(xs:List α)(k:Nat):(List.replicate k xs).flatten.length=k*xs.length:=by
 induction k with
 |zero=>simp
 |succ k ih=>rw[y2a,y30,y0a,ih,Nat.succ_mul,Nat.add_comm]
theorem zuq:OpR X (iC .Mult) rRep:=by
 ac_rfl;obtain⟨l,k,xs,rfl,rfl,hH,h1,h2,hz,q⟩:=h;cases rx;obtain⟨t,rfl⟩:=ry;obtain⟨z,its,n,r,hl,e⟩:=I.lstM hH;have hlen:its.toArray.size*k.toNat<=ie:=by rw[y03,←hl];exact hz
 have hcap:¬its.toArray.size*k.toNat>(2^63-1)/8:=by
  have:(ie:Nat)<=(2^63-1)/8:=by decide
  omega
 have hfit:¬(!Builtin.List.listFitsIndex k)=true:=by
  rw[fitsIndex_both h1 h2];exact y0e
 have hlong:¬Builtin.List.listTooLong (its.toArray.size*k.toNat)=true:=by
  rw[notLongL hlen];exact y0e
 have hnew:List.foldl (λx1 x2=>x1++x2) #[] (List.replicate (if its.toArray.isEmpty=true then 0 else k.toNat) its.toArray)=(List.replicate k.toNat its).flatten.toArray:=by
  have f0:∀m:Nat,List.foldl (λx1 x2=>x1++x2) #[] (List.replicate m its.toArray)=(List.replicate m its).flatten.toArray:=λm=>by
   have:=zhx its m [];rw[y38]at this;exact this
  rw[f0];cases its with
  |nil=>simp
  |cons a r'=>rw[if_neg (by simp)]
 refine wpAny_binaryOp_repeat_ref (T:="list") (U:="int") (by decide) ⟨_,e,rfl⟩ (λs'=>typeIs_int s' k t) noFill_list_mul F.fills_int_mul F.slot_int_rmul repeat_list F.slot_int_index.lookup
  (jn F.slot_int_rmul (typeIs_int s k t) F.entry_int_rmul (F.args_int_rmul_2 _ _) (int___rmul___int_list k t l its.toArray n)
   ⟨e,rfl,⟨_,e,rfl⟩,jn F.slot_list_mul ⟨_,e,rfl⟩ F.entry_list_mul (F.args_list_mul_2 _ _) (AutoListH.list___mul___list_int_3 l its.toArray n k t hfit hcap hlong) ⟨e,?_⟩⟩)
 rw[hnew];exact⟨.ref _,_,I.lnew (t':=s.toks) (r.rep k.toNat) (by rw[zti,y47];exact hz),rfl,q _ I.fresh⟩
end
end L2
namespace Att
open PySem PySem.W PySem.Calls PyProof.Rows
theorem zev:∀(ns:List Int) (vs:List Value),WellAll P h vs (ns.map WData.int)->je vs ns:=by
 intro ns
 induction ns with
 |nil =>
  intro vs w;rw[y3n]at w;cases w;exact .nil
 |cons n ns ih =>
  intro vs w;rw[y0h]at w;cases w with
  |cons a b =>
   cases a;exact .cons _ _ (ih _ b)
theorem zmq{l:OpenLaw}(hn:l.most=some n){h:Heap}
  (hpre:l.row.toRowW.claim.pre args=true) (hwl:WellAll P h vals args) :
  ∃a vs ns,vals=[Value.ref a]/\args=[WData.list (ns.map WData.int)]/\h.get? a=some {cls:=.type "list",data:=.seq vs.toArray}/\je vs ns/\ns.length<=n:=by
 have hsh:WShape.hasAll [] args [.list .int]=true:=(pre_splitW hpre).1;have hc:l.pre.holds [] {args:=args}=true:=(pre_splitW hpre).2;obtain⟨d,r,rfl,h1,h2⟩:=hasAllW_cons hsh;obtain rfl:=hasAllW_nil h2;obtain⟨xs,rfl,h3⟩:=hasW_list h1;obtain⟨ns,rfl⟩:=items_int h3;have hlen:ns.length<=n:=by
  unfold OpenLaw.pre at hc;have h4:(WTm.not (.lt (.lit (.int (n:Int))) (.len (.arg 0)))).holds [] {args:=[.list (ns.map .int)]}=true:=by
   have h4:=(holds_andW hc).1;rw[hn]at h4;exact h4
  have h5:=condW_of h4 (w_not (w_lt w_lit (w_len_list (w_arg rfl))));rw[y00]at h5;refine y3p λq=>?_;have q':(n:Int)<((ns.length:Nat):Int):=by omega
  first
   |(rw[decide_eq_true q']at h5;exact absurd h5 (by decide))
   |(simp at h5;omega)
 cases hwl with
 |cons w1 w2 =>
  cases w2;cases w1 with
  |list ho hall=>exact⟨_,_,ns,rfl,rfl,ho,zev ns _ hall,hlen⟩
theorem zmz(l:OpenLaw)(args:List WData):l.row.toRowW.claim.post args (.bool true) args=true :=
 postW_of (r:=l.row.toRowW) (X:=(true==true))
  (show WShape.has [] (.bool true) .bool=true by first|rfl|decide|simp[WShape.has,WShape.arms,WShape.armsAll])
  (show(WTm.eq .res (.lit (.bool true))).value [] {args:=args,res:=some (.bool true),after:=args}=some (.bool (true==true))from w_eq_bool (w_res rfl) w_lit) rfl
theorem attach_call{l:OpenLaw}{d:DefRec}
  (hn:l.most=some n) (hdf:d.params.defaults=[])
  (call:∀(w:World) (s₀ s₁:ic) (mg mb:Y1) (fa:Addr) (o:Obj) (pm cd doc:Value) (a:Addr) (vs:List Value) (ns:List Int),
   Ground q loose [] XP w s₀ mg mb s₁.heap->YP w s₁.heap->
   s₁.heap.get? fa=some o->o.data=.func (docDef d.name d.params d.body d.scope pm cd doc)->s₁.heap.CodeRec cd d.name->mg d.name=some (.ref fa)->
   s₁.heap.get? a=some {cls:=.type "list",data:=.seq vs.toArray}->je vs ns->ns.length<=n->s₁.gens=#[]->
   iR (model l.prog w) jo (.call (.ref fa) ⟨[.ref a],[]⟩) (λr s'=>r=.ok (.ret (.bool true))/\OldK s₁.heap s'.heap/\s'.os=s₁.os/\jc s'.gens) s₁) :
  WalkO q loose XP YP l.row.toRowW d [] (λf vs=>PySem.call f vs):=by
 intro w s₀ s₁ mg mb G Y fa o pm cd doc dV kV ho hd hcd hD hmg hg args vals as hpre hlay hrd hwl hlo;obtain rfl:dV=.none:=Dflts.none hD hdf;obtain rfl:kV=.none:=Dflts.noKw hD;obtain⟨a,vs,ns,rfl,rfl,hobj,hints,hlen⟩:=zmq hn hpre hwl;refine enter_call (iS (call w s₀ s₁ mg mb fa o pm cd doc a vs ns G Y ho (fd_plain hd) hcd hmg hobj hints hlen hg) λr s' hq=>?_);obtain⟨rfl,h2,h3,h4⟩:=hq;exact⟨.inl ⟨.bool true,.bool true,[],rfl,λ_=>rfl,.bool true,zmz l _,λ_=>⟨List.Pairwise.nil,λ_ hm=>(nomatch hm)⟩⟩,h2,h3,h4⟩
end Att
namespace L2
theorem zg0:∀{vs:List Value} {ns:List Int},je vs ns->Vals (ns.map V.int) vs
 |_,_,.nil=>.nil
 |_,_,.cons n t h=>.cons ⟨t,rfl⟩ (zg0 h)
def Only(H:Hp):Prop:=∀b,H b=none\/∃o xs,H b=some (.frz o (.lst xs))
theorem zqn{K:Frag}{s₁:ic}{vs:List Value}{ns:List Int}
  (KX:K.In s₁.heap) (hns:s₁.heap.Ns io mg) (hb:s₁.heap.Ns builtinsNs mb) (hbb:∀x:Str,x≠"__name__"->mb x=iG x) (hlim:s₁.heap.NoLimit) (hg:s₁.gens=#[])
  (ha:s₁.heap.get? a=some {cls:=.type "list",data:=.seq vs.toArray}) (hi:je vs ns) (hl:ns.length<=ie) (hr:Room k jo)
  (F:∀base:Heap,K.In base->base.Ns io mg->FnOk P w K mg base CX k fa fd [x] sp) (hbind:∀(s:ic) (u:Value),jz s fd ⟨[u],[]⟩ [(x,u)])
  (hsp:∀H:Hp,Only H->SqL K H a (ns.map V.int)->sp [.ref a] H (λv _=>v=.bl true) λ_ _ _=>False)
  (hCX:∀H e s',CX [] H s₁ (λ_ _ _=>False) e s'->False) :
  iR (model P w) jo (.call (.ref fa) ⟨[.ref a],[]⟩) (λr s'=>r=.ok (.ret (.bool true))/\OldK s₁.heap s'.heap/\s'.os=s₁.os/\jc s'.gens) s₁:=by
 have rv:=zg0 hi;have lenV:=hi.length;have core:∀H:Hp,Only H->SqL K H a (ns.map V.int)->HOk P w H s₁.heap->(∀b,H b≠none->b=a)->(H a≠none->K.lookup a=none)->
   iR (model P w) jo (.call (.ref fa) ⟨[.ref a],[]⟩) (λr s'=>r=.ok (.ret (.bool true))/\OldK s₁.heap s'.heap/\s'.os=s₁.os/\jc s'.gens) s₁:=by
  intro H hO hS hok hA hK;have base_of:∀{b:Addr} {o:Obj},s₁.heap.get? b=some o->H b=none->(hidT s₁.heap H).get? b=some o:=λe n=>zqq e n;have noA:∀{b:Addr} {o:Obj} {es:Array DictEntry} {ep:Nat},s₁.heap.get? b=some o->o.data=.dict es ep->H b=none:=λ{b o es ep} e d=>by
   cases q:H b with
   |none=>rfl
   |some u =>
    have e':b=a:=hA b (by rw[q];simp);subst e';rw[ha]at e;cases e;have d':Data.seq vs.toArray _=Data.dict es ep:=d;cases d'
  have nsK:∀{b:Addr} {m:Y1},s₁.heap.Ns b m->(hidT s₁.heap H).Ns b m:=λ{b m} ⟨o,es,ep,e,d,r⟩=>⟨o,es,ep,base_of e (noA e d),d,r⟩;have hKb:K.In (hidT s₁.heap H):=λb o e=>base_of (KX b o e) (by
   cases q:H b with
   |none=>rfl
   |some u =>
    have e':b=a:=hA b (by rw[q];simp);subst e';rw[hK (by rw[q];simp)]at e;cases e)
  have hM:Mod K mg (hidT s₁.heap H):=⟨hKb,nsK hns,⟨mb,nsK hb,hbb⟩,let⟨mc,h1,h2⟩:=hlim;⟨mc,nsK h1,h2⟩⟩;have e0:Env0 P w K mg (hidT s₁.heap H) jo [] s₁ H:=⟨rfl,hM,λb o e=>zte e,y48 (zoe _ _),trivial,λb hb=>absurd (show b∈([]:List Addr)from hb) (by simp),hok,.of_eq hg⟩;refine iS ((F _ hKb (nsK hns)).run jo [] s₁ H ⟨[.ref a],[]⟩ [.ref a] [.ref a] _ _ hr e0 (hbind s₁ (.ref a)) (.cons rfl .nil) (hsp H hO hS)) λr s' h=>?_;cases r with
  |error e=>exact(hCX H e s' h).elim
  |ok fl =>
   cases fl with
   |next=>exact False.elim h
   |brk=>exact False.elim h
   |cont=>exact False.elim h
   |ret u =>
    obtain⟨v,H',os,bare,un,hok',r',q⟩:=h;have q':v=.bl true:=q;subst q';obtain rfl:u=Value.bool true:=r';refine⟨rfl,OldK.of_keep λb o e=>?_,os,bare⟩;cases q:H b with
    |none=>exact un.keep b o e q (by intro z;exact absurd (show b∈([]:List Addr)from z) (by simp)) (by simp)
    |some u =>
     rcases hO b with z|⟨ob,xs,z⟩
     ·rw[q]at z;cases z
     ·have z2:=un.frzs b ob _ z;obtain⟨e1,_⟩:=hok b _ z;obtain⟨e2,_⟩:=hok' b _ z2;rw[e]at e1;cases e1;exact e2
 cases hk:K.lookup a with
 |some o =>
  have e:=KX a o hk;rw[ha]at e;cases e;refine core (λ_=>none) (λ_=>.inl rfl) (.inr ⟨_,vs.toArray,_,hk,rfl,rfl,rfl,by rw[y03,lenV];exact hl,by simpa using rv⟩) (λb u z=>by have z':(none:Option HO)=some u:=z;cases z') (λb z=>absurd rfl z) λz=>absurd rfl z
 |none =>
  refine core (λb=>if b=a then some (.frz {cls:=.type "list",data:=.seq vs.toArray} (.lst (ns.map V.int)))else none) (λb=>?_) (.inl (.inr ⟨{cls:=.type "list",data:=.seq vs.toArray},if_pos rfl⟩)) (λb u z=>?_) (λb z=>?_) λ_=>hk
  ·by_cases hb:b=a
   ·exact .inr ⟨_,_,if_pos hb⟩
   ·exact .inl (if_neg hb)
  ·by_cases hb:b=a
   ·have z':=(if_pos hb).symm.trans z;cases z';subst hb;exact⟨ha,by rw[y00];exact hl,vs,_,rv,ha⟩
   ·have z':=(if_neg hb).symm.trans z;cases z'
  ·by_cases hb:b=a
   ·exact hb
   ·exact absurd (if_neg hb) z
abbrev KOf{K:Frag}{h:Heap}(_:K.In h):Frag:=K
theorem zr1{l:PySem.W.OpenLaw}{n k:Nat}{q:ig}{loose:List Str}{XP:(Str->Option Value)->Heap->Prop}{YP:World->Heap->Prop}{d:DefRec}{K:Params->Frag}{CX:World->CXT}{sp:World->Sp}{x:Str}
  (hn:l.most=some n) (hn2:n<=ie) (hdf:d.params.defaults=[]) (hr:Room k jo)
  (hY:∀(w:World) (h:Heap),YP w h->(K w.params).In h)
  (F:∀(w:World) (mg:Y1) (fa:Addr) (h:Heap),(K w.params).In h->h.Ns io mg->mg d.name=some (.ref fa)->
   ∃fd:iH,(∀(s:ic) (u:Value),jz s fd ⟨[u],[]⟩ [(x,u)])/\
    ∀base:Heap,(K w.params).In base->base.Ns io mg->FnOk l.prog w (K w.params) mg base (CX w) k fa fd [x] (sp w))
  (hsp:∀(w:World) (H:Hp) (a:Addr) (ns:List Int),ns.length<=n->Only H->SqL (K w.params) H a (ns.map V.int)->sp w [.ref a] H (λv _=>v=.bl true) λ_ _ _=>False)
  (hCX:∀(w:World) (H:Hp) (s:ic) (e:Value) (s':ic),CX w [] H s (λ_ _ _=>False) e s'->False) :
  PySem.W.WalkO q loose XP YP l.row.toRowW d [] (λf vs=>PySem.call f vs):=by
 refine Att.attach_call hn hdf λw s₀ s₁ mg mb fa o pm cd doc a vs ns G Y ho hd hcd hmg hobj hints hlen hg=>?_;have KX:=hY w _ Y;obtain⟨fd,hb,hF⟩:=F w mg fa _ KX G.T.g hmg;exact zqn KX G.T.g G.T.b G.T.builtins G.T.nolimit hg hobj hints (y0y hlen hn2) hr hF hb (λH hO hS=>hsp w H a ns hlen hO hS) λH e s'=>hCX w H s₁ e s'
theorem walk_ofK{l:PySem.W.OpenLaw}{n k:Nat}{q:ig}{loose:List Str}{XP:(Str->Option Value)->Heap->Prop}{YP:World->Heap->Prop}{d:DefRec}{K:Params->Frag}{CX:CXT}{sp:Frag->Sp}{x:Str}
  (hn:l.most=some n) (hn2:n<=ie) (hdf:d.params.defaults=[]) (hr:Room k jo)
  (hY:∀(w:World) (h:Heap),YP w h->(K w.params).In h)
  (F:∀(w:World) (mg:Y1) (fa:Addr) (h:Heap),(K w.params).In h->h.Ns io mg->mg d.name=some (.ref fa)->
   ∃fd:iH,(∀(s:ic) (u:Value),jz s fd ⟨[u],[]⟩ [(x,u)])/\
    ∀base:Heap,(K w.params).In base->base.Ns io mg->FnOk l.prog w (K w.params) mg base CX k fa fd [x] (sp (K w.params)))
  (hsp:∀(K:Frag) (H:Hp) (a:Addr) (ns:List Int),ns.length<=n->Only H->SqL K H a (ns.map V.int)->sp K [.ref a] H (λv _=>v=.bl true) λ_ _ _=>False)
  (hCX:∀(H:Hp) (s:ic) (e:Value) (s':ic),CX [] H s (λ_ _ _=>False) e s'->False) :
  PySem.W.WalkO q loose XP YP l.row.toRowW d [] (λf vs=>PySem.call f vs) :=
 zr1 (K:=K) (CX:=λ_=>CX) (sp:=λw=>sp (K w.params)) hn hn2 hdf hr hY F (λw H a ns h1 h2 h3=>hsp (K w.params) H a ns h1 h2 h3) λ_ H s e s'=>hCX H s e s'
def inClass(s:Stmt)(j:Nat):Stmt:=match s with
 |.ClassDef _ _ _ body _ _ _ _ _ _ _=>body.getD j (.Pass ⟨0,0,0,0⟩)
 |_=>.Pass ⟨0,0,0,0⟩
def defArgs(s:Stmt):Arguments:=match s with
 |.FunctionDef _ a _ _ _ _ _ _ _ _=>a
 |_=>{posonlyargs:=[],args:=[],vararg:=none,kwonlyargs:=[],kw_defaults:=[],kwarg:=none,defaults:=[]}
def defBody(s:Stmt):List Stmt:=match s with
 |.FunctionDef _ _ b _ _ _ _ _ _ _=>b
 |_=>[]
def defScope(s:Stmt):Scope:=match s with
 |.FunctionDef _ _ _ _ _ _ sc _ _ _=>sc
 |_=>{kind:=.function,names:=[],isGenerator:=false,isCoroutine:=false}
abbrev CX0:CXT:=λ_ _ _ _ _ _=>False
abbrev E0:XK:=λ_ _ _=>False
theorem pass0:Passes CX0 X E0:=λ_ _ _ _ _ _ _ h=>h.elim
structure Fun(K:Frag)(x qual:Str)(st:Stmt)(f:Addr)(fd:iH):Prop where
 ex:∃(oc:Value) (od:Option Addr) (kV doc pm:Value) (an:Option Addr) (cdv ct:Value) (osl:Y8),
  fd=PySem.W.fnOf x qual (defArgs st) (defBody st) (defScope st) .none kV doc pm an cdv ct/\K.lookup f=some ⟨oc,od,.func fd,osl⟩/\PySem.W.codeIn K cdv qual=true
 kp:PySem.W.keepIn K (.ref f)=true
section
variable {P:ig}{w:World}{K:Frag}{mg:Y1}{base:Heap}
theorem Fun.ok{x qual:Str}{st:Stmt}{f:Addr}{fd:iH}{N ps:List Str}{k:Nat}{sp:Sp}(F:Fun K x qual st f fd)(S:FnScope N ps (defScope st))(len:∀vs H Q E,sp vs H Q E->vs.length=ps.length)
  (hbody:∀(cdv:Value) (A:ir) (outer:List Env) (s:ic) (H:Hp) (vs:List V) (Q:VK) (E:XK),Room k (A.deeper (iY qual (defScope st) s.heap.objs.size f cdv))->sp vs H Q E->
   ∃t,PSs (cxOf CX0 P w K mg base N qual (defScope st) f cdv A outer s H E).nox (defBody st) t/\t {nx:=λ_ H'=>Q .non H',rt:=Q} (start N vs) H):FnOk P w K mg base CX0 (k+1) f fd ps sp:=by
 obtain⟨oc,od,kV,doc,pm,an,cdv,ct,osl,rfl,lk,hcd⟩:=F.ex;refine zv9 lk hcd S len λA outer s H vs Q E hr hsp=>?_;obtain⟨t,h,q⟩:=hbody cdv A outer s H vs Q E hr hsp;exact⟨t,h.nox,q⟩
theorem Fun.binds{x qual:Str}{st:Stmt}{f:Addr}{fd:iH}{ps:List Str}(F:Fun K x qual st f fd)
  (h:∀(kV doc pm:Value) (an:Option Addr) (cdv ct:Value) (us:List Value),us.length=ps.length->j9 (PySem.W.fnOf x qual (defArgs st) (defBody st) (defScope st) .none kV doc pm an cdv ct) ⟨us,[]⟩=pure (ps.zip us)):Binds K fd ps []:=by
 obtain⟨oc,od,kV,doc,pm,an,cdv,ct,osl,rfl,lk,hcd⟩:=F.ex;exact .all (h kV doc pm an cdv ct)
theorem zey{x qual:Str}{st:Stmt}{f:Addr}{oc:Value}{od an:Option Addr}{osl:Y8}{kV doc pm cdv ct:Value}(l:K.lookup f=some ⟨oc,od,.func (PySem.W.fnOf x qual (defArgs st) (defBody st) (defScope st) .none kV doc pm an cdv ct),osl⟩)
  (c:PySem.W.codeIn K cdv qual=true) (k:PySem.W.keepIn K (.ref f)=true):Fun K x qual st f (PySem.W.fnOf x qual (defArgs st) (defBody st) (defScope st) .none kV doc pm an cdv ct):=⟨⟨oc,od,kV,doc,pm,an,cdv,ct,osl,rfl,l,c⟩,k⟩
end
theorem small1000(h:n<=1000):n<ie:=y2f h (by decide)
section
variable {X:Cx}
theorem pv(i:Nat){x:Str}{pos:Pos}(hN:X.N[i]?=some x:=by rfl)(hv:Vis X.env.scope x:=by first|exact Or.inl rfl|exact Or.inr (Or.inl rfl)|exact Or.inr (Or.inr rfl))(hd:(x==("__debug__":Str))=false:=by decide)
  (hcd:(x==("__classdict__":Str))=false:=by decide):PE X (.Name x pos) (tVar i):=zum hN hv hd hcd
end
theorem iteF{A B:Prop}(h:B):if false=true then A else B:=by
 rw[if_neg y0e];exact h
theorem iteT{A B:Prop}(h:A):if true=true then A else B:=by
 rw[if_pos rfl];exact h
theorem itT{c A B:Prop}[Decidable c](e:c)(h:A):if decide c=true then A else B:=by
 rw[decide_eq_true e];exact iteT h
theorem itF{c A B:Prop}[Decidable c](e:¬c)(h:B):if decide c=true then A else B:=by
 rw[decide_eq_false e];exact iteF h
theorem ite2{c A B:Prop}[Decidable c](h1:c->A)(h2:¬c->B):if c then A else B:=by
 by_cases h:c
 ·rw[if_pos h];exact h1 h
 ·rw[if_neg h];exact h2 h
def Same(H H':Hp):Prop:=∀b o,H b=some o->H' b=some o
theorem Same.refl(H:Hp):Same H H:=λ_ _ h=>h
theorem Same.trans(a:Same H H1)(b:Same H1 H2):Same H H2:=λc o h=>b c o (a c o h)
theorem Same.free(e:Same H H')(h:H' l=Option.none):H l=Option.none:=by
 cases q:H l with
 |none=>rfl
 |some o =>
  rw[e l o q]at h;cases h
theorem Same.seq{K:Frag}{H H':Hp}{a:Addr}{xs:List V}(e:Same H H')(h:SqL K H a xs):SqL K H' a xs:=by
 rcases h with(h|⟨o,h⟩)|h
 ·exact .inl (.inl (e _ _ h))
 ·exact .inl (.inr ⟨o,e _ _ h⟩)
 ·exact .inr h
theorem zdk(env:Env):∀(names:List (Str×iU)) (cs:Y4),
  (∀p∈names,p.2=.free->∃c,env.cells.lookup p.1=some c)->(∀x c,cs.lookup x=some c->env.cells.lookup x=some c)->
  ∃cl:List (Str×Addr),(forIn names cs λ(p:Str×iU) (r:Y4)=>(if(p.2==NameKind.free)=true then(do let c ←cellOf env p.1;pure (ForInStep.yield ((p.1,c)::r)))else pure (ForInStep.yield r):Sem (ForInStep (List (Str×Addr)))))=(pure cl:Sem (List (Str×Addr)))/\
   (∀x c,cl.lookup x=some c->env.cells.lookup x=some c)/\(∀x,(cs.lookup x).isSome=true->(cl.lookup x).isSome=true)/\(∀p∈names,p.2=.free->(cl.lookup p.1).isSome=true)
 |[],cs,_,h2=>⟨cs,rfl,h2,λ_ h=>h,λ_ h=>nomatch h⟩
 |(n,k)::r,cs,h1,h2=>by
  have h1':∀p∈r,p.2=.free->∃c,env.cells.lookup p.1=some c:=λp hp=>h1 p (y06 _ hp);by_cases hk:(k==NameKind.free)=true
  ·have hk':k=.free:=by simpa using hk
   obtain⟨c,hc⟩:=h1 (n,k) y07 hk';have h2':∀x c',((n,c)::cs).lookup x=some c'->env.cells.lookup x=some c':=λx c' e=>by
    rw[y12]at e;cases hx:x==n with
    |true =>
     rw[hx]at e;have e1:x=n:=by simpa using hx
     rw[e1,hc];exact e
    |false=>rw[hx]at e;exact h2 x c' e
   obtain⟨cl,e1,e2,e3,e4⟩:=zdk env r ((n,c)::cs) h1' h2';have hn:(((n,c)::cs).lookup n).isSome=true:=by rw[y12,beq_self_eq_true];rfl
   refine⟨cl,?_,e2,λx hx=>e3 x ?_,λp hp hf=>?_⟩
   ·rw[y2h];have q:cellOf env n=pure c:=by unfold cellOf;rw[hc]
    simp only[hk,if_true,q];exact e1
   ·rw[y12];cases x==n with
    |true=>rfl
    |false=>exact hx
   ·rcases y08.mp hp with e|hp
    ·rw[e];exact e3 n hn
    ·exact e4 p hp hf
  ·obtain⟨cl,e1,e2,e3,e4⟩:=zdk env r cs h1' h2;refine⟨cl,?_,e2,e3,λp hp hf=>?_⟩
   ·rw[y2h];have hkf:(k==NameKind.free)=false:=by simpa using hk
    simp only[hkf,y0s,if_false];exact e1
   ·rcases y08.mp hp with e|hp
    ·rw[e]at hf;exact absurd (by simpa using hf) hk
    ·exact e4 p hp hf
theorem zlw(h:∀p∈scope.names,p.2=.free->∃c,env.cells.lookup p.1=some c):
  ∃cl,closureFor scope env=pure cl/\(∀x c,cl.lookup x=some c->env.cells.lookup x=some c)/\(∀p∈scope.names,p.2=.free->∃c,cl.lookup p.1=some c):=by
 obtain⟨cl,e1,e2,_,e4⟩:=zdk env scope.names [] h (λx c e=>by simp at e);refine⟨cl,?_,e2,λp hp hf=>y2y.mp (e4 p hp hf)⟩;have q:closureFor scope env=(forIn scope.names [] λ(p:Str×iU) (r:Y4)=>(if(p.2==NameKind.free)=true then(do let c ←cellOf env p.1;pure (ForInStep.yield ((p.1,c)::r)))else pure (ForInStep.yield r):Sem (ForInStep (List (Str×Addr)))))>>=pure:=by
  unfold closureFor;rfl
 rw[q,e1];rfl
theorem zdo{env:Env}:∀{names:List (Str×iU)} {x:Str},(∀y∈names,y.2 ≠ .cell)->
  ((names.map λ(n,k)=>if(k==NameKind.free&&env.scope.kind ==.function&&env.kindOf n==some .cell)then(n,NameKind.cell)else(n,k)).lookup x=some .cell\/
   (names.map λ(n,k)=>if(k==NameKind.free&&env.scope.kind ==.function&&env.kindOf n==some .cell)then(n,NameKind.cell)else(n,k)).lookup x=some .free)->(x,NameKind.free)∈names
 |[],_,_,h=>by simp at h
 |(n,k)::r,x,hc,h=>by
  have ih:=@zdo env r x (λy hy=>hc y (y06 _ hy));simp only[y0h]at h;cases hx:x==n with
  |true =>
   have e:x=n:=by simpa using hx
   subst e;by_cases hh:(k==NameKind.free&&env.scope.kind ==.function&&env.kindOf x==some .cell)=true
   ·have:k=.free:=by
     simp only[y04]at hh;simpa using hh.1.1
    subst this;exact y07
   ·rw[if_neg hh]at h;simp only[y12,hx]at h;rcases h with h|h
    ·have:k=.cell:=Option.some.inj h;exact absurd this (hc (x,k) y07)
    ·have:k=.free:=Option.some.inj h;subst this;exact y07
  |false =>
   refine y06 _ (ih ?_);by_cases hh:(k==NameKind.free&&env.scope.kind ==.function&&env.kindOf n==some .cell)=true
   ·rw[if_pos hh]at h;simpa only[y12,hx]using h
   ·rw[if_neg hh]at h;simpa only[y12,hx]using h
theorem zdn{env:Env}:∀{names:List (Str×iU)} {x:Str},names.lookup x=some .free->
  ((names.map λ(n,k)=>if(k==NameKind.free&&env.scope.kind ==.function&&env.kindOf n==some .cell)then(n,NameKind.cell)else(n,k)).lookup x=some .cell\/
   (names.map λ(n,k)=>if(k==NameKind.free&&env.scope.kind ==.function&&env.kindOf n==some .cell)then(n,NameKind.cell)else(n,k)).lookup x=some .free)
 |[],_,h=>by simp at h
 |(n,k)::r,x,h=>by
  have ih:=@zdn env r x;simp only[y0h];cases hx:x==n with
  |true =>
   simp only[y12,hx]at h;have e:k=.free:=Option.some.inj h;subst e;by_cases hh:(NameKind.free==NameKind.free&&env.scope.kind ==.function&&env.kindOf n==some .cell)=true
   ·rw[if_pos hh];left;simp only[y12,hx]
   ·rw[if_neg hh];right;simp only[y12,hx]
  |false =>
   simp only[y12,hx]at h;by_cases hh:(k==NameKind.free&&env.scope.kind ==.function&&env.kindOf n==some .cell)=true
   ·rw[if_pos hh];simpa only[y12,hx]using ih h
   ·rw[if_neg hh];simpa only[y12,hx]using ih h
def cxB(X:Cx)(scope:Scope)(tn:List Str)(cp:Y6)(cl:Y4)(C:Addr)(s:ic)(H:Hp)(fp:List Addr):Cx :=
 {X with N:=tn++cp.map (·.2),s₀:=s,H₀:=H,env:=compEnvC scope cl C X.env,outer:=X.stack,ex:=fp,fn:=λ_=>false,pn:=[],xe:=λ_ _=>False}
def stB(tn:List Str)(cp:Y6)(σ:St):St:=List.replicate tn.length none++cp.map λp=>(σ[p.1]?).getD none
structure CompOk(X:Cx)(scope:Scope)(cp:Y6):Prop where
 kind:scope.kind=.function
 nocell:∀y∈scope.names,y.2 ≠ .cell
 names:∀y∈scope.names,y.2=.local->scope.names.lookup y.1=some .local
 free:∀y∈scope.names,y.2=.free->X.env.kindOf y.1=some .cell\/X.env.kindOf y.1=some .free
 cap:∀p∈cp,X.N[p.1]?=some p.2/\scope.names.lookup p.2=some .free
section
variable {X:Cx}{pins:Y2}{σ:St}{H:Hp}{s:ic}{scope:Scope}{tn:List Str}{cp:Y6}{cl:Y4}{fp:List Addr}
theorem mem_of_lookup'{α:Type}:∀{l:List (Str×α)} {x:Str} {v:α},l.lookup x=some v->(x,v)∈l
 |[],_,_,h=>by simp at h
 |(n,k)::r,x,v,h=>by
  rw[y12]at h;cases hx:x==n with
  |true =>
   rw[hx]at h;have e:x=n:=by simpa using hx
   have e2:k=v:=Option.some.inj h;subst e e2;exact y07
  |false=>rw[hx]at h;exact y06 _ (mem_of_lookup' h)
theorem zjf(I:Inv X pins σ H s)(O:CompOk X scope cp)(hcl1:∀x c,cl.lookup x=some c->X.env.cells.lookup x=some c)(hcl2:∀p∈scope.names,p.2=.free->∃c,cl.lookup p.1=some c)
  (hf:∀b∈fp,FpOk X pins H b/\b<s.heap.objs.size) (hns:h₁.Ns s.heap.objs.size m0) (hk:∀b o,s.heap.get? b=some o->h₁.get? b=some o) :
  Inv (cxB X scope tn cp cl s.heap.objs.size s H fp) [] (stB tn cp σ) H {s with heap:=h₁,toks:=t'}:=by
 have ok:(cxB X scope tn cp cl s.heap.objs.size s H fp).Ok:=by
  refine⟨I.ok.mod,O.kind,I.ok.glob,I.ok.blt,y01 _,λx y c e1 e2=>I.ok.inj x y c (hcl1 x c e1) (hcl1 y c e2),λx hx=>?_,λx c hx=>(by cases hx),I.ok.hd,I.ok.frames,.inl rfl,λb hb=>⟨y0i (hf b hb).2,λx c e=>?_⟩,
   λb o e=>I.bs b o e,y0y I.ok.bsz I.sz,λb o e hb=>?_,λb hb hb'=>?_,I.stack,I.stkFree⟩
  ·exact hcl2 (x,.free) (zdo O.nocell hx) rfl
  ·exact(hf b hb).1.2.2.2.2.1 x c (hcl1 x c e)
  ·rcases(hf b hb).1.2.2.2.1 with z|z
   ·exact I.ok.noex b o e z
   ·exact absurd (y0p (y0f e) (y0y I.ok.bsz z)) (y27 _)
  ·rcases y08.mp (I.stkSub b hb')with z|z
   ·exact(hf b hb).1.2.1 z
   ·exact(hf b hb).1.2.2.1 z
 refine⟨ok,rfl,I.bare,Un.kept hk,⟨m0,hns,λi x v e1 e2 e3=>?_⟩,λx c e=>?_,I.hok.fresh (y01 _),λx c e=>I.freeC x c (hcl1 x c e),λp hp=>by simp[cxB]at hp,I.hok.kept hk,?_⟩
 ·-- a captured name
  have e1':(tn++cp.map (·.2))[i]?=some x:=e1;have e2':(List.replicate tn.length none++cp.map λp=>(σ[p.1]?).getD none)[i]?=some (some v):=e2;by_cases hi:i<tn.length
  ·rw[y16 (by simpa using hi)]at e2';rw[y42,if_pos hi]at e2';cases e2'
  ·rw[y1f (by simpa using y3p hi),y49,y0k]at e2';rw[y1f (y3p hi),y0k]at e1';cases hp:cp[i-tn.length]? with
   |none=>rw[hp]at e1';cases e1'
   |some p =>
    rw[hp]at e1' e2';have e1'':p.2=x:=Option.some.inj e1';have e2'':(σ[p.1]?).getD none=some v:=Option.some.inj e2';obtain⟨c1,c2⟩:=O.cap p (y0j hp);rw[e1'']at c1 c2;have hs:σ[p.1]?=some (some v):=by
     cases q:σ[p.1]? with
     |none=>rw[q]at e2'';cases e2''
     |some z=>rw[q]at e2'';exact congrArg some e2''
    have hk':=O.free (x,.free) (mem_of_lookup' c2) rfl;have hvis:Vis X.env.scope x:=by
     rcases hk' with z|z
     ·exact .inr (.inl z)
     ·exact .inr (.inr z)
    obtain⟨m,hn,hl⟩:=I.loc;obtain⟨u,r,l⟩:=hl p.1 x v c1 hs hvis;refine⟨u,r,.inr ?_⟩;rcases l with⟨z,_⟩|⟨_,c,hc,o,ho,hd⟩
    ·rcases hk' with y|y<;>(rw[z]at y;cases y)
    ·obtain⟨c',hc'⟩:=hcl2 (x,.free) (mem_of_lookup' c2) rfl;have:c'=c:=Option.some.inj ((hcl1 x c' hc').symm.trans hc);subst this;exact⟨zdn c2,c',hc',o,hk c' o ho,hd⟩
 ·obtain⟨v,o,ho,hd⟩:=I.cell x c (hcl1 x c e);exact⟨v,o,hk c o ho,hd⟩
 ·show(stB tn cp σ).length=(tn++cp.map (·.2)).length;unfold stB;simp
theorem zo1{σ':St}{H':Hp}{s':ic}{h':Heap}{pinsB:Y2}(I:Inv X pins σ H s)(hf:∀b∈fp,FpOk X pins H b)
  (J:Inv (cxB X scope tn cp cl s.heap.objs.size s H fp) pinsB σ' H' s') (hs:Heap.SameBut s.heap.objs.size s'.heap h'):Inv X pins σ H' {s' with heap:=h'}:=by
 have ne:∀b o,s.heap.get? b=some o->b≠s.heap.objs.size:=λb o e=>y0i (y0f e);have U:Un (frs X.stack) fp H H' s.heap h':=by
  have u:Un (frs X.stack) fp H H' s.heap s'.heap:=J.base;refine⟨λb o e n h1 h2=>(hs.2 b (ne b o e)).trans (u.keep b o e n h1 h2),λb o e n h1 h2=>?_,u.free,λb o e h2=>?_,u.tups,u.frzs,u.tbls⟩
  ·obtain⟨sl,q⟩:=u.slot b o e n h1 h2;exact⟨sl,(hs.2 b (ne b o e)).trans q⟩
  ·obtain⟨o',q⟩:=u.there b o e h2;exact⟨o',(hs.2 b (ne b o e)).trans q⟩
 have fr:H' s.heap.objs.size=none:=J.free;have hok:HOk X.prog X.w H' h':=λb ob e=>by
  refine(J.hok b ob e).stay (λc v hc q=>(hs.2 c ?_).trans q) (λ_ q=>q) (λ_ _ _ _ _ q=>q) λ_ _ q=>q;rintro rfl;rcases hc with z|z
  ·rw[←z,fr]at e;cases e
  ·rw[fr]at z;cases z
 refine I.call' (s':={s' with heap:=h'}) (ch:=fp) J.os U hok J.bare λb hb=>?_;obtain⟨_,f1,_,f3,f4,f5⟩:=hf b hb;exact⟨f3,f1,f4,f5⟩
end
def PIfs(X:Cx)(ifs:List Expr)(t:TT):Prop :=
 ∀(pins:Y2) (s:ic) (σ:St) (H:Hp) (Q:Bool->Hp->Prop),Inv X pins σ H s->t σ H Q->
  wpAny (model X.prog X.w) X.A (forIn ifs true λc r=>if r=true then do let ok ←isTrue c X.env (eval c X.env);pure (ForInStep.yield ok)else pure (ForInStep.yield r)) (TP X pins σ Q) X.xe s
def tYes:TT:=λ_ H Q=>Q true H
theorem zbp:PIfs X [] tYes:=λ_ _ _ H _ I h=>wpAny_tests_nil ⟨H,I,h⟩
theorem zen(h:PT X c t):PIfs X [c] t:=λpins s σ H Q I hw=>wpAny_tests_one (h pins s σ H Q I hw)
theorem zh0(I:Nat->ic->Prop)
  (turn:∀n s,I n s->wpAny (model prog w) A (jg it) (λr s₁=>match r with
   |none=>R (.ok .next) s₁
   |some v=>wpAny (model prog w) A (iB target it v) (λ_ s₂=>wpAny (model prog w) A (assign target env v) (λ_ s₃ =>
     wpAny (model prog w) A (forIn ifs true λc r=>if r=true then do let ok ←isTrue c env (eval c env);pure (ForInStep.yield ok)else pure (ForInStep.yield r)) (λok s₄ =>
      if ok=true then wpAny (model prog w) A (eval elt env) (λx s₅ =>
       wpAny (model prog w) A (call (.builtin "list.append") [acc,x]) (λ_ s₆=>∃m,m<n/\I m s₆) (λ_ _=>False) s₅) (λ_ _=>False) s₄
      else∃m,m<n/\I m s₄) (λ_ _=>False) s₃) (λ_ _=>False) s₂) (λ_ _=>False) s₁) (λ_ _=>False) s)
  (n:Nat) (h:I n s) :
  iR (model prog w) A (.compLoop (.ListComp elt [⟨target,iter,ifs,0⟩] scope pos) 0 it acc env) R s:=by
 refine codeAny_loop rfl I (λn s hI=>?_) n h;show wpAny _ A ((compTurn (.ListComp elt [⟨target,iter,ifs,0⟩] scope pos) 0 it acc env).onRaise (λx=>do noteFrame x env;theTreesLotGoes x)) _ _ s;refine wpAny_noted ?_;rw[compTurn_list];refine ia (j3 (ia (i9 (turn n s hI) (λr s₁ h₁=>?_) λ_ _ f=>f.elim)));cases r with
 |none=>exact ib h₁
 |some v =>
  refine ia (i9 h₁ (λ_ s₂ h₂=>?_) λ_ _ f=>f.elim);refine ia (i9 h₂ (λ_ s₃ h₃=>ia (i9 h₃ (λok s₄ h₄=>?_) λ_ _ f=>f.elim)) λ_ _ f=>f.elim);cases ok with
  |false=>exact ib ⟨rfl,h₄⟩
  |true =>
   exact ia (ia (i9 h₄ (λx s₅ h₅=>ia (i9 h₅ (λ_ s₆ h₆=>ib (ib ⟨rfl,h₆⟩)) λ_ _ f=>f.elim)) λ_ _ f=>f.elim))
def tComp(tn:List Str)(cp:Y6)(wi:TI)(g:TG)(tif:TT)(te:TE):TE:=λσ H Q=>wi σ H λJ H1=>∀D,H1 D=none->∃W:Nat->Nat->St->Hp->Prop,
 (∃m,W 0 m (stB tn cp σ) (upd H1 D (.lst [])))/\∀i m σb Hb,W i m σb Hb->
  (J.stop i Hb/\Q (.ref D) Hb)\/(J.go i Hb/\∀x H',J.yld i Hb x H'->g x σb H' λσ2 H2=>tif σ2 H2 λc H3 =>
   if c=true then te σ2 H3 λy H4=>∃ys,H4 D=some (.lst ys)/\ys.length<ie/\∃m',m'<m/\W (i+1) m' σ2 (upd H4 D (.lst (ys++[y])))
   else∃m',m'<m/\W (i+1) m' σ2 H3)
theorem zfy{X:Cx}{elt tg iter:Expr}{ifs:List Expr}{scope:Scope}{pos cpos:Pos}{wi:TI}{g:TG}{tif:TT}{te:TE}(tn:List Str)(cp:Y6)(O:CompOk X scope cp)(hc:X.calm=true)(hi:PI X tg iter wi)
  (hg:∀cl C s H fp,PG (cxB X scope tn cp cl C s H fp) tg g) (hif:∀cl C s H fp,PIfs (cxB X scope tn cp cl C s H fp) ifs tif) (he:∀cl C s H fp,PE (cxB X scope tn cp cl C s H fp) elt te)
  (hs:∀x,iQ iter X.env x=pure x) {pins:Y2} {s:ic} {σ:St} {H:Hp} {Q:VK} {R:Y0} {use:Option (Value->Sem Unit)} (I:Inv X pins σ H s) (h:tComp tn cp wi g tif te σ H Q)
  (fin:∀(D C:Addr) (H5:Hp) (s5:ic) (m:Y1),Inv X pins σ H5 s5->FpOk X pins H5 C->s5.heap.Ns C m->Q (.ref D) H5->compPost (model X.prog X.w) X.A X.xe use R (.ref D) C (.ok .next) s5) :
  wpAny (model X.prog X.w) X.A (comprehension (.ListComp elt [⟨tg,iter,ifs,0⟩] scope pos) scope X.env cpos (newList []) false (eval iter X.env) use) R X.xe s:=by
 obtain⟨cl,hcl,hcl1,hcl2⟩:=zlw (scope:=scope) (env:=X.env) λp hp hf=>I.ok.has p.1 (O.free p hp hf);refine wpAny_comprehension_free (use:=use) rfl hs hcl O.kind O.names (thn (hi pins s σ H _ I h) λv s1 h1=>thn h1 λitv s2 h2=>?_);obtain⟨it,fp,tn',J,H2,rfl,I2,T,st2,f2,rest⟩:=h2;refine iu ?_;have I3:Inv X pins σ (upd H2 s2.heap.objs.size (.lst [])) {s2 with heap:=s2.heap.push {cls:=.type "list",data:=.seq ([]:List Value).toArray} }:=I2.lnew (its:=[]) (t':=s2.toks) .nil (y14 _);obtain⟨W,⟨m0,w0⟩,turn⟩:=rest s2.heap.objs.size I2.fresh;have fpl:∀b∈fp,b<s2.heap.objs.size:=λb hb=>by
  obtain⟨o,e,_⟩:=T.obj _ _ st2 b hb;exact y0f e
 have f3:∀b∈fp,FpOk X pins (upd H2 s2.heap.objs.size (.lst [])) b:=λb hb=>⟨by rw[zar (y0i (fpl b hb))];exact(f2 b hb).1,(f2 b hb).2⟩;have sz3:(s2.heap.push {cls:=.type "list",data:=.seq ([]:List Value).toArray}).objs.size=s2.heap.objs.size+1:=y10 ..;refine wpAny_newFunctionEnv O.nocell (by intro y hy;simp at hy) (λh₁ hns hsb=>?_) O.kind;have hk1:∀b o,(s2.heap.push {cls:=.type "list",data:=.seq ([]:List Value).toArray}).get? b=some o->h₁.get? b=some o:=λb o e =>
  hsb.extBut b o (y0i (y0f e)) (y02 _ e)
 have J3:=zjf (tn:=tn) (cp:=cp) (t':=s2.toks+([]:List (Str×Value)).length) I3 O hcl1 hcl2 (λb hb=>⟨f3 b hb,by rw[sz3];exact y2o (fpl b hb)⟩) hns hk1;have st3:tn' 0 h₁:=T.keep _ _ _ st2 λb hb o e=>hk1 b o (y02 _ e);show iR _ _ (.compStart _ 0 (.ref it) (.ref s2.heap.objs.size) (compEnvC scope cl (s2.heap.push {cls:=.type "list",data:=.seq ([]:List Value).toArray}).objs.size X.env)) _ _;generalize hXB:cxB X scope tn cp cl (s2.heap.push {cls:=.type "list",data:=.seq ([]:List Value).toArray}).objs.size {s2 with heap:=s2.heap.push {cls:=.type "list",data:=.seq ([]:List Value).toArray} } (upd H2 s2.heap.objs.size (.lst [])) fp=XB at J3;have hprog:XB.prog=X.prog:=by rw[←hXB];rfl
 have hw:XB.w=X.w:=by rw[←hXB];rfl
 have hK:XB.K=X.K:=by rw[←hXB];rfl
 have hA:XB.A=X.A:=by rw[←hXB];rfl
 have henv:XB.env=compEnvC scope cl (s2.heap.push {cls:=.type "list",data:=.seq ([]:List Value).toArray}).objs.size X.env:=by rw[←hXB];rfl
 have hcalm:XB.calm=true:=by rw[←hXB];exact hc
 have hxe:XB.xe=λ_ _=>False:=by rw[←hXB];rfl
 have hgB:PG XB tg g:=by rw[←hXB];exact hg _ _ _ _ _
 have hifB:PIfs XB ifs tif:=by rw[←hXB];exact hif _ _ _ _ _
 have heB:PE XB elt te:=by rw[←hXB];exact he _ _ _ _ _
 have fB:∀(pb:Y2) (Hb:Hp),(∀b∈fp,Hb b=none)->(∀b∈fp,∀p∈XB.pn++pb,p.1≠b)->∀b∈fp,FpOk XB pb Hb b:=λpb Hb hn hp b hb=>by
  refine⟨hn b hb,?_,?_,.inl (by rw[←hXB];exact hb),λx c e=>?_,hp b hb⟩
  ·rw[henv];show b≠(s2.heap.push {cls:=.type "list",data:=.seq ([]:List Value).toArray}).objs.size;rw[sz3];exact y0i (y2o (fpl b hb))
  ·rw[←hXB];show b∉frs X.stack;intro z;rcases y08.mp (I2.stkSub b z)with y|y
   ·exact(f2 b hb).2.1 y
   ·exact(f2 b hb).2.2.1 y
  ·rw[henv]at e;exact(f2 b hb).2.2.2.2.1 x c (hcl1 x c e)
 have pn0:XB.pn=[]:=by rw[←hXB];rfl
 have loop:∀s₃:ic,s₃={s2 with heap:=h₁,toks:=s2.toks+([]:List (Str×Value)).length}->
   iR (model X.prog X.w) X.A (.compLoop (.ListComp elt [⟨tg,iter,ifs,0⟩] scope pos) 0 (.ref it) (.ref s2.heap.objs.size) XB.env)
    (compPost (model X.prog X.w) X.A X.xe use R (.ref s2.heap.objs.size) (s2.heap.push {cls:=.type "list",data:=.seq ([]:List Value).toArray}).objs.size) s₃:=by
  rintro s₃ rfl;refine zh0 (λn s'=>∃i σb Hb,Inv XB [] σb Hb s'/\tn' i s'.heap/\(∀b∈fp,Hb b=none)/\W i n σb Hb) ?_ m0 ⟨0,stB tn cp σ,_,J3,st3,λb hb=>(f3 b hb).1,w0⟩;rintro n s4 ⟨i,σ4,H4,I4,st4,fr4,w4⟩;rcases turn i n σ4 H4 w4 with⟨stop,qn⟩|⟨go,step⟩
  ·have d:=T.done XB hprog hw hK hcalm i [] s4 σ4 H4 (λ_ _=>False) I4 (fB [] H4 fr4 (λb hb p hp=>by rw[pn0]at hp;simp at hp)) st4 stop;rw[hA]at d;refine thn d λr s5 ⟨hr,I5⟩=>?_;subst hr;obtain⟨mm,hn5,_⟩:=id I5.loc;have fr5:H4 (s2.heap.push {cls:=.type "list",data:=.seq ([]:List Value).toArray}).objs.size=none:=by
    have z:=I5.free;rw[henv]at z;exact z
   have J5:Inv X pins σ H4 s5:=by
    rw[←hXB]at I5;exact zo1 (h':=s5.heap) I3 f3 I5 ⟨rfl,λ_ _=>rfl⟩
   exact fin _ _ H4 s5 mm J5 (I3.fpOk (y01 _) fr5) (by rw[henv]at hn5;exact hn5) qn
  ·have d:=T.item XB hprog hw hK hcalm i [] s4 σ4 H4 (λ_ _=>False) I4 (fB [] H4 fr4 (λb hb p hp=>by rw[pn0]at hp;simp at hp)) st4 go;rw[hA]at d;refine thn d λr s5 ⟨u,hr,h5⟩=>?_;subst hr;refine thn h5 λ_ s6 zz=>ex5 zz λx H6 I6 r6 zq=>?_;obtain⟨y6,st6,fr6⟩:=zq;have I6':=I6.pinned (fB [] H6 fr6 (λb hb p hp=>by rw[pn0]at hp;simp at hp)) (T.obj _ _ st6);have q6:=step x H6 y6;have a1:=hgB _ s6 σ4 H6 x u _ I6' r6 q6;rw[hxe,hprog,hw,hA]at a1;refine thn a1 λ_ s7 ⟨σ7,H7,I7,q7⟩=>?_;have a2:=hifB _ s7 σ7 H7 _ I7 q7;rw[hxe,hprog,hw,hA]at a2;refine thn a2 λok s8 ⟨H8,I8,q8⟩=>?_;have again:∀{σ9:St} {H9:Hp} {s9:ic},Inv XB ([]++pinsAt fp s6.heap) σ9 H9 s9->(∃m',m'<n/\W (i+1) m' σ9 H9)->∃m,m<n/\∃i σb Hb,Inv XB [] σb Hb s9/\tn' i s9.heap/\(∀b∈fp,Hb b=none)/\W i m σb Hb:=λ{σ9 H9 s9} I9 n9=>by
    obtain⟨m',hm,w9⟩:=n9;refine⟨m',hm,i+1,σ9,H9,I9.unpinned,T.keep _ _ _ st6 λb hb o e=>(I9.pin (b,o) (y15 _ (y15 _ (zct hb e)))).1,λb hb=>?_,w9⟩;obtain⟨o,e,d⟩:=T.obj _ _ st6 b hb;exact(I9.pin (b,o) (y15 _ (y15 _ (zct hb e)))).2.1
   cases ok with
   |false=>exact again I8 q8
   |true =>
    show wpAny _ _ _ _ _ _;have a3:=heB _ s8 σ7 H8 _ I8 q8;rw[hxe,hprog,hw,hA]at a3;refine thn a3 λyv s9 zz=>ex5 zz λy H9 I9 r9 zq=>?_;obtain⟨ys,hD,hlen,n9⟩:=zq;have a4:=zcm (X:=XB) _ s9 σ7 H9 (.ref s2.heap.objs.size) [y] (.ref s2.heap.objs.size) [yv] (λ_ H'=>∃m',m'<n/\W (i+1) m' σ7 H') I9 rfl (.cons r9 .nil) ⟨_,ys,y,rfl,rfl,hD,hlen,n9⟩;rw[hxe,hprog,hw,hA]at a4;exact thn a4 λ_ s10 zz=>ex5 zz λ_ H10 I10 _ q10=>again I10 q10
 rw[henv]at loop;refine codeAny_compStart_list (loop _ rfl) (T.self _ 0 _ _ _ st3 (loop _ rfl))
theorem za2(tn:List Str)(cp:Y6)(O:CompOk X scope cp)(hc:X.calm=true)(hi:PI X tg iter wi)
  (hg:∀cl C s H fp,PG (cxB X scope tn cp cl C s H fp) tg g) (hif:∀cl C s H fp,PIfs (cxB X scope tn cp cl C s H fp) ifs tif) (he:∀cl C s H fp,PE (cxB X scope tn cp cl C s H fp) elt te)
  (hs:∀x,iQ iter X.env x=pure x:=by intro _;rfl) :
  PE X (.ListComp elt [⟨tg,iter,ifs,0⟩] scope pos) (tComp tn cp wi g tif te):=by
 intro pins s σ H Q I h;rw[eval_ListComp];refine zfy tn cp O hc hi hg hif he hs I h λD C H5 s5 m I5 f5 n5 q5=>⟨m,n5,λh' hs'=>⟨.ref D,H5,?_,rfl,q5⟩⟩;obtain⟨f0,f1,f2,f3,f4,f5⟩:=f5;exact I5.turned (t':=s5.toks) (λb o hb e=>(hs'.2 b hb).trans e) f0 f1 f3 f4 f5
theorem ziu{X:Cx}{i:Nat}{x:Str}{elt tg iter:Expr}{ifs:List Expr}{scope:Scope}{pos pos' spos:Pos}{wi:TI}{g:TG}{tif:TT}{te:TE}(hN:X.N.Nodup)(hx:X.N[i]?=some x)(hl:Loc X.env.scope x)(tn:List Str)(cp:Y6)(O:CompOk X scope cp)(hc:X.calm=true)(hi:PI X tg iter wi)
  (hg:∀cl C s H fp,PG (cxB X scope tn cp cl C s H fp) tg g) (hif:∀cl C s H fp,PIfs (cxB X scope tn cp cl C s H fp) ifs tif) (he:∀cl C s H fp,PE (cxB X scope tn cp cl C s H fp) elt te)
  (hsw:iX (.ListComp elt [⟨tg,iter,ifs,0⟩] scope pos) (some (.Name x pos')) spos.line X.env=pure true:=by rfl) (hs:∀x,iQ iter X.env x=pure x:=by intro _;rfl)
  (hf:X.fn x=true\/X.env.scope.names.lookup x=some .local:=by first|exact .inl rfl|exact .inr rfl|assumption) :
  PS X (.Assign [.Name x pos'] (.ListComp elt [⟨tg,iter,ifs,0⟩] scope pos) spos) (tAsg (tComp tn cp wi g tif te) (gName i)):=by
 intro pins s σ H D I h;rw[exec_Assign_Name_used _ _ _ _ hsw];refine ia (j3 (ia ?_));show wpAny _ X.A (do let _ ←comprehension (.ListComp elt [⟨tg,iter,ifs,0⟩] scope pos) scope X.env _ (newList []) false (eval iter X.env) (some (assign (.Name x pos') X.env))) _ _ s;refine ia (i9 (zfy tn cp O hc hi hg hif he hs (R:=λ_ s'=>SP X pins D .next s') I h λE C H5 s5 m I5 f5 n5 q5=>?_) (λ_ _ q=>ib (ib q)) λ_ _ e=>e);obtain⟨f0,f1,f2,f3,f4,f5⟩:=f5;show wpAny _ X.A (assign (.Name x pos') X.env (.ref E)) _ _ _;refine wpAny_assign_Name (zg2 I5 hN hx hl (v:=.ref E) rfl (λs6 I6 ⟨a,sb,ha⟩=>?_) hf);have ne:C≠a:=by
  rcases ha with e|e
  ·rw[e];exact f1
  ·exactλz=>f4 x a e z.symm
 refine⟨m,n5.sameBut sb ne,λh' hs'=>⟨_,H5,I6.turned (t':=s6.toks) (λb o hb e=>(hs'.2 b hb).trans e) f0 f1 f3 f4 f5,q5⟩⟩
def Its(z:Str):It:=⟨λi _=>i<z.cps.size,λi H x H'=>H'=H/\∃c,z.cps[i]?=some c/\x=.str ⟨#[c]⟩,λi _=>z.cps.size<=i⟩
theorem zjl{P:ig}{w:World}{K:Frag}{tg:Expr}(z:Str)(t:Tok)(it:Addr)(ty:String)(hty:ty="str_ascii_iterator"\/ty="str_iterator"):
  Turn P w K tg (Its z) [it] it (λi h=>h.IsStrIter it ty z t i) where
 mem:=by simp
 obj:=λi h st b hb=>by
  have e:b=it:=by simpa using hb
  subst e;obtain⟨o,e,c,d⟩:=st;exact⟨o,e,λv z=>by rw[d]at z;cases z⟩
 keep:=λi h h' st k=>by
  obtain⟨o,e,r⟩:=st;exact⟨o,k it (by simp) o e,r⟩
 item:=by
  infer_instance;subst hP hw hK;obtain⟨f0,f1,f2,f3,f4,f5⟩:=hf it (by simp);have hi:i<z.cps.size:=hg;have hx:z.cps[i]?=some z.cps[i]:=by simp[hi]
  have nn:(["enumerate","zip","dict_itemiterator","dict_reverseitemiterator","odict_iterator","itertools.zip_longest","itertools.pairwise"].contains ty)=false:=by
   rcases hty with e|e<;>(rw[e];decide)
  have fin:∀h',h'.IsStrIter it ty z t (i+1)->Heap.SameBut it s.heap h'->∃u,some (Value.str ⟨#[z.cps[i]]⟩ s.toks)=some u/\
    wpAny (model X.prog X.w) X.A (iB tg (.ref it) u) (λ_ s2=>∃x H',Inv X pins σ H' s2/\RelV x u/\(Its z).yld i H x H'/\s2.heap.IsStrIter it ty z t (i+1)/\∀b∈[it],H' b=none) E {s with heap:=h',toks:=s.toks+1}:=λh' st' sb=>by
   have I1:Inv X pins σ H {s with heap:=h',toks:=s.toks+1}:=I.turned (t':=s.toks+1) (λb o hb e=>(sb.2 b hb).trans e) f0 f1 f3 f4 f5;obtain⟨o,e,c,d⟩:=id st';exact⟨_,rfl,zoi (s:={s with heap:=h',toks:=s.toks+1}) e c d nn ⟨.str ⟨#[z.cps[i]]⟩,H,I1,⟨_,rfl⟩,⟨rfl,_,hx,rfl⟩,st',λb hb=>(hf b hb).1⟩⟩
  rcases hty with e|e
  ·subst e;exact wpAny_pyNext_ascii_item st hx fin
  ·subst e;exact wpAny_pyNext_wide_item st hx fin
 done:=by
  infer_instance;subst hP hw hK;obtain⟨f0,f1,f2,f3,f4,f5⟩:=hf it (by simp);have hi:z.cps.size<=i:=hg;have hx:z.cps[i]?=none:=by simp[hi]
  rcases hty with e|e
  ·subst e;exact wpAny_pyNext_ascii_end (I.ok.hd hc) st hx λh' eb=>⟨rfl,I.turned (t':=s.toks) (λb o hb e=>eb b o hb e) f0 f1 f3 f4 f5⟩
  ·subst e;exact wpAny_pyNext_wide_end (I.ok.hd hc) st hx λh' eb=>⟨rfl,I.turned (t':=s.toks) (λb o hb e=>eb b o hb e) f0 f1 f3 f4 f5⟩
 self:=by
  intro A i s Q E st h;rcases hty with e|e
  ·subst e;exact wpAny_pyIter_striter_ascii st h
  ·subst e;exact wpAny_pyIter_striter_wide st h
def iStr(tl:TE):TI:=λσ H R=>tl σ H λx H1=>∃z,x=.str z/\R (Its z) H1
theorem zuk{X:Cx}{tg l:Expr}{tl:TE}(hl:PE X l tl):PI X tg l (iStr tl):=by
 intro pins s σ H R I h;refine thn (hl pins s σ H _ I h) λv s1 zz=>ex5 zz λx H1 I1 r1 q1=>?_;obtain⟨z,e,q⟩:=q1;subst e;obtain⟨t,rfl⟩:=r1;have fo:∀b∈[s1.heap.objs.size],FpOk X pins H1 b:=λb hb=>by
  have e:b=s1.heap.objs.size:=by simpa using hb
  subst e;exact I1.fpOk (y01 _) (I1.hok.fresh (y01 _))
 cases ha:z.cps.all (· < 128)
 ·exact wpAny_pyIter_wide ha ⟨s1.heap.objs.size,[s1.heap.objs.size],_,_,H1,rfl,I1.kept (t':=s1.toks) λb o e=>y02 _ e,zjl z t _ "str_iterator" (.inr rfl),⟨_,y0d _ rfl,rfl,rfl⟩,fo,q⟩
 ·exact wpAny_pyIter_ascii ha ⟨s1.heap.objs.size,[s1.heap.objs.size],_,_,H1,rfl,I1.kept (t':=s1.toks) λb o e=>y02 _ e,zjl z t _ "str_ascii_iterator" (.inl rfl),⟨_,y0d _ rfl,rfl,rfl⟩,fo,q⟩
def rSlS:V->Option Int->Option Int->Hp->VK->Prop:=λx lo hi H Q=>∃z,x=.str z/\z.length<=ie/\Q (.str (Txt.slice z lo hi)) H
theorem zt8:SlR X rSlS:=by
 intro pins s σ H x v vl vu lo hi sl Q I rx hs pl pu h;obtain⟨z,rfl,hz,q⟩:=h;obtain⟨t,rfl⟩:=rx;refine⟨"str",_,F.slot_str_getitem.lookup,typeIs_str _ _ _,?_⟩;have go:∀(l u:Option (Int×Tok)),vl=partValue l->vu=partValue u->lo=l.map (·.1)->hi=u.map (·.1)->wpAny (model X.prog X.w) X.A (jd (.str z t) (.ref sl)) (EP X pins σ Q) X.xe s:=by
  rintro l u rfl rfl rfl rfl;refine wpAny_getItem_str_slice (l:=l) (u:=u) (st:=none) ?_ rfl ?_
  ·obtain⟨o,e,c,d⟩:=hs;exact⟨o,e,c,d⟩
  ·exact post_val_or_str ⟨y0y (Txt.slice_le z _ _) hz,λt' k=>⟨.str _,H,I.tok _,⟨_,rfl⟩,q⟩⟩
 cases pl with
 |none =>
  cases pu with
  |none=>exact go none none rfl rfl rfl rfl
  |int j u=>exact go none (some (j,u)) rfl rfl rfl rfl
 |int i t' =>
  cases pu with
  |none=>exact go (some (i,t')) none rfl rfl rfl rfl
  |int j u=>exact go (some (i,t')) (some (j,u)) rfl rfl rfl rfl
theorem zjc:CallR X (.builtin "isinstance") (λxs H Q=>∃x T t b,xs=[x,.ty T]/\TyOf X.K H x t/\PySem.W.kitOne X.K t (.type T)=some b/\Q (.bl b) H):=by
 intro pins s σ H xs us Q I r h;obtain⟨x,T,t,b,rfl,ty,e,q⟩:=h;obtain⟨u,w',rfl,rx,ry⟩:=vals2 r;cases(show w'=Value.type T from ry);exact zn8 I rx ty e λtk=>⟨.bl b,H,I.tok _,rfl,q⟩
section
open PyProof.Rows.LSm
theorem zkp:∀{us:List Value},Vals (bs.map V.bl) us->BoolsAre us bs:=by
 induction bs with
 |nil=>intro us r;rw[y3n]at r;cases r;exact .nil
 |cons b bs ih =>
  intro us r;rw[y0h]at r;cases r with
  |cons r1 r2 =>
   cases(show _=Value.bool b from r1);exact .cons b (ih r2)
theorem zje(hc:X.calm=true):CallR X (.builtin "all") (λxs H Q=>∃(p:Addr) (bs:List Bool),xs=[.ref p]/\SqL X.K H p (bs.map V.bl)/\Q (.bl (bs.all id)) H):=by
 intro pins s σ H xs us Q I r h;obtain⟨p,bs,rfl,hx,q⟩:=h;obtain⟨u,rfl,rx⟩:=vals1 r;cases(show u=Value.ref p from rx);obtain⟨vs,rv,pl,hz⟩:=I.list hx;have hl:=pl.isList;have hb:=zkp rv;have hlt:p<s.heap.objs.size:=by obtain⟨_,e,_⟩:=hl;exact y0f e
 refine call_all_walk (iJ hl ?_);refine⟨s.heap.objs.size,[s.heap.objs.size,p],[s.heap.objs.size],vs.toArray.size,_,_,λi=>(bs[i]?).getD true,rfl,Walks.list (A:=X.A.in1) (I.ok.hd hc) _ p (y0i hlt) vs.toArray,
  ⟨⟨_,y0d _ rfl,rfl,rfl⟩,hl.push _⟩,λi v s' Q' E' hP hQ=>?_,λh' tk hk=>?_⟩
 ·obtain⟨b,e,rfl⟩:=hb.get i v (by simpa using hP);simp only[e,y34]at hQ;exact il hQ
 ·have e:((List.range vs.toArray.size).all λi=>(bs[i]?).getD true)=bs.all id:=by
   rw[y03,hb.length];exact range_all bs
  rw[e];exact⟨.bl _,H,I.kept (kept_iter hk),rfl,q⟩
theorem zjd(hc:X.calm=true):CallR X (.builtin "any") (λxs H Q=>∃(p:Addr) (bs:List Bool),xs=[.ref p]/\SqL X.K H p (bs.map V.bl)/\Q (.bl (bs.any id)) H):=by
 intro pins s σ H xs us Q I r h;obtain⟨p,bs,rfl,hx,q⟩:=h;obtain⟨u,rfl,rx⟩:=vals1 r;cases(show u=Value.ref p from rx);obtain⟨vs,rv,pl,hz⟩:=I.list hx;have hl:=pl.isList;have hb:=zkp rv;have hlt:p<s.heap.objs.size:=by obtain⟨_,e,_⟩:=hl;exact y0f e
 refine call_any_walk (iJ hl ?_);refine⟨s.heap.objs.size,[s.heap.objs.size,p],[s.heap.objs.size],vs.toArray.size,_,_,λi=>(bs[i]?).getD false,rfl,Walks.list (A:=X.A.in1) (I.ok.hd hc) _ p (y0i hlt) vs.toArray,
  ⟨⟨_,y0d _ rfl,rfl,rfl⟩,hl.push _⟩,λi v s' Q' E' hP hQ=>?_,λh' tk hk=>?_⟩
 ·obtain⟨b,e,rfl⟩:=hb.get i v (by simpa using hP);simp only[e,y34]at hQ;exact il hQ
 ·have e:((List.range vs.toArray.size).any λi=>(bs[i]?).getD false)=bs.any id:=by
   rw[y03,hb.length];exact range_any bs
  rw[e];exact⟨.bl _,H,I.kept (kept_iter hk),rfl,q⟩
theorem zh1(hc:X.calm=true):CallR X (.builtin "sum") (λxs H Q=>∃(p:Addr) (ns:List Int),xs=[.ref p]/\SqL X.K H p (ns.map V.int)/\Q (.int ns.sum) H):=by
 intro pins s σ H xs us Q I r h;obtain⟨p,ns,rfl,hx,q⟩:=h;obtain⟨u,rfl,rx⟩:=vals1 r;cases(show u=Value.ref p from rx);obtain⟨vs,rv,pl,hz⟩:=I.list hx;have hi:=zln rv;obtain⟨ys,hy⟩:=hi.allInts.items;have hl':s.heap.IsList p (intItems ys):=hy▸pl.isList;refine sum_intListG (I.ok.hd hc) hl' λh' tk t' hk=>?_;have e1:ns=ys.toList.map (·.1):=by
  rw[←nums_intItems,←hy];exact(show numsOf vs.toArray.toList=ns from hi.numsOf).symm
 have e2:preSum (numAt ys) ys.size=ns.sum:=by
  rw[preSum_eq,y0o (by simp),e1]
 rw[e2];exact⟨.int _,H,I.kept hk,⟨_,rfl⟩,q⟩
end
def rZfill:V->List V->Hp->VK->Prop:=λx vs H Q=>∃z i,x=.str z/\vs=[.int i]/\PadOk i=true/\Q (.str (Txt.zfill z i)) H
def EqOk(X:Cx)(k:Nat)(H:Hp)(x y:V)(b:Bool):Prop:=∀(pins:Y2) (σ:St) (s:ic) (A:ir) (u v:Value),A.units+k<cLine->Inv X pins σ H s->RelV x u->RelV y v->SeqAt.EqAt A s u v b
def RcOk(X:Cx)(k:Nat)(H:Hp)(x y:V)(b:Bool):Prop:=∀(pins:Y2) (σ:St) (s:ic) (A:ir) (u v:Value),A.units+k<cLine->Inv X pins σ H s->RelV x u->RelV y v->SeqAt.RcAt A s u v b
section
variable {X:Cx}{k:Nat}{H:Hp}{x y:V}{a b:Addr}{xs ys:List V}
theorem zhz(fx:flatV x=true)(fy:flatV y=true):EqOk X k H x y (eqV x y):=λ_ _ _ _ _ _ _ _ rx ry=>zkj rx ry fx fy
theorem zoo:EqOk X k H (.ref a) (.ref a) true:=λ_ _ _ _ u v _ _ rx ry=>by
 cases(show u=Value.ref a from rx);cases(show v=Value.ref a from ry);exact SeqAt.EqAt.same _
theorem EqOk.of_rc(hne:a≠b)(h:RcOk X k H (.ref a) (.ref b) c):EqOk X k H (.ref a) (.ref b) c:=λpins σ s A u v hu I rx ry=>by
 cases(show u=Value.ref a from rx);cases(show v=Value.ref b from ry);exact SeqAt.EqAt.of_refs hne (h pins σ s A _ _ hu I rfl rfl)
theorem Vals.at(r:Vals xs us)(h:j<us.length):∃(h':j<xs.length),RelV xs[j] us[j]:=by
 have hl:=r.length;have h':j<xs.length:=by omega
 obtain⟨u,e,q⟩:=r.get (i:=j) (x:=xs[j]) (by simp[h']);rw[y0b h]at e;cases e;exact⟨h',q⟩
theorem zfo(hx:SqL X.K H a xs)(hy:SqL X.K H b ys)(hl:xs.length=ys.length)(e:Nat->Bool)(he:∀j (h1:j<xs.length) (h2:j<ys.length),EqOk X k H xs[j] ys[j] (e j)):
  RcOk X (k+1) H (.ref a) (.ref b) ((List.range xs.length).all e):=λpins σ s A u v hu I rx ry=>by
 cases(show u=Value.ref a from rx);cases(show v=Value.ref b from ry);obtain⟨us,r1,p1,_⟩:=I.list hx;obtain⟨vs,r2,p2,_⟩:=I.list hy;have l1:=r1.length;have l2:=r2.length;have q:=SeqAt.RcAt.lists (A:=A) (e:=e) p1.isList p2.isList (by rw[y03,y03];omega) (by omega) λj h1 h2=>by
  rw[y03]at h1 h2;obtain⟨g1,q1⟩:=r1.at h1;obtain⟨g2,q2⟩:=r2.at h2;exact he j g1 g2 pins σ s A.in1 _ _ (by show A.units+1+k<cLine;omega) I (by simpa using q1) (by simpa using q2)
 rw[y03,←l1]at q;exact q
theorem zhj(hx:SqL X.K H a xs)(hy:SqL X.K H b ys)(hl:xs.length≠ys.length):RcOk X k H (.ref a) (.ref b) false:=λpins σ s A u v hu I rx ry=>by
 cases(show u=Value.ref a from rx);cases(show v=Value.ref b from ry);obtain⟨us,r1,p1,_⟩:=I.list hx;obtain⟨vs,r2,p2,_⟩:=I.list hy;have l1:=r1.length;have l2:=r2.length;exact SeqAt.RcAt.lists_lengths p1.isList p2.isList (by rw[y03,y03];simp;omega) (by omega)
theorem zdd(hx:SqL X.K H a xs)(hy:SqL X.K H b ys)(fx:xs.all flatV=true)(fy:ys.all flatV=true):
  RcOk X 1 H (.ref a) (.ref b) (xs.length==ys.length&&(List.range xs.length).all λj=>eqV (xs.getD j .non) (ys.getD j .non)):=by
 by_cases hl:xs.length=ys.length
 ·have q:=zfo (k:=0) hx hy hl (λj=>eqV (xs.getD j .non) (ys.getD j .non)) λj h1 h2=>by
   have e1:xs.getD j .non=xs[j]:=by simp[List.getD,h1]
   have e2:ys.getD j .non=ys[j]:=by simp[List.getD,h2]
   rw[e1,e2];exact zhz (y0w.mp fx _ (y0t h1)) (y0w.mp fy _ (y0t h2))
  rw[show(xs.length==ys.length)=true by simp[hl],y1e];exact q
 ·rw[show(xs.length==ys.length)=false by simp[hl],y1d];exact zhj hx hy hl
end
def rEqD(X:Cx)(k:Nat):R2:=λx y H Q=>∃c,RcOk X k H x y c/\Q (.bl c) H
theorem znf(hu:X.A.units+k<cLine):OpR X (ii .Eq) (rEqD X k):=by
 ac_rfl;obtain⟨c,r,q⟩:=h;exact r pins σ s X.A v u hu I rx ry _ _ _ _ ⟨.bl c,H,I,rfl,q⟩
def CW(D:Addr)(n:Nat)(Pv:Nat->List V->St->Hp->Prop)(i m:Nat)(σ:St)(H:Hp):Prop:=m=n-i/\i<=n/\∃ys,H D=some (.lst ys)/\ys.length<=i/\Pv i ys σ H
def CStep(D:Addr)(n i:Nat)(Pv:Nat->List V->St->Hp->Prop)(σ2:St)(y:V)(H4:Hp):Prop :=
 ∃ys,H4 D=some (.lst ys)/\ys.length<ie/\∃m',m'<n-i/\CW D n Pv (i+1) m' σ2 (upd H4 D (.lst (ys++[y])))
def CSkip(D:Addr)(n i:Nat)(Pv:Nat->List V->St->Hp->Prop)(σ2:St)(H3:Hp):Prop:=∃m',m'<n-i/\CW D n Pv (i+1) m' σ2 H3
section
variable {D:Addr}{Q:VK}{g:TG}{tif:TT}{te:TE}{σ0:St}{H1:Hp}{n i:Nat}{Pv:Nat->List V->St->Hp->Prop}
theorem cstep(hn:n<=ie)(hi:i<n)(hD:H4 D=some (.lst ys))(hl:ys.length<=i)(h:Pv (i+1) (ys++[y]) σ2 (upd H4 D (.lst (ys++[y])))):CStep D n i Pv σ2 y H4 :=
 ⟨ys,hD,by omega,n-(i+1),by omega,rfl,hi,ys++[y],zaw,by rw[y0a,y0n];omega,h⟩
theorem cskip(hi:i<n)(hD:H3 D=some (.lst ys))(hl:ys.length<=i)(h:Pv (i+1) ys σ2 H3):CSkip D n i Pv σ2 H3 :=
 ⟨n-(i+1),by omega,rfl,hi,ys,hD,by omega,h⟩
theorem zi8{J:It}(Pv:Nat->List V->St->Hp->Prop)(hn:n<=ie)(h0:Pv 0 [] σ0 (upd H1 D (.lst [])))
  (hgo:∀i ys σ H,i<n->H D=some (.lst ys)->Pv i ys σ H->J.go i H) (hstop:∀ys σ H,H D=some (.lst ys)->Pv n ys σ H->J.stop n H)
  (hs:∀i ys σ H,i<n->H D=some (.lst ys)->ys.length<=i->Pv i ys σ H->∀x H',J.yld i H x H'->g x σ H' λσ2 H2=>tif σ2 H2 λc H3 =>
   if c=true then te σ2 H3 λy H4=>CStep D n i Pv σ2 y H4 else CSkip D n i Pv σ2 H3)
  (hd:∀ys σ H,H D=some (.lst ys)->ys.length<=n->Pv n ys σ H->Q (.ref D) H) :
  ∃W:Nat->Nat->St->Hp->Prop,(∃m,W 0 m σ0 (upd H1 D (.lst [])))/\∀i m σb Hb,W i m σb Hb->
   (J.stop i Hb/\Q (.ref D) Hb)\/(J.go i Hb/\∀x H',J.yld i Hb x H'->g x σb H' λσ2 H2=>tif σ2 H2 λc H3 =>
    if c=true then te σ2 H3 λy H4=>∃ys,H4 D=some (.lst ys)/\ys.length<ie/\∃m',m'<m/\W (i+1) m' σ2 (upd H4 D (.lst (ys++[y])))
    else∃m',m'<m/\W (i+1) m' σ2 H3):=by
 refine⟨CW D n Pv,⟨n,by omega,y14 _,[],zaw,y01 _,h0⟩,?_⟩;rintro i m σ H ⟨rfl,hi,ys,hD,hl,p⟩;by_cases hlt:i<n
 ·exact .inr ⟨hgo i ys σ H hlt hD p,hs i ys σ H hlt hD hl p⟩
 ·have e:i=n:=by omega
  subst e;exact .inl ⟨hstop ys σ H hD p,hd ys σ H hD hl p⟩
theorem zq3(Pv:Nat->List V->St->Hp->Prop)(hn:z.cps.size<=ie)(h0:Pv 0 [] σ0 (upd H1 D (.lst [])))
  (hs:∀i ys σ H c,i<z.cps.size->z.cps[i]?=some c->H D=some (.lst ys)->ys.length<=i->Pv i ys σ H->g (.str ⟨#[c]⟩) σ H λσ2 H2=>tif σ2 H2 λc H3 =>
   if c=true then te σ2 H3 λy H4=>CStep D z.cps.size i Pv σ2 y H4 else CSkip D z.cps.size i Pv σ2 H3)
  (hd:∀ys σ H,H D=some (.lst ys)->ys.length<=z.cps.size->Pv z.cps.size ys σ H->Q (.ref D) H) :
  ∃W:Nat->Nat->St->Hp->Prop,(∃m,W 0 m σ0 (upd H1 D (.lst [])))/\∀i m σb Hb,W i m σb Hb->
   ((Its z).stop i Hb/\Q (.ref D) Hb)\/((Its z).go i Hb/\∀x H',(Its z).yld i Hb x H'->g x σb H' λσ2 H2=>tif σ2 H2 λc H3 =>
    if c=true then te σ2 H3 λy H4=>∃ys,H4 D=some (.lst ys)/\ys.length<ie/\∃m',m'<m/\W (i+1) m' σ2 (upd H4 D (.lst (ys++[y])))
    else∃m',m'<m/\W (i+1) m' σ2 H3) :=
 zi8 Pv hn h0 (λi _ _ _ hi _ _=>hi) (λ_ _ _ _ _=>y01 _) (λi ys σ H hi hD hl p x H' y=>by
  obtain⟨e,c,hc,ex⟩:=y;subst e ex;exact hs i ys σ _ c hi hc hD hl p) hd
theorem zoy{K:Frag}{a:Addr}{xs:List V}(Pv:Nat->List V->St->Hp->Prop)(hn:xs.length<=ie)(h0:Pv 0 [] σ0 (upd H1 D (.lst [])))
  (hl:∀i ys σ H,i<=xs.length->H D=some (.lst ys)->Pv i ys σ H->SqL K H a xs)
  (hs:∀i ys σ H x,i<xs.length->xs[i]?=some x->H D=some (.lst ys)->ys.length<=i->Pv i ys σ H->g x σ H λσ2 H2=>tif σ2 H2 λc H3 =>
   if c=true then te σ2 H3 λy H4=>CStep D xs.length i Pv σ2 y H4 else CSkip D xs.length i Pv σ2 H3)
  (hd:∀ys σ H,H D=some (.lst ys)->ys.length<=xs.length->Pv xs.length ys σ H->Q (.ref D) H) :
  ∃W:Nat->Nat->St->Hp->Prop,(∃m,W 0 m σ0 (upd H1 D (.lst [])))/\∀i m σb Hb,W i m σb Hb->
   ((Itl K a).stop i Hb/\Q (.ref D) Hb)\/((Itl K a).go i Hb/\∀x H',(Itl K a).yld i Hb x H'->g x σb H' λσ2 H2=>tif σ2 H2 λc H3 =>
    if c=true then te σ2 H3 λy H4=>∃ys,H4 D=some (.lst ys)/\ys.length<ie/\∃m',m'<m/\W (i+1) m' σ2 (upd H4 D (.lst (ys++[y])))
    else∃m',m'<m/\W (i+1) m' σ2 H3) :=
 zi8 Pv hn h0 (λi ys σ H hi hD p=>⟨xs,xs[i],hl i ys σ H (y1w hi) hD p,by simp[hi]⟩) (λys σ H hD p=>⟨xs,hl _ ys σ H (y01 _) hD p,y01 _⟩) (λi ys σ H hi hD hl' p x H' y=>by
  obtain⟨e,y⟩:=y;subst e;exact hs i ys σ _ x hi (y xs (hl i ys σ _ (y1w hi) hD p)) hD hl' p) hd
end
section
variable {κ:Type}[DecidableEq κ]
def valV(kvs:List (κ×V))(k:κ):Option V:=(kvs.find? λkv=>decide (kv.1=k)).map (·.2)
def putK(kvs:List (κ×V))(k:κ)(v:V):List (κ×V) :=
 if(kvs.any λkv=>decide (kv.1=k))=true then kvs.map (λkv=>if kv.1=k then(kv.1,v)else kv)else kvs++[(k,v)]
theorem zbh{p:κ×V}(e:p.1=k):valV (p::r) k=some p.2:=by simp[valV,y1m,e]
theorem zbi{p:κ×V}(e:¬p.1=k):valV (p::r) k=valV r k:=by simp[valV,y1m,e]
theorem zd0(k:κ):∀kvs:List (κ×V),(kvs.any λkv=>decide (kv.1=k))=(valV kvs k).isSome
 |[]=>rfl
 |p::r=>by
  rw[y33];by_cases e:p.1=k
  ·simp only[zbh e,decide_eq_true e,Bool.true_or,Option.isSome_some]
  ·rw[zbi e,decide_eq_false e,y43];exact zd0 k r
theorem zjk(k j:κ)(y:V):∀kvs:List (κ×V),valV (kvs.map λkv=>if kv.1=k then(kv.1,y)else kv) j=(valV kvs j).map λx=>if j=k then y else x
 |[]=>rfl
 |p::r=>by
  have ih:=zjk k j y r;rw[y0h];by_cases h:p.1=k
  ·rw[if_pos h];by_cases e:p.1=j
   ·rw[zbh (p:=(p.1,y)) e,zbh e,y2e,if_pos (e.symm.trans h)]
   ·rw[zbi (p:=(p.1,y)) e,zbi e,ih]
  ·rw[if_neg h];by_cases e:p.1=j
   ·rw[zbh (p:=p) e,zbh e,y2e,if_neg (λz=>h (e.trans z))]
   ·rw[zbi (p:=p) e,zbi e,ih]
theorem zg1(k j:κ)(y:V):∀kvs:List (κ×V),valV kvs k=none->valV (kvs++[(k,y)]) j=if j=k then some y else valV kvs j
 |[],_=>by
  by_cases e:k=j
  ·rw[if_pos e.symm];exact zbh (p:=(k,y)) e
  ·rw[if_neg (λz=>e z.symm)];exact zbi (p:=(k,y)) e
 |p::r,hn=>by
  rw[y3q];have hk:¬p.1=k:=λz=>by rw[zbh z]at hn;cases hn
  rw[zbi hk]at hn;have ih:=zg1 k j y r hn;by_cases e:p.1=j
  ·rw[zbh e,zbh e,if_neg (λz=>hk (e.trans z))]
  ·rw[zbi e,zbi e,ih]
theorem zb6(kvs:List (κ×V))(k j:κ)(y:V):valV (putK kvs k y) j=if j=k then some y else valV kvs j:=by
 unfold putK;by_cases a:(kvs.any λkv=>decide (kv.1=k))=true
 ·rw[if_pos a,zjk];rw[zd0]at a;by_cases e:j=k
  ·obtain⟨x,hx⟩:=y2y.mp a;rw[if_pos e,e,hx,y2e,if_pos rfl]
  ·rw[if_neg e];cases valV kvs j with
   |none=>rfl
   |some x=>rw[y2e,if_neg e]
 ·rw[if_neg a];refine zg1 k j y kvs ?_;rw[zd0]at a;cases q:valV kvs k with
  |none=>rfl
  |some x=>rw[q]at a;exact(a rfl).elim
theorem zby(kvs:List (κ×V))(k:κ)(v:V):(putK kvs k v).length<=kvs.length+1:=by
 unfold putK;split
 ·rw[y00];omega
 ·rw[y0a,y0c,y1l];omega
theorem RelO.isSome_eq(r:RelO o u):o.isSome=u.isSome:=by
 cases o with
 |none=>cases u with
  |none=>rfl
  |some _=>exact(show False from r).elim
 |some _=>cases u with
  |none=>exact(show False from r).elim
  |some _=>rfl
theorem KV.val(r:KV kvs vs)(k:κ):RelO (valV kvs k) (j0 vs k):=by
 unfold KV at r
 induction r with
 |nil=>exact True.intro
 |@cons p q ps qs h t ih =>
  obtain⟨h1,h2⟩:=h;by_cases e:p.1=k
  ·have e':q.1=k:=h1.symm.trans e;have b:j0 (q::qs) k=some q.2:=by simp[j0,y1m,e']
   rw[zbh e,b];exact h2
  ·have e':¬q.1=k:=λz=>e (h1.trans z);have b:j0 (q::qs) k=j0 qs k:=by simp[j0,y1m,e']
   rw[zbi e,b];exact ih
theorem KV.any(r:KV kvs vs)(k:κ):(kvs.any λkv=>decide (kv.1=k))=vs.any λkv=>decide (kv.1=k):=by
 unfold KV at r
 induction r with
 |nil=>rfl
 |cons h t ih=>rw[y33,y33,ih,h.1]
theorem KV.repl(r:KV kvs vs)(k:κ)(ry:RelV y u):
  KV (kvs.map λkv=>if kv.1=k then(kv.1,y)else kv) (vs.map λkv=>if kv.1=k then(kv.1,u)else kv):=by
 unfold KV at r ⊢
 induction r with
 |nil=>exact .nil
 |@cons p q ps qs h t ih =>
  rw[y0h,y0h];refine .cons ?_ ih;obtain⟨h1,h2⟩:=h;by_cases e:p.1=k
  ·rw[if_pos e,if_pos (h1.symm.trans e)];exact⟨h1,ry⟩
  ·rw[if_neg e,if_neg (λz=>e (h1.trans z))];exact⟨h1,h2⟩
theorem KV.put(r:KV kvs vs)(k:κ)(ry:RelV y u):KV (putK kvs k y) (stored vs k u):=by
 unfold putK stored;rw[r.any k];by_cases e:(vs.any λkv=>decide (kv.1=k))=true
 ·rw[if_pos e,if_pos e];exact r.repl k ry
 ·rw[if_neg e,if_neg e];exact Paired.snoc r ⟨rfl,ry⟩
theorem KV.length{kvs:List (κ×V)}{vs:List (κ×Value)}(r:KV kvs vs):kvs.length=vs.length:=Paired.length r
end
theorem zqp(r:RelV (kV k) u):(mixKind P w).is k u=true:=by
 cases k with
 |inl i=>obtain⟨t,e⟩:=(show∃t,u=Value.int i t from r);subst e;exact zi0 P w i t
 |inr x=>obtain⟨t,e⟩:=(show∃t,u=Value.str x t from r);subst e;exact ziz P w x t
theorem zvg(e:kV a=kV b):a=b:=by
 cases a with
 |inl i=>cases b with
  |inl j=>have e':V.int i=V.int j:=e;injection e' with e';rw[e']
  |inr y=>exact nomatch(show V.int i=V.str y from e)
 |inr x=>cases b with
  |inl j=>exact nomatch(show V.str x=V.int j from e)
  |inr y=>have e':V.str x=V.str y:=e;injection e' with e';rw[e']
theorem zhw:∀{ks:List Key} {us:List Value},Vals (ks.map kV) us->ItemsAre (mixKind P w) ks us
 |[],_,r=>by rw[y3n]at r;cases r;exact .nil
 |k::ks,_,r=>by
  rw[y0h]at r;cases r with
  |cons h t=>exact .cons (zqp h) (zhw t)
abbrev KT(H:Hp):List (List Key×V)->List (List Key×Addr×Value)->Prop:=iq λp q=>p.1=q.1/\H q.2.1=some (.tup (p.1.map kV))/\RelV p.2 q.2.2
theorem KT.val(r:KT H kvs xs)(k:List Key):RelO (valV kvs k) ((atKey xs k).map (·.2)):=by
 induction r with
 |nil=>exact True.intro
 |@cons p q ps qs h t ih =>
  obtain⟨h1,_,h2⟩:=h;by_cases e:p.1=k
  ·have e':q.1=k:=h1.symm.trans e;have b:atKey (q::qs) k=some q.2:=by simp[atKey,y1m,e']
   rw[zbh e,b];exact h2
  ·have e':¬q.1=k:=λz=>e (h1.trans z);have b:atKey (q::qs) k=atKey qs k:=by simp[atKey,y1m,e']
   rw[zbi e,b];exact ih
theorem KT.repl(r:KT H kvs xs)(k:List Key)(ry:RelV y u):
  KT H (kvs.map λkv=>if kv.1=k then(kv.1,y)else kv) (xs.map (putAt k u)):=by
 induction r with
 |nil=>exact .nil
 |@cons p q ps qs h t ih =>
  rw[y0h,y0h];refine .cons ?_ ih;obtain⟨h1,h2,h3⟩:=h;unfold putAt;by_cases e:p.1=k
  ·rw[if_pos e,if_pos (h1.symm.trans e)];exact⟨h1,h2,ry⟩
  ·rw[if_neg e,if_neg (λz=>e (h1.trans z))];exact⟨h1,h2,h3⟩
theorem KT.put(r:KT H kvs xs)(k:List Key)(hb:H b=some (.tup (k.map kV)))(ry:RelV y u):
  KT H (putK kvs k y) (storedH xs k b u):=by
 have e:(kvs.any λkv=>decide (kv.1=k))=(atKey xs k).isSome:=by
  rw[zd0,(r.val k).isSome_eq,y2x]
 unfold putK storedH;rw[e];by_cases q:(atKey xs k).isSome=true
 ·rw[if_pos q,if_pos q];exact r.repl k ry
 ·rw[if_neg q,if_neg q];exact Paired.snoc r ⟨rfl,hb,ry⟩
theorem KT.keeps(r:KT H kvs xs)(ht:∀b ys,H b=some (.tup ys)->H' b=some (.tup ys)):KT H' kvs xs :=
 Paired.mapP r λ_ _ z=>⟨z.1,ht _ _ z.2.1,z.2.2⟩
section
variable {P:ig}{w:World}{H:Hp}{h:Heap}{a:Addr}
theorem zud(ok:HOk P w H h)(e:Rd H a u):ObjOk P w H h a u:=e.ok ok
theorem zq0(ok:HOk P w H h)(e:Rd H a (.dK kvs)):kvs.length<=ie/\(a==iy)=false/\∃vs,KV kvs vs/\h.DictOf (mixKind P w) a vs :=
 show ObjOk P w H h a (.dK kvs)from zud ok e
theorem zvp(ok:HOk P w H h)(e:H a=some (.dK kvs)):kvs.length<=ie/\(a==iy)=false/\∃vs,KV kvs vs/\h.DictOf (mixKind P w) a vs:=zq0 ok (.inl e)
theorem zht(ok:HOk P w H h)(e:H a=some (.tup (ks.map kV))):(jy (mixKind P w)).is h ks a:=by
 obtain⟨_,its,r,o,h1,h2,n,h3⟩:=(show ObjOk P w H h a (.tup (ks.map kV))from ok a _ e);exact⟨o,its.toArray,n,h1,h2,h3,by simpa using zhw r⟩
theorem zqw(ok:HOk P w H h)(e:Rd H a (.dT kvs)):kvs.length<=ie/\(a==iy)=false/\
  ∃xs,KT H kvs xs/\h.DictOfH (jy (mixKind P w)) a xs:=by
 obtain⟨z,y,xs,r,o,es,ep,h1,h2,h3,h4,h5⟩:=(show ObjOk P w H h a (.dT kvs)from zud ok e);refine⟨z,y,xs,r,o,es,ep,h1,h2,h3,h4,λx hx=>?_,h5⟩;have all:∀{l:List (List Key×V)} {m:List (List Key×Addr×Value)},KT H l m->∀x∈m,(jy (mixKind P w)).is h x.1 x.2.1:=by
  intro l m q
  induction q with
  |nil=>intro x hx;exact nomatch hx
  |@cons p q ps qs hq t ih =>
   intro x hx;rcases y08.mp hx with e|hx
   ·subst e;exact zht ok (by rw[←hq.1];exact hq.2.1)
   ·exact ih x hx
 exact all r x hx
theorem zwb(ok:HOk P w H h)(e:H a=some (.dT kvs)):kvs.length<=ie/\(a==iy)=false/\
  ∃xs,KT H kvs xs/\h.DictOfH (jy (mixKind P w)) a xs:=zqw ok (.inl e)
end
def KeyV(k:Key)(y:V):Prop:=y=kV k\/∃b,y=.bl b/\k=.inl (blI b)
theorem KeyV.is(h:KeyV k y)(r:RelV y u):(mixKind P w).is k u=true:=by
 rcases h with rfl|⟨b,rfl,rfl⟩
 ·exact zqp r
 ·cases(show u=Value.bool b from r);exact zqo b
def DGet(H:Hp)(a:Addr)(y:V)(r:Option V):Prop :=
 (∃kvs k,Rd H a (.dK kvs)/\KeyV k y/\r=valV kvs k)\/∃kvs k b,Rd H a (.dT kvs)/\y=.ref b/\H b=some (.tup (k.map kV))/\r=valV kvs k
def DPut(H:Hp)(a:Addr)(y v:V)(H':Hp):Prop :=
 (∃kvs k,H a=some (.dK kvs)/\KeyV k y/\kvs.length<ie/\H'=upd H a (.dK (putK kvs k v)))\/
 ∃kvs k b,H a=some (.dT kvs)/\y=.ref b/\H b=some (.tup (k.map kV))/\kvs.length<ie/\H'=upd H a (.dT (putK kvs k v))
theorem DGet.k{H:Hp}{a:Addr}{kvs:List (Key×V)}{k:Key}(e:H a=some (.dK kvs)):DGet H a (kV k) (valV kvs k):=.inl ⟨kvs,k,.inl e,.inl rfl,rfl⟩
theorem DGet.t{k:List Key}(e:H a=some (.dT kvs))(eb:H b=some (.tup (k.map kV))):DGet H a (.ref b) (valV kvs k):=.inr ⟨kvs,k,b,.inl e,rfl,eb,rfl⟩
theorem DPut.k{H:Hp}{a:Addr}{kvs:List (Key×V)}{k:Key}{v:V}(e:H a=some (.dK kvs))(hl:kvs.length<ie):DPut H a (kV k) v (upd H a (.dK (putK kvs k v))):=.inl ⟨kvs,k,e,.inl rfl,hl,rfl⟩
theorem DPut.t{kvs:List (List Key×V)}{k:List Key}(e:H a=some (.dT kvs))(eb:H b=some (.tup (k.map kV)))(hl:kvs.length<ie):
  DPut H a (.ref b) v (upd H a (.dT (putK kvs k v))):=.inr ⟨kvs,k,b,e,rfl,eb,hl,rfl⟩
section
variable {X:Cx}{pins:Y2}{σ:St}{H:Hp}{s:ic}{a:Addr}{y v:V}{u r:Value}{o:Option V}{A:ir}{E:Y0}
theorem Inv.big(I:Inv X pins σ H s):iy<s.heap.objs.size:=by
 have h:io<s.heap.objs.size:=(I.mod.glob.keeps I.bk).lt;exact y2w (by decide) h
theorem zow(hu:A.units+1<cLine)(I:Inv X pins σ H s)(g:DGet H a y (some v))(ry:RelV y u)(h:∀w' s',Inv X pins σ H s'->RelV v w'->Q w' s'):
  wpAny (model X.prog X.w) A (jd (.ref a) u) Q E s:=by
 rcases g with⟨kvs,k,e,ey,l⟩|⟨kvs,k,b,e,ey,eb,l⟩
 ·obtain⟨z,hd,vs,rel,dd⟩:=zq0 I.hok e;obtain⟨w',hw,rw'⟩:=RelO.some_of (v:=v) (o:=j0 vs k) (by rw[l];exact rel.val k);exact wpAny_getItem_of (ey.is ry) dd.mapOf hw (h w' _ (I.tok _) rw')
 ·subst ey;cases(show u=Value.ref b from ry);obtain⟨z,hd,xs,rel,dd⟩:=zqw I.hok e;obtain⟨w',hw,rw'⟩:=RelO.some_of (v:=v) (o:=(atKey xs k).map (·.2)) (by rw[l];exact rel.val k);obtain⟨p,hp,hp2⟩:=y19.mp hw;refine wpAny_getItem_heap (iZ hu) (zht I.hok eb) dd hp ?_;rw[hp2];exact h w' _ (I.tok _) rw'
theorem ztr(hu:A.units+1<cLine)(I:Inv X pins σ H s)(g:DGet H a y o)(ry:RelV y u)(h:∀s',Inv X pins σ H s'->Q (.bool (!o.isSome)) s'):
  wpAny (model X.prog X.w) A (ii .NotIn u (.ref a)) Q E s:=by
 rcases g with⟨kvs,k,e,ey,l⟩|⟨kvs,k,b,e,ey,eb,l⟩
 ·obtain⟨z,hd,vs,rel,dd⟩:=zq0 I.hok e;refine wpAny_notIn_of (ey.is ry) hd dd.mapOf ?_;rw[←(rel.val k).isSome_eq,←l];exact h _ (I.tok _)
 ·subst ey;cases(show u=Value.ref b from ry);obtain⟨z,hd,xs,rel,dd⟩:=zqw I.hok e;refine wpAny_notIn_heap (iZ hu) (zht I.hok eb) hd dd ?_;have q:=(rel.val k).isSome_eq;rw[y2x]at q;rw[←q,←l];exact h _ (I.tok _)
theorem zi6(I:Inv X pins σ H s)(mu:Mut (H a))(hs:Heap.SameBut a s.heap h')(he:∃q,h'.get? a=some q)(new:ObjOk X.prog X.w (upd H a ob) h' a ob):
  Inv X pins σ (upd H a ob) {s with heap:=h',toks:=t'} :=
 I.write (x:=a) (e:=a) mu (.inl rfl) (λb q hb z=>(hs.2 b hb).trans z) he new
theorem zrt(z:kvs.length<=ie)(hd:(a==iy)=false)(rel:KV kvs vs)(dd:h'.DictOf (mixKind P w) a vs):
  ObjOk P w H' h' a (.dK kvs):=⟨z,hd,vs,rel,dd⟩
theorem zov(hu:A.units+1<cLine)(I:Inv X pins σ H s)(g:DPut H a y v H')(ry:RelV y u)(rv:RelV v r)(h:∀s',Inv X pins σ H' s'->Q () s'):
  wpAny (model X.prog X.w) A (setItem (.ref a) u r) Q E s:=by
 rcases g with⟨kvs,k,e,ey,l,eH⟩|⟨kvs,k,b,e,ey,eb,l,eH⟩
 ·subst eH;obtain⟨z,hd,vs,rel,dd⟩:=zvp I.hok e;have hz:vs.length<=ie:=by rw[←rel.length];exact z
  have hl:(putK kvs k v).length<=ie:=by have:=zby kvs k v;omega
  refine wpAny_setItem_pairs (hsz:=hz) (ey.is ry) dd λh' dd' hs=>h _ ?_;have he:∃q,h'.get? a=some q:=let⟨q,_,_,hq,_⟩:=dd';⟨q,hq⟩;exact zi6 I (by rw[e];exact True.intro) hs he (zrt hl hd (rel.put k rv) dd')
 ·subst ey eH;cases(show u=Value.ref b from ry);obtain⟨z,hd,xs,rel,dd⟩:=zwb I.hok e;have hz:xs.length<=ie:=by rw[←Paired.length rel];exact z
  have hl:(putK kvs k v).length<=ie:=by have:=zby kvs k v;omega
  refine wpAny_setItem_heap (hsz:=hz) (iZ hu) (zht I.hok eb) dd λh' dd' hs=>h _ ?_;obtain⟨q,es,ep,hq,h2,h3,h4,_,h5⟩:=dd';refine zi6 I (by rw[e];exact True.intro) hs ⟨q,hq⟩ ⟨hl,hd,_,(rel.put k eb rv).keeps λc ys ec=>?_,q,es,ep,hq,h2,h3,h4,h5⟩;rw[zar (zdf ec e (λz=>nomatch z))];exact ec
end
def NoSl(i:Expr):Prop:=∀ov iv,jt i false ov iv=operate [ov,iv] (jd ov iv)
theorem zmb{prog:ig}{w:World}{A:ir}{E:Y0}{s:ic}{env:Env}{value slice:Expr}{pos:Pos}{T id:String}{Q:Y0}
  (hl:j7 (.type T) "__getitem__"=pure (some (.builtin id))) (hs:NoSl slice)
  (h:wpAny (model prog w) A (eval value env) (λo s₁=>wpAny (model prog w) A (eval slice env) (λi s₂=>s₂.TypeIs o T/\wpAny (model prog w) A (jd o i) Q E s₂) E s₁) E s) :
  wpAny (model prog w) A (eval (.Subscript value slice pos) env) Q E s:=by
 refine Subscript_ (i9 h (λo s₁ h₁=>i9 h₁ (λi s₂ h₂=>?_) λ_ _ x=>x) λ_ _ x=>x);obtain⟨hT,h₂⟩:=h₂;unfold subscriptTail;refine ia ?_;rw[getitemInPython_of_ne hT.not_modules];refine ia (i8 hT hl ?_);have fin:wpAny (model prog w) A (jt slice false o i) (λr s₃=>wpAny (model prog w) A (letTemporaryGo value o r>>=λ_=>pure r) Q E s₃) E s₂:=by
  rw[hs o i];exact wpAny_operating (i9 h₂ (λr s₃ h₃=>ia (wpAny_letTemporaryGo (ib h₃))) λ_ _ x=>x)
 first
  |exact ib (ia fin)
  |exact ia (ib (ia fin))
  |exact ia fin
theorem zi5{X:Cx}{pins:Y2}{σ:St}{H:Hp}{s:ic}{a:Addr}{y:V}{o:Option V}(I:Inv X pins σ H s)(g:DGet H a y o):s.TypeIs (.ref a) "dict":=by
 rcases g with⟨kvs,k,e,_,_⟩|⟨kvs,k,b,e,_,_,_⟩
 ·obtain⟨_,_,vs,_,dd⟩:=zq0 I.hok e;exact dd.typeIs
 ·obtain⟨_,_,xs,_,dd⟩:=zqw I.hok e;exact dd.typeIs
def tDGet(td ty:TE):TE:=λσ H Q=>td σ H λx H1=>ty σ H1 λy H2=>∃a v,x=.ref a/\DGet H2 a y (some v)/\Q v H2
def sDPut(td ty tv:TE):TS:=λD σ H=>tv σ H λv H1=>td σ H1 λx H2=>ty σ H2 λy H3=>∃a H4,x=.ref a/\DPut H3 a y v H4/\D.nx σ H4
section
variable {X:Cx}{o i e value:Expr}{pos pos' tpos:Pos}{td ty tv:TE}
theorem zsu(hu:X.A.units+1<cLine)(ho:PE X o td)(hi:PE X i ty)(hs:NoSl i):PE X (.Subscript o i pos) (tDGet td ty):=by
 intro pins s σ H Q I h;refine zmb PySem.F.slot_dict_getitem.lookup hs (thn (ho pins s σ H _ I h) λu s1 zz=>ex5 zz λx H1 I1 rx q1=>thn (hi pins s1 σ H1 _ I1 q1) λiv s2 zz=>ex5 zz λy H2 I2 ry zq=>?_);obtain⟨a,v,ex,g,q2⟩:=zq;subst ex;obtain rfl:u=Value.ref a:=rx;exact⟨zi5 I2 g,zow hu I2 g ry λw' s3 I3 rw'=>⟨v,H2,I3,rw',q2⟩⟩
theorem zsm(hu:X.A.units+1<cLine)(ho:PE X o td)(hi:PE X i ty)(hv:PE X value tv)(hs:iX value (some (.Subscript o i pos')) pos.line X.env=pure false):
  PS X (.Assign [.Subscript o i pos'] value pos) (sDPut td ty tv):=by
 intro pins s σ H D I h;refine wpAny_Assign_Subscript (thn (hv pins s σ H _ I h) λr s1 zz=>ex5 zz λv H1 I1 rv q1=>thn (ho pins s1 σ H1 _ I1 q1) λu s2 zz=>ex5 zz λx H2 I2 rx q2=>thn (hi pins s2 σ H2 _ I2 q2) λiv s3 ⟨y,H3,I3,ry,a,H4,ex,g,q3⟩=>?_) hs;subst ex;obtain rfl:u=Value.ref a:=rx;exact zov hu I3 g ry rv λs4 I4=>⟨σ,H4,I4,q3⟩
end
theorem zq1(h:Heap)(hb:iy<h.objs.size):ObjOk P w H (h.push {cls:=.type "dict",data:=.dict #[]}) h.objs.size (.dK []) :=
 ⟨y14 _,beq_eq_false_iff_ne.mpr (Ne.symm (y0i hb)),[],.nil,Heap.DictOf.new h⟩
theorem zqx(h:Heap)(hb:iy<h.objs.size):ObjOk P w H (h.push {cls:=.type "dict",data:=.dict #[]}) h.objs.size (.dT []) :=
 ⟨y14 _,beq_eq_false_iff_ne.mpr (Ne.symm (y0i hb)),[],.nil,_,#[],0,y0d _ rfl,⟨rfl,rfl,rfl⟩,rfl,rfl,y3c⟩
def tDNewK:TE:=λ_ H Q=>∀p,H p=none->Q (.ref p) (upd H p (.dK []))
def tDNewT:TE:=λ_ H Q=>∀p,H p=none->Q (.ref p) (upd H p (.dT []))
section
variable {X:Cx}{pos:Pos}
theorem zpw:PE X (.Dict [] [] pos) tDNewK:=λpins s σ H Q I h =>
 wpAny_Dict_empty ⟨.ref s.heap.objs.size,_,I.laid (a:=s.heap.objs.size) (o:=.dK []) (t':=s.toks) (λ_ _ q=>y02 _ q) (y01 _) (zq1 s.heap I.big),rfl,h _ (I.hok.fresh (y01 _))⟩
theorem zpu:PE X (.Dict [] [] pos) tDNewT:=λpins s σ H Q I h =>
 wpAny_Dict_empty ⟨.ref s.heap.objs.size,_,I.laid (a:=s.heap.objs.size) (o:=.dT []) (t':=s.toks) (λ_ _ q=>y02 _ q) (y01 _) (zqx s.heap I.big),rfl,h _ (I.hok.fresh (y01 _))⟩
end
def tPairs:List (TE×TE)->St->Hp->(List (V×V)->Hp->Prop)->Prop
 |[],_,H,Q=>Q [] H
 |(tk,tv)::r,σ,H,Q=>tk σ H λx H1=>tv σ H1 λy H2=>tPairs r σ H2 λps H3=>Q ((x,y)::ps) H3
def mergeK(kvs more:List (Key×V)):List (Key×V):=more.foldl (λacc kv=>putK acc kv.1 kv.2) kvs
def tDisp(trs:List (TE×TE)):TE:=λσ H Q=>∀p,H p=none->tPairs trs σ (upd H p (.dK [])) λps H2=>H2 p=some (.dK [])/\∃kvs:List (Key×V),ps=kvs.map (λkv=>(kV kv.1,kv.2))/\kvs.length<=15/\Q (.ref p) (upd H2 p (.dK (mergeK [] kvs)))
def IsD(H:Hp)(a:Addr):Prop:=(∃kvs,Rd H a (.dK kvs))\/∃kvs,Rd H a (.dT kvs)
def tDGet2(td ty tx:TE):TE:=λσ H Q=>td σ H λx H1=>∃a,x=.ref a/\IsD H1 a/\ty σ H1 λy H2=>tx σ H2 λz H3=>∃o,DGet H3 a y o/\Q (o.getD z) H3
section
variable {κ:Type}[DecidableEq κ]
theorem zny:∀{l:List κ} {k:κ},l.Nodup->¬k∈l->(l++[k]).Nodup
 |[],k,_,_=>by simp
 |a::r,k,h,hk=>by
  obtain⟨h1,h2⟩:=y1r.mp h;show(a::(r++[k])).Nodup;refine y1r.mpr ⟨λm=>?_,zny h2 λm=>hk (y08.mpr (Or.inr m))⟩;rcases y0g.mp m with q|q
  ·exact h1 q
  ·exact hk (y08.mpr (Or.inl (y09.mp q).symm))
end
def notStar:Expr->Bool
 |.Starred _ _=>false
 |_=>true
theorem za7(h:notStar e=true):ij (e::es) env=(false,eval e env)::ij es env:=by
 cases e with
 |Starred v q=>exact absurd (show false=true from h) y0e
 |_=>rw[starEach.eq_def]
theorem zcr:∀{es:List Expr} {env:Env} {pos:Pos},es.all notStar=true->(iV pos (ij es env)).any (·.1)=false
 |[],env,pos,_=>by rw[starEach.eq_def];rfl
 |e::r,env,pos,h=>by
  rw[y1j,y04]at h;rw[za7 h.1];exact zcr h.2
section
variable {X:Cx}{x:Str}{p pos:Pos}{e:Expr}{es:List Expr}{te:TE}{t:TA}{T id:String}{r:List V->Hp->VK->Prop}
theorem pa_c(ha:PE X e te)(hr:PA X es t)(h:notStar e=true:=by rfl):PA X (e::es) (tCons te t):=zsx ha hr (za7 h)
theorem za0(hc:CallR X (.builtin id) r)(hg:Gl X x)(hm:X.mg x=none)(hv:iG x=some (.builtin id))(ha:PA X (e::es) t)(hn:x≠"__name__":=by decide)(hdb:(x==("__debug__":Str))=false:=by decide)
  (h1:notStar e=true:=by rfl) (h2:es.all notStar=true:=by rfl):PE X (.Call (.Name x p) (e::es) [] pos) (tCB r t):=zp0 hc hg hm hv ha hn hdb (za7 h1) (zcr h2)
theorem zbx(hc:CallR X (.type T) r)(hg:Gl X x)(hm:X.mg x=none)(hv:iG x=some (.type T))(ha:PA X (e::es) t)(hn:x≠"__name__":=by decide)(hdb:(x==("__debug__":Str))=false:=by decide)
  (h1:notStar e=true:=by rfl) (h2:es.all notStar=true:=by rfl):PE X (.Call (.Name x p) (e::es) [] pos) (tCB r t):=zm9 hc hg hm hv ha hn hdb (za7 h1) (zcr h2)
end
structure Dfn(K:Frag)(mg:Y1)(x:Str)(st:Stmt)(ps:List Str):Prop where
 ex:∃f fd,Fun K x x st f fd/\Binds K fd ps []/\mg x=some (.ref f)
structure Cal(P:ig)(w:World)(K:Frag)(mg:Y1)(base:Heap)(n:Nat)(x:Str)(ps:List Str)(sp:Sp):Prop where
 ex:∃f fd,FnOk P w K mg base CX0 n f fd ps sp/\Binds K fd ps []/\PySem.W.keepIn K (.ref f)=true/\mg x=some (.ref f)
section
variable {P:ig}{w:World}{K:Frag}{mg:Y1}{base:Heap}
theorem Dfn.cal{x:Str}{st:Stmt}{N ps:List Str}{k:Nat}{sp:Sp}(d:Dfn K mg x st ps)(S:FnScope N ps (defScope st))(len:∀vs H Q E,sp vs H Q E->vs.length=ps.length)
  (hbody:∀(f:Addr) (cdv:Value) (A:ir) (outer:List Env) (s:ic) (H:Hp) (vs:List V) (Q:VK) (E:XK),Room k (A.deeper (iY x (defScope st) s.heap.objs.size f cdv))->sp vs H Q E->
   ∃t,PSs (cxOf CX0 P w K mg base N x (defScope st) f cdv A outer s H E).nox (defBody st) t/\t {nx:=λ_ H'=>Q .non H',rt:=Q} (start N vs) H):Cal P w K mg base (k+1) x ps sp:=by
 obtain⟨f,fd,F,b,m⟩:=d.ex;exact⟨f,fd,F.ok S len (hbody f),b,F.kp,m⟩
theorem Cal.mono(c:Cal P w K mg base j x ps sp)(h:j<=k):Cal P w K mg base k x ps sp:=by
 obtain⟨f,fd,F,r⟩:=c.ex;exact⟨f,fd,F.mono h,r⟩
theorem Dfn.never{x:Str}{st:Stmt}{ps:List Str}{sp:Sp}(d:Dfn K mg x st ps)(no:∀vs H Q E,¬sp vs H Q E):Cal P w K mg base 0 x ps sp:=by
 obtain⟨f,fd,F,b,m⟩:=d.ex;exact⟨f,fd,⟨λvs H Q E h=>absurd h (no vs H Q E),λA outer s H args us vs Q E _ _ _ _ h=>absurd h (no vs H Q E)⟩,b,F.kp,m⟩
end
section
variable {X:Cx}{n k:Nat}{x:Str}{ps:List Str}{sp:Sp}{p pos:Pos}{e:Expr}{es:List Expr}{t:TA}
theorem zae(C:Cal X.prog X.w X.K X.mg X.base n x ps sp)(hr:Room k X.A)(hle:n<=k)(hg:Gl X x)(ha:PA X (e::es) t)(hdb:(x==("__debug__":Str))=false:=by decide)
  (h1:notStar e=true:=by rfl) (h2:es.all notStar=true:=by rfl):PE X (.Call (.Name x p) (e::es) [] pos) (tCall sp [] E0 t):=by
 obtain⟨f,fd,F,b,kp,m⟩:=C.ex;exact zsv F (hr.mono hle) hg m kp b .nil pass0 ha hdb (za7 h1) (zcr h2)
def GlV(mg:Y1)(x:Str)(v:V):Prop:=∃u,mg x=some u/\RelV v u
theorem zbd(hg:Gl X x)(h:GlV X.mg x v)(hd:(x==("__debug__":Str))=false:=by decide):PE X (.Name x pos) (tC v):=by
 obtain⟨u,m,r⟩:=h;exact zst hg m r hd
end
theorem CompOk.of(kind:scope.kind=.function)
  (h1:(scope.names.all λy=>y.2 !=.cell&&(y.2 !=.local||scope.names.lookup y.1==some .local)&&(y.2 !=.free||(X.env.scope.names.lookup y.1==some .cell||X.env.scope.names.lookup y.1==some .free)))=true)
  (h2:(cp.all λp=>X.N[p.1]? ==some p.2&&scope.names.lookup p.2==some .free)=true):CompOk X scope cp:=by
 have g:=y0w.mp h1;refine⟨kind,λy hy e=>?_,λy hy e=>?_,λy hy e=>?_,λp hp=>?_⟩
 ·have q:=g y hy;rw[y04,y04]at q;rw[e]at q;exact absurd q.1.1 (by decide)
 ·have q:=g y hy;rw[y04,y04]at q;have q:=q.1.2;rw[e]at q;simpa using q
 ·have q:=g y hy;rw[y04,y04]at q;have q:=q.2;rw[e]at q;have q:X.env.scope.names.lookup y.1=some .cell\/X.env.scope.names.lookup y.1=some .free:=by simpa using q
  exact q
 ·have q:=y0w.mp h2 p hp;rw[y04]at q;exact⟨by simpa using q.1,by simpa using q.2⟩
inductive Kd(H:Hp):V->String->Prop where
 |non:Kd H .non "NoneType"
 |bl (b:Bool):Kd H (.bl b) "bool"
 |int (i:Int):Kd H (.int i) "int"
 |str (z:Str):Kd H (.str z) "str"
 |lst {a:Addr} {xs:List V} (e:H a=some (.lst xs)):Kd H (.ref a) "list"
 |tup {a:Addr} {xs:List V} (e:H a=some (.tup xs)):Kd H (.ref a) "tuple"
 |dK {a:Addr} {kvs:List (Key×V)} (e:H a=some (.dK kvs)):Kd H (.ref a) "dict"
def kinds:List String:=["NoneType","bool","int","str","list","tuple","dict"]
def subT(k T:String):Bool:=k==T||(k=="bool"&&T=="int")
theorem zve(K:Frag):∀k∈kinds,∀T∈["str","list","tuple","bool","int","dict"],PySem.W.kitOne K (.type k) (.type T)=some (subT k T):=by
 intro k hk T hT;simp only[kinds,y08,y0q,or_false]at hk hT;rcases hk with rfl|rfl|rfl|rfl|rfl|rfl|rfl<;>rcases hT with rfl|rfl|rfl|rfl|rfl|rfl<;>first|rfl|kernel_rfl
theorem Kd.ty{K:Frag}{H:Hp}{x:V}{k:String}(h:Kd H x k):TyOf K H x (.type k)/\k∈kinds:=by
 cases h with
 |non=>exact⟨.non,by decide⟩
 |bl b=>exact⟨.bl b,by decide⟩
 |int i=>exact⟨.int i,by decide⟩
 |str z=>exact⟨.str z,by decide⟩
 |lst e=>exact⟨.lst e,by decide⟩
 |tup e=>exact⟨.tup e,by decide⟩
 |dK e=>exact⟨.dK e,by decide⟩
theorem Kd.same(h:Kd H x k)(g:Same H H'):Kd H' x k:=by
 cases h with
 |non=>exact .non
 |bl b=>exact .bl b
 |int i=>exact .int i
 |str z=>exact .str z
 |lst e=>exact .lst (g _ _ e)
 |tup e=>exact .tup (g _ _ e)
 |dK e=>exact .dK (g _ _ e)
theorem Kd.inj(h:Kd H x k)(h':Kd H x k'):k=k':=by
 cases h with
 |lst e=>cases h' with|lst _=>rfl|tup e'=>rw[e]at e';cases e'|dK e'=>rw[e]at e';cases e'
 |tup e=>cases h' with|lst e'=>rw[e]at e';cases e'|tup _=>rfl|dK e'=>rw[e]at e';cases e'
 |dK e=>cases h' with|lst e'=>rw[e]at e';cases e'|tup e'=>rw[e]at e';cases e'|dK _=>rfl
 |non=>cases h';rfl
 |bl _=>cases h';rfl
 |int _=>cases h';rfl
 |str _=>cases h';rfl
theorem zbs{X:Cx}:CallR X (.builtin "isinstance") (λxs H Q=>∃x T k,xs=[x,.ty T]/\Kd H x k/\T∈["str","list","tuple","bool","int","dict"]/\Q (.bl (subT k T)) H):=by
 intro pins s σ H xs us Q I r h;obtain⟨x,T,k,e,hk,hT,q⟩:=h;obtain⟨h1,h2⟩:=hk.ty (K:=X.K);exact zjc pins s σ H xs us Q I r ⟨x,T,.type k,_,e,h1,zve X.K k h2 T hT,q⟩
theorem za8(h:H p=none)(o:HO):Same H (upd H p o):=λb u q=>by rw[zar (zao q h)];exact q
theorem Same.seqT{K:Frag}{H H':Hp}{a:Addr}{xs:List V}(e:Same H H')(h:SqT K H a xs):SqT K H' a xs:=by
 rcases h with(h|⟨o,h⟩)|h
 ·exact .inl (.inl (e _ _ h))
 ·exact .inl (.inr ⟨o,e _ _ h⟩)
 ·exact .inr h
section
variable {H:Hp}{Q:VK}{v:V}{a:Option V}{r:St}{i:Nat}
theorem za1{t:TS}{D:Ends}{σ:St}(σ':St)(e:σ=σ')(h:t D σ' H):t D σ H:=by rw[e];exact h
theorem zua:tVar 0 (some v::r) H Q=Q v H:=rfl
theorem zt9:tVar (i+1) (a::r) H Q=tVar i r H Q:=rfl
theorem zj2{A B:Prop}:(if true=true then A else B)=A:=rfl
theorem zj3{A B:Prop}:(if false=true then A else B)=B:=rfl
theorem zub{a b:Str}:(scal (.str a) (.str b)=true)=True:=eq_true rfl
theorem zuc{a:Str}{b:Int}:(scal (.str a) (.int b)=true)=True:=eq_true rfl
theorem zue{b:Str}{a:Int}:(scal (.int a) (.str b)=true)=True:=eq_true rfl
theorem zuf{a b:Int}:(scal (.int a) (.int b)=true)=True:=eq_true rfl
theorem zug{a b:Bool}:(scal (.bl a) (.bl b)=true)=True:=eq_true rfl
def cBody(tn:List Str)(cp:Y6)(g:TG)(tif:TT)(te:TE)(σ:St)(Q:VK)(J:It)(H1:Hp):Prop:=∀D,H1 D=none->∃W:Nat->Nat->St->Hp->Prop,
 (∃m,W 0 m (stB tn cp σ) (upd H1 D (.lst [])))/\∀i m σb Hb,W i m σb Hb->
  (J.stop i Hb/\Q (.ref D) Hb)\/(J.go i Hb/\∀x H',J.yld i Hb x H'->g x σb H' λσ2 H2=>tif σ2 H2 λc H3 =>
   if c=true then te σ2 H3 λy H4=>∃ys,H4 D=some (.lst ys)/\ys.length<ie/\∃m',m'<m/\W (i+1) m' σ2 (upd H4 D (.lst (ys++[y])))
   else∃m',m'<m/\W (i+1) m' σ2 H3)
theorem zmw:tComp tn cp wi g tif te σ H Q=wi σ H λJ H1=>cBody tn cp g tif te σ Q J H1:=rfl
def fBody(g:TG)(tb:TS)(D:Ends)(σ:St)(J:It)(H1:Hp):Prop:=∃W:Nat->Nat->St->Hp->Prop,(∃m,W 0 m σ H1)/\∀i m σ H,W i m σ H->
 (J.stop i H/\D.nx σ H)\/(J.go i H/\∃N:St->Hp->Prop,(∀σ' H',N σ' H'->∃m',m'<m/\W (i+1) m' σ' H')/\∀x H',J.yld i H x H'->g x σ H' λσ2 H2=>tb {D with nx:=N,ct:=N,bk:=D.nx} σ2 H2)
theorem zra:tFor wi g tb D σ H=wi σ H λJ H1=>fBody g tb D σ J H1:=rfl
end
section
variable {tn:List Str}{cp:Y6}{g:TG}{tif:TT}{te:TE}{σ0:St}{Q:VK}{H1:Hp}
theorem zly(n:Nat)(Pv:Addr->Nat->List V->St->Hp->Prop)(hn:n<=ie)(h0:∀D,H1 D=none->Pv D 0 [] (stB tn cp σ0) (upd H1 D (.lst [])))
  (hgo:∀D i ys σ H,H1 D=none->i<n->H D=some (.lst ys)->Pv D i ys σ H->J.go i H) (hstop:∀D ys σ H,H1 D=none->H D=some (.lst ys)->Pv D n ys σ H->J.stop n H)
  (hs:∀D i ys σ H x H',H1 D=none->i<n->H D=some (.lst ys)->ys.length<=i->Pv D i ys σ H->J.yld i H x H'->g x σ H' λσ2 H2=>tif σ2 H2 λc H3 =>
   if c=true then te σ2 H3 λy H4=>CStep D n i (Pv D) σ2 y H4 else CSkip D n i (Pv D) σ2 H3)
  (hd:∀D ys σ H,H1 D=none->H D=some (.lst ys)->ys.length<=n->Pv D n ys σ H->Q (.ref D) H):cBody tn cp g tif te σ0 Q J H1:=λD hD =>
 zi8 (Pv D) hn (h0 D hD) (λi ys σ H=>hgo D i ys σ H hD) (λys σ H=>hstop D ys σ H hD) (λi ys σ H hi hH hl p x H' y=>hs D i ys σ H x H' hD hi hH hl p y) (λys σ H=>hd D ys σ H hD)
theorem zvw(Pv:Addr->Nat->List V->St->Hp->Prop)(hn:z.cps.size<=ie)(h0:∀D,H1 D=none->Pv D 0 [] (stB tn cp σ0) (upd H1 D (.lst [])))
  (hs:∀D i ys σ H c,H1 D=none->i<z.cps.size->z.cps[i]?=some c->H D=some (.lst ys)->ys.length<=i->Pv D i ys σ H->g (.str ⟨#[c]⟩) σ H λσ2 H2=>tif σ2 H2 λc H3 =>
   if c=true then te σ2 H3 λy H4=>CStep D z.cps.size i (Pv D) σ2 y H4 else CSkip D z.cps.size i (Pv D) σ2 H3)
  (hd:∀D ys σ H,H1 D=none->H D=some (.lst ys)->ys.length<=z.cps.size->Pv D z.cps.size ys σ H->Q (.ref D) H):cBody tn cp g tif te σ0 Q (Its z) H1:=λD hD =>
 zq3 (Pv D) hn (h0 D hD) (λi ys σ H c=>hs D i ys σ H c hD) (λys σ H=>hd D ys σ H hD)
theorem ze3{K:Frag}{a:Addr}{xs:List V}(Pv:Addr->Nat->List V->St->Hp->Prop)(hn:xs.length<=ie)(h0:∀D,H1 D=none->Pv D 0 [] (stB tn cp σ0) (upd H1 D (.lst [])))
  (hl:∀D i ys σ H,H1 D=none->i<=xs.length->H D=some (.lst ys)->Pv D i ys σ H->SqL K H a xs)
  (hs:∀D i ys σ H x,H1 D=none->i<xs.length->xs[i]?=some x->H D=some (.lst ys)->ys.length<=i->Pv D i ys σ H->g x σ H λσ2 H2=>tif σ2 H2 λc H3 =>
   if c=true then te σ2 H3 λy H4=>CStep D xs.length i (Pv D) σ2 y H4 else CSkip D xs.length i (Pv D) σ2 H3)
  (hd:∀D ys σ H,H1 D=none->H D=some (.lst ys)->ys.length<=xs.length->Pv D xs.length ys σ H->Q (.ref D) H):cBody tn cp g tif te σ0 Q (Itl K a) H1:=λD hD =>
 zoy (Pv D) hn (h0 D hD) (λi ys σ H=>hl D i ys σ H hD) (λi ys σ H x=>hs D i ys σ H x hD) (λys σ H=>hd D ys σ H hD)
theorem zko{K:Frag}{a:Addr}{xs:List V}(Pv:Addr->Nat->List V->St->Hp->Prop)(hn:xs.length<=ie)(h0:∀D,H1 D=none->Pv D 0 [] (stB tn cp σ0) (upd H1 D (.lst [])))
  (hl:∀D i ys σ H,H1 D=none->i<=xs.length->H D=some (.lst ys)->Pv D i ys σ H->SqT K H a xs)
  (hs:∀D i ys σ H x,H1 D=none->i<xs.length->xs[i]?=some x->H D=some (.lst ys)->ys.length<=i->Pv D i ys σ H->g x σ H λσ2 H2=>tif σ2 H2 λc H3 =>
   if c=true then te σ2 H3 λy H4=>CStep D xs.length i (Pv D) σ2 y H4 else CSkip D xs.length i (Pv D) σ2 H3)
  (hd:∀D ys σ H,H1 D=none->H D=some (.lst ys)->ys.length<=xs.length->Pv D xs.length ys σ H->Q (.ref D) H):cBody tn cp g tif te σ0 Q (Itt K a) H1 :=
 zly xs.length Pv hn h0 (λD i ys σ H hD hi hH p=>⟨xs,xs[i],hl D i ys σ H hD (y1w hi) hH p,by simp[hi]⟩) (λD ys σ H hD hH p=>⟨xs,hl D _ ys σ H hD (y01 _) hH p,y01 _⟩) (λD i ys σ H x H' hD hi hH hl' p y=>by
  obtain⟨e,y⟩:=y;subst e;exact hs D i ys σ _ x hD hi (y xs (hl D i ys σ _ hD (y1w hi) hH p)) hH hl' p) hd
variable {tb:TS}{D:Ends}
theorem zez{K:Frag}{a:Addr}{xs:List V}(Pv:Nat->St->Hp->Prop)(h0:Pv 0 σ0 H1)(hl:∀i σ H,i<=xs.length->Pv i σ H->SqL K H a xs)
  (hs:∀i x σ H,xs[i]?=some x->Pv i σ H->g x σ H λσ2 H2=>tb {D with nx:=Pv (i+1),ct:=Pv (i+1),bk:=D.nx} σ2 H2) (hd:∀σ H,Pv xs.length σ H->D.nx σ H):fBody g tb D σ0 (Itl K a) H1:=zqv Pv h0 hl hs hd
theorem zda{lo:Int}{n:Nat}(Pv:Nat->St->Hp->Prop)(h0:Pv 0 σ0 H1)
  (hs:∀i σ H,i<n->Pv i σ H->g (.int (lo+i)) σ H λσ2 H2=>tb {D with nx:=Pv (i+1),ct:=Pv (i+1),bk:=D.nx} σ2 H2) (hd:∀σ H,Pv n σ H->D.nx σ H):fBody g tb D σ0 (Itr lo n) H1:=zok Pv h0 hs hd
end
theorem zj5{α:Type}(xs:List α):∀(i k:Nat),((List.range k).map λm=>i+m).filterMap (λj=>xs[j]?)=(xs.drop i).take k
 |i,0=>by simp
 |i,k+1=>by
  have ih:=zj5 xs (i+1) k;rw[y1g,y0h,y0x,y1z];have e:((λm=>i+m)∘Nat.succ)=λm=>i+1+m:=by funext m;simp[Function.comp];omega
  rw[e];by_cases h:i<xs.length
  ·rw[show i+0=i from rfl,y0b h,ih,List.drop_eq_getElem_cons h,List.take_succ_cons]
  ·rw[show i+0=i from rfl,y23 (by omega),ih,y2m (by omega),y2m (by omega)];simp
def cutL{α:Type}(xs:List α)(lo hi:Option Int):List α:=(xs.drop (HT.sIx xs.length 0 lo)).take (HT.sIx xs.length xs.length hi-HT.sIx xs.length 0 lo)
theorem zvk{a b:Nat}{A B:Int}(hA:A=a)(hB:B=b):PySem.sliceRange A B 1=(List.range (b-a)).map λm=>a+m:=by
 subst hA hB;unfold PySem.sliceRange;simp only[show(1:Int)>0 by decide,if_true];have e3:(if(a:Int)<(b:Int)then((b:Int)-(a:Int)+1-1)/1 else 0).toNat=b-a:=by
  split<;>omega
 rw[e3];refine y2t λm _=>?_;omega
theorem zmm(lo hi:Option Int)(n:Nat):Builtin.Str.strSliceIndices lo hi 1 n=(List.range (HT.sIx n n hi-HT.sIx n 0 lo)).map λm=>HT.sIx n 0 lo+m:=by
 unfold Builtin.Str.strSliceIndices;refine zvk ?_ ?_
 ·cases lo with
  |none=>rfl
  |some v =>
   rw[←HT.clip_eq v n 0];simp only[show(1:Int)>0 by decide,if_true];split<;>omega
 ·cases hi with
  |none=>rfl
  |some v =>
   rw[←HT.clip_eq v n n];simp only[show(1:Int)>0 by decide,if_true];split<;>omega
theorem zmn(z:Str)(lo hi:Option Int):(Txt.slice z lo hi).cps.toList=cutL z.cps.toList lo hi:=by
 have hl:z.cps.toList.length=z.length:=by simp[Str.length]
 unfold Txt.slice cutL;rw[hl,zmm];have p:=zj5 z.cps.toList (HT.sIx z.length 0 lo) (HT.sIx z.length z.length hi-HT.sIx z.length 0 lo);have e:(λ(j:Nat)=>z.cps.toList[j]?)=λ(j:Nat)=>z.cps[j]?:=by funext j;simp
 rw[e]at p;split
 ·rename_i h;simp only[y00,y1p,beq_self_eq_true,y1e,beq_iff_eq]at h;have h1:=HT.sIx_le z.length z.length (y01 _) hi;have h3:=HT.sIx_le z.length 0 (y14 _) lo;have h0:HT.sIx z.length 0 lo=0:=by omega
  have h2:HT.sIx z.length z.length hi-HT.sIx z.length 0 lo=z.length:=h;rw[h2,h0,List.drop_zero,y0o (by rw[hl];exact y01 _)]
 ·rw[←p]
theorem zdb(xs:List α)(k:Nat):cutL xs (some (k:Int)) none=xs.drop k:=by
 unfold cutL;rw[HT.sIx_nat,HT.sIx_none,y0o (by rw[y1v];exact y01 _)];by_cases h:k<=xs.length
 ·rw[y3s h]
 ·rw[y3o (by omega),y2m (y01 _),y2m (by omega)]
theorem zgp(xs:List α)(k:Nat):cutL xs none (some (k:Int))=xs.take k:=by
 unfold cutL;rw[HT.sIx_nat,HT.sIx_none,List.drop_zero,Nat.sub_zero];by_cases h:k<=xs.length
 ·rw[y3s h]
 ·rw[y3o (by omega),y0o (y01 _),y0o (by omega)]
theorem zii(z:Str):z.length=z.cps.toList.length:=by simp[Str.length]
theorem zat{α:Type}{c:α}{r:List α}:atI (c::r) 0=some c:=zak (j:=0) rfl
theorem RcOk.up(h:RcOk X j H x y b)(hjk:j<=k):RcOk X k H x y b:=λpins σ s A u v hu=>h pins σ s A u v (by omega)
theorem zaf(h:n<=1000):n<=ie:=y1w (small1000 h)
theorem zex(hr:Room k A)(j:Nat)(h:j<=64):A.units+j<cLine:=by have:=hr.units;omega
section
variable {K:Frag}{h:Heap}{mg:Y1}
theorem dfn_mk{x:Str}{st:Stmt}{ps:List Str}{f:Addr}{oc:Value}{od an:Option Addr}{osl:Y8}{kV doc pm cdv ct:Value}(X:K.In h)(G:h.Ns io mg)
  (a:PySem.W.nsIn K io x=some (some (.ref f))) (l:K.lookup f=some ⟨oc,od,.func (PySem.W.fnOf x x (defArgs st) (defBody st) (defScope st) .none kV doc pm an cdv ct),osl⟩)
  (c:PySem.W.codeIn K cdv x=true) (k:PySem.W.keepIn K (.ref f)=true)
  (hb:∀(kV doc pm:Value) (an:Option Addr) (cdv ct:Value) (us:List Value),us.length=ps.length->j9 (PySem.W.fnOf x x (defArgs st) (defBody st) (defScope st) .none kV doc pm an cdv ct) ⟨us,[]⟩=pure (ps.zip us)):Dfn K mg x st ps :=
 ⟨f,_,zey l c k,(zey l c k).binds hb,PySem.W.mg_of X G a⟩
theorem law_mk{x y:Str}{st:Stmt}{f fa:Addr}{oc:Value}{od an:Option Addr}{osl:Y8}{kV doc pm cdv ct:Value}(X:K.In h)(G:h.Ns io mg)(hfa:mg x=some (.ref fa))
  (a:PySem.W.nsIn K io x=some (some (.ref f))) (l:K.lookup f=some ⟨oc,od,.func (PySem.W.fnOf x x (defArgs st) (defBody st) (defScope st) .none kV doc pm an cdv ct),osl⟩)
  (c:PySem.W.codeIn K cdv x=true) (k:PySem.W.keepIn K (.ref f)=true) (hb:∀(s:ic) (v:Value),jz s (PySem.W.fnOf x x (defArgs st) (defBody st) (defScope st) .none kV doc pm an cdv ct) ⟨[v],[]⟩ [(y,v)]) :
  ∃fd:iH,(∀(s:ic) (v:Value),jz s fd ⟨[v],[]⟩ [(y,v)])/\Fun K x x st fa fd:=by
 have e:=hfa.symm.trans (PySem.W.mg_of X G a);cases e;exact⟨_,hb,zey l c k⟩
theorem glv_mk(X:K.In h)(G:h.Ns io mg)(a:PySem.W.nsIn K io x=some (some u))(r:RelV v u):GlV mg x v:=⟨u,PySem.W.mg_of X G a,r⟩
end
section
variable {CX:CXT}{P:ig}{w:World}{K:Frag}{mg:Y1}{base:Heap}{N:List Str}{x:Str}{sc:Scope}{f:Addr}{cdv:Value}{A:ir}{outer:List Env}{s:ic}{H:Hp}{E:XK}
theorem cxK:(cxOf CX P w K mg base N x sc f cdv A outer s H E).K=K:=rfl
theorem cxP:(cxOf CX P w K mg base N x sc f cdv A outer s H E).prog=P:=rfl
theorem cxW:(cxOf CX P w K mg base N x sc f cdv A outer s H E).w=w:=rfl
end
section
variable {X:Cx}{st:Stmt}{rest:List Stmt}{t u:TS}{e:Expr}{te:TE}
def tCut(t u:TS):TS:=λD σ H=>∃Pv:St->Hp->Prop,t {D with nx:=Pv} σ H/\∀σ' H',Pv σ' H'->u D σ' H'
theorem zcz(h1:PS X st t)(h2:PSs X rest u):PSs X (st::rest) (tCut t u):=by
 intro pins s σ H D I h;obtain⟨Pv,q1,q2⟩:=h;refine jl (thn (h1 pins s σ H {D with nx:=Pv} I q1) λf s1 q=>?_);cases f with
 |next =>
  obtain⟨σ',H',I',q⟩:=q;exact h2 pins s1 σ' H' D I' (q2 σ' H' q)
 |ret v=>exact q
 |brk=>exact q
 |cont=>exact q
end
local instance (priority:=10000):BEq Key:=instBEqOfDecidableEq
local instance (priority:=10000):LawfulBEq Key:=inferInstanceAs (LawfulBEq (Sum Int Str))
def onceK:List Key->List Key->List Key
 |acc,[]=>acc
 |acc,k::r=>onceK (if k∈acc then acc else acc++[k]) r
theorem zft:∀(ks acc:List Key) (k:Key),onceK acc (ks++[k])=if k∈onceK acc ks then onceK acc ks else onceK acc ks++[k]
 |[],acc,k=>rfl
 |j::r,acc,k=>zft r _ k
theorem zc7:∀(ks acc:List Key),(onceK acc ks).length<=acc.length+ks.length
 |[],acc=>y01 _
 |k::r,acc=>by
  have h:=zc7 r (if k∈acc then acc else acc++[k]);show(onceK (if k∈acc then acc else acc++[k]) r).length<=acc.length+(r.length+1);split at h<;>rename_i c
  ·rw[if_pos c];omega
  ·rw[if_neg c];rw[y0a,y0n]at h;omega
theorem zeq:∀(ks acc:List Key),acc.Nodup->((onceK acc ks).length=acc.length+ks.length↔(acc++ks).Nodup)
 |[],acc,h=>by simp[onceK,h]
 |k::r,acc,h=>by
  show(onceK (if k∈acc then acc else acc++[k]) r).length=acc.length+(r.length+1)↔_;by_cases c:k∈acc
  ·rw[if_pos c];have l:=zc7 r acc;constructor
   ·intro e;omega
   ·intro e;have:=(y3j.mp e).2.2 k c k (y07);exact absurd rfl this
  ·rw[if_neg c];have h':(acc++[k]).Nodup:=zny h c;have ih:=zeq r (acc++[k]) h';rw[y0a,y0n,y2p]at ih;rw[show acc.length+(r.length+1)=acc.length+1+r.length by omega];exact ih
theorem zng(ks:List Key):(onceK [] ks).length=ks.length↔ks.Nodup:=by
 have h:=zeq ks [] y3c;simpa using h
structure SetR{P:ig}{w:World}{T:Type}[DecidableEq T](knd:PySem.KeyKind P w T)(a:Addr)(m:Nat)(Rp:Heap->List T->Prop):Prop where
 kept:∀{h h':Heap} {ks:List T},Rp h ks->(∀o,h.get? a=some o->h'.get? a=some o)->Rp h' ks
 add:∀{A:ir} {E:Y0} {s:ic} {ks:List T} {k:T} {v:Value} {Q:Bool->ic->Prop},knd.is k v=true->ks.length+1<m->Rp s.heap ks->(∀h' b,Heap.SameBut a s.heap h'->Rp h' (ks++[k])->Q b {s with heap:=h'})->wpAny (model P w) A (setAddHashed a v (knd.hash k)) Q E s
section
variable {P:ig}{w:World}{A:ir}{R:Result->ic->Prop}{it:Addr}{fp wr:List Addr}{G:Array jr->Array jr->Prop}{n:Nat}{Pv:Nat->Value->Prop}{St:Nat->ic->Prop}
def SetIs(P:ig)(w:World)(h:Heap)(a:Addr)(ks:List Key):Prop:=h.SetOf (mixKind P w) a (λk=>decide (k∈onceK [] ks)) (onceK [] ks).length
theorem SetIs.kept(x:SetIs P w h a ks)(k:∀o,h.get? a=some o->h'.get? a=some o):SetIs P w h' a ks:=by
 obtain⟨o,es,ep,t,ho,rest⟩:=x;exact⟨o,es,ep,t,k o ho,rest⟩
theorem zsi(h:(mixKind P w).is k v=true):v.scannable=true:=by
 rcases zaz h with⟨i,t,rfl,rfl⟩|⟨x,t,rfl,rfl⟩|⟨c,rfl,rfl⟩<;>rfl
theorem zkx{T:Type}[DecidableEq T]{knd:PySem.KeyKind P w T}{Rp:Heap->List T->Prop}(W:WalksS P w A.in1 it fp wr G n Pv St)(a:Addr)(SR:SetR knd a (n+1) Rp)(ha:a∉fp)(ks:List T)(hn:ks.length=n)(hv:∀i v,Pv i v->∀k,ks[i]?=some k->knd.is k v=true):
  ∀(m i:Nat) (s:ic),n-i=m->i<=n->St i s->Rp s.heap (ks.take i)->(∀s',Moved (a::wr) G s s'->Rp s'.heap ks->R (.ok (.ret .none)) s')->
   iR (model P w) A (.builtin "set.update.loop" ⟨[.ref a,.ref it],[]⟩) R s:=by
 have haw:a∉wr:=λh=>ha (W.sub _ h);have up:∀b∈wr,b∈a::wr:=λb h=>y06 _ h;intro m
 induction m with
 |zero =>
  intro i s hm hi st x q;obtain rfl:i=n:=by omega
  rw[y0o (y48 hn)]at x;refine iI F.entry_set_update_loop ?_;rw[Around.under_plainId F.plain_set_update_loop _];refine ia (W.done s _ _ st λs' mv=>ib (q s' (mv.mono up) (SR.kept x λo e=>mv.heap a _ haw e)))
 |succ m ih =>
  intro i s hm hi st x q;have lt:i<n:=by omega
  have hk:ks[i]?=some ks[i]:=by simp[hn,lt]
  refine iI F.entry_set_update_loop ?_;rw[Around.under_plainId F.plain_set_update_loop _];refine ia (W.item i s _ _ lt st λv s' pv st' mv=>?_);have is:=hv i v pv _ hk;have x':=SR.kept (h':=s'.heap) x λo e=>mv.heap a _ haw e;refine ia (m:=holding [v] (setAdd a v)) (ix ?_);unfold setAdd;refine ix (ia (knd.pyHash (k:=ks[i]) is ?_));refine SR.add (s:={s' with toks:=s'.toks+1}) is (by rw[y13];omega) x' λh' bb sb x2=>?_;have x3:Rp h' (ks.take (i+1)):=by rw[y1i,hk,y2d];exact x2
  refine ib ⟨ji F.plain_set_update_loop _,ih (i+1) _ (by omega) lt (W.frame _ s' _ _ st' (y2s _) λb hb o e=>?_) x3 λs2 mv2 x4=>?_⟩
  ·rw[sb.2 b (λh=>ha (h▸hb))];exact e
  ·refine q s2 (Moved.trans W.gtrans ((mv.mono up).then_heap (y2s _) λb o hb e=>?_) mv2) x4;rw[sb.2 b (λh=>hb (h▸y07))];exact e
theorem zse(a:Addr)(hm:m<iA):SetR (mixKind P w) a m (λh ks=>SetIs P w h a ks):=⟨λx k=>x.kept k,λ{A E s ks k v Q} is hl x q=>by
 have room:=zc7 ks [];rw[y1l]at room;refine wpAny_setAddHashed_of (knd:=mixKind P w) is (zsi is) x (by omega) λh' sb x2=>q h' _ sb ?_;unfold SetIs;rw[zft];refine SetOf_congr x2 (λk'=>?_) ?_
 ·by_cases c:k∈onceK [] ks
  ·rw[if_pos c];by_cases e:k'=k
   ·subst e;simp[c]
   ·simp[e]
  ·rw[if_neg c];simp[y0g]
 ·by_cases c:k∈onceK [] ks
  ·rw[if_pos c];simp[c]
  ·rw[if_neg c];simp[c]⟩
end
section
variable {P:ig}{w:World}{A:ir}{E:Y0}{s:ic}
set_option maxHeartbeats 3200000 in
theorem zmp{T:Type}[DecidableEq T]{knd:PySem.KeyKind P w T}{Rp:Heap->List T->Prop}{Lp:Bool->Prop}{l:Addr}{its:Array Value}{ks:List T}{Q:Y0}(hh:A.handled=none)(hl:s.heap.IsList l its)(hk:ks.length=its.size)(hi:∀(i:Nat) v k,its[i]?=some v->ks[i]?=some k->knd.is k v=true)
  (SR:SetR knd s.heap.objs.size (its.size+1) Rp) (fresh:∀(h:Heap) led,Lp led->h.get? s.heap.objs.size=some {cls:=.type "set",dict:=none,data:=.set #[] 0 (.fresh 0 0 led)}->Rp h [])
  (nw:∀{A:ir},iR (model P w) A (.call (.builtin "set.__new__") ⟨[.type "set",.ref l],[]⟩) (wants (λobj s1=>∃led:Bool,Lp led/\obj=.ref s.heap.objs.size/\s1={s with heap:=s.heap.push {cls:=.type "set",dict:=none,data:=.set #[] 0 (.fresh 0 0 led)} }) E) s)
  (h:∀(h':Heap) (tk:Nat),Rp h' ks->(∀b o,b<s.heap.objs.size->s.heap.get? b=some o->h'.get? b=some o)->Q (.ref s.heap.objs.size) {s with heap:=h',toks:=tk}) :
  wpAny (model P w) A (call (.type "set") [.ref l]) Q E s:=by
 obtain⟨c,tl,hmro⟩:=F.called_set.mro;have made:=F.called_set.made;have sub:=F.called_set.sub;refine wpAny_call (codeAny_of_tree (ib ⟨Code.quiet_builtin _ (by decide+kernel),iI F.entry_type_call ?_⟩));rw[Around.under_plain (weight_type_call_type "set" [.ref l] []) rfl];have a1:=F.called_set.notType;have a2:=F.called_set.canCreate;have a3:=F.typeCall_set_1 (.ref l)
 repeat (any_goals (first|assumption|wp_step))
 refine iS nw λr s1 hr=>?_;cases r with
 |error e=>exact hr
 |ok fl =>
  cases fl with
  |ret obj =>
   obtain⟨led,lp,rfl,rfl⟩:=hr;have at0:(s.heap.push {cls:=.type "set",dict:=none,data:=.set #[] 0 (.fresh 0 0 led)}).get? s.heap.objs.size=some {cls:=.type "set",dict:=none,data:=.set #[] 0 (.fresh 0 0 led)}:=y0d _ rfl;have ty:Shared.TypeIs {s with heap:=s.heap.push {cls:=.type "set",dict:=none,data:=.set #[] 0 (.fresh 0 0 led)} } (.ref s.heap.objs.size) "set":=⟨_,at0,rfl⟩;have i1:=F.called_set.init.lookup;have i2:=F.called_set.init.bind (.ref s.heap.objs.size)
   repeat (any_goals (first|assumption|wp_step))
   refine iS (codeAny_call_builtin (R:=wants (λr s2=>r=.none/\∃h' tk,s2={s with heap:=h',toks:=tk}/\Rp h' ks/\
     (∀b o,b<s.heap.objs.size->s.heap.get? b=some o->h'.get? b=some o)) E) F.called_set.init.plain F.entry_set_init (check_set_init_1 ty ?_)) λr2 s2 hr2=>?_
   ·obtain⟨ol,ho,hc,nl,hd⟩:=hl;obtain⟨oc,od,oda,osl⟩:=ol;simp only at hc hd;subst hc;subst hd;have ho':(s.heap.push {cls:=.type "set",dict:=none,data:=.set #[] 0 (.fresh 0 0 led)}).get? l=some {cls:=.type "list",dict:=od,data:=.seq its nl,slots:=osl}:=y02 _ ho;have b1:=F.sub_list_set;have b2:=F.sub_list_frozenset;have b3:(Value.type "list"==Value.type "dict")=false:=by decide
    have hl1:(s.heap.push {cls:=.type "set",dict:=none,data:=.set #[] 0 (.fresh 0 0 led)}).IsList l its:=⟨_,ho',rfl,nl,rfl⟩;unfold Builtin.«set.__init__» noKeywords Builtin.Frozenset.updateFrom;generalize hPI:js=PI
    wp_walk
    subst hPI;refine iJ hl1 ?_;refine ia (wpAny_runValue ?_);have ll:l<s.heap.objs.size:=y0f ho;have h3:A.in1.in1.in1.handled=none:=by simp[hh]
    have ne:l≠(s.heap.push {cls:=.type "set",dict:=none,data:=.set #[] 0 (.fresh 0 0 led)}).objs.size:=by rw[y10];exact y0i (y2o ll)
    have nf:s.heap.objs.size∉[(s.heap.push {cls:=.type "set",dict:=none,data:=.set #[] 0 (.fresh 0 0 led)}).objs.size,l]:=by
     rw[y10];intro z;rcases y08.mp z with z|z
     ·exact absurd z (y0i (y1u _))
     ·exact absurd (y09.mp z) (y21 ll)
    refine zkx ((Walks.list h3 _ l ne its).toS) s.heap.objs.size SR nf ks hk (λi v pv k e=>hi i v k pv e) (its.size-0) 0 _ (by omega) (y14 _) ⟨⟨_,y0d _ rfl,rfl,rfl⟩,(hl1.push _)⟩ ?x0 ?q0
    case x0 =>
     refine SR.kept (h:=s.heap.push {cls:=.type "set",dict:=none,data:=.set #[] 0 (.fresh 0 0 led)}) ?_ λo e=>y02 _ e;rw[List.take_zero];exact fresh _ led lp at0
    case q0 =>
     intro s' mv x';obtain⟨h',g',d',tk',os'⟩:=s';have eg:g'=s.gens:=mv.gens;have ed:d'=s.drawn:=mv.drawn;have eo:os'=s.os:=mv.os;subst eg;subst ed;subst eo;refine ib (ib ⟨rfl,h',tk',rfl,x',λb o hb e=>mv.heap b o ?_ (y02 _ (y02 _ e))⟩);rw[y10];intro z;rcases y08.mp z with z|z
     ·exact absurd z (y0i hb)
     ·exact absurd (y09.mp z) (y0i (y2o hb))
   ·cases r2 with
    |error e=>exact hr2
    |ok f2 =>
     cases f2 with
     |ret r =>
      obtain⟨rfl,h',tk,rfl,x',k'⟩:=hr2
      repeat (any_goals (first|assumption|wp_step))
      exact h _ _ x' k'
     |_=>exact hr2.elim
  |_=>exact hr.elim
theorem zim{its:Array Value}{ks:List Key}(hh:A.handled=none)(hl:s.heap.IsList l its)(hk:ks.length=its.size)(hi:∀(i:Nat) v k,its[i]?=some v->ks[i]?=some k->(mixKind P w).is k v=true)
  (hb:its.size+1<iA)
  (h:∀(h':Heap) (tk:Nat),SetIs P w h' s.heap.objs.size ks->(∀b o,b<s.heap.objs.size->s.heap.get? b=some o->h'.get? b=some o)->Q (.ref s.heap.objs.size) {s with heap:=h',toks:=tk}) :
  wpAny (model P w) A (call (.type "set") [.ref l]) Q E s :=
 zmp (Lp:=λ_=>True) hh hl hk hi (zse _ hb) (λh led _ at0=>SetOf_congr ((setObjOf_fresh (knd:=mixKind P w) led).setOf at0 (by unfold iA;omega)) (λ_=>rfl) rfl) (code_set_new_1 (.ref l) λled=>⟨led,trivial,rfl,rfl⟩) h
end
def setK(P:ig)(w:World)(a:Addr)(ks:List Key):HO:=.ext λh=>SetIs P w h a ks
theorem zjb(hc:X.calm=true):CallR X (.type "set") (λxs H Q=>∃(p:Addr) (ks:List Key),xs=[.ref p]/\SqL X.K H p (ks.map kV)/\ks.length<=1000/\∀a,H a=none->Q (.ref a) (upd H a (setK X.prog X.w a ks))):=by
 intro pins s σ H xs us Q I r h;obtain⟨p,ks,rfl,hx,hz,q⟩:=h;obtain⟨u,rfl,rx⟩:=vals1 r;cases(show u=Value.ref p from rx);obtain⟨vs,rv,pl,_⟩:=I.list hx;have lv:=rv.length;rw[y00]at lv;refine zim (ks:=ks) (I.ok.hd hc) pl.isList (by rw[y03];exact lv) (λi v k e1 e2=>?_) (by rw[y03];unfold iA;omega) λh' tk x k=>?_
 ·have e1':vs[i]?=some v:=by simpa using e1
  obtain⟨u,e,q⟩:=rv.get (i:=i) (x:=kV k) (by rw[y0k,e2];rfl);rw[e1']at e;cases e;exact zqp q
 ·refine⟨.ref s.heap.objs.size,_,I.laid (t':=tk) (λb u e=>k b u (y0f e) e) (y01 _) ?_,rfl,q _ I.fresh⟩;obtain⟨o,es,ep,t,ho,rest⟩:=id x;exact⟨x,⟨o,ho⟩,λh1 h2 x1 k1=>x1.kept k1⟩
theorem zgu:CallR X (.builtin "len") (λxs H Q=>∃(p:Addr) (ks:List Key),xs=[.ref p]/\H p=some (setK X.prog X.w p ks)/\ks.length<=1000/\Q (.int ((onceK [] ks).length:Int)) H):=by
 intro pins s σ H xs us Q I r h;obtain⟨p,ks,rfl,hx,hz,q⟩:=h;obtain⟨u,rfl,rx⟩:=vals1 r;cases(show u=Value.ref p from rx);obtain⟨x,_⟩:=I.hok p _ hx;obtain⟨o,es,ep,t,ho,hex,hd,_,_,_,hf,hn⟩:=x;have room:=zc7 ks [];rw[y1l]at room;refine call_len_set ho hex hd hf (by rw[hn];omega) ?_;rw[hn];exact⟨.int _,H,I.tok _,⟨_,rfl⟩,q⟩
structure New(H:Hp)(p:Addr)(o:HO)(H':Hp):Prop where
 nil:H p=none
 g:Same H H'
 at':H' p=some o
 eq:H'=upd H p o
theorem New.mk'(h:H p=none)(o:HO):New H p o (upd H p o):=⟨h,za8 h o,zaw,rfl⟩
theorem New.lst{K:Frag}{H H':Hp}{p:Addr}{xs:List V}(n:New H p (.lst xs) H'):SqL K H' p xs:=.of n.at'
theorem Same.wr(g:Same H H')(h:H p=none)(o:HO):Same H (upd H' p o):=λb u e=>by rw[zar (zao e h)];exact g b u e
section
variable {X:Cx}{e:Expr}{es:List Expr}{t:TA}{pos:Pos}
def tTupN(t:TA):TE:=λσ H Q=>t σ H λxs H1=>xs.length<=ie/\∀p H',New H1 p (.tup xs) H'->Q (.ref p) H'
def tLstN(t:TA):TE:=λσ H Q=>t σ H λxs H1=>xs.length<=ie/\∀p H',New H1 p (.lst xs) H'->Q (.ref p) H'
theorem zbf(h:PA X es t):PE X (.Tuple es x1 pos) (tTupN t):=by
 intro pins s σ H Q I hq;refine wpAny_Tuple_spliced (thn (h pos pins s σ H _ I hq) λus s1 ⟨xs,H1,I1,r,z,q⟩=>⟨by rw[←r.length];exact z,?_⟩);refine⟨.ref s1.heap.objs.size,upd H1 s1.heap.objs.size (.tup xs),I1.laid (t':=s1.toks) (λb u e=>y02 _ e) (y01 _) ?_,rfl,q _ _ (.mk' I1.fresh _)⟩;exact⟨z,us,r,⟨_,y0d _ rfl,rfl,_,rfl⟩⟩
theorem zaq(h:PA X es t):PE X (.List es pos) (tLstN t):=by
 intro pins s σ H Q I hq;refine wpAny_List_spliced (thn (h pos pins s σ H _ I hq) λus s1 ⟨xs,H1,I1,r,z,q⟩=>⟨by rw[←r.length];exact z,?_⟩);refine⟨.ref s1.heap.objs.size,upd H1 s1.heap.objs.size (.lst xs),I1.laid (t':=s1.toks) (λb u e=>y02 _ e) (y01 _) ?_,rfl,q _ _ (.mk' I1.fresh _)⟩;exact⟨z,us,0,r,y0d _ rfl⟩
def rSlLN(K:Frag):V->Option Int->Option Int->Hp->VK->Prop:=λx lo hi H Q=>∃a xs,x=.ref a/\SqL K H a xs/\∀p H',New H p (.lst (cutL xs lo hi)) H'->Q (.ref p) H'
theorem zph:SlR X (rSlLN X.K):=λpins s σ H x v vl vu lo hi sl Q I rx hs pl pu h=>by
 obtain⟨a,xs,e,hx,q⟩:=h;exact zsc pins s σ H x v vl vu lo hi sl Q I rx hs pl pu ⟨a,xs,e,hx,λp np=>q p _ (.mk' np _)⟩
def rCatN:R2:=λx y H Q=>∃l b xs zs,x=.ref l/\y=.ref b/\H l=some (.lst xs)/\H b=some (.lst zs)/\xs.length+zs.length<=ie/\∀p H',New H p (.lst (xs++zs)) H'->Q (.ref p) H'
theorem zbj:OpR X (iC .Add) rCatN:=λpins s σ H x y v u Q I rx ry h=>by
 obtain⟨l,b,xs,zs,e1,e2,h1,h2,hz,q⟩:=h;exact zux pins s σ H x y v u Q I rx ry ⟨l,b,xs,zs,e1,e2,h1,h2,hz,λp np=>q p _ (.mk' np _)⟩
theorem zgt:CallR X (.type "list") (λxs H Q=>∃p ys,xs=[.ref p]/\(SqL X.K H p ys\/SqT X.K H p ys)/\∀l H',New H l (.lst ys) H'->Q (.ref l) H'):=λpins s σ H xs us Q I r h=>by
 obtain⟨p,ys,e,hq,q⟩:=h;exact zh5 pins s σ H xs us Q I r ⟨p,ys,e,hq,λl nl=>q l _ (.mk' nl _)⟩
theorem zff:CallR X (.type "tuple") (λxs H Q=>∃p ys,xs=[.ref p]/\((SqL X.K H p ys/\∀l H',New H l (.tup ys) H'->Q (.ref l) H')\/(SqT X.K H p ys/\Q (.ref p) H))):=λpins s σ H xs us Q I r h=>by
 obtain⟨p,ys,e,hq⟩:=h;refine zgs pins s σ H xs us Q I r ⟨p,ys,e,?_⟩;rcases hq with⟨h1,q⟩|h1
 ·exact .inl ⟨h1,λl nl=>q l _ (.mk' nl _)⟩
 ·exact .inr h1
theorem zh2(hc:X.calm=true):CallR X (.type "set") (λxs H Q=>∃(p:Addr) (ks:List Key),xs=[.ref p]/\SqL X.K H p (ks.map kV)/\ks.length<=1000/\∀a H',New H a (setK X.prog X.w a ks) H'->Q (.ref a) H'):=λpins s σ H xs us Q I r h=>by
 obtain⟨p,ks,e,hx,hz,q⟩:=h;exact zjb hc pins s σ H xs us Q I r ⟨p,ks,e,hx,hz,λa na=>q a _ (.mk' na _)⟩
end
section
variable {tn:List Str}{cp:Y6}{g:TG}{tif:TT}{te:TE}{σ0:St}{Q:VK}{H1:Hp}{K:Frag}{a:Addr}{xs:List V}
def PMap(S:St->Prop)(f:V->V)(xs:List V)(H1:Hp)(i:Nat)(ys:List V)(σ:St)(H:Hp):Prop:=Same H1 H/\S σ/\ys=(xs.take i).map f
theorem zja(S:St->Prop)(f:V->V)(hn:xs.length<=1000)(hS:SqL K H1 a xs)(h0:S (stB tn cp σ0))
  (hs:∀D i σ H x,i<xs.length->x∈xs->xs[i]?=some x->Same H1 H->H1 D=none->H D=some (.lst ((xs.take i).map f))->S σ->g x σ H λσ2 H2=>tif σ2 H2 λc H3 =>
   if c=true then te σ2 H3 λy H4=>CStep D xs.length i (PMap S f xs H1) σ2 y H4 else CSkip D xs.length i (PMap S f xs H1) σ2 H3)
  (hd:∀D H,H1 D=none->Same H1 H->H D=some (.lst (xs.map f))->Q (.ref D) H):cBody tn cp g tif te σ0 Q (Itl K a) H1:=by
 refine ze3 (K:=K) (a:=a) (xs:=xs) (λD i ys σ H=>PMap S f xs H1 i ys σ H) (zaf hn) (λD hD=>⟨za8 hD _,h0,rfl⟩) (λD i ys σ H _ _ _ p=>p.1.seq hS) ?_ ?_
 ·rintro D i ys σ H x hD hi hx hH hl ⟨p1,p2,rfl⟩;exact hs D i σ H x hi (y0j hx) hx p1 hD hH p2
 ·rintro D ys σ H hD hH hl ⟨p1,p2,rfl⟩;rw[y0o (y01 _)]at hH;exact hd D H hD p1 hH
theorem zvr(S:St->Prop)(f:V->V)(hn:xs.length<=1000)(hS:SqT K H1 a xs)(h0:S (stB tn cp σ0))
  (hs:∀D i σ H x,i<xs.length->x∈xs->xs[i]?=some x->Same H1 H->H1 D=none->H D=some (.lst ((xs.take i).map f))->S σ->g x σ H λσ2 H2=>tif σ2 H2 λc H3 =>
   if c=true then te σ2 H3 λy H4=>CStep D xs.length i (PMap S f xs H1) σ2 y H4 else CSkip D xs.length i (PMap S f xs H1) σ2 H3)
  (hd:∀D H,H1 D=none->Same H1 H->H D=some (.lst (xs.map f))->Q (.ref D) H):cBody tn cp g tif te σ0 Q (Itt K a) H1:=by
 refine zko (K:=K) (a:=a) (xs:=xs) (λD i ys σ H=>PMap S f xs H1 i ys σ H) (zaf hn) (λD hD=>⟨za8 hD _,h0,rfl⟩) (λD i ys σ H _ _ _ p=>p.1.seqT hS) ?_ ?_
 ·rintro D i ys σ H x hD hi hx hH hl ⟨p1,p2,rfl⟩;exact hs D i σ H x hi (y0j hx) hx p1 hD hH p2
 ·rintro D ys σ H hD hH hl ⟨p1,p2,rfl⟩;rw[y0o (y01 _)]at hH;exact hd D H hD p1 hH
theorem zgq(hn:xs.length<=1000)(hx:xs[i]?=some x)(hD:H1 D=none)(h4:H4 D=some (.lst ((xs.take i).map f)))(g4:Same H1 H4)(s2:S σ2)(e:y=f x):
  CStep D xs.length i (PMap S f xs H1) σ2 y H4:=by
 have hi:i<xs.length:=(y05.mp hx).1;refine cstep (zaf hn) hi h4 (by rw[y00,y13];omega) ⟨g4.wr hD _,s2,?_⟩;rw[y1i,hx,y0r,e];rfl
def PFil(S:St->Prop)(p:V->Bool)(f:V->V)(xs:List V)(H1:Hp)(i:Nat)(ys:List V)(σ:St)(H:Hp):Prop:=Same H1 H/\S σ/\ys=((xs.take i).filter p).map f
theorem zgr(S:St->Prop)(p:V->Bool)(f:V->V)(hn:xs.length<=1000)(hS:SqL K H1 a xs)(h0:S (stB tn cp σ0))
  (hs:∀D i σ H x,i<xs.length->x∈xs->xs[i]?=some x->Same H1 H->H1 D=none->H D=some (.lst (((xs.take i).filter p).map f))->S σ->g x σ H λσ2 H2=>tif σ2 H2 λc H3 =>
   if c=true then te σ2 H3 λy H4=>CStep D xs.length i (PFil S p f xs H1) σ2 y H4 else CSkip D xs.length i (PFil S p f xs H1) σ2 H3)
  (hd:∀D H,H1 D=none->Same H1 H->H D=some (.lst ((xs.filter p).map f))->Q (.ref D) H):cBody tn cp g tif te σ0 Q (Itl K a) H1:=by
 refine ze3 (K:=K) (a:=a) (xs:=xs) (λD i ys σ H=>PFil S p f xs H1 i ys σ H) (zaf hn) (λD hD=>⟨za8 hD _,h0,rfl⟩) (λD i ys σ H _ _ _ p=>p.1.seq hS) ?_ ?_
 ·rintro D i ys σ H x hD hi hx hH hl ⟨p1,p2,rfl⟩;exact hs D i σ H x hi (y0j hx) hx p1 hD hH p2
 ·rintro D ys σ H hD hH hl ⟨p1,p2,rfl⟩;rw[y0o (y01 _)]at hH;exact hd D H hD p1 hH
theorem zvv(S:St->Prop)(p:V->Bool)(f:V->V)(hn:xs.length<=1000)(hS:SqT K H1 a xs)(h0:S (stB tn cp σ0))
  (hs:∀D i σ H x,i<xs.length->x∈xs->xs[i]?=some x->Same H1 H->H1 D=none->H D=some (.lst (((xs.take i).filter p).map f))->S σ->g x σ H λσ2 H2=>tif σ2 H2 λc H3 =>
   if c=true then te σ2 H3 λy H4=>CStep D xs.length i (PFil S p f xs H1) σ2 y H4 else CSkip D xs.length i (PFil S p f xs H1) σ2 H3)
  (hd:∀D H,H1 D=none->Same H1 H->H D=some (.lst ((xs.filter p).map f))->Q (.ref D) H):cBody tn cp g tif te σ0 Q (Itt K a) H1:=by
 refine zko (K:=K) (a:=a) (xs:=xs) (λD i ys σ H=>PFil S p f xs H1 i ys σ H) (zaf hn) (λD hD=>⟨za8 hD _,h0,rfl⟩) (λD i ys σ H _ _ _ p=>p.1.seqT hS) ?_ ?_
 ·rintro D i ys σ H x hD hi hx hH hl ⟨p1,p2,rfl⟩;exact hs D i σ H x hi (y0j hx) hx p1 hD hH p2
 ·rintro D ys σ H hD hH hl ⟨p1,p2,rfl⟩;rw[y0o (y01 _)]at hH;exact hd D H hD p1 hH
theorem ze1(hn:xs.length<=1000)(hx:xs[i]?=some x)(hp:p x=true)(hD:H1 D=none)(h4:H4 D=some (.lst (((xs.take i).filter p).map f)))(g4:Same H1 H4)(s2:S σ2)(e:y=f x):
  CStep D xs.length i (PFil S p f xs H1) σ2 y H4:=by
 have hi:i<xs.length:=(y05.mp hx).1;refine cstep (zaf hn) hi h4 ?_ ⟨g4.wr hD _,s2,?_⟩
 ·rw[y00];have:=y1b p (xs.take i);rw[y13]at this;omega
 ·rw[y1i,hx,y1n,y0r,e];simp[hp]
theorem ze2(hx:xs[i]?=some x)(hp:p x=false)(h3:H3 D=some (.lst (((xs.take i).filter p).map f)))(g3:Same H1 H3)(s2:S σ2):
  CSkip D xs.length i (PFil S p f xs H1) σ2 H3:=by
 have hi:i<xs.length:=(y05.mp hx).1;refine cskip hi h3 ?_ ⟨g3,s2,?_⟩
 ·rw[y00];have:=y1b p (xs.take i);rw[y13]at this;omega
 ·rw[y1i,hx,y1n];simp[hp]
end
end L2
namespace SS
open PySem PySem.Spec PyProof.Rows L2
def SMALL:Str:="abcdefghijklmnopqrstuvwxyz"
def GREAT:Str:="ABCDEFGHIJKLMNOPQRSTUVWXYZ"
def FIGS:Str:="0123456789"
def signIn(c:Nat)(z:Str):Bool:=!(Builtin.Str.occurrences z ⟨#[c]⟩ 0 z.length 1).isEmpty
def nameB(z letters:Str):Bool:=match z.cps.toList with
 |[]=>false
 |c::r=>decide (r.length<=3)&&signIn c letters&&r.all λd=>signIn d FIGS
def isNm(x:V)(letters:Str):Bool:=match x with
 |.str z=>nameB z letters
 |_=>false
def zr8:Sp:=λvs H Q _=>∃x letters k,vs=[x,.str letters]/\Kd H x k/\(∀z,x=.str z->z.length<=1000)/\∀H',Same H H'->Q (.bl (isNm x letters)) H'
def ze8(letters:Str):Sp:=λvs H Q _=>∃x k,vs=[x]/\Kd H x k/\(∀z,x=.str z->z.length<=1000)/\∀H',Same H H'->Q (.bl (isNm x letters)) H'
structure Nam(z letters:Str):Prop where
 ex:∃d ds,z.cps.toList=d::ds/\d∈letters.cps.toList/\ds.length<=3/\∀x∈ds,x∈FIGS.cps.toList
theorem zmo(c:Nat)(z:Str):signIn c z=decide (c∈z.cps.toList):=PySem.StrLaws.found_one z c
def Thing(H:Hp)(y:V):Prop:=(∃k,Kd H y k)/\∀z,y=.str z->z.length<=1000
theorem Thing.same(h:Thing H y)(g:Same H H'):Thing H' y:=⟨let⟨k,q⟩:=h.1;⟨k,q.same g⟩,h.2⟩
theorem Thing.str(h:z.length<=1000):Thing H (.str z):=⟨⟨_,.str z⟩,λz' e=>by cases e;exact h⟩
theorem Thing.tup(e:H a=some (.tup xs)):Thing H (.ref a):=⟨⟨_,.tup e⟩,λz' e=>by cases e⟩
def isName(x:V):Bool:=isNm x SMALL||isNm x GREAT
def zpg:Sp:=λvs H Q _=>∃x,vs=[x]/\Thing H x/\∀H',Same H H'->Q (.bl (isName x)) H'
theorem zdg(h:isName x=true):∃z,x=.str z:=by
 cases x with
 |str z=>exact⟨z,rfl⟩
 |_=>exact absurd h (by simp[isName,isNm])
def frameB(xs:List V):Bool:=decide (xs.length<=4)&&xs.all isName&&decide xs.Nodup
def frB(H:Hp)(x:V):Bool:=match x with
 |.ref a=>match H a with
  |some (.lst xs)=>frameB xs
  |_=>false
 |_=>false
def Things(H:Hp)(xs:List V):Prop:=xs.length<=1000/\∀y∈xs,Thing H y
def zsa:Sp:=λvs H Q _=>∃x,vs=[x]/\Thing H x/\(∀a xs,x=.ref a->H a=some (.lst xs)->Things H xs)/\∀H',Same H H'->Q (.bl (frB H x)) H'
theorem zfx:∀{xs:List V},xs.all isName=true->∃ks:List Key,xs=ks.map kV/\(xs.Nodup↔ks.Nodup)
 |[],_=>⟨[],rfl,by simp⟩
 |x::r,h=>by
  rw[y1j,y04]at h;obtain⟨z,rfl⟩:=zdg h.1;obtain⟨ks,e,n⟩:=zfx h.2;refine⟨Sum.inr z::ks,by rw[y0h,←e];rfl,?_⟩;rw[y1r,y1r,n];refine and_congr_left λ_=>not_congr ?_;rw[e,y0m];constructor
  ·rintro⟨k,hk,e⟩;have:k=Sum.inr z:=zvg (e.trans rfl);exact this▸hk
  ·exactλhk=>⟨_,hk,rfl⟩
def zmj(K:Frag):Sp:=λvs H Q _=>∃(a:Addr) (ns:List Int) (k:Int),vs=[.ref a,.int k]/\SqL K H a (ns.map V.int)/\0<=k/\∀c,Q (.int c) H
def zr9(K:Frag):Sp:=λvs H Q _=>∃(a:Addr) (ns:List Int),vs=[.ref a]/\SqL K H a (ns.map V.int)/\ns.length<=63/\∀H',Q (.bl true) H'
theorem zlq(h1:xs.length<=4)(h2:xs.all isName=true)(h3:xs.Nodup):frameB xs=true:=by
 unfold frameB;rw[decide_eq_true h1,h2,decide_eq_true h3];rfl
theorem zec(f:α->β)(xs:List α)(lo hi:Option Int):cutL (xs.map f) lo hi=(cutL xs lo hi).map f:=by
 unfold cutL;rw[y00,List.map_take,List.map_drop]
end SS
namespace L2
section
variable {X:Cx}{k:Nat}{H:Hp}{a b:Addr}{xs ys:List V}
theorem zoq(a b:Str):eqV (.str a) (.str b)=decide (a=b):=by
 by_cases h:a=b
 ·subst h;simp[eqV]
 ·simp[eqV,h]
theorem zjh:∀(xs ys:List Str),(xs.length==ys.length&&(List.range xs.length).all λj=>eqV ((xs.map V.str).getD j .non) ((ys.map V.str).getD j .non))=decide (xs=ys)
 |[],[]=>rfl
 |[],y::ys=>by simp
 |x::xs,[]=>by simp
 |x::xs,y::ys=>by
  have ih:=zjh xs ys;have e:(List.range (x::xs).length).all (λj=>eqV (((x::xs).map V.str).getD j .non) (((y::ys).map V.str).getD j .non)) =
    (decide (x=y)&&(List.range xs.length).all λj=>eqV ((xs.map V.str).getD j .non) ((ys.map V.str).getD j .non)):=by
   rw[y0c,y1g,y1j,y2c];exact congrArg (· && _) (zoq x y)
  rw[e];have e2:((x::xs).length==(y::ys).length)=(xs.length==ys.length):=by simp
  rw[e2];by_cases hx:x=y
  ·subst hx;rw[decide_eq_true rfl,y1e,ih];simp
  ·rw[decide_eq_false hx,y1d,y20];simp[hx]
theorem zbz(xs:List Str):(xs.map V.str).all flatV=true:=by
 rw[y0w];intro x hx;obtain⟨z,_,rfl⟩:=y0m.mp hx;rfl
def rEqS(K:Frag):R2:=λx y H Q=>∃(a b:Addr) (xs ys:List Str),x=.ref a/\y=.ref b/\SqL K H a (xs.map V.str)/\SqL K H b (ys.map V.str)/\Q (.bl (decide (xs=ys))) H
theorem zuv(hu:X.A.units+8<cLine):OpR X (ii .Eq) (rEqS X.K):=by
 ac_rfl;obtain⟨a,b,xs,ys,rfl,rfl,h1,h2,q⟩:=h;have r:=zdd (X:=X) h1 h2 (zbz xs) (zbz ys);rw[y00,y00,zjh]at r;exact znf (k:=1) (y2f (Nat.add_le_add_left (by decide) _) hu) pins s σ H _ _ v u Q I rx ry ⟨_,r,q⟩
def rNeS(K:Frag):R2:=λx y H Q=>∃(a b:Addr) (xs ys:List Str),x=.ref a/\y=.ref b/\SqL K H a (xs.map V.str)/\SqL K H b (ys.map V.str)/\Q (.bl (!decide (xs=ys))) H
theorem zur(hu:X.A.units+8<cLine):OpR X (ii .NotEq) (rNeS X.K):=by
 ac_rfl;obtain⟨a,b,xs,ys,rfl,rfl,h1,h2,q⟩:=h;cases(show v=Value.ref a from rx);cases(show u=Value.ref b from ry);obtain⟨us,r1,p1,_⟩:=I.list h1;obtain⟨vs,r2,p2,_⟩:=I.list h2;have l1:=r1.length;have l2:=r2.length;have hu':X.A.units<cLine:=by omega
 by_cases hl:us.length=vs.length
 ·have z:=SeqAt.RcNeAt.lists (A:=X.A) (s:=s) (e:=λj=>eqV ((xs.map V.str).getD j .non) ((ys.map V.str).getD j .non)) p1.isList p2.isList (by rw[y03,y03];exact hl) hu' λj h1 h2=>by
   rw[y03]at h1 h2;obtain⟨g1,q1⟩:=r1.at h1;obtain⟨g2,q2⟩:=r2.at h2;have e1:(xs.map V.str).getD j .non=(xs.map V.str)[j]:=by rw[y0u,y0b g1];rfl
   have e2:(ys.map V.str).getD j .non=(ys.map V.str)[j]:=by rw[y0u,y0b g2];rfl
   rw[e1,e2];refine zkj (by simpa using q1) (by simpa using q2) ?_ ?_
   ·exact y0w.mp (zbz xs) _ (y0t g1)
   ·exact y0w.mp (zbz ys) _ (y0t g2)
  have e:=zjh xs ys;rw[y00]at l1 l2;rw[show(xs.length==ys.length)=true by simp;omega,y1e]at e;rw[y03,←l1,e]at z;exact z _ _ _ _ ⟨.bl (!decide (xs=ys)),H,I,rfl,q⟩
 ·have z:=SeqAt.RcNeAt.lists_lengths (A:=X.A) (s:=s) p1.isList p2.isList (by rw[y03,y03];simpa using hl) hu';have e:decide (xs=ys)=false:=decide_eq_false λh=>by rw[h,y00]at l1;rw[y00]at l2;omega
  rw[e]at q;exact z _ _ _ _ ⟨.bl true,H,I,rfl,q⟩
theorem zpm(ha:SqL X.K H a xs)(hb:SqL X.K H b []):RcOk X (k+1) H (.ref a) (.ref b) (decide (xs=[])):=by
 cases xs with
 |nil =>
  have r:=zfo (k:=k) ha hb rfl (λ_=>true) λj h1 _=>by simp at h1
  exact r
 |cons x r=>exact zhj ha hb (by simp)
def rSlTN(K:Frag):V->Option Int->Option Int->Hp->VK->Prop:=λx lo hi H Q=>∃a xs,x=.ref a/\SqT K H a xs/\
 ¬(HT.sIx xs.length 0 lo=0/\HT.sIx xs.length xs.length hi=xs.length)/\∀p H',New H p (.tup (cutL xs lo hi)) H'->Q (.ref p) H'
theorem zsb:SlR X (rSlTN X.K):=λpins s σ H x v vl vu lo hi sl Q I rx hs pl pu h=>by
 obtain⟨a,xs,e,hx,hw,q⟩:=h;exact zt7 pins s σ H x v vl vu lo hi sl Q I rx hs pl pu ⟨a,xs,e,hx,hw,λp np=>q p _ (.mk' np _)⟩
def rStrB(f:Str->Bool):V->List V->Hp->VK->Prop:=λx vs H Q=>∃z,x=.str z/\vs=[]/\Q (.bl (f z)) H
end
section
variable {K:Frag}{h:Heap}{mg:Y1}
theorem glt_mk(X:K.In h)(G:h.Ns io mg)(a:PySem.W.nsIn K io x=some (some (.ref p)))
  (l:K.lookup p=some ⟨.type "tuple",od,.seq its n,sl⟩) (z:its.size<=ie) (r:Vals xs its.toList):∃q,GlV mg x (.ref q)/\∀H,SqT K H q xs :=
 ⟨p,⟨_,PySem.W.mg_of X G a,rfl⟩,λH=>.inr ⟨_,its,n,l,rfl,rfl,z,r⟩⟩
end
section
variable {X:Cx}(K:Frag)
theorem zbg(h:X.K=K:=by rfl):OpR X (ii .In) (rIn K false):=h▸zne
theorem zbr(h:X.K=K:=by rfl):OpR X (ii .NotIn) (rIn K true):=h▸zhn
theorem zax(h:X.K=K:=by rfl):IxR X (rIxL K):=h▸ztj
theorem zai(h:X.K=K:=by rfl):IxR X (rIxT K):=h▸zvh
theorem zbu(h:X.K=K:=by rfl):SlR X (rSlLN K):=h▸zph
theorem zjx(h:X.K=K:=by rfl):SlR X (rSlTN K):=h▸zsb
def rLen:List V->Hp->VK->Prop:=λxs H Q=>∃p ys,xs=[.ref p]/\(SqL K H p ys\/SqT K H p ys)/\Q (.int (List.length ys)) H
theorem zaj(h:X.K=K:=by rfl):CallR X (.builtin "len") (rLen K):=h▸zh7
def rAll:List V->Hp->VK->Prop:=λxs H Q=>∃(p:Addr) (bs:List Bool),xs=[.ref p]/\SqL K H p (bs.map V.bl)/\Q (.bl (bs.all id)) H
theorem zbc(hc:X.calm=true)(h:X.K=K:=by rfl):CallR X (.builtin "all") (rAll K):=h▸zje hc
def rAny:List V->Hp->VK->Prop:=λxs H Q=>∃(p:Addr) (bs:List Bool),xs=[.ref p]/\SqL K H p (bs.map V.bl)/\Q (.bl (bs.any id)) H
theorem zdt(hc:X.calm=true)(h:X.K=K:=by rfl):CallR X (.builtin "any") (rAny K):=h▸zjd hc
def rSum:List V->Hp->VK->Prop:=λxs H Q=>∃(p:Addr) (ns:List Int),xs=[.ref p]/\SqL K H p (ns.map V.int)/\Q (.int ns.sum) H
theorem zdc(hc:X.calm=true)(h:X.K=K:=by rfl):CallR X (.builtin "sum") (rSum K):=h▸zh1 hc
def rListOf:List V->Hp->VK->Prop:=λxs H Q=>∃p ys,xs=[.ref p]/\(SqL K H p ys\/SqT K H p ys)/\∀l H',New H l (.lst ys) H'->Q (.ref l) H'
theorem za6(h:X.K=K:=by rfl):CallR X (.type "list") (rListOf K):=h▸zgt
theorem zs1(hu:X.A.units+8<cLine)(h:X.K=K:=by rfl):OpR X (ii .Eq) (rEqS K):=h▸zuv hu
theorem ziv(hu:X.A.units+8<cLine)(h:X.K=K:=by rfl):OpR X (ii .NotEq) (rNeS K):=h▸zur hu
theorem zbb(hl:PE X l tl)(h:X.K=K:=by rfl):PI X tg l (iList K tl):=h▸zsq hl
theorem zc1(hl:PE X l tl)(h:X.K=K:=by rfl):PI X tg l (iTup K tl):=h▸zuj hl
variable {o e:Expr}{es:List Expr}{to:TE}{t:TA}{name:Str}{apos cpos:Pos}{T id:String}{r:V->List V->Hp->VK->Prop}
theorem zsw(pa:PlainAttrs T)(slot:Slot T name id)(hty:typeOf (.builtin id)=pure (.type "method_descriptor"))(hm:MtR X id r)(ho:PE X o to)(h:X.K=K:=by rfl)
  (hbase:attributeBase o name X.env (eval o X.env)=eval o X.env:=by rfl) (hline:(apos.endLine==cpos.line)=true:=by rfl):PE X (.Call (.Attribute o name apos) [] [] cpos) (tBM0 K T r to):=h▸zuo pa slot hty hm ho hbase hline
theorem zhl(pa:PlainAttrs T)(slot:Slot T name id)(hty:typeOf (.builtin id)=pure (.type "method_descriptor"))(hm:MtR X id r)(ho:PE X o to)(ha:PA X (e::es) t)(h:X.K=K:=by rfl)
  (hbase:attributeBase o name X.env (eval o X.env)=eval o X.env:=by rfl)
  (hfew:((iV cpos (ij (e::es) X.env)).all (λx=>!x.1)&&(backToKw cpos (keywordEach [] X.env)).all (λx=>x.1.isSome)
   && decide ((e::es).length+([]:List Keyword).length+(if([]:List Keyword).isEmpty then 0 else 1)<30))=true:=by rfl)
  (hline:(apos.endLine==cpos.line)=true:=by rfl) (h1:notStar e=true:=by rfl) (h2:es.all notStar=true:=by rfl) :
  PE X (.Call (.Attribute o name apos) (e::es) [] cpos) (tBM K T r to t):=h▸zv5 pa slot hty hm ho ha hbase hfew hline (za7 h1) (zcr h2)
end
end L2
namespace SS
open PySem PySem.Spec PyProof.Rows L2
inductive Sy where
 |bare (w n m:Str)
 |neg (s:Sy)
 |two (w:Str) (s t:Sy)
 |qu (w n:Str) (s:Sy)
def rowWords:List Str:=["ahead","next"]
def treeWords:List Str:=["left","right","above"]
def bareWords:List Str:=["in","same","within","ahead","next","left","right","above"]
def Sy.depth:Sy->Nat
 |.bare _ _ _=>1
 |.neg s=>s.depth+1
 |.two _ s t=>max s.depth t.depth+1
 |.qu _ _ s=>s.depth+1
def Sy.parts:Sy->Nat
 |.bare _ _ _=>1
 |.neg s=>s.parts+1
 |.two _ s t=>s.parts+t.parts+1
 |.qu _ _ s=>s.parts+1
inductive Rep(H:Hp):V->Sy->Prop where
 |bare {a:Addr} {w n m:Str} (hw:w∈bareWords) (e:H a=some (.tup [.str w,.str n,.str m])):Rep H (.ref a) (.bare w n m)
 |neg {a:Addr} {x:V} {s:Sy} (e:H a=some (.tup [.str "not",x])) (h:Rep H x s):Rep H (.ref a) (.neg s)
 |two {a:Addr} {w:Str} {x y:V} {s t:Sy} (hw:w∈(["and","or"]:List Str)) (e:H a=some (.tup [.str w,x,y])) (h1:Rep H x s) (h2:Rep H y t):Rep H (.ref a) (.two w s t)
 |qu {a:Addr} {w n:Str} {x:V} {s:Sy} (hw:w∈(["some","all"]:List Str)) (e:H a=some (.tup [.str w,.str n,x])) (h:Rep H x s):Rep H (.ref a) (.qu w n s)
theorem Rep.same(r:Rep H v s)(g:Same H H'):Rep H' v s:=by
 induction r with
 |bare hw e=>exact .bare hw (g _ _ e)
 |neg e _ ih=>exact .neg (g _ _ e) ih
 |two hw e _ _ ih1 ih2=>exact .two hw (g _ _ e) ih1 ih2
 |qu hw e _ ih=>exact .qu hw (g _ _ e) ih
theorem Rep.tup(r:Rep H v s):∃a xs,v=.ref a/\H a=some (.tup xs):=by
 cases r with
 |bare hw e=>exact⟨_,_,rfl,e⟩
 |neg e _=>exact⟨_,_,rfl,e⟩
 |two hw e _ _=>exact⟨_,_,rfl,e⟩
 |qu hw e _=>exact⟨_,_,rfl,e⟩
theorem zo3:∀w∈bareWords,inV (.str w) [.str "some",.str "all"]=false:=by decide+kernel
theorem zn6:∀w∈(["and","or"]:List Str),inV (.str w) [.str "some",.str "all"]=false:=by decide+kernel
theorem zl9:∀w∈(["some","all"]:List Str),inV (.str w) [.str "some",.str "all"]=true:=by decide+kernel
theorem zqh:inV (.str "not") [.str "some",.str "all"]=false:=by decide+kernel
theorem zeb(z:Str)(l:List Str):inV (.str z) (l.map V.str)=decide (z∈l):=by
 induction l with
 |nil=>rfl
 |cons y r ih =>
  have e:inV (.str z) ((y::r).map V.str)=(eqV (.str y) (.str z)||inV (.str z) (r.map V.str)):=rfl;rw[e,ih,zoq];by_cases h:z=y
  ·subst h;simp
  ·have h':¬y=z:=λq=>h q.symm;simp[h,h']
def addAll:List Str->List Str->List Str
 |f,[]=>f
 |f,x::r=>addAll (if x∈f then f else f++[x]) r
def due:Sy->List Str->List Str->List Str
 |.bare _ n m,told,found=>addAll found ([n,m].filter λx=>decide (x∉told))
 |.neg s,told,found=>due s told found
 |.two _ s t,told,found=>due t told (due s told found)
 |.qu _ n s,told,found=>due s (told++[n]) found
def isT(H:Hp)(x:V):Bool:=match x with
 |.ref a=>match H a with
  |some (.tup _)=>true
  |_=>false
 |_=>false
theorem Kd.isT(h:Kd H x k):subT k "tuple"=isT H x:=by
 cases h with
 |lst e=>simp only[SS.isT,e];decide
 |tup e=>simp only[SS.isT,e];decide
 |dK e=>simp only[SS.isT,e];decide
 |_=>rfl
def zb7:Sp:=λvs H Q _=>∃a xs,vs=[.ref a]/\H a=some (.tup xs)/\xs.length<=1000/\(∀y∈xs,∃k,Kd H y k)/\∀D H',H D=none->Same H H'->H' D=some (.lst (xs.filter (isT H)))->Q (.ref D) H'
def Sy.inner:Sy->List Sy
 |.bare _ _ _=>[]
 |.neg s=>[s]
 |.two _ s t=>[s,t]
 |.qu _ _ s=>[s]
theorem Rep.kd(r:Rep H v s):Kd H v "tuple":=by
 obtain⟨a,xs,rfl,e⟩:=r.tup;exact .tup e
theorem Rep.isT(r:Rep H v s):isT H v=true:=by
 obtain⟨a,xs,rfl,e⟩:=r.tup;simp only[SS.isT,e]
theorem Rep.items(r:Rep H v s):∃a xs,v=.ref a/\H a=some (.tup xs)/\xs.length<=3/\(∀y∈xs,∃k,Kd H y k)/\iq (Rep H) (xs.filter (SS.isT H)) s.inner:=by
 cases r with
 |bare hw e =>
  refine⟨_,_,rfl,e,y01 _,λy hy=>?_,.nil⟩;simp only[y08,y0q,or_false]at hy;rcases hy with rfl|rfl|rfl<;>exact⟨_,.str _⟩
 |neg e h =>
  refine⟨_,_,rfl,e,by simp,λy hy=>?_,?_⟩
  ·simp only[y08,y0q,or_false]at hy;rcases hy with rfl|rfl
   ·exact⟨_,.str _⟩
   ·exact⟨_,h.kd⟩
  ·rw[y2j (by simp[SS.isT]),y2i h.isT];exact .cons h .nil
 |two hw e h1 h2 =>
  refine⟨_,_,rfl,e,by simp,λy hy=>?_,?_⟩
  ·simp only[y08,y0q,or_false]at hy;rcases hy with rfl|rfl|rfl
   ·exact⟨_,.str _⟩
   ·exact⟨_,h1.kd⟩
   ·exact⟨_,h2.kd⟩
  ·rw[y2j (by simp[SS.isT]),y2i h1.isT,y2i h2.isT];exact .cons h1 (.cons h2 .nil)
 |qu hw e h =>
  refine⟨_,_,rfl,e,by simp,λy hy=>?_,?_⟩
  ·simp only[y08,y0q,or_false]at hy;rcases hy with rfl|rfl|rfl
   ·exact⟨_,.str _⟩
   ·exact⟨_,.str _⟩
   ·exact⟨_,h.kd⟩
  ·rw[y2j (by simp[SS.isT]),y2j (by simp[SS.isT]),y2i h.isT];exact .cons h .nil
def Sy.isBare:Sy->Bool
 |.bare _ _ _=>true
 |_=>false
def zc3:Sp:=λvs H Q _=>∃v s,vs=[v]/\Rep H v s/\∀H',Same H H'->Q (.bl s.isBare) H'
theorem Paired.at:∀{xs:List α} {ys:List β} {i:Nat} {x:α},iq R xs ys->xs[i]?=some x->∃y,ys[i]?=some y/\R x y
 |_,_,_,_,.nil,h=>by simp at h
 |_,_,0,_,.cons h _,e=>by simp at e;subst e;exact⟨_,rfl,h⟩
 |_,_,i+1,_,.cons _ h,e=>by simp only[y1x]at e ⊢;exact Paired.at h e
theorem Paired.len:∀{xs:List α} {ys:List β},iq R xs ys->xs.length=ys.length
 |_,_,.nil=>rfl
 |_,_,.cons _ h=>by rw[y0c,y0c,Paired.len h]
theorem zew{s t:Sy}(h:t∈s.inner):t.depth<s.depth/\t.parts<s.parts:=by
 cases s with
 |bare w n m=>exact nomatch h
 |neg s=>rw[y09.mp h];exact⟨y1u _,y1u _⟩
 |two w s1 s2 =>
  have h:t=s1\/t=s2:=by simpa[Sy.inner]using h
  have e1:(Sy.two w s1 s2).depth=max s1.depth s2.depth+1:=rfl;have e2:(Sy.two w s1 s2).parts=s1.parts+s2.parts+1:=rfl;rcases h with rfl|rfl<;>(rw[e1,e2];omega)
 |qu w n s=>rw[y09.mp h];exact⟨y1u _,y1u _⟩
theorem zhb{α:Type}{xs:List α}(h:1<=xs.length):¬(HT.sIx xs.length 0 (some 1)=0/\HT.sIx xs.length xs.length none=xs.length):=λz=>by
 have e:HT.sIx xs.length 0 (some ((1:Nat):Int))=min 1 xs.length:=HT.sIx_nat ..;have e':HT.sIx xs.length 0 (some 1)=min 1 xs.length:=e;rw[e']at z;omega
def isPl(z:Str):Bool:=isNm (.str z) SMALL
def isSt(z:Str):Bool:=isNm (.str z) GREAT
theorem zv8(h:isNm (.str z) l=true):∃c r,z.cps.toList=c::r/\r.length<=3/\c∈l.cps.toList/\∀d∈r,d∈FIGS.cps.toList:=by
 simp only[isNm,nameB]at h;split at h
 ·cases h
 ·rename_i c r e;rw[y04,y04,zmo,decide_eq_true_eq,decide_eq_true_eq,y0w]at h;exact⟨c,r,e,h.1.1,h.1.2,λd hd=>by have:=h.2 d hd;rw[zmo,decide_eq_true_eq]at this;exact this⟩
theorem zld(h:isName (.str z)=true):isPl z=true\/isSt z=true:=by
 unfold isName at h;rw[y25]at h;exact h
theorem zq2(w n:Str)(s:Sy):(Sy.qu w n s).depth=s.depth+1/\(Sy.qu w n s).parts=s.parts+1:=⟨rfl,rfl⟩
end SS
namespace L2
section
variable {P:ig}{w:World}{A:ir}{E:Y0}{s:ic}
theorem ziy(st:s.heap.IsTupleIter j t k)(tp:s.heap.IsTuple t its)(hy:its[k]?=some y)
  (q:∀h',h'.IsTupleIter j t (k+1)->Heap.SameBut j s.heap h'->Q y {s with heap:=h'}):wpAny (model P w) A (Builtin.SmallTypes.nextOf (.ref j)) Q E s:=by
 obtain⟨oj,gj,cj,dj⟩:=id st;obtain⟨ot,gt,_,nt,dt⟩:=tp;unfold Builtin.SmallTypes.nextOf;refine ia (iw (name:=Str.ofString "__next__") st.typeIs F.slot_tuple_iterator_next (ik F.slot_tuple_iterator_next st.typeIs F.entry_tuple_iterator_next ?_ (F.args_tuple_iterator_next_1 _)));show wpAny _ _ (field (.ref j) 0>>=_) _ _ s;refine ia (iz gj dj (x:=.ref t) rfl ?_);show wpAny _ _ (if(Value.ref t==Value.none)=true then _ else _) _ _ s;rw[if_neg (show¬(Value.ref t==Value.none)=true from y0e)];show wpAny _ _ (field (.ref j) 1>>=_) _ _ s;refine ia (iz gj dj (x:=.int k 0) rfl ?_);show wpAny _ _ (seqItems? (.ref t)>>=_) _ _ s;refine ia (i0 gt dt ?_);simp only[y0l,hy];refine ia (i4 gj dj (by simp) (ib ⟨y,rfl,ib (q _ ?_ (Heap.SameBut.update ..))⟩));exact⟨_,y24 _ gj (Obj.isFreed_of_fields (Obj.data_mapFields dj _)),(Obj.cls_mapFields ..).trans cj,by rw[Obj.data_mapFields dj];simp[iD]⟩
theorem zlb(hh:A.handled=none)(st:s.heap.IsTupleIter j t k)(tp:s.heap.IsTuple t its)(hy:its[k]?=none)
  (q:∀h' e,Heap.ExtBut j s.heap h'->(∃o,h'.get? e=some o/\o.cls=.type "StopIteration")->E (.ref e) {s with heap:=h'}):wpAny (model P w) A (Builtin.SmallTypes.nextOf (.ref j)) Q E s:=by
 obtain⟨oj,gj,cj,dj⟩:=id st;obtain⟨ot,gt,_,nt,dt⟩:=tp;unfold Builtin.SmallTypes.nextOf;refine ia (iw (name:=Str.ofString "__next__") st.typeIs F.slot_tuple_iterator_next (ik F.slot_tuple_iterator_next st.typeIs F.entry_tuple_iterator_next ?_ (F.args_tuple_iterator_next_1 _)));show wpAny _ _ (field (.ref j) 0>>=_) _ _ s;refine ia (iz gj dj (x:=.ref t) rfl ?_);show wpAny _ _ (if(Value.ref t==Value.none)=true then _ else _) _ _ s;rw[if_neg (show¬(Value.ref t==Value.none)=true from y0e)];show wpAny _ _ (field (.ref j) 1>>=_) _ _ s;refine ia (iz gj dj (x:=.int k 0) rfl ?_);show wpAny _ _ (seqItems? (.ref t)>>=_) _ _ s;refine ia (i0 gt dt ?_);simp only[y0l,hy];refine ia (iK (ia (i4 gj dj (by simp) ?_)));show wpAny _ _ (newExc (.type "StopIteration") []>>=_) _ _ _;refine ia ?_;simp only[newExc,newTuple];refine ia (iu ?_ (by size_fits));refine ia (m:=ja _ _) (wpAny_of_eq (a:=Value.none) (by simp only[ja];rfl) ?_);refine iu ?_ (by size_fits);simp only[raiseNew];refine ia (wpAny_handled ?_);rw[show A.in1.handled=none from hh];refine ia (ib (wpAny_throw (q _ _ (((Heap.SameBut.update ..).extBut.push _).push _) ⟨_,y0d _ rfl,rfl⟩)))
end
def IsSq(h:Heap)(l:Bool)(t:Addr)(its:Array Value):Prop:=cond l (h.IsList t its) (h.IsTuple t its)
abbrev itn(l:Bool):String:=cond l "list_iterator" "tuple_iterator"
def IsSi(h:Heap)(l:Bool)(j t:Addr)(k:Nat):Prop:=∃o,h.get? j=some o/\o.cls=.type (itn l)/\o.data=.fields #[.ref t,.int k 0]
def SqB(K:Frag)(l:Bool)(H:Hp)(a:Addr)(xs:List V):Prop:=cond l (SqL K H a xs) (SqT K H a xs)
abbrev IsZipF(h:Heap)(z ti ro:Addr)(f0 f1:Value):Prop:=h.get? z=some {cls:=.type "zip",dict:=none,data:=.fields #[f0,f1,.bool false,.ref ti,.ref ro],slots:=#[]}
theorem zlj(h:Q (s.heap.get? a) s):wpAny M A (loadIfAlive a) Q E s:=λ_ _ _=>h
structure ZipG(l1 l2:Bool)(h:Heap)(z ti ro j1 j2 t1 t2:Addr)(i:Nat):Prop where
 z:∃f0 f1,IsZipF h z ti ro f0 f1/\(f0=Value.none\/∃a:Addr,f0=iD a)
 ti:jp h ti (.ref j1) (.ref j2)
 ro:∃a b,jp h ro a b
 j1:IsSi h l1 j1 t1 i
 j2:IsSi h l2 j2 t2 i
section
variable {P:ig}{w:World}{A:ir}{E:Y0}{s:ic}{h h':Heap}{l l1 l2:Bool}{z ti ro j1 j2 t1 t2:Addr}{i:Nat}{its its1 its2:Array Value}{a b j t:Addr}
theorem IsSq.at(x:IsSq h l t its)(k:∀o,h.get? t=some o->h'.get? t=some o):IsSq h' l t its:=by cases l<;>exact let⟨o,e,r⟩:=x;⟨o,k o e,r⟩
theorem IsSq.ext(x:IsSq h l t its)(k:Heap.ExtBut b h h')(n:t≠b):IsSq h' l t its:=x.at λo e=>k t o n e
theorem IsSq.lt(x:IsSq h l t its):t<h.objs.size:=by cases l<;>exact let⟨_,e,_⟩:=x;y0f e
theorem IsSi.at(x:IsSi h l j t i)(k:∀o,h.get? j=some o->h'.get? j=some o):IsSi h' l j t i:=let⟨o,e,r⟩:=x;⟨o,k o e,r⟩
theorem IsSi.ext(x:IsSi h l j t i)(k:Heap.ExtBut b h h')(n:j≠b):IsSi h' l j t i:=x.at λo e=>k j o n e
theorem zgh(st:IsSi s.heap l j t i)(tp:IsSq s.heap l t its)(hy:its[i]?=some y)
  (q:∀h',IsSi h' l j t (i+1)->Heap.SameBut j s.heap h'->Q y {s with heap:=h'}):wpAny (model P w) A (Builtin.SmallTypes.nextOf (.ref j)) Q E s:=by
 cases l
 ·exact ziy st tp hy q
 ·exact wpAny_nextOf_list_item st tp hy q
theorem zrh(hh:A.handled=none)(st:IsSi s.heap l j t i)(tp:IsSq s.heap l t its)(hy:its[i]?=none)
  (q:∀h' e,Heap.ExtBut j s.heap h'->(∃o,h'.get? e=some o/\o.cls=.type "StopIteration")->E (.ref e) {s with heap:=h'}):wpAny (model P w) A (Builtin.SmallTypes.nextOf (.ref j)) Q E s:=by
 cases l
 ·exact zlb hh st tp hy q
 ·exact wpAny_nextOf_list_end hh st tp hy q
theorem zvj(x:IsSq s.heap l t its)(q:Q (.ref s.heap.objs.size) {s with heap:=s.heap.push {cls:=.type (itn l),data:=.fields #[.ref t,.int 0 0]} }):wpAny (model P w) A (js (.ref t)) Q E s:=by
 cases l
 ·exact wpAny_pyIter_tuple x q
 ·exact iJ x q
theorem ZipG.move(Z:ZipG l1 l2 h z ti ro j1 j2 t1 t2 i)(k:∀c∈[z,ti,ro,j1,j2],∀o,h.get? c=some o->h'.get? c=some o):ZipG l1 l2 h' z ti ro j1 j2 t1 t2 i :=
 let⟨f0,f1,zf,hf⟩:=Z.z;let⟨u,v,hro⟩:=Z.ro
 ⟨⟨f0,f1,k z (by simp) _ zf,hf⟩,k ti (by simp) _ Z.ti,⟨u,v,k ro (by simp) _ hro⟩,Z.j1.at λo e=>k j1 (by simp) o e,Z.j2.at λo e=>k j2 (by simp) o e⟩
theorem ZipG.there(Z:ZipG l1 l2 h z ti ro j1 j2 t1 t2 i):∀c∈[z,ti,ro,j1,j2],∃o,h.get? c=some o/\∀v,o.data ≠ .cell v:=λc hc=>by
 obtain⟨f0,f1,zf,hf⟩:=Z.z;obtain⟨u,v,hro⟩:=Z.ro;obtain⟨o1,e1,_,d1⟩:=Z.j1;obtain⟨o2,e2,_,d2⟩:=Z.j2;simp only[y08,y0q,or_false]at hc;rcases hc with rfl|rfl|rfl|rfl|rfl
 ·exact⟨_,zf,λv q=>nomatch q⟩
 ·exact⟨_,Z.ti,λv q=>nomatch q⟩
 ·exact⟨_,hro,λv q=>nomatch q⟩
 ·exact⟨_,e1,λv q=>by rw[d1]at q;cases q⟩
 ·exact⟨_,e2,λv q=>by rw[d2]at q;cases q⟩
theorem ZipG.lt(Z:ZipG l1 l2 h z ti ro j1 j2 t1 t2 i)(hc:c∈[z,ti,ro,j1,j2]):c<h.objs.size:=let⟨_,e,_⟩:=Z.there c hc;y0f e
theorem zfr(hz:IsZipF s.heap z ti ro f0 f1)(hf:f0=Value.none\/∃a:Addr,f0=iD a)(q:∀b h' g1,IsZipF h' z ti ro f0 g1->Heap.SameBut z s.heap h'->Q b {s with heap:=h'}):
  wpAny (model P w) A (Builtin.SmallTypes.ownedTupleIsFree (.ref z)) Q E s:=by
 unfold Builtin.SmallTypes.ownedTupleIsFree;refine ia (iz hz rfl (x:=f0) rfl ?_);rcases hf with rfl|⟨a,rfl⟩
 ·exact ib (q true s.heap f1 hz (Heap.SameBut.refl _ _))
 ·show wpAny _ _ (loadIfAlive _>>=_) _ _ _;refine ia (zlj ?_);cases s.heap.get? (Int.toNat (a:Int))with
  |none =>
   rw[if_pos (show(none:Option Obj).isNone=true from rfl)];exact ib (q true s.heap f1 hz (Heap.SameBut.refl _ _))
  |some o =>
   rw[if_neg (show¬(some o:Option Obj).isNone=true from y0e)];refine ia (iz hz rfl (x:=f1) rfl ?_);by_cases c:(f1 !=Value.bool true)=true
   ·rw[if_pos c];exact ia (i6 hz (by simp) λh' hz' hs'=>ib (q false h' (.bool true) hz' hs'))
   ·rw[if_neg c];exact ib (q false s.heap f1 hz (Heap.SameBut.refl _ _))
theorem zr0{x y:Value}{Q:Y0}(D:ju z ti ro j1 j2 t1 t2)(Z:ZipG l1 l2 s.heap z ti ro j1 j2 t1 t2 i)(p1:IsSq s.heap l1 t1 its1)(p2:IsSq s.heap l2 t2 its2)(hx:its1[i]?=some x)(hy:its2[i]?=some y)
  (q:∀h',ZipG l1 l2 h' z ti ro j1 j2 t1 t2 (i+1)->jp h' s.heap.objs.size x y->h'.objs.size=s.heap.objs.size+1->(∀c o,c∉[z,ti,ro,j1,j2]->s.heap.get? c=some o->h'.get? c=some o)->
   Q (.ref s.heap.objs.size) {s with heap:=h'}):wpAny (model P w) A (Builtin.«zip.__next__» ⟨[.ref z],[]⟩) (λfin s'=>∃v,fin=.done (.ret v)/\Q v s') E s:=by
 obtain⟨f0,f1,zf,hf⟩:=Z.z;obtain⟨a,b,hro⟩:=Z.ro;have off:∀{c},c∉[z,ti,ro,j1,j2]->c≠z/\c≠ro/\c≠j1/\c≠j2:=λh=>⟨λe=>h (by simp[e]),λe=>h (by simp[e]),λe=>h (by simp[e]),λe=>h (by simp[e])⟩;show wpAny _ _ (field (.ref z) 2>>=_) _ _ _;refine ia (iz zf rfl (x:=.bool false) rfl ?_);show wpAny _ _ (field (.ref z) 3>>=_) _ _ _;refine ia (iz zf rfl (x:=.ref ti) rfl ?_);refine ia (i0 Z.ti rfl ?_);show wpAny _ _ (Builtin.SmallTypes.ownedTupleIsFree (.ref z)>>=_) _ _ _;refine ia (zfr zf hf λfree h0 g1 z0 s0=>?_);cases free with
 |true =>
  rw[if_pos rfl];refine ia (iK ?_);refine ia (iz z0 rfl (x:=.ref ro) rfl ?_);refine ia (i6 z0 (by simp) λha hza hsa=>?_);replace hza:IsZipF ha z ti ro .ellipsis g1:=hza;have hsa:=s0.trans hsa;refine ia ?_;simp only[List.zipIdx_cons,List.zipIdx_nil,y2h,y3d];refine ia (ia (j4 ?_));show wpAny _ _ (Builtin.SmallTypes.nextOf (.ref j1)>>=_) _ _ _;refine ia (zgh (Z.j1.ext hsa.extBut D.i1z) (p1.ext hsa.extBut D.l1z) hx λhb b1 hsb=>ib ?_);have rob:jp hb ro a b:=hsb.extBut _ _ D.TOi1 (hsa.extBut _ _ D.TOz hro);refine ia (i0 rob rfl ?_);refine ia (wpAny_updateSeq_pair rob λhc roc hsc=>?_);replace roc:jp hc ro x b:=roc;refine ia (wpAny_letGo (ib ?_));refine ia (ia (j4 ?_));show wpAny _ _ (Builtin.SmallTypes.nextOf (.ref j2)>>=_) _ _ _;refine ia (zgh (((Z.j2.ext hsa.extBut D.i2z).ext hsb.extBut D.i12.symm).ext hsc.extBut D.TOi2.symm) (((p2.ext hsa.extBut D.l2z).ext hsb.extBut D.l2i1).ext hsc.extBut D.l2TO) hy λhd d2 hsd=>ib ?_);have rod:jp hd ro x b:=hsd.extBut _ _ D.TOi2 roc;refine ia (i0 rod rfl ?_);refine ia (wpAny_updateSeq_pair rod λhe roe hse=>?_);replace roe:jp he ro x y:=roe;refine ia (wpAny_letGo (ib (ib ?_)));refine ia (i0 roe rfl ?_);refine ia (jv ?_);have sz:he.objs.size=s.heap.objs.size:=by rw[hse.1,hsd.1,hsc.1,hsb.1,hsa.1]
  have ze:IsZipF he z ti ro .ellipsis g1:=hse.extBut _ _ D.TOz.symm (hsd.extBut _ _ D.i2z.symm (hsc.extBut _ _ D.TOz.symm (hsb.extBut _ _ D.i1z.symm hza)));have ke:∀c o,c≠z/\c≠ro/\c≠j1/\c≠j2->s.heap.get? c=some o->he.get? c=some o:=λc o ⟨c1,c2,c3,c4⟩ e =>
   hse.extBut _ _ c2 (hsd.extBut _ _ c4 (hsc.extBut _ _ c2 (hsb.extBut _ _ c3 (hsa.extBut _ _ c1 e))))
  have zlt:z<he.objs.size:=y0f ze;show wpAny _ _ (Builtin.SmallTypes.ownedTupleHandOut (.ref z) (.ref he.objs.size)>>=_) _ _ _;refine ia ?_;unfold Builtin.SmallTypes.ownedTupleHandOut;refine ia (i6 (y02 _ ze) (by simp) λhg zg hsg=>?_);replace zg:IsZipF hg z ti ro (iD he.objs.size) g1:=zg;refine i6 zg (by simp) λhk zk hsk=>?_;have up:∀c o,c≠z->he.get? c=some o->hk.get? c=some o:=λc o c1 e=>hsk.extBut _ _ c1 (hsg.extBut _ _ c1 (y02 _ e));have tk:jp hk he.objs.size x y:=hsk.extBut _ _ (y21 zlt) (hsg.extBut _ _ (y21 zlt) (y0d _ rfl));have zk8:hk.objs.size=he.objs.size+1:=by rw[hsk.1,hsg.1,y10]
  rw[sz]at tk zk8;refine ib ⟨_,rfl,?_⟩;show Q (.ref he.objs.size) _;rw[sz];exact q hk ⟨⟨_,_,zk,.inr ⟨_,rfl⟩⟩,up _ _ D.TIz (ke _ _ ⟨D.TIz,D.TITO,D.TIi1,D.TIi2⟩ Z.ti),⟨_,_,up _ _ D.TOz roe⟩,(((b1.ext hsc.extBut D.TOi1.symm).ext hsd.extBut D.i12).ext hse.extBut D.TOi1.symm).at λo e=>up _ o D.i1z e,(d2.ext hse.extBut D.TOi2.symm).at λo e=>up _ o D.i2z e⟩ tk zk8
   λc o n e=>up c o (off n).1 (ke c o (off n) e)
 |false =>
  rw[if_neg y0e];refine ia ?_;rw[←y2l];simp only[y2h,y3d];refine ia (ia (ix ?_));show wpAny _ _ (Builtin.SmallTypes.nextOf (.ref j1)>>=_) _ _ _;refine ia (zgh (Z.j1.ext s0.extBut D.i1z) (p1.ext s0.extBut D.l1z) hx λhb b1 hsb=>ib ?_);refine ib ?_;refine ia (ia (ix ?_));show wpAny _ _ (Builtin.SmallTypes.nextOf (.ref j2)>>=_) _ _ _;refine ia (zgh ((Z.j2.ext s0.extBut D.i2z).ext hsb.extBut D.i12.symm) ((p2.ext s0.extBut D.l2z).ext hsb.extBut D.l2i1) hy λhd d2 hsd=>ib ?_);refine ib (ib ?_);refine ia (jv ?_ (show(2:Nat)<=ie by decide));have sz:hd.objs.size=s.heap.objs.size:=by rw[hsd.1,hsb.1,s0.1]
  have tk:jp (hd.push {cls:=.type "tuple",data:=.seq #[x,y]}) hd.objs.size x y:=y0d _ rfl;have zk8:(hd.push {cls:=.type "tuple",data:=.seq #[x,y]}).objs.size=hd.objs.size+1:=y10 ..;rw[sz]at tk zk8;refine ib ⟨_,rfl,?_⟩;show Q (.ref hd.objs.size) _;rw[sz];have ke:∀c o,c≠z/\c≠j1/\c≠j2->s.heap.get? c=some o->(hd.push {cls:=.type "tuple",data:=.seq #[x,y]}).get? c=some o:=λc o n e =>
   y02 _ (hsd.extBut _ _ n.2.2 (hsb.extBut _ _ n.2.1 (s0.extBut _ _ n.1 e)))
  exact q _ ⟨⟨_,_,y02 _ (hsd.extBut _ _ D.i2z.symm (hsb.extBut _ _ D.i1z.symm z0)),hf⟩,ke _ _ ⟨D.TIz,D.TIi1,D.TIi2⟩ Z.ti,⟨_,_,ke _ _ ⟨D.TOz,D.TOi1,D.TOi2⟩ hro⟩,(b1.ext hsd.extBut D.i12).at λo e=>y02 _ e,d2.at λo e=>y02 _ e⟩ tk zk8
   λc o n e=>ke c o ⟨(off n).1,(off n).2.2⟩ e
theorem zt0(hh:A.handled=none)(D:ju z ti ro j1 j2 t1 t2)(Z:ZipG l1 l2 s.heap z ti ro j1 j2 t1 t2 i)(p1:IsSq s.heap l1 t1 its1)(hx:its1[i]?=none)
  (q:∀h' e,(∀c o,c∉[z,ti,ro,j1,j2]->s.heap.get? c=some o->h'.get? c=some o)->(∃o,h'.get? e=some o/\o.cls=.type "StopIteration")->E (.ref e) {s with heap:=h'}):wpAny (model P w) A (Builtin.«zip.__next__» ⟨[.ref z],[]⟩) Q E s:=by
 obtain⟨f0,f1,zf,hf⟩:=Z.z;show wpAny _ _ (field (.ref z) 2>>=_) _ _ _;refine ia (iz zf rfl (x:=.bool false) rfl ?_);show wpAny _ _ (field (.ref z) 3>>=_) _ _ _;refine ia (iz zf rfl (x:=.ref ti) rfl ?_);refine ia (i0 Z.ti rfl ?_);show wpAny _ _ (Builtin.SmallTypes.ownedTupleIsFree (.ref z)>>=_) _ _ _;refine ia (zfr zf hf λfree h0 g1 z0 s0=>?_);cases free with
 |true =>
  rw[if_pos rfl];refine ia (iK ?_);refine ia (iz z0 rfl (x:=.ref ro) rfl ?_);refine ia (i6 z0 (by simp) λha hza hsa=>?_);replace hza:IsZipF ha z ti ro .ellipsis g1:=hza;have hsa:=s0.trans hsa;refine ia ?_;simp only[List.zipIdx_cons,List.zipIdx_nil,y2h,y3d];refine ia (ia (j4 ?_));show wpAny _ _ (Builtin.SmallTypes.nextOf (.ref j1)>>=_) _ _ _;refine ia (zrh hh (Z.j1.ext hsa.extBut D.i1z) (p1.ext hsa.extBut D.l1z) hx λhb e hsb ⟨oe,ge,ce⟩=>?_);have zb:IsZipF hb z ti ro .ellipsis g1:=hsb _ _ D.i1z.symm hza;have nez:e≠z:=λz'=>by
   subst z';rw[zb]at ge;cases ge;simp at ce
  refine i6 zb (by simp) λhc _ hsc=>?_;exact q _ _ (λc o n x=>hsc.extBut _ _ (λe=>n (by simp[e])) (hsb _ _ (λe=>n (by simp[e])) (hsa.extBut _ _ (λe=>n (by simp[e])) x))) ⟨oe,hsc.extBut _ _ nez ge,ce⟩
 |false =>
  rw[if_neg y0e];refine ia ?_;rw[←y2l];simp only[y2h,y3d];refine ia (ia (ix ?_));show wpAny _ _ (Builtin.SmallTypes.nextOf (.ref j1)>>=_) _ _ _;refine ia (zrh hh (Z.j1.ext s0.extBut D.i1z) (p1.ext s0.extBut D.l1z) hx λhb e hsb ex=>?_);exact q _ _ (λc o n x=>hsb _ _ (λe=>n (by simp[e])) (s0.extBut _ _ (λe=>n (by simp[e])) x)) ex
theorem zrz(D:ju z ti ro j1 j2 t1 t2)(Z:ZipG l1 l2 s.heap z ti ro j1 j2 t1 t2 i)(p1:IsSq s.heap l1 t1 its1)(p2:IsSq s.heap l2 t2 its2)(hx:its1[i]?=some x)(hy:its2[i]?=some y)
  (q:∀h',ZipG l1 l2 h' z ti ro j1 j2 t1 t2 (i+1)->jp h' s.heap.objs.size x y->h'.objs.size=s.heap.objs.size+1->(∀c o,c∉[z,ti,ro,j1,j2]->s.heap.get? c=some o->h'.get? c=some o)->
   Q (some (.ref s.heap.objs.size)) {s with heap:=h'}):wpAny (model P w) A (jg (.ref z)) Q E s:=by
 have hT:s.TypeIs (.ref z) "zip":=let⟨_,_,zf,_⟩:=Z.z;⟨_,zf,rfl⟩;unfold jg;exact ia (jk (iw (name:=Str.ofString "__next__") hT F.slot_zip_next (ik F.slot_zip_next hT F.entry_zip_next (zr0 D Z p1 p2 hx hy λh' a b c d=>ib (q h' a b c d)) (F.args_zip_next_1 _))))
theorem ztz(hh:A.handled=none)(D:ju z ti ro j1 j2 t1 t2)(Z:ZipG l1 l2 s.heap z ti ro j1 j2 t1 t2 i)(p1:IsSq s.heap l1 t1 its1)(hx:its1[i]?=none)
  (q:∀h',(∀c o,c∉[z,ti,ro,j1,j2]->s.heap.get? c=some o->h'.get? c=some o)->Q none {s with heap:=h'}):wpAny (model P w) A (jg (.ref z)) Q E s:=by
 have hT:s.TypeIs (.ref z) "zip":=let⟨_,_,zf,_⟩:=Z.z;⟨_,zf,rfl⟩;unfold jg;refine ia (jk (iw (name:=Str.ofString "__next__") hT F.slot_zip_next (ik F.slot_zip_next hT F.entry_zip_next (zt0 hh D Z p1 hx λh' e k ⟨oe,ge,ce⟩=>?_) (F.args_zip_next_1 _))));exact ia (iE (T:="StopIteration") (b:=true) ⟨oe,ge,ce⟩ isSubtype_stop (ib (q _ k)))
theorem zvl(Z:ZipG l1 l2 s.heap z ti ro j1 j2 t1 t2 i)(D:ju z ti ro j1 j2 t1 t2)
  (q:∀h',ZipG l1 l2 h' z ti ro j1 j2 t1 t2 i->Heap.SameBut z s.heap h'->Q () {s with heap:=h'}):wpAny (model P w) A (iB (.Tuple elts x1 pos) (.ref z) (.ref T)) Q E s:=by
 obtain⟨f0,f1,zf,hf⟩:=Z.z;unfold iB;refine ia (wpAny_load zf ?_);show wpAny _ _ (if _=true then _ else _) Q E s;split
 ·refine ia (iK ?_);show wpAny _ _ (setField (.ref z) 0 .none) Q E s;exact i6 zf (by simp) λh' hz' hs'=>q h' ⟨⟨_,_,hz',.inl rfl⟩,hs'.extBut _ _ D.TIz Z.ti,let⟨u,v,e⟩:=Z.ro;⟨u,v,hs'.extBut _ _ D.TOz e⟩,Z.j1.ext hs'.extBut D.i1z,Z.j2.ext hs'.extBut D.i2z⟩ hs'
 ·exact ib (q _ Z (Heap.SameBut.refl _ _))
theorem zkg(Z:ZipG l1 l2 s.heap z ti ro j1 j2 t1 t2 i)(h:Q (.ref z) s):wpAny (model P w) A (js (.ref z)) Q E s:=by
 have hT:s.TypeIs (.ref z) "zip":=let⟨_,_,zf,_⟩:=Z.z;⟨_,zf,rfl⟩;refine jf hT F.slot_zip_iter (ik F.slot_zip_iter hT F.entry_zip_iter ?_ (F.args_zip_iter_1 _));show wpAny _ _ (ret (.ref z)) _ _ s;exact ib ⟨_,rfl,"zip",_,hT,F.slot_zip_next.lookup,h⟩
end
abbrev zt1(l:Bool)(h:Heap)(a:Addr):Heap:=h.push {cls:=.type (itn l),data:=.fields #[.ref a,.int 0 0]}
abbrev zt3(l1 l2:Bool)(h:Heap)(a b:Addr):Heap:=(zt1 l2 (zt1 l1 h a) b).push {cls:=.type "tuple",data:=.seq #[.ref h.objs.size,.ref (zt1 l1 h a).objs.size]}
abbrev zt4(l1 l2:Bool)(h:Heap)(a b:Addr):Heap:=(zt3 l1 l2 h a b).push {cls:=.type "tuple",data:=.seq #[.none,.none]}
abbrev zt5(l1 l2:Bool)(h:Heap)(a b:Addr):Heap:=(zt4 l1 l2 h a b).push {cls:=.type "zip",data:=.fields #[.none,.bool false,.bool false,.ref (zt1 l2 (zt1 l1 h a) b).objs.size,.ref (zt3 l1 l2 h a b).objs.size]}
theorem zty(l1 l2:Bool)(a b:Addr)(xs ys:Array Value):Meets (Builtin.«zip.__new__» ⟨[.type "zip",.ref a,.ref b],[]⟩) (λ_ R s=>IsSq s.heap l1 a xs/\IsSq s.heap l2 b ys/\R (.ok (.ret (.ref (zt4 l1 l2 s.heap a b).objs.size))) {s with heap:=zt5 l1 l2 s.heap a b}) :=
 .of_wp λprog w A R s h=>by
  obtain⟨hp,g,d,tk,os⟩:=s;obtain⟨ha,hb,h⟩:=h;have hsub:=sub_zip;have hA:IsSq (Shared.heap ⟨hp,g,d,tk,os⟩) l1 a xs:=ha;have hB:IsSq (Shared.heap ⟨hp.push {cls:=.type (itn l1),data:=.fields #[.ref a,.int 0 0]},g,d,tk,os⟩) l2 b ys:=hb.at λo e=>y02 _ e
  wp_walk using zvj hA,zvj hB
  exact⟨_,rfl,h⟩
theorem zry(ha:IsSq s.heap l1 a xs)(hb:IsSq s.heap l2 b ys)
  (q:∀h',IsZip h' (s.heap.objs.size+4) (s.heap.objs.size+2) (s.heap.objs.size+3) .none->ZipG l1 l2 h' (s.heap.objs.size+4) (s.heap.objs.size+2) (s.heap.objs.size+3) s.heap.objs.size (s.heap.objs.size+1) a b 0->h'.objs.size=s.heap.objs.size+5->(∀c o,s.heap.get? c=some o->h'.get? c=some o)->Q (.ref (s.heap.objs.size+4)) {s with heap:=h'}) :
  wpAny (model P w) A (call (.type "zip") [.ref a,.ref b]) Q E s:=by
 refine callType_new F.called_zip (by decide) (F.typeCall_zip_2 _ _) (F.newCall_zip_2 _ _) (λobj=>F.args_object_init_3 obj _ _) F.entry_zip_new (zty l1 l2 a b xs ys) ⟨ha,hb,?_⟩;have s1:(zt1 l1 s.heap a).objs.size=s.heap.objs.size+1:=y10 ..;have s2:(zt1 l2 (zt1 l1 s.heap a) b).objs.size=s.heap.objs.size+2:=by rw[y10,s1]
 have s3:(zt3 l1 l2 s.heap a b).objs.size=s.heap.objs.size+3:=by rw[y10,s2]
 have s4:(zt4 l1 l2 s.heap a b).objs.size=s.heap.objs.size+4:=by rw[y10,s3]
 have s5:(zt5 l1 l2 s.heap a b).objs.size=s.heap.objs.size+5:=by rw[y10,s4]
 have k5:(zt5 l1 l2 s.heap a b).get? (zt4 l1 l2 s.heap a b).objs.size=some _:=y0d _ rfl;have up:∀c o,(zt3 l1 l2 s.heap a b).get? c=some o->(zt5 l1 l2 s.heap a b).get? c=some o:=λc o e=>y02 _ (y02 _ e);have k4:(zt5 l1 l2 s.heap a b).get? (zt3 l1 l2 s.heap a b).objs.size=some _:=y02 _ (y0d _ rfl);have k3:=up _ _ (y0d _ rfl);have k2:=up (zt1 l1 s.heap a).objs.size _ (y02 _ (y0d _ rfl));have k1:=up s.heap.objs.size _ (y02 _ (y02 _ (y0d _ rfl)));rw[s2,s3,s4]at k5;rw[s1,s2]at k3;rw[s3]at k4;rw[s1]at k2;show _/\_;rw[s4];exact⟨⟨_,k5,rfl⟩,q _ k5 ⟨⟨_,_,k5,.inl rfl⟩,k3,⟨_,_,k4⟩,⟨_,k1,rfl,rfl⟩,⟨_,k2,rfl,rfl⟩⟩ s5 λc o x=>up _ _ (y02 _ (y02 _ (y02 _ x)))⟩
section
variable {X:Cx}{pins:Y2}{σ:St}{H:Hp}{s:ic}{h':Heap}
theorem Inv.turnedL{t':Nat}{L:List Addr}(I:Inv X pins σ H s)(k:∀b o,b∉L->s.heap.get? b=some o->h'.get? b=some o)(hL:∀b∈L,FpOk X pins H b):Inv X pins σ H {s with heap:=h',toks:=t'}:=by
 have no:∀b u,H b=some u->b∉L:=λb u e z=>by rw[(hL b z).1]at e;cases e
 refine I.step (g':=s.gens) (d':=s.drawn) (ch:=L) (λb hb=>?_) (λb o _ _ hc e _=>k b o hc e) (λb o _ _ hc e _=>⟨o.slots,k b o hc e⟩) (λ_ _ _ _ n=>n)
  (λb o hc e=>⟨o,k b o hc e⟩) (λ_ _ e=>e) (λ_ _ _ e=>e) (λ_ _ _ e=>e) (λm hm=>?_) (λb u e=>?_) I.bare
 ·obtain⟨_,f1,_,f3,f4,f5⟩:=hL b hb;exact⟨f3,f1,f4,f5⟩
 ·obtain⟨o,es,ep,ho,r⟩:=hm;exact⟨o,es,ep,k _ o (λz=>(hL _ z).2.1 rfl) ho,r⟩
 ·refine(I.hok b u e).stay (λc v hc q=>k c v ?_ q) (λ_ q=>q) (λ_ _ _ _ _ q=>q) λ_ _ q=>q;rcases hc with z|z
  ·rw[z];exact no b u e
  ·exact no c _ z
theorem Inv.turnedNew{t':Nat}{L:List Addr}{p:Addr}{o:HO}(I:Inv X pins σ H s)(k:∀b u,b∉L->s.heap.get? b=some u->h'.get? b=some u)(hL:∀b∈L,FpOk X pins H b)(hp:s.heap.objs.size<=p)(new:ObjOk X.prog X.w (upd H p o) h' p o)
  (hl:∀b∈L,∃u,h'.get? b=some u):Inv X pins σ (upd H p o) {s with heap:=h',toks:=t'}:=by
 have hn:H p=none:=I.hok.fresh hp;have no:∀b u,H b=some u->b∉L:=λb u e z=>by rw[(hL b z).1]at e;cases e
 have ne:∀b u,H b=some u->upd H p o b=some u:=λb u e=>by rw[zar (zao e hn)];exact e
 refine I.step (g':=s.gens) (d':=s.drawn) (ch:=L) (λb hb=>?_) (λb u _ _ hc e _=>k b u hc e) (λb u _ _ hc e _=>⟨u.slots,k b u hc e⟩) (λb u _ e z=>?_)
  (λb u hc e=>⟨u,k b u hc e⟩) (λb xs e=>ne b _ e) (λb ob u e=>ne b _ e) (λb _ _ e=>ne b _ e) (λm hm=>?_) (λb u e=>?_) I.bare
 ·obtain⟨_,f1,_,f3,f4,f5⟩:=hL b hb;exact⟨f3,f1,f4,f5⟩
 ·rw[zar (y0i (y0p (y0f e) hp))];exact z
 ·obtain⟨ob,es,ep,ho,r⟩:=hm;exact⟨ob,es,ep,k _ ob (λz=>(hL _ z).2.1 rfl) ho,r⟩
 ·by_cases hb:b=p
  ·subst hb;rw[zaw]at e;cases e;exact new
  ·rw[zar hb]at e;refine(I.hok b u e).stay (λc v hc q=>k c v ?_ q) (λc q=>ne c _ q) (λc _ _ _ _ q=>ne c _ q) λc xs q=>ne c _ q;rcases hc with z|z
   ·rw[z];exact no b u e
   ·exact no c _ z
end
section
variable {X:Cx}{pins:Y2}{σ:St}{H H':Hp}{s:ic}{l:Bool}{a:Addr}{xs ys:List V}
theorem Inv.sq(I:Inv X pins σ H s)(h:SqB X.K l H a xs):∃its:List Value,Vals xs its/\IsSq s.heap l a its.toArray:=by
 cases l
 ·exact let⟨its,r,p,_⟩:=I.tuple h;⟨its,r,p⟩
 ·exact let⟨its,r,p,_⟩:=I.list h;⟨its,r,p.isList⟩
theorem Inv.sq_inj(I:Inv X pins σ H s)(h:SqB X.K l H a xs)(h':SqB X.K l H a ys):xs=ys:=by
 cases l
 ·exact I.tuple_inj h h'
 ·exact I.list_inj h h'
theorem zle(hc:c∈[n+4,n+2,n+3,n,n+1]):n<=c:=by
 simp only[y08,y0q,or_false]at hc;omega
theorem star2{a b:Expr}{env:Env}(h1:notStar a=true)(h2:notStar b=true):ij [a,b] env=[(false,eval a env),(false,eval b env)]:=by rw[za7 h1,za7 h2,starEach.eq_def]
end
def ItB(K:Frag)(l1 l2:Bool)(a b:Addr):It :=
 ⟨λi H=>∃xs ys x y,SqB K l1 H a xs/\SqB K l2 H b ys/\xs[i]?=some x/\ys[i]?=some y,
  λi H v H'=>∃p x y,v=.ref p/\New H p (.tup [x,y]) H'/\(∀xs,SqB K l1 H a xs->xs[i]?=some x)/\∀ys,SqB K l2 H b ys->ys[i]?=some y,
  λi H=>∃xs ys,SqB K l1 H a xs/\SqB K l2 H b ys/\xs.length<=i⟩
theorem zpa{P:ig}{w:World}{K:Frag}{l1 l2:Bool}{elts:List Expr}{x1}{tpos:Pos}(z ti ro j1 j2 a b:Addr)(D:ju z ti ro j1 j2 a b):
  Turn P w K (.Tuple elts x1 tpos) (ItB K l1 l2 a b) [z,ti,ro,j1,j2] z (λi h=>ZipG l1 l2 h z ti ro j1 j2 a b i) where
 mem:=by simp
 obj:=λi h st=>st.there
 keep:=λi h h' st k=>st.move k
 item:=by
  infer_instance;subst hP hw hK;obtain⟨xs,ys,x,y,hx,hy,ex,ey⟩:=hg;obtain⟨its1,r1,p1⟩:=I.sq hx;obtain⟨its2,r2,p2⟩:=I.sq hy;obtain⟨u,hu,ru⟩:=r1.get ex;obtain⟨v,hv,rv⟩:=r2.get ey;refine zrz D st p1 p2 (x:=u) (y:=v) (by simpa using hu) (by simpa using hv) λh1 Z1 q1 sz1 k1=>⟨_,rfl,?_⟩;refine zvl Z1 D λh2 st2 sb2=>?_;have hlt:∀c∈[z,ti,ro,j1,j2],c≠s.heap.objs.size:=λc hc=>y0i (st.lt hc);have I2:Inv X pins σ (upd H s.heap.objs.size (.tup [x,y])) {s with heap:=h2,toks:=s.toks}:=I.turnedNew (λc o hc e=>sb2.extBut _ _ (λq=>hc (by simp[q])) (k1 c o hc e)) hf (y01 _)
   ⟨zaf (by simp),[u,v],.cons ru (.cons rv .nil),⟨_,sb2.extBut _ _ (Ne.symm (hlt z (by simp))) q1,rfl,_,rfl⟩⟩ λc hc=>let⟨o,e,_⟩:=st2.there c hc;⟨o,e⟩
  refine⟨.ref s.heap.objs.size,_,I2,rfl,⟨_,x,y,rfl,.mk' I.fresh _,λws hw=>by rw[I.sq_inj hw hx];exact ex,λws hw=>by rw[I.sq_inj hw hy];exact ey⟩,st2,λc hc=>?_⟩;rw[zar (hlt c hc)];exact(hf c hc).1
 done:=by
  infer_instance;subst hP hw hK;obtain⟨xs,ys,hx,hy,hl⟩:=hg;obtain⟨its1,r1,p1⟩:=I.sq hx;exact ztz (I.ok.hd hc) D st p1 (by simpa[←r1.length]using hl) λh' k=>⟨rfl,I.turnedL (t':=s.toks) k hf⟩
 self:=λ_ _ _ _ _ st h=>zkg st h
def iZB(K:Frag)(l1 l2:Bool)(ta:TA):TI:=λσ H R=>ta σ H λvs H1=>∃a b,vs=[.ref a,.ref b]/\(∃xs,SqB K l1 H1 a xs)/\(∃ys,SqB K l2 H1 b ys)/\R (ItB K l1 l2 a b) H1
theorem zsp{X:Cx}{l1 l2:Bool}{elts:List Expr}{x1}{tpos:Pos}{a b:Expr}{ta:TA}{p pos:Pos}(hg:Gl X "zip")(hm:X.mg "zip"=none)(ha:PA X [a,b] ta)(h1:notStar a=true)(h2:notStar b=true):PI X (.Tuple elts x1 tpos) (.Call (.Name "zip" p) [a,b] [] pos) (iZB X.K l1 l2 ta):=by
 intro pins s σ H R I h;have hs2:ij [b] X.env=[(false,eval b X.env)]:=by rw[za7 h2,starEach.eq_def]
 refine Call_ (zet I hg hm boot_zip (PyProof.Rows.callWith_type1 (thn (ha pos pins s σ H _ I h) λus s1 zz=>ex5 zz λvs H1 I1 r1 q1=>?_) (by rw[star2 h1 h2,hs2]) (by rw[hs2];rfl)));obtain⟨p1,p2,e,⟨xs,hx⟩,⟨ys,hy⟩,q⟩:=q1;subst e;obtain⟨u,v,rfl,ru,rv⟩:=vals2 r1;cases(show u=Value.ref p1 from ru);cases(show v=Value.ref p2 from rv);obtain⟨its1,_,t1⟩:=I1.sq hx;obtain⟨its2,_,t2⟩:=I1.sq hy;refine zry t1 t2 λh' _ Z sz k=>zkg Z ?_;exact⟨_,[s1.heap.objs.size+4,s1.heap.objs.size+2,s1.heap.objs.size+3,s1.heap.objs.size,s1.heap.objs.size+1],_,_,H1,rfl,I1.kept (t':=s1.toks) k,zpa _ _ _ _ _ p1 p2 (zipApart_new t1.lt t2.lt),Z,λc hc=>I1.fpOk (zle hc) (I1.hok.fresh (zle hc)),q⟩
def Itz(K:Frag)(a b:Addr):It :=
 ⟨λi H=>∃xs ys x y,SqT K H a xs/\SqT K H b ys/\xs[i]?=some x/\ys[i]?=some y,
  λi H v H'=>∃p x y,v=.ref p/\New H p (.tup [x,y]) H'/\(∀xs,SqT K H a xs->xs[i]?=some x)/\∀ys,SqT K H b ys->ys[i]?=some y,
  λi H=>∃xs ys,SqT K H a xs/\SqT K H b ys/\xs.length<=i⟩
def iZip(K:Frag)(ta:TA):TI:=λσ H R=>ta σ H λvs H1=>∃a b,vs=[.ref a,.ref b]/\(∃xs,SqT K H1 a xs)/\(∃ys,SqT K H1 b ys)/\R (Itz K a b) H1
theorem zui{X:Cx}{elts:List Expr}{x1}{tpos:Pos}{a b:Expr}{ta:TA}{p pos:Pos}(hg:Gl X "zip")(hm:X.mg "zip"=none)(ha:PA X [a,b] ta)(h1:notStar a=true:=by rfl)(h2:notStar b=true:=by rfl):PI X (.Tuple elts x1 tpos) (.Call (.Name "zip" p) [a,b] [] pos) (iZip X.K ta):=zsp (l1:=false) (l2:=false) hg hm ha h1 h2
theorem zso{X:Cx}(K:Frag){elts:List Expr}{x1}{tpos:Pos}{a b:Expr}{ta:TA}{p pos:Pos}(hg:Gl X "zip")(hm:X.mg "zip"=none)(ha:PA X [a,b] ta)(h:X.K=K:=by rfl)(h1:notStar a=true:=by rfl)(h2:notStar b=true:=by rfl):
  PI X (.Tuple elts x1 tpos) (.Call (.Name "zip" p) [a,b] [] pos) (iZip K ta):=h▸zui hg hm ha h1 h2
theorem zm6{X:Cx}(K:Frag){es:List Expr}{k:Nat}{t:TGs}{n:Nat}{pos:Pos}(hc:X.calm=true)(h:PGs X es t)(hK:X.K=K:=by rfl)
  (hn:(iN es X.env).length=n:=by rfl) (hst:(iN es X.env).findIdx? (·.1)=none:=by rfl):PG X (.Tuple es k pos) (gTup K n t):=hK▸zul hc h hn hst
section
variable {tn:List Str}{cp:Y6}{g:TG}{tif:TT}{te:TE}{σ0:St}{Q:VK}{H1:Hp}{K:Frag}{a b:Addr}{xs ys:List V}
theorem zvq(S:St->Prop)(f:Nat->V)(hn:xs.length<=1000)(hl:xs.length=ys.length)(ha:SqT K H1 a xs)(hb:SqT K H1 b ys)(h0:S (stB tn cp σ0))
  (hs:∀D i σ H H' p x y,xs[i]?=some x->ys[i]?=some y->Same H1 H->H1 D=none->H D=some (.lst ((List.range i).map f))->S σ->New H p (.tup [x,y]) H'->g (.ref p) σ H' λσ2 H2=>tif σ2 H2 λc H3 =>
   if c=true then te σ2 H3 λv H4=>CStep D xs.length i (λi ws σ H=>Same H1 H/\S σ/\ws=(List.range i).map f) σ2 v H4 else CSkip D xs.length i (λi ws σ H=>Same H1 H/\S σ/\ws=(List.range i).map f) σ2 H3)
  (hd:∀D H,H1 D=none->Same H1 H->H D=some (.lst ((List.range xs.length).map f))->Q (.ref D) H):cBody tn cp g tif te σ0 Q (Itz K a b) H1:=by
 refine zly xs.length (λD i ws σ H=>Same H1 H/\S σ/\ws=(List.range i).map f) (zaf hn) (λD hD=>⟨za8 hD _,h0,rfl⟩) (λD i ws σ H hD hi hH p=>⟨xs,ys,xs[i],ys[i],p.1.seqT ha,p.1.seqT hb,by simp[hi],by simp[hl▸hi]⟩)
  (λD ws σ H hD hH p=>⟨xs,ys,p.1.seqT ha,p.1.seqT hb,y01 _⟩) ?_ ?_
 ·rintro D i ws σ H v H' hD hi hH hlw ⟨p1,p2,rfl⟩ ⟨p,x,y,rfl,nw,ex,ey⟩;exact hs D i σ H H' p x y (ex _ (p1.seqT ha)) (ey _ (p1.seqT hb)) p1 hD hH p2 nw
 ·rintro D ws σ H hD hH hlw ⟨p1,p2,rfl⟩;exact hd D H hD p1 hH
theorem zi7{S:St->Prop}{f:Nat->V}{D:Addr}{i:Nat}{v:V}{σ2:St}{H4:Hp}(hn:xs.length<=1000)(hi:i<xs.length)(hD:H1 D=none)(h4:H4 D=some (.lst ((List.range i).map f)))(g4:Same H1 H4)(s2:S σ2)(e:v=f i):
  CStep D xs.length i (λi ws σ H=>Same H1 H/\S σ/\ws=(List.range i).map f) σ2 v H4:=by
 refine cstep (zaf hn) hi h4 (by rw[y00,y1p];exact y01 _) ⟨g4.wr hD _,s2,?_⟩;rw[y22,y0r,e];rfl
end
def DctK(K:Frag)(w:World)(a:Addr)(f:Str->Option V):Prop:=(a==iy)=false/\∃(es:Array DictEntry) (n:Nat),K.lookup a=some ⟨.type "dict",none,.dict es n,#[]⟩/\PySem.W.KeysLit w.params es.toList/\∀x,RelO (f x) (j5 Value.isStrOf es x)
section
variable {X:Cx}(K:Frag)(w:World)
def rInD(neg:Bool):R2:=λx y H Q=>∃z a f,x=.str z/\y=.ref a/\DctK K w a f/\Q (.bl (if neg then !(f z).isSome else(f z).isSome)) H
theorem zhm(hK:X.K=K:=by rfl)(hw:X.w=w:=by rfl):OpR X (ii .NotIn) (rInD K w true):=by
 subst hK hw;ac_rfl;obtain⟨z,a,f,rfl,rfl,⟨lo,es,n,hl,hk,hr⟩,q⟩:=h;obtain⟨t,rfl⟩:=rx;cases(show u=Value.ref a from ry);refine wpAny_notIn_of (strKind_is X.prog X.w z t) lo (PySem.W.mapOf_K (prog:=X.prog) I.kIn hl hk) ?_;rw[←(hr z).isSome_eq];exact⟨.bl _,H,I.tok _,rfl,q⟩
def rIxD:R2:=λx y H Q=>∃a z f v,x=.ref a/\y=.str z/\DctK K w a f/\f z=some v/\Q v H
theorem zvi(hK:X.K=K:=by rfl)(hw:X.w=w:=by rfl):IxR X (rIxD K w):=by
 subst hK hw;intro value slice pins s σ H x y v u Q I rx ry h hs;obtain⟨a,z,f,r,rfl,rfl,⟨lo,es,n,hl,hk,hr⟩,e,q⟩:=h;cases(show v=Value.ref a from rx);obtain⟨t,rfl⟩:=ry;have hm:=PySem.W.mapOf_K (prog:=X.prog) I.kIn hl hk;obtain⟨w',hw',rw'⟩:=RelO.some_of (v:=r) (o:=j5 Value.isStrOf es z) (by rw[←e];exact hr z);exact tail_any hm.typeIs slot_dict_getitem.lookup (wpAny_getItem_of (strKind_is X.prog X.w z t) hm hw' ⟨r,H,I.tok _,rw',q⟩) hs
end
section
variable {tn:List Str}{cp:Y6}{g:TG}{tif:TT}{te:TE}{σ0:St}{Q:VK}{H1:Hp}{K:Frag}{a:Addr}{xs:List V}
theorem zoz(S:St->Prop)(f:Nat->V)(hn:xs.length<=1000)(hS:SqL K H1 a xs)(h0:S (stB tn cp σ0))
  (hs:∀D i σ H x,i<xs.length->xs[i]?=some x->Same H1 H->H1 D=none->H D=some (.lst ((List.range i).map f))->S σ->g x σ H λσ2 H2=>tif σ2 H2 λc H3 =>
   if c=true then te σ2 H3 λv H4=>CStep D xs.length i (λi ws σ H=>Same H1 H/\S σ/\ws=(List.range i).map f) σ2 v H4 else CSkip D xs.length i (λi ws σ H=>Same H1 H/\S σ/\ws=(List.range i).map f) σ2 H3)
  (hd:∀D H,H1 D=none->Same H1 H->H D=some (.lst ((List.range xs.length).map f))->Q (.ref D) H):cBody tn cp g tif te σ0 Q (Itl K a) H1:=by
 refine ze3 (K:=K) (a:=a) (xs:=xs) (λD i ws σ H=>Same H1 H/\S σ/\ws=(List.range i).map f) (zaf hn) (λD hD=>⟨za8 hD _,h0,rfl⟩) (λD i ys σ H _ _ _ p=>p.1.seq hS) ?_ ?_
 ·rintro D i ys σ H x hD hi hx hH hl ⟨p1,p2,rfl⟩;exact hs D i σ H x hi hx p1 hD hH p2
 ·rintro D ys σ H hD hH hl ⟨p1,p2,rfl⟩;exact hd D H hD p1 hH
end
end L2
namespace SS
open PySem PySem.Spec PyProof.Rows L2
def forms:List (Str×List Str):=[("in",["place","set"]),("same",["place","place"]),("within",["set","set"]),("ahead",["place","place"]),("next",["place","place"]),("left",["place","place"]),("right",["place","place"]),("above",["place","place"]),
 ("not",["saying"]),("and",["saying","saying"]),("or",["saying","saying"]),("some",["name","saying"]),("all",["name","saying"])]
def sortB(form:V->Bool)(x:V)(s:Str):Bool:=if s="place" then isNm x SMALL else if s="set" then isNm x GREAT else if s="name" then isName x else form x
def zipB(form:V->Bool):List V->List Str->Bool
 |[],[]=>true
 |x::xs,s::ss=>sortB form x s&&zipB form xs ss
 |_,_=>false
def formH(H:Hp):Nat->V->Bool
 |0,_=>false
 |n+1,.ref a=>match H a with
  |some (.tup (.str w::r))=>match forms.lookup w with
   |some ss=>zipB (formH H n) r ss
   |none=>false
  |_=>false
 |_+1,_=>false
def Exp(H:Hp):Nat->V->Prop
 |0,v=>Thing H v
 |n+1,v=>Thing H v/\∀a xs,v=.ref a->H a=some (.tup xs)->xs.length<=1000/\∀x∈xs,Exp H n x
theorem Exp.thing:∀{n:Nat} {v:V},Exp H n v->Thing H v
 |0,_,h=>h
 |_+1,_,h=>h.1
theorem Thing.same_tup(h:Thing H (.ref a))(g:Same H H')(e:H' a=some (.tup xs)):H a=some (.tup xs):=by
 obtain⟨⟨k,hk⟩,_⟩:=h;cases hk with
 |lst z=>rw[g _ _ z]at e;cases e
 |tup z=>rw[g _ _ z]at e;cases e;exact z
 |dK z=>rw[g _ _ z]at e;cases e
theorem Exp.same(g:Same H H'):∀{n:Nat} {v:V},Exp H n v->Exp H' n v
 |0,_,h=>Thing.same h g
 |n+1,v,h=>⟨h.1.same g,λa xs ev e=>by
  subst ev;obtain⟨h1,h2⟩:=h.2 a xs rfl (h.1.same_tup g e);exact⟨h1,λx hx=>(h2 x hx).same g⟩⟩
theorem zfh:∀{xs:List V} {ss:List Str},(∀x∈xs,f x=g x)->zipB f xs ss=zipB g xs ss
 |[],[],_=>rfl
 |[],_::_,_=>rfl
 |_::_,[],_=>rfl
 |x::xs,s::ss,h=>by
  show(sortB f x s&&zipB f xs ss)=(sortB g x s&&zipB g xs ss);rw[zfh λy hy=>h y (y06 _ hy)];unfold sortB;rw[h x y07]
theorem zdh(g:Same H H'):∀{n:Nat} {v:V},Exp H n v->formH H' n v=formH H n v
 |0,_,_=>rfl
 |n+1,v,h=>by
  cases v with
  |ref a =>
   obtain⟨⟨k,hk⟩,_⟩:=h.1;cases hk with
   |lst z=>simp only[formH,z,g _ _ z]
   |dK z=>simp only[formH,z,g _ _ z]
   |tup z =>
    rename_i xs;have hx:=(h.2 a xs rfl z).2;simp only[formH,z,g _ _ z];cases xs with
    |nil=>rfl
    |cons x r =>
     cases x with
     |str wd =>
      simp only[];cases forms.lookup wd with
      |none=>rfl
      |some ss=>exact zfh λy hy=>zdh g (hx y (y06 _ hy))
     |_=>rfl
  |_=>rfl
theorem zjj:∀{xs:List V} {ss:List Str},xs.length≠ss.length->zipB f xs ss=false
 |[],[],h=>absurd rfl h
 |[],_::_,_=>rfl
 |_::_,[],_=>rfl
 |x::xs,s::ss,h=>by
  show(sortB f x s&&zipB f xs ss)=false;rw[zjj λz=>h (congrArg (· + 1) z),y20]
theorem zfg:∀{xs:List V} {ss:List Str},xs.length=ss.length->zipB f xs ss=(List.range xs.length).all λi=>sortB f (xs.getD i .non) (ss.getD i "")
 |[],[],_=>rfl
 |[],_::_,h=>nomatch h
 |_::_,[],h=>nomatch h
 |x::xs,s::ss,h=>by
  show(sortB f x s&&zipB f xs ss)=_;rw[zfg (Nat.succ.inj h),y0c,y1g,y1j,y2c];rfl
def zf4(n:Nat):Sp:=λvs H Q _=>∃v,vs=[v,.int n]/\Exp H n v/\∀H',Same H H'->Q (.bl (formH H n v)) H'
def zij(n:Nat):Sp:=λvs H Q _=>∃v s,vs=[v,.str s,.int n]/\Exp H n v/\∀H',Same H H'->Q (.bl (sortB (formH H n) v s)) H'
def sp_sort':Nat->Sp
 |0=>λ_ _ _ _=>False
 |n+1=>zij n
def wfB:Sy->Bool
 |.bare w n m=>if w="in" then isPl n&&isSt m else if w="within" then isSt n&&isSt m else isPl n&&isPl m
 |.neg s=>wfB s
 |.two _ s t=>wfB s&&wfB t
 |.qu _ n s=>isName (.str n)&&wfB s
def letB(barred:List Str)(most:Nat):List Str->Sy->Bool
 |known,.bare w n m=>decide (known.length<=most)&&decide (w∉barred)&&(decide (n∈known)&&decide (m∈known))
 |known,.neg s=>decide (known.length<=most)&&decide (("not":Str)∉barred)&&letB barred most known s
 |known,.two w s t=>decide (known.length<=most)&&decide (w∉barred)&&(letB barred most known s&&letB barred most known t)
 |known,.qu w n s=>decide (known.length<=most)&&decide (w∉barred)&&(decide (n∉known)&&letB barred most (known++[n]) s)
theorem Rep.det(r:Rep H v s)(q:Rep H v t):s=t:=by
 induction r generalizing t with
 |bare hw e =>
  cases q with
  |bare hw' e'=>rw[e]at e';cases e';rfl
  |neg e' _=>rw[e]at e';cases e'
  |two hw' e' h1 _=>rw[e]at e';cases e';cases h1
  |qu hw' e' h1=>rw[e]at e';cases e';cases h1
 |neg e _ ih =>
  cases q with
  |bare hw' e'=>rw[e]at e';cases e'
  |neg e' h'=>rw[e]at e';cases e';rw[ih h']
  |two hw' e' _ _=>rw[e]at e';cases e'
  |qu hw' e' _=>rw[e]at e';cases e'
 |two hw e h1 h2 ih1 ih2 =>
  cases q with
  |bare hw' e'=>rw[e]at e';cases e';cases h1
  |neg e' _=>rw[e]at e';cases e'
  |two hw' e' a b=>rw[e]at e';cases e';rw[ih1 a,ih2 b]
  |qu hw' e' b=>rw[e]at e';cases e';cases h1
 |qu hw e h ih =>
  cases q with
  |bare hw' e'=>rw[e]at e';cases e';cases h
  |neg e' _=>rw[e]at e';cases e'
  |two hw' e' a b=>rw[e]at e';cases e';cases a
  |qu hw' e' b=>rw[e]at e';cases e';rw[ih b]
end SS
set_option maxHeartbeats 1000000
namespace SS
open PySem PySem.Spec PyProof.Rows L2
section
variable {f:V->Bool}{x y:V}{r:List V}{s1 s2:Str}
theorem zek:sortB f x "place"=isNm x SMALL:=if_pos rfl
theorem zej:sortB f x "set"=isNm x GREAT:=by unfold sortB;rw[if_neg (by decide+kernel),if_pos rfl]
theorem zml:sortB f x "name"=isName x:=by unfold sortB;rw[if_neg (by decide+kernel),if_neg (by decide+kernel),if_pos rfl]
theorem zcw:sortB f x "saying"=f x:=by unfold sortB;rw[if_neg (by decide+kernel),if_neg (by decide+kernel),if_neg (by decide+kernel)]
theorem zip_one:zipB f r [s1]=true↔∃x,r=[x]/\sortB f x s1=true:=by
 cases r with
 |nil=>simp[zipB]
 |cons x r =>
  cases r with
  |nil=>simp[zipB]
  |cons y r=>simp[zipB]
theorem zip_two:zipB f r [s1,s2]=true↔∃x y,r=[x,y]/\sortB f x s1=true/\sortB f y s2=true:=by
 cases r with
 |nil=>simp[zipB]
 |cons x r =>
  cases r with
  |nil=>simp[zipB]
  |cons y r =>
   cases r with
   |nil =>
    rw[show zipB f [x,y] [s1,s2]=(sortB f x s1&&(sortB f y s2&&true))from rfl,y2k,y04];exact⟨λh=>⟨x,y,rfl,h⟩,λ⟨x',y',e,h⟩=>by cases e;exact h⟩
   |cons z r=>simp[zipB]
theorem zfv(h:isNm x l=true):∃z,x=.str z:=by
 cases x with
 |str z=>exact⟨z,rfl⟩
 |_=>cases h
end
theorem zqu(h:forms.lookup wd=some ss):(wd="in"/\ss=(["place","set"]:List Str))\/(wd="within"/\ss=(["set","set"]:List Str))\/(wd∈bareWords/\¬wd=("in":Str)/\¬wd=("within":Str)/\ss=(["place","place"]:List Str))\/
  (wd="not"/\ss=(["saying"]:List Str))\/(wd∈(["and","or"]:List Str)/\ss=(["saying","saying"]:List Str))\/(wd∈(["some","all"]:List Str)/\ss=(["name","saying"]:List Str)):=by
 have m:=mem_of_lookup' h;simp only[forms,y08,y0q,or_false,Prod.mk.injEq]at m;rcases m with⟨rfl,rfl⟩|⟨rfl,rfl⟩|⟨rfl,rfl⟩|⟨rfl,rfl⟩|⟨rfl,rfl⟩|⟨rfl,rfl⟩|⟨rfl,rfl⟩|⟨rfl,rfl⟩|⟨rfl,rfl⟩|⟨rfl,rfl⟩|⟨rfl,rfl⟩|⟨rfl,rfl⟩|⟨rfl,rfl⟩
 ·exact .inl ⟨rfl,rfl⟩
 ·exact .inr (.inr (.inl ⟨by decide+kernel,by decide+kernel,by decide+kernel,rfl⟩))
 ·exact .inr (.inl ⟨rfl,rfl⟩)
 ·exact .inr (.inr (.inl ⟨by decide+kernel,by decide+kernel,by decide+kernel,rfl⟩))
 ·exact .inr (.inr (.inl ⟨by decide+kernel,by decide+kernel,by decide+kernel,rfl⟩))
 ·exact .inr (.inr (.inl ⟨by decide+kernel,by decide+kernel,by decide+kernel,rfl⟩))
 ·exact .inr (.inr (.inl ⟨by decide+kernel,by decide+kernel,by decide+kernel,rfl⟩))
 ·exact .inr (.inr (.inl ⟨by decide+kernel,by decide+kernel,by decide+kernel,rfl⟩))
 ·exact .inr (.inr (.inr (.inl ⟨rfl,rfl⟩)))
 ·exact .inr (.inr (.inr (.inr (.inl ⟨by decide+kernel,rfl⟩))))
 ·exact .inr (.inr (.inr (.inr (.inl ⟨by decide+kernel,rfl⟩))))
 ·exact .inr (.inr (.inr (.inr (.inr ⟨by decide+kernel,rfl⟩))))
 ·exact .inr (.inr (.inr (.inr (.inr ⟨by decide+kernel,rfl⟩))))
theorem zlu:∀wd∈bareWords,forms.lookup wd=some (if wd=("in":Str)then(["place","set"]:List Str)else if wd=("within":Str)then(["set","set"]:List Str)else(["place","place"]:List Str)):=by decide+kernel
theorem zls:∀wd∈(["and","or"]:List Str),forms.lookup wd=some (["saying","saying"]:List Str):=by decide+kernel
theorem zlr:∀wd∈(["some","all"]:List Str),forms.lookup wd=some (["name","saying"]:List Str):=by decide+kernel
theorem zoj:forms.lookup ("not":Str)=some (["saying"]:List Str):=by decide+kernel
theorem zcu:∀{n:Nat} {v:V},formH H n v=true->∃s,Rep H v s/\wfB s=true/\s.depth<=n
 |0,_,h=>by cases h
 |n+1,v,h=>by
  cases v with
  |ref a =>
   simp only[formH]at h;split at h
   ·rename_i wd r e;split at h
    ·rename_i ss hs;rcases zqu hs with⟨rfl,rfl⟩|⟨rfl,rfl⟩|⟨hw,n1,n2,rfl⟩|⟨rfl,rfl⟩|⟨hw,rfl⟩|⟨hw,rfl⟩
     ·obtain⟨x,y,rfl,h1,h2⟩:=zip_two.mp h;rw[zek]at h1;rw[zej]at h2;obtain⟨z1,rfl⟩:=zfv h1;obtain⟨z2,rfl⟩:=zfv h2;refine⟨.bare "in" z1 z2,.bare (by decide+kernel) e,?_,y28 (y14 _)⟩;show(if _ then _ else _)=true;rw[if_pos rfl,y04];exact⟨h1,h2⟩
     ·obtain⟨x,y,rfl,h1,h2⟩:=zip_two.mp h;rw[zej]at h1 h2;obtain⟨z1,rfl⟩:=zfv h1;obtain⟨z2,rfl⟩:=zfv h2;refine⟨.bare "within" z1 z2,.bare (by decide+kernel) e,?_,y28 (y14 _)⟩;show(if _ then _ else if _ then _ else _)=true;rw[if_neg (by decide+kernel),if_pos rfl,y04];exact⟨h1,h2⟩
     ·obtain⟨x,y,rfl,h1,h2⟩:=zip_two.mp h;rw[zek]at h1 h2;obtain⟨z1,rfl⟩:=zfv h1;obtain⟨z2,rfl⟩:=zfv h2;refine⟨.bare wd z1 z2,.bare hw e,?_,y28 (y14 _)⟩;show(if _ then _ else if _ then _ else _)=true;rw[if_neg n1,if_neg n2,y04];exact⟨h1,h2⟩
     ·obtain⟨x,rfl,h1⟩:=zip_one.mp h;rw[zcw]at h1;obtain⟨s,r,w1,d1⟩:=zcu h1;exact⟨.neg s,.neg e r,w1,y28 d1⟩
     ·obtain⟨x,y,rfl,h1,h2⟩:=zip_two.mp h;rw[zcw]at h1 h2;obtain⟨s,r,w1,d1⟩:=zcu h1;obtain⟨t,q,w2,d2⟩:=zcu h2;refine⟨.two wd s t,.two hw e r q,?_,y28 (Nat.max_le.mpr ⟨d1,d2⟩)⟩;show(wfB s&&wfB t)=true;rw[w1,w2];rfl
     ·obtain⟨x,y,rfl,h1,h2⟩:=zip_two.mp h;rw[zml]at h1;rw[zcw]at h2;obtain⟨z1,rfl⟩:=zdg h1;obtain⟨t,q,w2,d2⟩:=zcu h2;refine⟨.qu wd z1 t,.qu hw e q,?_,y28 d2⟩;show(isName _&&wfB t)=true;rw[h1,w2];rfl
    ·cases h
   ·cases h
  |_=>cases h
theorem zj1(r:Rep H v s):∀{n:Nat},wfB s=true->s.depth<=n->formH H n v=true:=by
 induction r with
 |bare hw e =>
  rename_i a wd n1 m1;intro n h d;cases n with
  |zero=>exact absurd d (by show¬1<=0;decide)
  |succ n =>
   simp only[formH,e,zlu wd hw];by_cases c1:wd=("in":Str)
   ·rw[if_pos c1];have h':(isPl n1&&isSt m1)=true:=by have z:(if _ then _ else _)=true:=h;rw[if_pos c1]at z;exact z
    rw[y04]at h';exact zip_two.mpr ⟨_,_,rfl,by rw[zek];exact h'.1,by rw[zej];exact h'.2⟩
   ·rw[if_neg c1];by_cases c2:wd=("within":Str)
    ·rw[if_pos c2];have h':(isSt n1&&isSt m1)=true:=by have z:(if _ then _ else if _ then _ else _)=true:=h;rw[if_neg c1,if_pos c2]at z;exact z
     rw[y04]at h';exact zip_two.mpr ⟨_,_,rfl,by rw[zej];exact h'.1,by rw[zej];exact h'.2⟩
    ·rw[if_neg c2];have h':(isPl n1&&isPl m1)=true:=by have z:(if _ then _ else if _ then _ else _)=true:=h;rw[if_neg c1,if_neg c2]at z;exact z
     rw[y04]at h';exact zip_two.mpr ⟨_,_,rfl,by rw[zek];exact h'.1,by rw[zek];exact h'.2⟩
 |neg e _ ih =>
  intro n h d;cases n with
  |zero=>exact absurd d (y3b _)
  |succ n =>
   simp only[formH,e,zoj];exact zip_one.mpr ⟨_,rfl,by rw[zcw];exact ih h (y35 d)⟩
 |two hw e _ _ ih1 ih2 =>
  rename_i s t _ _;intro n h d;cases n with
  |zero=>exact absurd d (y3b _)
  |succ n =>
   have d':=Nat.max_le.mp (y35 d);have h':(wfB s&&wfB t)=true:=h;rw[y04]at h';simp only[formH,e,zls _ hw];exact zip_two.mpr ⟨_,_,rfl,by rw[zcw];exact ih1 h'.1 d'.1,by rw[zcw];exact ih2 h'.2 d'.2⟩
 |qu hw e _ ih =>
  rename_i nm _ s _;intro n h d;cases n with
  |zero=>exact absurd d (y3b _)
  |succ n =>
   have h':(isName (.str nm)&&wfB s)=true:=h;rw[y04]at h';simp only[formH,e,zlr _ hw];exact zip_two.mpr ⟨_,_,rfl,by rw[zml];exact h'.1,by rw[zcw];exact ih h'.2 (y35 d)⟩
def zd3(n:Nat):Sp:=λvs H Q _=>∃v s,vs=[v]/\Rep H v s/\s.depth<n/\∀H',Same H H'->Q (.int s.parts) H'
def AnySay(H:Hp)(v:V)(s:Sy):Prop:=Rep H v s/\wfB s=true/\s.depth<=12/\s.parts<=60
def zha:Sp:=λvs H Q _=>∃v,vs=[v]/\Exp H 12 v/\∀b H',Same H H'->(b=true↔∃s,AnySay H v s)->Q (.bl b) H'
def zg5(K:Frag)(bw:List Str)(n:Nat):Sp:=λvs H Q _=>∃v a ba s tl mo,vs=[v,.ref a,.ref ba,.int (mo:Nat)]/\Rep H v s/\s.depth<n/\H a=some (.lst (List.map V.str tl))/\tl.length+s.depth<=300/\(∀H,SqT K H ba (bw.map V.str))/\∀H',Same H H'->Q (.bl (letB bw mo tl s)) H'
def SayOk(H:Hp)(bw:List Str)(mo:Nat)(v fv:V):Prop:=∃a tl s,fv=.ref a/\H a=some (.lst (List.map V.str tl))/\frameB (List.map V.str tl)=true/\AnySay H v s/\letB bw mo tl s=true
def zjr(bw:List Str)(mo:Nat):Sp:=λvs H Q _=>∃v fv,vs=[v,fv]/\Exp H 12 v/\Thing H fv/\(∀a xs,fv=.ref a->H a=some (.lst xs)->Things H xs)/\∀b H',Same H H'->(b=true↔SayOk H bw mo v fv)->Q (.bl b) H'
structure Forms(K:Frag)(w:World)(fa:Addr):Prop where
 ex:∃f,DctK K w fa f/\∀x,(∃ss b,forms.lookup x=some ss/\f x=some (.ref b)/\∀H,SqT K H b (List.map V.str ss))\/(forms.lookup x=none/\f x=none)
def wordOf:Sy->Str
 |.bare w _ _=>w
 |.neg _=>"not"
 |.two w _ _=>w
 |.qu w _ _=>w
def letR(barred:List Str)(most:Nat)(known:List Str):Sy->Bool
 |.bare _ n m=>decide (n∈known)&&decide (m∈known)
 |.neg s=>letB barred most known s
 |.two _ s t=>letB barred most known s&&letB barred most known t
 |.qu _ n s=>decide (n∉known)&&letB barred most (known++[n]) s
theorem zth(bw:List Str)(mo:Nat)(tl:List Str)(s:Sy):letB bw mo tl s=(decide (tl.length<=mo)&&decide (wordOf s∉bw)&&letR bw mo tl s):=by cases s<;>rfl
theorem zlk(nq:∀w n t,s ≠ .qu w n t)(hb:s.isBare=false):letR bw mo tl s=s.inner.all (letB bw mo tl):=by
 cases s with
 |bare w n m=>cases hb
 |neg s=>simp[Sy.inner,letR]
 |two w s t=>simp[Sy.inner,letR]
 |qu w n t=>exact absurd rfl (nq w n t)
theorem zcp:∀(l:List Sy),((List.range l.length).map λi=>((l[i]?).map f).getD true).all id=l.all f
 |[]=>rfl
 |x::r=>by
  rw[y0c,y1g,y0h,y0x,y1j,y1j,←zcp r];rfl
theorem zfw:∀{xs:List V},xs.all isName=true->∃tl:List Str,xs=tl.map V.str
 |[],_=>⟨[],rfl⟩
 |x::r,h=>by
  rw[y1j,y04]at h;obtain⟨z,rfl⟩:=zdg h.1;obtain⟨tl,e⟩:=zfw h.2;exact⟨z::tl,by rw[y0h,←e]⟩
theorem zvm(h:frB H x=true):∃a tl,x=.ref a/\H a=some (.lst (List.map V.str tl))/\frameB (List.map V.str tl)=true/\tl.length<=4:=by
 cases x with
 |ref a =>
  simp only[frB]at h;split at h
  ·rename_i xs e;have h':=h;unfold frameB at h';rw[y04,y04,decide_eq_true_eq]at h';obtain⟨tl,rfl⟩:=zfw h'.1.2;exact⟨a,tl,rfl,e,h,by have:=h'.1.1;rw[y00]at this;exact this⟩
  ·cases h
 |_=>cases h
open L2
theorem zjm:∀{a b:List PySem.Str},a.map V.str=b.map V.str->a=b
 |[],[],_=>rfl
 |[],_::_,h=>by cases h
 |_::_,[],h=>by cases h
 |x::a,y::b,h=>by
  rw[y0h,y0h,List.cons.injEq]at h;rw[V.str.inj h.1,zjm h.2]
inductive Lit where
 |str (z:Str)
 |oth
 |tnil
 |tcons (x r:Lit)
 deriving DecidableEq
def Oth(H:Hp)(v:V):Prop:=∃k,Kd H v k/\k≠"str"/\k≠"tuple"
def LitAt(H:Hp):Lit->V->Prop
 |.str z,v=>v=.str z/\z.length<=1000
 |.oth,v=>Oth H v
 |.tnil,v=>∃a,v=.ref a/\H a=some (.tup [])
 |.tcons x r,v=>∃a y ys,v=.ref a/\H a=some (.tup (y::ys))/\ys.length<=100/\LitAt H x y/\Items H r ys
where Items (H:Hp):Lit->List V->Prop
 |.tcons x r,ys=>∃z zs,ys=z::zs/\LitAt H x z/\Items H r zs
 |.tnil,ys=>ys=[]
 |_,_=>False
abbrev Items:=LitAt.Items
theorem Oth.same(g:Same H H')(h:Oth H v):Oth H' v:=let⟨k,z,r⟩:=h;⟨k,z.same g,r⟩
mutual
theorem LitAt.same(g:Same H H'):∀{l:Lit} {v:V},LitAt H l v->LitAt H' l v
 |.str z,_,h=>h
 |.oth,_,h=>Oth.same g h
 |.tnil,_,⟨a,e,h⟩=>⟨a,e,g _ _ h⟩
 |.tcons x r,_,⟨a,y,ys,e,h,hl,h1,h2⟩=>⟨a,y,ys,e,g _ _ h,hl,LitAt.same g h1,Items.same g h2⟩
theorem Items.same(g:Same H H'):∀{l:Lit} {ys:List V},Items H l ys->Items H' l ys
 |.tcons x r,_,⟨z,zs,e,h1,h2⟩=>⟨z,zs,e,LitAt.same g h1,Items.same g h2⟩
 |.tnil,_,h=>h
 |.str _,_,h=>h
 |.oth,_,h=>h
end
theorem LitAt.thing:∀{l:Lit} {v:V},LitAt H l v->Thing H v
 |.str z,_,⟨e,h⟩=>by subst e;exact .str h
 |.oth,v,⟨k,h,h1,_⟩=>⟨⟨k,h⟩,λz e=>by subst e;cases h;exact absurd rfl h1⟩
 |.tnil,_,⟨a,e,h⟩=>by subst e;exact .tup h
 |.tcons x r,_,⟨a,y,ys,e,h,_,_,_⟩=>by subst e;exact .tup h
mutual
theorem LitAt.exp:∀(n:Nat) {l:Lit} {v:V},LitAt H l v->Exp H n v
 |0,_,_,h=>h.thing
 |n+1,.str z,_,h=>⟨h.thing,λa xs e _=>by rw[h.1]at e;cases e⟩
 |n+1,.oth,v,h=>⟨h.thing,λa xs e e'=>by
  subst e;obtain⟨k,hk,_,h2⟩:=h;exact absurd (hk.inj (.tup e')) h2⟩
 |n+1,.tnil,_,h=>⟨h.thing,λa xs e e'=>by
  obtain⟨a',e1,e2⟩:=h;rw[e]at e1;cases e1;rw[e2]at e';cases e';exact⟨y14 _,λx hx=>nomatch hx⟩⟩
 |n+1,.tcons x r,_,h=>⟨h.thing,λa xs e e'=>by
  obtain⟨a',y,ys,e1,e2,hl,h1,h2⟩:=h;rw[e]at e1;cases e1;rw[e2]at e';cases e';refine⟨by rw[y0c];omega,λx' hx=>?_⟩;rcases y08.mp hx with rfl|hx
  ·exact LitAt.exp n h1
  ·exact Items.exp n h2 x' hx⟩
theorem Items.exp:∀(n:Nat) {l:Lit} {ys:List V},Items H l ys->∀y∈ys,Exp H n y
 |n,.tcons x r,_,⟨z,zs,e,h1,h2⟩,y,hy=>by
  subst e;rcases y08.mp hy with rfl|hy
  ·exact LitAt.exp n h1
  ·exact Items.exp n h2 y hy
 |n,.tnil,_,h,y,hy=>by rw[show _=[]from h]at hy;exact nomatch hy
 |n,.str _,_,h,y,hy=>False.elim h
 |n,.oth,_,h,y,hy=>False.elim h
end
theorem zds(h:isNm (.str z) l=true):z.length<=4:=by
 obtain⟨c,r,e,hl,_⟩:=zv8 h;rw[zii,e,y0c];omega
theorem zql(h:isName (.str z)=true):z.length<=4:=(zld h).elim zds zds
theorem zie:∀w∈bareWords,w.length<=1000:=by decide+kernel
theorem zo9(h:wfB (.bare w n m)=true):n.length<=4/\m.length<=4:=by
 have h':(if w=("in":Str)then isPl n&&isSt m else if w=("within":Str)then isSt n&&isSt m else isPl n&&isPl m)=true:=h;split at h'
 ·rw[y04]at h';exact⟨zds h'.1,zds h'.2⟩
 ·split at h'
  ·rw[y04]at h';exact⟨zds h'.1,zds h'.2⟩
  ·rw[y04]at h';exact⟨zds h'.1,zds h'.2⟩
theorem Exp.str(h:z.length<=1000):∀n,Exp H n (.str z)
 |0=>Thing.str h
 |n+1=>⟨Thing.str h,λa xs e=>by cases e⟩
theorem Exp.tup(e:H a=some (.tup xs))(hl:xs.length<=1000)(h:∀x∈xs,Exp H n x):Exp H (n+1) (.ref a) :=
 ⟨Thing.tup e,λa' xs' ev e'=>by cases ev;rw[e]at e';cases e';exact⟨hl,h⟩⟩
theorem Rep.exp(r:Rep H v s):wfB s=true->∀n,Exp H n v:=by
 induction r with
 |bare hw e =>
  intro h n;obtain⟨l1,l2⟩:=zo9 h;cases n with
  |zero=>exact Thing.tup e
  |succ n =>
   refine Exp.tup e (by simp) λx hx=>?_;simp only[y08,y0q,or_false]at hx;rcases hx with rfl|rfl|rfl
   ·exact Exp.str (zie _ hw) n
   ·exact Exp.str (by omega) n
   ·exact Exp.str (by omega) n
 |neg e _ ih =>
  intro h n;cases n with
  |zero=>exact Thing.tup e
  |succ n =>
   refine Exp.tup e (by simp) λx hx=>?_;simp only[y08,y0q,or_false]at hx;rcases hx with rfl|rfl
   ·exact Exp.str (by decide+kernel) n
   ·exact ih h n
 |two hw e _ _ ih1 ih2 =>
  rename_i w _ _ s t _ _;intro h n;have h':(wfB s&&wfB t)=true:=h;rw[y04]at h';cases n with
  |zero=>exact Thing.tup e
  |succ n =>
   refine Exp.tup e (by simp) λx hx=>?_;simp only[y08,y0q,or_false]at hx;rcases hx with rfl|rfl|rfl
   ·refine Exp.str ?_ n;have:∀w∈(["and","or"]:List Str),w.length<=1000:=by decide+kernel
    exact this w hw
   ·exact ih1 h'.1 n
   ·exact ih2 h'.2 n
 |qu hw e _ ih =>
  rename_i w nm _ s _;intro h n;have h':(isName (.str nm)&&wfB s)=true:=h;rw[y04]at h';cases n with
  |zero=>exact Thing.tup e
  |succ n =>
   refine Exp.tup e (by simp) λx hx=>?_;simp only[y08,y0q,or_false]at hx;rcases hx with rfl|rfl|rfl
   ·refine Exp.str ?_ n;have:∀w∈(["some","all"]:List Str),w.length<=1000:=by decide+kernel
    exact this w hw
   ·exact Exp.str (by have:=zql h'.1;omega) n
   ·exact ih h'.2 n
theorem zed{tl:List Str}(hl:tl.length<=1000)(h:∀z∈tl,z.length<=1000):Things H (tl.map V.str):=by
 refine⟨by rw[y00];exact hl,λy hy=>?_⟩;obtain⟨z,mz,rfl⟩:=y0m.mp hy;exact .str (h z mz)
section
variable {K:Frag}{w:World}{h:Heap}{mg:Y1}
theorem sqt_mk(l:K.lookup p=some ⟨.type "tuple",od,.seq its n,sl⟩)(z:its.size<=ie)(r:Vals xs its.toList):∀H,SqT K H p xs :=
 λH=>.inr ⟨_,its,n,l,rfl,rfl,z,r⟩
def Entry(K:Frag)(e:DictEntry)(p:Str×List Str):Prop:=(∃t,e.key=.str p.1 t)/\∃b,e.val=.ref b/\∀H,SqT K H b (List.map V.str p.2)
theorem zcn:∀{es:List DictEntry} {ps:List (Str×List Str)},iq (Entry K) es ps->∀x,(∃ss b,ps.lookup x=some ss/\j5 Value.isStrOf es.toArray x=some (.ref b)/\∀H,SqT K H b (List.map V.str ss))\/(ps.lookup x=none/\j5 Value.isStrOf es.toArray x=none)
 |_,_,.nil,x=>.inr ⟨rfl,by simp[j5]⟩
 |e::es,p::ps,.cons ⟨⟨t,ek⟩,b,ev,hb⟩ r,x=>by
  have ih:=zcn r x;unfold j5 at ih ⊢;rw[List.find?_toArray]at ih ⊢;rw[y12,y1m];by_cases h:x=p.1
  ·subst h;have e1:Value.isStrOf p.1 e.key=true:=by rw[ek];simp[Value.isStrOf]
   rw[e1,beq_self_eq_true];exact .inl ⟨_,b,rfl,congrArg some ev,hb⟩
  ·have h':¬p.1=x:=λq=>h q.symm;have e1:Value.isStrOf x e.key=false:=by rw[ek];simp[Value.isStrOf,h']
   have e2:(x==p.1)=false:=by simp[h]
   rw[e1,e2];exact ih
theorem forms_mk(X:K.In h)(G:h.Ns io mg)(a:PySem.W.nsIn K io "FORMS"=some (some (.ref p)))(lo:(p==iy)=false)(l:K.lookup p=some ⟨.type "dict",none,.dict es n,#[]⟩)
  (hk:PySem.W.KeysLit w.params es.toList) (he:iq (Entry K) es.toList forms):∃q,GlV mg "FORMS" (.ref q)/\Forms K w q:=by
 refine⟨p,⟨_,PySem.W.mg_of X G a,rfl⟩,⟨λx=>match j5 Value.isStrOf es x with|some (.ref b)=>some (.ref b)|_=>none,⟨lo,es,n,l,hk,λx=>?_⟩,λx=>?_⟩⟩
 ·rcases zcn he x with⟨ss,b,e1,e2,_⟩|⟨e1,e2⟩
  ·simp only[e2];exact rfl
  ·simp only[e2];exact trivial
 ·rcases zcn he x with⟨ss,b,e1,e2,hb⟩|⟨e1,e2⟩
  ·exact .inl ⟨ss,b,e1,by simp only[e2],hb⟩
  ·exact .inr ⟨e1,by simp only[e2]⟩
end
end SS
namespace L2
variable {X:Cx}
section
variable {X:Cx}{k:Nat}{H:Hp}{a b:Addr}{xs ys:List V}
theorem zor(a b:Int):eqV (.int a) (.int b)=decide (a=b):=by
 by_cases h:a=b
 ·subst h;simp[eqV]
 ·simp[eqV,h]
theorem zji:∀(xs ys:List Int),(xs.length==ys.length&&(List.range xs.length).all λj=>eqV ((xs.map V.int).getD j .non) ((ys.map V.int).getD j .non))=decide (xs=ys)
 |[],[]=>rfl
 |[],y::ys=>by simp
 |x::xs,[]=>by simp
 |x::xs,y::ys=>by
  have ih:=zji xs ys;have e:(List.range (x::xs).length).all (λj=>eqV (((x::xs).map V.int).getD j .non) (((y::ys).map V.int).getD j .non)) =
    (decide (x=y)&&(List.range xs.length).all λj=>eqV ((xs.map V.int).getD j .non) ((ys.map V.int).getD j .non)):=by
   rw[y0c,y1g,y1j,y2c];exact congrArg (· && _) (zor x y)
  rw[e];have e2:((x::xs).length==(y::ys).length)=(xs.length==ys.length):=by simp
  rw[e2];by_cases hx:x=y
  ·subst hx;rw[decide_eq_true rfl,y1e,ih];simp
  ·rw[decide_eq_false hx,y1d,y20];simp[hx]
theorem zc9(xs:List Int):(xs.map V.int).all flatV=true:=by
 rw[y0w];intro x hx;obtain⟨z,_,rfl⟩:=y0m.mp hx;rfl
def rEqI(K:Frag):R2:=λx y H Q=>∃(a b:Addr) (xs ys:List Int),x=.ref a/\y=.ref b/\SqL K H a (xs.map V.int)/\SqL K H b (ys.map V.int)/\Q (.bl (decide (xs=ys))) H
theorem zuw(hu:X.A.units+8<cLine):OpR X (ii .Eq) (rEqI X.K):=by
 ac_rfl;obtain⟨a,b,xs,ys,rfl,rfl,h1,h2,q⟩:=h;have r:=zdd (X:=X) h1 h2 (zc9 xs) (zc9 ys);rw[y00,y00,zji]at r;exact znf (k:=1) (y2f (Nat.add_le_add_left (by decide) _) hu) pins s σ H _ _ v u Q I rx ry ⟨_,r,q⟩
def rNeI(K:Frag):R2:=λx y H Q=>∃(a b:Addr) (xs ys:List Int),x=.ref a/\y=.ref b/\SqL K H a (xs.map V.int)/\SqL K H b (ys.map V.int)/\Q (.bl (!decide (xs=ys))) H
theorem zut(hu:X.A.units+8<cLine):OpR X (ii .NotEq) (rNeI X.K):=by
 ac_rfl;obtain⟨a,b,xs,ys,rfl,rfl,h1,h2,q⟩:=h;cases(show v=Value.ref a from rx);cases(show u=Value.ref b from ry);obtain⟨us,r1,p1,_⟩:=I.list h1;obtain⟨vs,r2,p2,_⟩:=I.list h2;have l1:=r1.length;have l2:=r2.length;have hu':X.A.units<cLine:=by omega
 by_cases hl:us.length=vs.length
 ·have z:=SeqAt.RcNeAt.lists (A:=X.A) (s:=s) (e:=λj=>eqV ((xs.map V.int).getD j .non) ((ys.map V.int).getD j .non)) p1.isList p2.isList (by rw[y03,y03];exact hl) hu' λj h1 h2=>by
   rw[y03]at h1 h2;obtain⟨g1,q1⟩:=r1.at h1;obtain⟨g2,q2⟩:=r2.at h2;have e1:(xs.map V.int).getD j .non=(xs.map V.int)[j]:=by rw[y0u,y0b g1];rfl
   have e2:(ys.map V.int).getD j .non=(ys.map V.int)[j]:=by rw[y0u,y0b g2];rfl
   rw[e1,e2];refine zkj (by simpa using q1) (by simpa using q2) ?_ ?_
   ·exact y0w.mp (zc9 xs) _ (y0t g1)
   ·exact y0w.mp (zc9 ys) _ (y0t g2)
  have e:=zji xs ys;rw[y00]at l1 l2;rw[show(xs.length==ys.length)=true by simp;omega,y1e]at e;rw[y03,←l1,e]at z;exact z _ _ _ _ ⟨.bl (!decide (xs=ys)),H,I,rfl,q⟩
 ·have z:=SeqAt.RcNeAt.lists_lengths (A:=X.A) (s:=s) p1.isList p2.isList (by rw[y03,y03];simpa using hl) hu';have e:decide (xs=ys)=false:=decide_eq_false λh=>by rw[h,y00]at l1;rw[y00]at l2;omega
  rw[e]at q;exact z _ _ _ _ ⟨.bl true,H,I,rfl,q⟩
variable (K:Frag)
theorem zs2(hu:X.A.units+8<cLine)(h:X.K=K:=by rfl):OpR X (ii .Eq) (rEqI K):=h▸zuw hu
theorem znc(hu:X.A.units+8<cLine)(h:X.K=K:=by rfl):OpR X (ii .NotEq) (rNeI K):=h▸zut hu
end
def TupS(H H':Hp):Prop:=∀b xs,H b=some (.tup xs)->H' b=some (.tup xs)
theorem Same.tups(g:Same H H'):TupS H H':=λb xs e=>g b _ e
theorem TupS.wr(h:H p=some (.lst xs))(o:HO):TupS H (upd H p o):=λb ys e=>by rw[zar (zdf e h (by intro z;cases z))];exact e
end L2
namespace SM
structure Mc where
 w:Nat
 ways:List (List Nat)
 ends:List Bool
def Mc.fin(m:Mc)(r:Nat):Bool:=m.ends.getD r false
theorem zsn(n:Nat):(2:Int)^n=((2^n:Nat):Int):=by
 induction n with
 |zero=>rfl
 |succ n ih=>rw[Int.pow_succ,y2b,ih];omega
theorem zhk(h:w<=4):1<=2^w/\2^w<=16:=by
 have:w=0\/w=1\/w=2\/w=3\/w=4:=by omega
 rcases this with rfl|rfl|rfl|rfl|rfl<;>decide
section
variable {α:Type}[DecidableEq α]
def nOf(ds:List α)(x:α):Nat:=ds.idxOf x
def nxt(ds:List α)(x:α):List α:=if x∈ds then ds else ds++[x]
theorem zhr{ds:List α}{x:α}(h:x∈ds):nxt ds x=ds:=if_pos h
theorem zer{ds:List α}{x:α}(h:¬x∈ds):nxt ds x=ds++[x]:=if_neg h
end
open PySem PySem.Spec PyProof.Rows L2 SS
abbrev nV(n:Nat):V:=.int (n:Int)
theorem Paired.at2:∀{xs:List α} {ys:List β} {i:Nat} {y:β},iq R xs ys->ys[i]?=some y->∃x,xs[i]?=some x/\R x y
 |_,_,_,_,.nil,h=>by simp at h
 |_,_,0,_,.cons h _,e=>by simp at e;subst e;exact⟨_,rfl,h⟩
 |_,_,i+1,_,.cons _ h,e=>by simp only[y1x]at e ⊢;exact Paired.at2 h e
theorem Paired.snoc:∀{xs:List α} {ys:List β} {x:α} {y:β},iq R xs ys->R x y->iq R (xs++[x]) (ys++[y])
 |_,_,_,_,.nil,h=>.cons h .nil
 |_,_,_,_,.cons h t,z=>.cons h (Paired.snoc t z)
end SM
namespace L2
theorem zvd{h h':Heap}(x:h.IsListIter j a i)(k:∀o,h.get? j=some o->h'.get? j=some o):h'.IsListIter j a i:=by
 obtain⟨o,e,r⟩:=x;exact⟨o,k o e,r⟩
theorem zvc{h h':Heap}(x:h.IsListIter j a i)(k:Heap.ExtBut b h h')(n:j≠b):h'.IsListIter j a i:=zvd x λo e=>k j o n e
def ItzL(K:Frag)(a b:Addr):It :=
 ⟨λi H=>∃xs ys x y,SqL K H a xs/\SqT K H b ys/\xs[i]?=some x/\ys[i]?=some y,
  λi H v H'=>∃p x y,v=.ref p/\New H p (.tup [x,y]) H'/\(∀xs,SqL K H a xs->xs[i]?=some x)/\∀ys,SqT K H b ys->ys[i]?=some y,
  λi H=>∃xs ys,SqL K H a xs/\SqT K H b ys/\xs.length<=i⟩
def iZipL(K:Frag)(ta:TA):TI:=λσ H R=>ta σ H λvs H1=>∃a b,vs=[.ref a,.ref b]/\(∃xs,SqL K H1 a xs)/\(∃ys,SqT K H1 b ys)/\R (ItzL K a b) H1
def Ite(K:Frag)(a:Addr):It :=
 ⟨λi H=>∃xs x,SqL K H a xs/\xs[i]?=some x,λi H v H'=>∃p x,v=.ref p/\New H p (.tup [.int (i:Int),x]) H'/\∀xs,SqL K H a xs->xs[i]?=some x,λi H=>∃xs,SqL K H a xs/\xs.length<=i⟩
theorem zl7{P:ig}{w:World}{K:Frag}{elts:List Expr}{x1}{tpos:Pos}(e it a:Addr)(hne:e≠it):
  Turn P w K (.Tuple elts x1 tpos) (Ite K a) [e,it] e (λi h=>(∃old,IsEnum h e it (i:Int) old)/\h.IsListIter it a i) where
 mem:=by simp
 obj:=λi h st c hc=>by
  obtain⟨⟨old,se⟩,o1,e1,c1,d1⟩:=st;simp only[y08,y0q,or_false]at hc;rcases hc with rfl|rfl
  ·exact⟨_,se,λv q=>nomatch q⟩
  ·exact⟨_,e1,λv q=>by rw[d1]at q;cases q⟩
 keep:=λi h h' st k=>⟨let⟨old,se⟩:=st.1;⟨old,k e (by simp) _ se⟩,zvd st.2 λo z=>k it (by simp) o z⟩
 item:=by
  infer_instance;subst hP hw hK;obtain⟨xs,x,hx,ex⟩:=hg;obtain⟨its,r,pl,_⟩:=I.list hx;obtain⟨u,hu,ru⟩:=r.get ex;obtain⟨⟨old,se⟩,si⟩:=st;refine wpAny_pyNext_enum_item se si pl.isList (x:=u) (by simpa using hu) hne λh1 eo1 si1 q1 sz1 k1=>⟨_,rfl,?_⟩;refine wpAny_letOwnedTupleGo_enum eo1 λh2 e2 sb2=>?_;have hlt:∀c∈[e,it],c≠s.heap.objs.size:=λc hc=>by
   simp only[y08,y0q,or_false]at hc;rcases hc with rfl|rfl
   ·exact y0i (y0f se)
   ·obtain⟨o,z,_⟩:=si;exact y0i (y0f z)
  have k2:∀c o,c∉[e,it]->s.heap.get? c=some o->h2.get? c=some o:=λc o hc z =>
   sb2.extBut _ _ (λq=>hc (by simp[q])) (k1 c o (λq=>hc (by simp[q])) (λq=>hc (by simp[q])) z)
  have tup2:=sb2.extBut _ _ (Ne.symm (hlt e (by simp))) q1;have si2:h2.IsListIter it a (i+1):=zvc si1 sb2.extBut (Ne.symm hne);have e2':IsEnum h2 e it ((i+1:Nat):Int) u:=by rw[show((i+1:Nat):Int)=(i:Int)+1 by omega];exact e2
  have there:∀c∈[e,it],∃o,h2.get? c=some o:=λc hc=>by
   simp only[y08,y0q,or_false]at hc;rcases hc with rfl|rfl
   ·exact⟨_,e2⟩
   ·obtain⟨o,z,_⟩:=si2;exact⟨o,z⟩
  have I2:Inv X pins σ (upd H s.heap.objs.size (.tup [.int (i:Int),x])) {s with heap:=h2,toks:=s.toks+1}:=I.turnedNew k2 hf (y01 _) ⟨zaf (by simp),[.int i s.toks,u],.cons ⟨_,rfl⟩ (.cons ru .nil),⟨_,tup2,rfl,_,rfl⟩⟩ there;refine⟨.ref s.heap.objs.size,_,I2,rfl,⟨_,x,rfl,.mk' I.fresh _,λws hw=>by rw[I.list_inj hw hx];exact ex⟩,⟨⟨_,e2'⟩,si2⟩,λc hc=>?_⟩;rw[zar (hlt c hc)];exact(hf c hc).1
 done:=by
  infer_instance;subst hP hw hK;obtain⟨xs,hx,hl⟩:=hg;obtain⟨its,r,pl,_⟩:=I.list hx;have l1:=r.length;obtain⟨⟨old,se⟩,si⟩:=st;exact wpAny_pyNext_enum_end (I.ok.hd hc) se si pl.isList (by simp;omega) λh' k=>⟨rfl,I.turnedL (t':=s.toks) (λc o hc z=>k c o (λq=>hc (by simp[q])) z) hf⟩
 self:=λ_ _ _ _ _ st h=>let⟨_,se⟩:=st.1;wpAny_pyIter_enum se h
def iEnum(K:Frag)(ta:TA):TI:=λσ H R=>ta σ H λvs H1=>∃a,vs=[.ref a]/\(∃xs,SqL K H1 a xs)/\R (Ite K a) H1
theorem zsr{X:Cx}{elts:List Expr}{x1}{tpos:Pos}{a:Expr}{ta:TA}{p pos:Pos}(hg:Gl X "enumerate")(hm:X.mg "enumerate"=none)(ha:PA X [a] ta)(h1:notStar a=true:=by rfl):PI X (.Tuple elts x1 tpos) (.Call (.Name "enumerate" p) [a] [] pos) (iEnum X.K ta):=by
 intro pins s σ H R I h;have hs:ij [a] X.env=[(false,eval a X.env)]:=by rw[za7 h1,starEach.eq_def]
 refine Call_ (zet I hg hm boot_enumerate (PyProof.Rows.callWith_type1 (thn (ha pos pins s σ H _ I h) λus s1 zz=>ex5 zz λvs H1 I1 r1 q1=>?_) hs rfl));obtain⟨p1,e,⟨xs,hx⟩,q⟩:=q1;subst e;obtain⟨u,rfl,ru⟩:=vals1 r1;cases(show u=Value.ref p1 from ru);obtain⟨its,_,t1,_⟩:=I1.list hx;refine call_enumerate_list t1.isList λh' se si sz k=>wpAny_pyIter_enum se ?_;refine⟨_,[s1.heap.objs.size+1,s1.heap.objs.size],_,_,H1,rfl,I1.kept (t':=s1.toks) k,zl7 _ _ p1 (Nat.succ_ne_self _),⟨⟨_,se⟩,si⟩,λc hc=>?_,q⟩;have hle:s1.heap.objs.size<=c:=by
  simp only[y08,y0q,or_false]at hc;rcases hc with rfl|rfl
  ·exact Nat.le_add_right _ _
  ·exact y01 _
 exact I1.fpOk hle (I1.hok.fresh hle)
theorem zpr{X:Cx}(K:Frag){elts:List Expr}{x1}{tpos:Pos}{a:Expr}{ta:TA}{p pos:Pos}(hg:Gl X "enumerate")(hm:X.mg "enumerate"=none)(ha:PA X [a] ta)(h:X.K=K:=by rfl)(h1:notStar a=true:=by rfl):
  PI X (.Tuple elts x1 tpos) (.Call (.Name "enumerate" p) [a] [] pos) (iEnum K ta):=h▸zsr hg hm ha h1
def rInDc(neg:Bool):R2:=λy x H Q=>∃a o,x=.ref a/\DGet H a y o/\Q (.bl (if neg then !o.isSome else o.isSome)) H
section
variable {X:Cx}{o i value:Expr}{pos pos':Pos}{td ty tv:TE}
theorem zk7(hu:X.A.units+8<cLine):OpR X (ii .NotIn) (rInDc true):=by
 intro pins s σ H y x v u Q I ry rx h;obtain⟨a,o,rfl,g,q⟩:=h;obtain rfl:u=Value.ref a:=rx;exact ztr (by omega) I g ry λs3 I3=>⟨.bl (!o.isSome),H,I3,rfl,q⟩
theorem zd6(hu:X.A.units+8<cLine)(ho:PE X o td)(hi:PE X i ty)(hs:NoSl i):PE X (.Subscript o i pos) (tDGet td ty):=zsu (by omega) ho hi hs
theorem zgd(hu:X.A.units+8<cLine)(ho:PE X o td)(hi:PE X i ty)(hv:PE X value tv)(hs:iX value (some (.Subscript o i pos')) pos.line X.env=pure false):
  PS X (.Assign [.Subscript o i pos'] value pos) (sDPut td ty tv):=zsm (by omega) ho hi hv hs
def tDNewN:TE:=λ_ H Q=>∀p H',New H p (.dK []) H'->Q (.ref p) H'
def tDNewTN:TE:=λ_ H Q=>∀p H',New H p (.dT []) H'->Q (.ref p) H'
theorem zpv:PE X (.Dict [] [] pos) tDNewN:=λpins s σ H Q I h=>zpw pins s σ H Q I λp np=>h p _ (.mk' np _)
theorem zm8:PE X (.Dict [] [] pos) tDNewTN:=λpins s σ H Q I h=>zpu pins s σ H Q I λp np=>h p _ (.mk' np _)
def rLenD:List V->Hp->VK->Prop:=λxs H Q=>∃a kvs,xs=[V.ref a]/\H a=some (.dK kvs)/\Q (.int kvs.length) H
end
def rLenT:List V->Hp->VK->Prop:=λxs H Q=>∃a kvs,xs=[V.ref a]/\H a=some (.dT kvs)/\Q (.int kvs.length) H
def PairV(H:Hp)(r:V)(kv:Key×V):Prop:=∃t,r=.ref t/\H t=some (.tup [kV kv.1,kv.2])
def rDictOf(K:Frag):List V->Hp->VK->Prop:=λxs H Q=>∃(p:Addr) (rs:List V) (kvs:List (Key×V)),xs=[.ref p]/\SqL K H p rs/\iq (PairV H) rs kvs/\kvs.length<=1000/\∀d H',New H d (.dK (mergeK [] kvs)) H'->Q (.ref d) H'
def rMaxL(K:Frag):List V->Hp->VK->Prop:=λxs H Q=>∃(p:Addr) (ns:List Int),xs=[.ref p]/\SqL K H p (ns.map V.int)/\0<ns.length/\∀M,M∈ns->(∀a∈ns,a<=M)->Q (.int M) H
def rIndex(K:Frag):V->List V->Hp->VK->Prop:=λx vs H Q=>∃(p:Addr) (ns:List Int) (k:Int),x=.ref p/\vs=[.int k]/\SqL K H p (ns.map V.int)/\k∈ns/\ns.length<=1000/\Q (.int (ns.idxOf k:Nat)) H
def rCatTN(K:Frag):R2:=λx y H Q=>∃a b xs ys,x=.ref a/\y=.ref b/\SqT K H a xs/\SqT K H b ys/\xs≠[]/\ys≠[]/\xs.length+ys.length<=ie/\∀p H',New H p (.tup (xs++ys)) H'->Q (.ref p) H'
def tDisp1T(tk tv:TE):TE:=λσ H Q=>∀p H1,New H p (.dT []) H1->tk σ H1 λy H2=>tv σ H2 λz H3=>H3 p=some (.dT [])/\∃b ks,y=.ref b/\H3 b=some (.tup (ks.map kV))/\Q (.ref p) (upd H3 p (.dT [(ks,z)]))
def NeOk(X:Cx)(k:Nat)(H:Hp)(x y:V)(b:Bool):Prop:=∀(pins:Y2) (σ:St) (s:ic) (A:ir) (u v:Value),A.units+k<cLine->Inv X pins σ H s->RelV x u->RelV y v->SeqAt.RcNeAt A s u v b
def rNeM(X:Cx):R2:=λx y H Q=>∃c,NeOk X 8 H x y c/\Q (.bl c) H
theorem zus(hu:X.A.units+8<cLine):OpR X (ii .NotEq) (rNeM X):=by
 ac_rfl;obtain⟨c,r,q⟩:=h;exact r pins σ s X.A v u hu I rx ry _ _ _ _ ⟨.bl c,H,I,rfl,q⟩
def rRange2:List V->Hp->VK->Prop:=λxs H Q=>∃i j:Int,xs=[.int i,.int j]/\∀p H',New H p (.rng i j) H'->Q (.ref p) H'
def rListRng:List V->Hp->VK->Prop:=λxs H Q=>∃(p:Addr) (i j:Int),xs=[.ref p]/\H p=some (.rng i j)/\(0<=i/\i<=j/\j<=1000)/\∀l H',New H l (.lst ((List.range (j-i).toNat).map λ(k:Nat)=>V.int (i+k))) H'->Q (.ref l) H'
def rRepN:R2:=λx y H Q=>∃l k xs,x=.ref l/\y=.int k/\H l=some (.lst xs)/\-(2^63)<=k/\k<2^63/\xs.length*k.toNat<=ie/\∀p H',New H p (.lst (List.replicate k.toNat xs).flatten) H'->Q (.ref p) H'
theorem zna:OpR X (iC .Mult) rRepN:=λpins s σ H x y v u Q I rx ry h=>by
 obtain⟨l,k,xs,e1,e2,h1,h2,h3,h4,q⟩:=h;exact zuq pins s σ H x y v u Q I rx ry ⟨l,k,xs,e1,e2,h1,h2,h3,h4,λp np=>q p _ (.mk' np _)⟩
end L2
namespace SM
open PySem PySem.Spec PyProof.Rows L2 SS
theorem map_cast_inj:∀{a b:List Nat},(a.map λ(n:Nat)=>(n:Int))=(b.map λ(n:Nat)=>(n:Int))->a=b
 |[],[],_=>rfl
 |[],_::_,h=>nomatch h
 |_::_,[],h=>nomatch h
 |x::a,y::b,h=>by
  rw[y0h,y0h,List.cons.injEq]at h;rw[map_cast_inj h.2,show x=y by have:=h.1;omega]
end SM
namespace L2
def Itez(K:Frag)(a b:Addr):It :=
 ⟨λi H=>∃xs ys x y,SqT K H a xs/\SqT K H b ys/\xs[i]?=some x/\ys[i]?=some y,
  λi H v H'=>∃p r H1 x y,v=.ref r/\New H p (.tup [x,y]) H1/\New H1 r (.tup [.int (i:Int),.ref p]) H'/\(∀xs,SqT K H a xs->xs[i]?=some x)/\∀ys,SqT K H b ys->ys[i]?=some y,
  λi H=>∃xs ys,SqT K H a xs/\SqT K H b ys/\xs.length<=i⟩
def iEZ(K:Frag)(ta:TA):TI:=λσ H R=>ta σ H λvs H1=>∃a b,vs=[.ref a,.ref b]/\(∃xs,SqT K H1 a xs)/\(∃ys,SqT K H1 b ys)/\R (Itez K a b) H1
section
variable {tn:List Str}{cp:Y6}{g:TG}{tif:TT}{te:TE}{σ0:St}{Q:VK}{H1:Hp}{lo:Int}{n:Nat}
def PRnF(S:St->Prop)(p:Nat->Bool)(f:Nat->V)(H1:Hp)(i:Nat)(ys:List V)(σ:St)(H:Hp):Prop:=Same H1 H/\S σ/\ys=((List.range i).filter p).map f
theorem zts(S:St->Prop)(p:Nat->Bool)(f:Nat->V)(hn:n<=1000)(h0:S (stB tn cp σ0))
  (hs:∀D i σ H,i<n->Same H1 H->H1 D=none->H D=some (.lst (((List.range i).filter p).map f))->S σ->g (.int (lo+i)) σ H λσ2 H2=>tif σ2 H2 λc H3 =>
   if c=true then te σ2 H3 λv H4=>CStep D n i (PRnF S p f H1) σ2 v H4 else CSkip D n i (PRnF S p f H1) σ2 H3)
  (hd:∀D H,H1 D=none->Same H1 H->H D=some (.lst (((List.range n).filter p).map f))->Q (.ref D) H):cBody tn cp g tif te σ0 Q (Itr lo n) H1:=by
 refine zly n (λD=>PRnF S p f H1) (zaf hn) (λD hD=>⟨za8 hD _,h0,rfl⟩) (λD i ys σ H _ hi _ _=>hi) (λD ys σ H _ _ _=>y01 _) ?_ ?_
 ·rintro D i ys σ H x H' hD hi hH hl ⟨p1,p2,rfl⟩ ⟨rfl,rfl⟩;exact hs D i σ _ hi p1 hD hH p2
 ·rintro D ys σ H hD hH hl ⟨p1,p2,rfl⟩;exact hd D H hD p1 hH
theorem zox(p:Nat->Bool)(f:Nat->V)(i:Nat):(((List.range i).filter p).map f).length<=i:=by
 rw[y00];have:=y1b p (List.range i);rw[y1p]at this;exact this
theorem zkl(hn:n<=1000)(hi:i<n)(hp:p i=true)(hD:H1 D=none)(h4:H4 D=some (.lst (((List.range i).filter p).map f)))(g4:Same H1 H4)(s2:S σ2)(e:v=f i):CStep D n i (PRnF S p f H1) σ2 v H4:=by
 subst e;refine cstep (zaf hn) hi h4 (zox p f i) ⟨g4.wr hD _,s2,?_⟩;rw[y22,y1n,y0r];simp[hp]
theorem zkm(hi:i<n)(hp:p i=false)(h3:H3 D=some (.lst (((List.range i).filter p).map f)))(g3:Same H1 H3)(s2:S σ2):CSkip D n i (PRnF S p f H1) σ2 H3:=by
 refine cskip hi h3 (zox p f i) ⟨g3,s2,?_⟩;rw[y22,y1n];simp[hp]
end
def rCatTE:R2:=λx y H Q=>∃a b xs ys,x=.ref a/\y=.ref b/\H a=some (.tup xs)/\H b=some (.tup ys)/\xs.length+ys.length<=ie/\∀p H',Same H H'->H' p=some (.tup (xs++ys))->Q (.ref p) H'
end L2
namespace SM
open PySem PySem.Spec PyProof.Rows L2 SS
def back(bs:List Nat):Nat:=bs.reverse.foldl (λf b=>2*f+b) 0
def zd2:Sp:=λvs H Q _=>∃(c:Int),vs=[.int c]/\∀r:Int,0<=r->r<999999999989->Q (.int r) H
def cnt(m:Mc):Nat->Nat->Nat
 |0,r=>if m.fin r=true then 1 else 0
 |k+1,r=>((m.ways.getD r []).map (cnt m k)).sum
def cl(m:Mc)(k:Nat):List Nat:=(List.range m.ends.length).map (cnt m k)
def NoLen(H:Hp)(v:V)(n:Int):Prop:=(∃r:Int,v=.int r/\¬(0<=r/\r<n))\/∃k,Kd H v k/\k≠"int"
def zg3:Sp:=λvs H Q _=>∃v,vs=[v]/\((∃r:Int,v=.int r/\Q (.bl true) H)\/∃k,Kd H v k/\k≠"int"/\Q (.bl false) H)
def zg9:Sp:=λvs H Q _=>∃(v:V) (n:Int),vs=[v,.int n]/\((∃r:Int,v=.int r/\0<=r/\r<n/\Q (.bl true) H)\/(NoLen H v n/\Q (.bl false) H))
end SM
namespace L2
open PySem PySem.Spec PyProof.Rows PySem.W PySem.Calls
theorem zbq:OpR X (ii .LtE) (λx y H Q=>∃i j,x=.str i/\y=.str j/\Q (.bl (!(decide (j.cps.toList<i.cps.toList)))) H):=by
 ac_rfl;obtain⟨i,j,rfl,rfl,q⟩:=h;obtain⟨t,rfl⟩:=rx;obtain⟨t',rfl⟩:=ry;exact PySem.P.le_str (za4 I q rfl)
section
variable {tn:List Str}{cp:Y6}{g:TG}{tif:TT}{te:TE}{σ0:St}{Q:VK}{H1:Hp}
theorem ztv{K:Frag}{a:Addr}{xs:List V}(S:St->Prop)(p:Nat->Bool)(f:Nat->V)(hn:xs.length<=1000)(ha:SqL K H1 a xs)(h0:S (stB tn cp σ0))
  (hs:∀D i σ H x pt H2,xs[i]?=some x->Same H1 H->H1 D=none->H D=some (.lst (((List.range i).filter p).map f))->S σ->New H pt (.tup [.int (i:Int),x]) H2->g (.ref pt) σ H2 λσ2 H3=>tif σ2 H3 λc H4 =>
   if c=true then te σ2 H4 λv H5=>CStep D xs.length i (PRnF S p f H1) σ2 v H5 else CSkip D xs.length i (PRnF S p f H1) σ2 H4)
  (hd:∀D H,H1 D=none->Same H1 H->H D=some (.lst (((List.range xs.length).filter p).map f))->Q (.ref D) H):cBody tn cp g tif te σ0 Q (Ite K a) H1:=by
 refine zly xs.length (λD=>PRnF S p f H1) (zaf hn) (λD hD=>⟨za8 hD _,h0,rfl⟩) (λD i ys σ H _ hi _ q=>⟨xs,xs[i],q.1.seq ha,y0b hi⟩) (λD ys σ H _ _ q=>⟨xs,q.1.seq ha,y01 _⟩) ?_ ?_
 ·rintro D i ys σ H x H' hD hi hH hl ⟨p1,p2,rfl⟩ ⟨pt,u,e,n1,ex⟩;subst e;exact hs D i σ H u pt H' (ex xs (p1.seq ha)) p1 hD hH p2 n1
 ·rintro D ys σ H hD hH hl ⟨p1,p2,rfl⟩;exact hd D H hD p1 hH
end
end L2
namespace SM
open PySem PySem.Spec PyProof.Rows L2 SS
def cw(row:List Nat)(k:Nat):Nat:=(row.filter λl=>l/2^k%2==1).length
def isP(z:Str):Bool:=isNm (.str z) SMALL
def fitB(names:List Str)(row:List Nat):Bool:=(List.range names.length).all λk=>!isP (names.getD k (Str.ofString ""))||cw row k==1
def NmOk(z:Str):Prop:=Nam z SMALL\/Nam z GREAT
def FrOk(names:List Str):Prop:=names.length<=4/\∀z∈names,NmOk z
def zef:Sp:=λvs H Q _=>∃(r:Int) (k:Nat),vs=[.int r,nV k]/\k<=4/\Q (.bl (decide (0<=r/\r<2^k))) H
def zg8:Sp:=λvs H Q _=>∃(r:Addr) (row:List Nat) (k:Nat),vs=[.ref r,nV k]/\H r=some (.lst (row.map nV))/\row.length<=200/\(∀l∈row,l<32)/\k<=4/\∀H',Same H H'->Q (nV (cw row k)) H'
def zme:Sp:=λvs H Q _=>∃(f r:Addr) (names:List Str) (row:List Nat),vs=[.ref f,.ref r]/\H f=some (.lst (names.map V.str))/\FrOk names/\H r=some (.lst (row.map nV))/\row.length<=200/\(∀l∈row,l<32)/\∀H',Same H H'->Q (.bl (fitB names row)) H'
theorem zvy:∀l,l<32->∀t,t<5->Builtin.bitAnd (((l:Nat):Int)/2^t) 1=if(l/2^t%2==1)=true then 1 else 0:=by decide+kernel
theorem zrv(k:Nat)(hk:k<=4):∀(row:List Nat),(∀l∈row,l<32)->(row.map λ(l:Nat)=>Builtin.bitAnd ((l:Int)/2^k) 1).sum=((cw row k:Nat):Int)
 |[],_=>rfl
 |l::row,h=>by
  have ih:=zrv k hk row λx hx=>h x (y06 _ hx);rw[y0h,List.sum_cons,ih,zvy l (h l (y07 ..)) k (by omega)];unfold cw;rw[y29];split
  ·rw[y0c];omega
  ·omega
theorem zqi(h:NmOk z):z.length<=1000:=by
 have key:∀l,Nam z l->z.length<=1000:=λl hl=>by
  obtain⟨d,ds,e,_,h3,_⟩:=hl.ex;have:z.length=z.cps.toList.length:=by simp[Str.length]
  rw[this,e,y0c];omega
 rcases h with h|h
 ·exact key _ h
 ·exact key _ h
theorem ztq(c:Nat):decide (nV c=V.int 1)=(c==1):=by
 by_cases h:c=1
 ·subst h;rfl
 ·rw[decide_eq_false (λe=>h (by injection e with e;omega))];simp[h]
theorem zsl(ha:SqL X.K H a xs)(hb:SqL X.K H b xs)(fl:∀x∈xs,flatV x=true/\eqV x x=true):RcOk X 1 H (.ref a) (.ref b) true:=by
 have f:xs.all flatV=true:=y0w.mpr λx hx=>(fl x hx).1;have r:=zdd (X:=X) ha hb f f;rw[show(xs.length==xs.length&&(List.range xs.length).all λj=>eqV (xs.getD j .non) (xs.getD j .non))=true by
  rw[beq_self_eq_true,y1e,y0w];intro j hj;have hj':=y1h.mp hj;rw[y0u,y0b hj'];exact(fl _ (y0t hj')).2]at r
 exact r
theorem zop(ha:SqL X.K H a xs)(hb:SqL X.K H b xs)(fl:∀x∈xs,flatV x=true/\eqV x x=true):EqOk X (k+1) H (.ref a) (.ref b) true:=by
 by_cases hab:a=b
 ·subst hab;exact zoo
 ·exact .of_rc hab ((zsl ha hb fl).up (by omega))
theorem zvn(l:List Str):∀x∈l.map V.str,flatV x=true/\eqV x x=true:=λx hx=>by
 obtain⟨z,_,rfl⟩:=y0m.mp hx;exact⟨rfl,by simp[eqV]⟩
theorem zwa(l:List Nat):∀x∈l.map nV,flatV x=true/\eqV x x=true:=λx hx=>by
 obtain⟨z,_,rfl⟩:=y0m.mp hx;exact⟨rfl,by show eqV (.int _) (.int _)=true;rw[zor];simp⟩
theorem zrj(e:z.cps.toList=d::ds)(h1:d∈l.cps.toList)(h2:ds.length<=3)(h3:∀x∈ds,x∈FIGS.cps.toList):Nam z l:=⟨d,ds,e,h1,h2,h3⟩
open PySem
def rowWords:List Str:=["in","same","within","ahead","next"]
def bst(wd:Str)(l:Nat)(one other:Bool):Nat :=
 if l<=1 then l else if l=2 then
  (if wd="within" then(if one && !other then 0 else 2)
  else if !one&&(!other||decide (wd="in"))then 2
  else if decide (wd="in")||decide (wd="same")then(if one&&other then 1 else 0)
  else if other then 0 else if wd="ahead" then 1 else 3)
 else if one then 1 else 0
def bit(c k:Nat):Bool:=c/2^k%2==1
def bstep(wd:Str)(i j:Nat)(l c:Nat):Nat:=if l<=1 then l else if l=2 then bst wd 2 (bit c i) (bit c j)else bst wd 3 (bit c j) (bit c j)
def brun(wd:Str)(i j:Nat)(l:Nat)(row:List Nat):Nat:=row.foldl (bstep wd i j) l
def aend(wd:Str)(l:Nat):Bool:=decide (l=1)||(decide (l=2)&&decide (wd="within"))
def plc(k:Nat):Nat->List Nat->List Nat
 |_,[]=>[]
 |o,c::r=>if bit c k then o::plc k (o+1) r else plc k (o+1) r
theorem zem:∀{o:Nat} {r:List Nat} {x:Nat},x∈plc k o r->o<=x
 |o,[],x,h=>by simp[plc]at h
 |o,c::r,x,h=>by
  unfold plc at h;split at h
  ·rcases y08.mp h with e|e
   ·omega
   ·have:=zem e;omega
  ·have:=zem h;omega
theorem zba(h:l<=1):∀r:List Nat,brun wd i j l r=l
 |[]=>rfl
 |c::r=>by
  show brun wd i j (bstep wd i j l c) r=l;rw[show bstep wd i j l c=l by unfold bstep;rw[if_pos h]];exact zba h r
theorem zb0:brun wd i j l (c::r)=brun wd i j (bstep wd i j l c) r:=rfl
theorem zd9:o∉plc k (o+1) r:=λh=>by have:=zem h;omega
theorem b_within:∀(r:List Nat) (o:Nat),aend "within" (brun "within" i j 2 r)=(plc i o r).all λx=>decide (x∈plc j o r)
 |[],o=>by simp[brun,plc,aend]
 |c::r,o=>by
  have ih:=b_within (i:=i) (j:=j) r (o+1);rw[zb0];have hs:bstep "within" i j 2 c=if bit c i && !bit c j then 0 else 2:=by
   show bst "within" 2 (bit c i) (bit c j)=_;cases bit c i<;>cases bit c j<;>decide+kernel
  rw[hs];cases hi:bit c i<;>cases hj:bit c j<;>simp only[plc,hi,hj,y2k,y20,y1o,y2q,if_true,if_false,y0s,Bool.true_eq_false]
  ·exact ih
  ·rw[ih];refine all_cgm λx hx=>?_;have:x≠o:=by have:=zem hx;omega
   simp[this]
  ·rw[zba (by decide)];simp[aend,zd9]
  ·rw[y1j,ih];simp only[y08,true_or,decide_true,y1e];refine all_cgm λx hx=>?_;have:x≠o:=by have:=zem hx;omega
   simp[this]
where
 all_cgm {l:List Nat} {p q:Nat->Bool} (h:∀x∈l,p x=q x):l.all p=l.all q:=by
  induction l with
  |nil=>rfl
  |cons x l ih=>rw[y1j,y1j,h x y07,ih λy hy=>h y (y06 _ hy)]
theorem b_in:∀(r:List Nat) (o:Nat),(plc i o r).length=1->aend "in" (brun "in" i j 2 r)=(plc i o r).all λx=>decide (x∈plc j o r)
 |[],o,h=>by simp[plc]at h
 |c::r,o,h=>by
  rw[zb0];have hs:bstep "in" i j 2 c=if !bit c i then 2 else if bit c i&&bit c j then 1 else 0:=by
   show bst "in" 2 (bit c i) (bit c j)=_;cases bit c i<;>cases bit c j<;>decide+kernel
  rw[hs];cases hi:bit c i
  ·simp only[plc,hi,y2q,if_true,y0s,if_false]at h ⊢;have ih:=b_in (i:=i) (j:=j) r (o+1) h;rw[ih];refine b_within.all_cgm λx hx=>?_;have:x≠o:=by have:=zem hx;omega
   split<;>simp[this]
  ·simp only[plc,hi,if_true,y0c]at h;have e:plc i (o+1) r=[]:=y2g.mp (by omega);cases hj:bit c j<;>simp only[plc,hi,hj,e,y1o,y2k,y20,if_true,if_false,y0s]
   ·rw[zba (by decide)];simp[aend,zd9]
   ·rw[zba (by decide)];simp[aend]
theorem zrw:∀(r:List Nat) (o:Nat),(plc i o r).length=1->(plc j o r).length=1->aend "same" (brun "same" i j 2 r)=decide (plc i o r=plc j o r)
 |[],o,h,_=>by simp[plc]at h
 |c::r,o,h,h'=>by
  rw[zb0];have hs:bstep "same" i j 2 c=if !bit c i && !bit c j then 2 else if bit c i&&bit c j then 1 else 0:=by
   show bst "same" 2 (bit c i) (bit c j)=_;cases bit c i<;>cases bit c j<;>decide+kernel
  rw[hs];cases hi:bit c i<;>cases hj:bit c j<;>simp only[plc,hi,hj,y1o,y2q,y2k,y20,if_true,if_false,y0s,y0c]at h h' ⊢
  ·exact zrw r (o+1) h h'
  ·rw[zba (by decide)];have:¬plc i (o+1) r=o::plc j (o+1) r:=λe=>zd9 (k:=i) (r:=r) (by rw[e];exact y07);simp[aend,this]
  ·rw[zba (by decide)];have:¬o::plc i (o+1) r=plc j (o+1) r:=λe=>zd9 (k:=j) (r:=r) (by rw[←e];exact y07);simp[aend,this]
  ·rw[zba (by decide)];have e1:plc i (o+1) r=[]:=y2g.mp (by omega);have e2:plc j (o+1) r=[]:=y2g.mp (by omega);simp[aend,e1,e2]
theorem zqs(h:(plc k o r).length=1):o<=(plc k o r).getD 0 0:=by
 match e:plc k o r,h with
 |[x],_=>exact zem (k:=k) (r:=r) (by rw[e];exact y07)
theorem zo4:∀(r:List Nat) (o:Nat),(plc i o r).length=1->(plc j o r).length=1->aend "ahead" (brun "ahead" i j 2 r)=decide ((plc i o r).getD 0 0<(plc j o r).getD 0 0)
 |[],o,h,_=>by simp[plc]at h
 |c::r,o,h,h'=>by
  rw[zb0];have hs:bstep "ahead" i j 2 c=if !bit c i && !bit c j then 2 else if bit c j then 0 else 1:=by
   show bst "ahead" 2 (bit c i) (bit c j)=_;cases bit c i<;>cases bit c j<;>decide+kernel
  rw[hs];cases hi:bit c i<;>cases hj:bit c j<;>simp only[plc,hi,hj,y1o,y2q,y2k,y20,if_true,if_false,y0s,y0c]at h h' ⊢
  ·exact zo4 r (o+1) h h'
  ·rw[zba (by decide)];have:=zqs h;simp only[y1y];rw[decide_eq_false (by omega)];rfl
  ·rw[zba (by decide)];have:=zqs h';simp only[y1y];rw[decide_eq_true (by omega)];rfl
  ·rw[zba (by decide)];simp[aend]
theorem zvz:∀(r:List Nat) (o:Nat),(plc j o r).length=1->aend "next" (brun "next" i j 3 r)=decide (o=(plc j o r).getD 0 0)
 |[],o,h=>by simp[plc]at h
 |c::r,o,h=>by
  rw[zb0];have hs:bstep "next" i j 3 c=if bit c j then 1 else 0:=by
   show bst "next" 3 (bit c j) (bit c j)=_;cases bit c i<;>cases bit c j<;>decide+kernel
  rw[hs];cases hj:bit c j<;>simp only[plc,hj,if_true,if_false,y0s]at h ⊢
  ·rw[zba (by decide)];have:=zqs h;rw[decide_eq_false (by omega)];rfl
  ·rw[zba (by decide)];simp[aend]
theorem zrx:∀(r:List Nat) (o:Nat),(plc i o r).length=1->(plc j o r).length=1->aend "next" (brun "next" i j 2 r)=decide ((plc i o r).getD 0 0+1=(plc j o r).getD 0 0)
 |[],o,h,_=>by simp[plc]at h
 |c::r,o,h,h'=>by
  rw[zb0];have hs:bstep "next" i j 2 c=if !bit c i && !bit c j then 2 else if bit c j then 0 else 3:=by
   show bst "next" 2 (bit c i) (bit c j)=_;cases bit c i<;>cases bit c j<;>decide+kernel
  rw[hs];cases hi:bit c i<;>cases hj:bit c j<;>simp only[plc,hi,hj,y1o,y2q,y2k,y20,if_true,if_false,y0s,y0c]at h h' ⊢
  ·exact zrx r (o+1) h h'
  ·rw[zba (by decide)];have:=zqs h;simp only[y1y];rw[decide_eq_false (by omega)];rfl
  ·rw[zvz r (o+1) h'];simp only[y1y]
  ·rw[zba (by decide)];simp only[y1y];rw[decide_eq_false (by omega)];rfl
theorem zfq:∀(row:List Nat) (o:Nat),plc k o row=(((List.range row.length).filter λx=>bit (row.getD x 0) k).map (· + o))
 |[],o=>rfl
 |c::r,o=>by
  rw[y0c,y1g,y29,y2v];have ih:=zfq (k:=k) r (o+1);have e:(((List.range r.length).filter ((λx=>bit ((c::r).getD x 0) k)∘Nat.succ)).map Nat.succ).map (· + o)=plc k (o+1) r:=by
   rw[ih,y0x];refine(y2t λx _=>?_).trans rfl;show x+1+o=x+(o+1);omega
  show plc k o (c::r)=_;unfold plc;rw[y1y];cases h:bit c k
  ·simp only[y0s,if_false];exact e.symm
  ·simp only[if_true,y0h,y3m];rw[e]
def wth(row:List Nat)(k:Nat):List Nat:=(List.range row.length).filter λx=>bit (row.getD x 0) k
theorem zde(row:List Nat):plc k 0 row=wth row k:=by
 rw[zfq];show List.map (λx=>x+0) _=_;simp[wth]
theorem zm1:∀(row:List Nat) (o:Nat),(plc k o row).length=(row.filter λc=>bit c k).length
 |[],o=>rfl
 |c::r,o=>by
  unfold plc;rw[y29];cases bit c k<;>simp[zm1 r (o+1)]
def due(wd:Str)(p q:List Nat):Bool:=if wd="in"\/wd="within" then p.all λx=>decide (x∈q)else if wd="same" then decide (p=q)else if wd="ahead" then decide (p.getD 0 0<q.getD 0 0)else decide (p.getD 0 0+1=q.getD 0 0)
theorem zwf(hw:wd∈rowWords)(h1:wd≠"within"->(wth row i).length=1)(h2:wd≠"within"->wd≠"in"->(wth row j).length=1):aend wd (brun wd i j 2 row)=due wd (wth row i) (wth row j):=by
 rw[←zde,←zde]at *;simp only[rowWords,y08,y0q,or_false]at hw;rcases hw with rfl|rfl|rfl|rfl|rfl
 ·exact(b_in row 0 (h1 (by decide))).trans (by unfold due;rw[if_pos (by decide)])
 ·exact(zrw row 0 (h1 (by decide)) (h2 (by decide) (by decide))).trans (by unfold due;rw[if_neg (by decide),if_pos rfl])
 ·exact(b_within row 0).trans (by unfold due;rw[if_pos (by decide)])
 ·exact(zo4 row 0 (h1 (by decide)) (h2 (by decide) (by decide))).trans (by unfold due;rw[if_neg (by decide),if_neg (by decide),if_pos rfl])
 ·exact(zrx row 0 (h1 (by decide)) (h2 (by decide) (by decide))).trans (by unfold due;rw[if_neg (by decide),if_neg (by decide),if_neg (by decide)])
end SM
namespace L2
def Itr3(lo c:Int)(n:Nat):It:=⟨λi _=>i<n,λi H x H'=>H'=H/\x=.int (lo+i*c),λi _=>n<=i⟩
theorem zih{P:ig}{w:World}{K:Frag}{tg:Expr}(it:Addr)(lo c:Int)(n:Nat):Turn P w K tg (Itr3 lo c n) [it] it (λi h=>IsRangeIter h it (lo+(i:Nat)*c) ((n:Int)-(i:Nat)) c) where
 mem:=by simp
 obj:=λi h st b hb=>by
  have e:b=it:=by simpa using hb
  subst e;exact⟨_,st,λv z=>by
   have z':Data.fields _=Data.cell v:=z;cases z'⟩
 keep:=λi h h' st k=>k it (by simp) _ st
 item:=by
  infer_instance;subst hP hw hK;obtain⟨f0,f1,f2,f3,f4,f5⟩:=hf it (by simp);have W:=Walks.range (prog:=X.prog) (w:=X.w) (I.ok.hd hc) it lo c n;refine W.item i s _ _ hg st λv h' tk hv st' kk=>?_;obtain⟨t,rfl⟩:=hv;have I1:Inv X pins σ H {s with heap:=h',toks:=tk}:=I.turned (λb o hb e=>kk b o (by simpa using hb) e) f0 f1 f3 f4 f5;exact⟨_,rfl,zoi (s:={s with heap:=h',toks:=tk}) (n:="range_iterator") st' rfl rfl (by decide) ⟨.int (lo+i*c),H,I1,⟨t,rfl⟩,⟨rfl,rfl⟩,st',λb hb=>(hf b hb).1⟩⟩
 done:=by
  infer_instance;subst hP hw hK;obtain⟨f0,f1,f2,f3,f4,f5⟩:=hf it (by simp);exact wpAny_pyNext_range_end (I.ok.hd hc) st (by have:n<=i:=hg;omega) λh' eb=>⟨rfl,I.turned (t':=s.toks) (λb o hb e=>eb b o hb e) f0 f1 f3 f4 f5⟩
 self:=λ_ _ _ _ _ st h=>wpAny_pyIter_rangeiter st h
def iRng3(ta:TA):TI:=λσ H R=>ta σ H λvs H1=>∃i j c:Int,vs=[.int i,.int j,.int c]/\c≠0/\Builtin.Range.small i j c=true/\(j-i).natAbs<1000/\c.natAbs<1000/\0<=Builtin.Range.rangeSize i j c/\R (Itr3 i c (Builtin.Range.rangeSize i j c).toNat) H1
theorem zm4{X:Cx}{tg a b c:Expr}{ta:TA}{p pos:Pos}(hg:Gl X "range")(hm:X.mg "range"=none)(ha:PA X [a,b,c] ta)(h1:notStar a=true:=by rfl)(h2:notStar b=true:=by rfl)(h3:notStar c=true:=by rfl):
  PI X tg (.Call (.Name "range" p) [a,b,c] [] pos) (iRng3 ta):=by
 intro pins s σ H R I h;have hs3:ij [c] X.env=[(false,eval c X.env)]:=by rw[za7 h3,starEach.eq_def]
 have hs2:ij [b,c] X.env=[(false,eval b X.env),(false,eval c X.env)]:=by rw[za7 h2,hs3]
 have hs:ij [a,b,c] X.env=[(false,eval a X.env),(false,eval b X.env),(false,eval c X.env)]:=by rw[za7 h1,hs2]
 refine Call_ (zet I hg hm boot_range (PyProof.Rows.callWith_type1 (thn (ha pos pins s σ H _ I h) λus s1 zz=>ex5 zz λvs H1 I1 r1 q1=>?_) (by rw[hs,hs2]) (by rw[hs2];rfl)));obtain⟨i,j,k,e,hk0,hsm,hz,hz2,hnn,q⟩:=q1;subst e;cases r1 with
 |cons r rr =>
  cases rr with
  |cons r' rr =>
   cases rr with
   |cons r'' rr =>
    cases rr;obtain⟨t,rfl⟩:=r;obtain⟨t',rfl⟩:=r';obtain⟨t'',rfl⟩:=r'';refine PySem.call_range_3 hk0 ?_ (.inl (PyProof.noPylong_small (by omega)));refine wpAny_pyIter_range (IsRange.new ..) hsm ?_;have I2:Inv X pins σ H1 {s1 with heap:=s1.heap.push {cls:=.type "range",data:=.fields #[.int i t,.int j t',.int k t'']},toks:=s1.toks}:=I1.kept λb o e=>y02 _ e;refine⟨(s1.heap.push {cls:=.type "range",data:=.fields #[.int i t,.int j t',.int k t'']}).objs.size,[(s1.heap.push {cls:=.type "range",data:=.fields #[.int i t,.int j t',.int k t'']}).objs.size],_,_,H1,rfl,
     I2.kept (t':=s1.toks) λb o e=>y02 _ e,zih _ i k (Builtin.Range.rangeSize i j k).toNat,?_,λb hb=>?_,q⟩
    ·have e1:i+((0:Nat):Int)*k=i:=by simp
     have e2:(((Builtin.Range.rangeSize i j k).toNat:Nat):Int)-((0:Nat):Int)=Builtin.Range.rangeSize i j k:=by omega
     show IsRangeIter _ _ (i+((0:Nat):Int)*k) ((((Builtin.Range.rangeSize i j k).toNat:Nat):Int)-((0:Nat):Int)) k;rw[e1,e2];exact y0d _ rfl
    ·have e:b=(s1.heap.push {cls:=.type "range",data:=.fields #[.int i t,.int j t',.int k t'']}).objs.size:=by simpa using hb
     subst e;exact I2.fpOk (y01 _) (I2.hok.fresh (y01 _))
theorem zon{lo c:Int}{n:Nat}{g:TG}{tb:TS}{D:Ends}{σ0:St}{H1:Hp}(Pv:Nat->St->Hp->Prop)(h0:Pv 0 σ0 H1)
  (hs:∀i σ H,i<n->Pv i σ H->g (.int (lo+i*c)) σ H λσ2 H2=>tb {D with nx:=Pv (i+1),ct:=Pv (i+1),bk:=D.nx} σ2 H2) (hd:∀σ H,Pv n σ H->D.nx σ H):fBody g tb D σ0 (Itr3 lo c n) H1:=by
 refine⟨λi m σ H=>m=n-i/\i<=n/\Pv i σ H,⟨n,by simp,y14 _,h0⟩,?_⟩;rintro i m σ H ⟨rfl,hi,p⟩;by_cases hlt:i<n
 ·refine .inr ⟨hlt,Pv (i+1),λσ' H' p'=>⟨n-(i+1),by omega,rfl,hlt,p'⟩,λx H' y=>?_⟩;obtain⟨rfl,rfl⟩:=y;exact hs i σ H' hlt p
 ·have e:i=n:=by omega
  subst e;exact .inl ⟨y01 _,hd σ H p⟩
section
variable {tn:List Str}{cp:Y6}{g:TG}{tif:TT}{te:TE}{σ0:St}{Q:VK}{H1:Hp}{lo:Int}{n:Nat}
def PLst(S:St->Prop)(f:Nat->List V)(H1:Hp)(D:Addr)(i:Nat)(ys:List V)(σ:St)(H:Hp):Prop:=Same H1 H/\S σ/\ys.length=i/\∀j y,ys[j]?=some y->∃c,y=.ref c/\c≠D/\H c=some (.lst (f j))
theorem zq4(S:St->Prop)(f:Nat->List V)(hn:n<=1000)(h0:S (stB tn cp σ0))
  (hs:∀D i ys σ H,i<n->Same H1 H->H1 D=none->H D=some (.lst ys)->ys.length=i->(∀j y,ys[j]?=some y->∃c,y=.ref c/\c≠D/\H c=some (.lst (f j)))->S σ->g (.int (lo+i)) σ H λσ2 H2=>tif σ2 H2 λc H3 =>
   if c=true then te σ2 H3 λv H4=>CStep D n i (PLst S f H1 D) σ2 v H4 else CSkip D n i (PLst S f H1 D) σ2 H3)
  (hd:∀D ys H,H1 D=none->Same H1 H->H D=some (.lst ys)->ys.length=n->(∀j y,ys[j]?=some y->∃c,y=.ref c/\c≠D/\H c=some (.lst (f j)))->Q (.ref D) H):cBody tn cp g tif te σ0 Q (Itr lo n) H1:=by
 refine zly n (λD=>PLst S f H1 D) (zaf hn) (λD hD=>⟨za8 hD _,h0,rfl,λj y e=>by simp at e⟩) (λD i ys σ H _ hi _ _=>hi) (λD ys σ H _ _ _=>y01 _) ?_ ?_
 ·rintro D i ys σ H x H' hD hi hH hl ⟨p1,p2,p3,p4⟩ ⟨rfl,rfl⟩;exact hs D i ys σ _ hi p1 hD hH p3 p4 p2
 ·rintro D ys σ H hD hH hl ⟨p1,p2,p3,p4⟩;exact hd D ys H hD p1 hH p3 p4
theorem ztt(hn:n<=1000)(hi:i<n)(hD:H1 D=none)(h4:H D=some (.lst ys))(hl:ys.length=i)
  (hy:∀j y,ys[j]?=some y->∃c,y=.ref c/\c≠D/\H c=some (.lst (f j))) (g1:Same H1 H) (g4:Same H H4) (s2:S σ2) (hc:c≠D) (ec:H4 c=some (.lst (f i))):CStep D n i (PLst S f H1 D) σ2 (.ref c) H4:=by
 refine cstep (zaf hn) hi (g4 _ _ h4) (by omega) ⟨(g1.trans g4).wr hD _,s2,by simp[hl],λj y ej=>?_⟩;by_cases h:j<ys.length
 ·rw[y16 h]at ej;obtain⟨c',e1,e2,e3⟩:=hy j y ej;exact⟨c',e1,e2,by rw[zar e2];exact g4 _ _ e3⟩
 ·have hj:j<(ys++[V.ref c]).length:=(y05.mp ej).1;rw[y0a,y0n]at hj;have e:j=ys.length:=by omega
  rw[e,y1f (y01 _),Nat.sub_self]at ej;injection ej with ej
  refine⟨c,ej.symm,hc,?_⟩;rw[zar hc,ec,e,hl]
end
section
variable {X:Cx}{k:Nat}{H:Hp}{x y:V}{a b:Addr}{xs ys:List V}
theorem zlc(hx:SqL X.K H a xs)(hy:SqL X.K H b ys)(hl:xs.length=ys.length)(e:Nat->Bool)(he:∀j (h1:j<xs.length) (h2:j<ys.length),EqOk X k H xs[j] ys[j] (e j)):
  NeOk X (k+1) H (.ref a) (.ref b) (!(List.range xs.length).all e):=λpins σ s A u v hu I rx ry=>by
 cases(show u=Value.ref a from rx);cases(show v=Value.ref b from ry);obtain⟨us,r1,p1,_⟩:=I.list hx;obtain⟨vs,r2,p2,_⟩:=I.list hy;have l1:=r1.length;have l2:=r2.length;have q:=SeqAt.RcNeAt.lists (A:=A) (e:=e) p1.isList p2.isList (by rw[y03,y03];omega) (by omega) λj h1 h2=>by
  rw[y03]at h1 h2;obtain⟨g1,q1⟩:=r1.at h1;obtain⟨g2,q2⟩:=r2.at h2;exact he j g1 g2 pins σ s A.in1 _ _ (by show A.units+1+k<cLine;omega) I (by simpa using q1) (by simpa using q2)
 rw[y03,←l1]at q;exact q
end
structure DfnM(K:Frag)(C:Addr)(m q:Str)(st:Stmt)(ps:List Str):Prop where
 ex:∃f fd,Fun K m q st f fd/\Binds K fd ps []/\Meth K C m f
structure CalM(P:ig)(w:World)(K:Frag)(mg:Y1)(base:Heap)(n:Nat)(C:Addr)(m:Str)(ps:List Str)(sp:Sp):Prop where
 ex:∃f fd,FnOk P w K mg base CX0 n f fd ps sp/\Binds K fd ps []/\Meth K C m f
structure DfnI(K:Frag)(C:Addr)(q:Str)(st:Stmt)(ps:List Str):Prop where
 ex:∃f fd,Fun K "__init__" q st f fd/\Binds K fd ps []/\Mk K C f
structure CalI(P:ig)(w:World)(K:Frag)(mg:Y1)(base:Heap)(n:Nat)(C:Addr)(x:Str)(ps:List Str)(sp:Sp):Prop where
 ex:∃f fd,FnOk P w K mg base CX0 n f fd ps sp/\Binds K fd ps []/\Mk K C f
 mg:mg x=some (.ref C)
section
variable {P:ig}{w:World}{K:Frag}{mg:Y1}{base:Heap}{C:Addr}
theorem DfnM.cal{m q:Str}{st:Stmt}{N ps:List Str}{k:Nat}{sp:Sp}(d:DfnM K C m q st ps)(S:FnScope N ps (defScope st))(len:∀vs H Q E,sp vs H Q E->vs.length=ps.length)
  (hbody:∀(f:Addr) (cdv:Value) (A:ir) (outer:List Env) (s:ic) (H:Hp) (vs:List V) (Q:VK) (E:XK),Room k (A.deeper (iY q (defScope st) s.heap.objs.size f cdv))->sp vs H Q E->
   ∃t,PSs (cxOf CX0 P w K mg base N q (defScope st) f cdv A outer s H E).nox (defBody st) t/\t {nx:=λ_ H'=>Q .non H',rt:=Q} (start N vs) H):CalM P w K mg base (k+1) C m ps sp:=by
 obtain⟨f,fd,F,b,M⟩:=d.ex;exact⟨f,fd,F.ok S len (hbody f),b,M⟩
theorem DfnI.cal{q x:Str}{st:Stmt}{N ps:List Str}{k:Nat}{sp:Sp}(d:DfnI K C q st ps)(hm:mg x=some (.ref C))(S:FnScope N ps (defScope st))(len:∀vs H Q E,sp vs H Q E->vs.length=ps.length)
  (hbody:∀(f:Addr) (cdv:Value) (A:ir) (outer:List Env) (s:ic) (H:Hp) (vs:List V) (Q:VK) (E:XK),Room k (A.deeper (iY q (defScope st) s.heap.objs.size f cdv))->sp vs H Q E->
   ∃t,PSs (cxOf CX0 P w K mg base N q (defScope st) f cdv A outer s H E).nox (defBody st) t/\t {nx:=λ_ H'=>Q .non H',rt:=Q} (start N vs) H):CalI P w K mg base (k+1) C x ps sp:=by
 obtain⟨f,fd,F,b,M⟩:=d.ex;exact⟨⟨f,fd,F.ok S len (hbody f),b,M⟩,hm⟩
theorem DfnM.never{m q:Str}{st:Stmt}{ps:List Str}{sp:Sp}(d:DfnM K C m q st ps)(no:∀vs H Q E,¬sp vs H Q E):CalM P w K mg base 0 C m ps sp:=by
 obtain⟨f,fd,F,b,M⟩:=d.ex;exact⟨f,fd,⟨λvs H Q E h=>absurd h (no _ _ _ _),λ_ _ _ _ _ _ _ _ _ _ _ _ _ h=>absurd h (no _ _ _ _)⟩,b,M⟩
theorem CalM.mono(c:CalM P w K mg base j C m ps sp)(h:j<=k):CalM P w K mg base k C m ps sp:=by
 obtain⟨f,fd,F,r⟩:=c.ex;exact⟨f,fd,F.mono h,r⟩
end
section
variable {X:Cx}{C:Addr}{n k:Nat}{m x:Str}{ps:List Str}{sp:Sp}{p pos apos:Pos}{o e:Expr}{es:List Expr}{ta:TE}{t:TA}
theorem zan{pl:Sem Bool}(M:CalM X.prog X.w X.K X.mg X.base n C m ps sp)(c:Cls X.K C)(hr:Room k X.A)(hle:n<=k)(he:PE X o ta)(ha:PA X (e::es) t)
  (h1:notStar e=true:=by rfl) (h2:es.all notStar=true:=by rfl)
  (ht:eval (.Call (.Attribute o m apos) (e::es) [] pos) X.env=(do
   let ov ←eval o X.env
   standAt apos.atName
   let(f,first) ←holding [ov] (getMethod ov m pl)
   callWith pos f first (iV pos (ij (e::es) X.env)) (backToKw pos (keywordEach [] X.env))):=by rfl) :
  PE X (.Call (.Attribute o m apos) (e::es) [] pos) (tMeth C m sp [] E0 ta t):=by
 obtain⟨f,fd,F,b,hm⟩:=M.ex;exact zss (pl:=pl) he c hm F (hr.mono hle) b .nil pass0 ha (za7 h1) (zcr h2) ht
theorem zps(M:CalI X.prog X.w X.K X.mg X.base n C x ps sp)(hr:Room k X.A)(hle:n+1<=k)(hg:Gl X x)(hdb:(x==("__debug__":Str))=false:=by decide):PE X (.Call (.Name x p) [] [] pos) (tMake C sp [] E0 tNil):=by
 obtain⟨f,fd,F,b,hm⟩:=M.ex;exact zpt hm F (hr.mono hle) hg M.mg b .nil pass0 hdb
end
theorem zrp:∀(zs:List Str) (m:Nat) (h:m<zs.length),zs.idxOf zs[m]<=m
 |y::r,0,h=>by simp
 |y::r,m+1,h=>by
  rw[y3u];have:=zrp r m (by simpa using h);cases(y==(y::r)[m+1])
  ·simp only[cond_false,List.getElem_cons_succ];omega
  ·simp
def rIndexT(K:Frag):V->List V->Hp->VK->Prop:=λx vs H Q=>∃(p:Addr) (zs:List Str) (z:Str),x=.ref p/\vs=[.str z]/\SqL K H p (zs.map V.str)/\z∈zs/\zs.length<=1000/\Q (.int ((zs.idxOf z:Nat):Int)) H
theorem znz(hu:X.A.units+8<cLine):MtR X "list.index" (rIndexT X.K):=by
 intro pins s σ H x xs v us Q I rx rs h;obtain⟨p,zs,z,rfl,rfl,hx,hk,hz,q⟩:=h;cases rx;obtain⟨u,rfl,t,rfl⟩:=vals1 rs;obtain⟨vs,rv,pl,_⟩:=I.list hx;have hlen:=rv.length;rw[y00]at hlen;have hv:∀(i:Nat) (hi:i<zs.length),∃(h:i<vs.length) (t:Tok),vs[i]=.str zs[i] t:=λi hi=>by
  obtain⟨h',y⟩:=rv.at (j:=i) (by omega);rw[List.getElem_map]at y;obtain⟨t,e⟩:=(show∃t,vs[i]=Value.str zs[i] t from y);exact⟨by omega,t,e⟩
 obtain⟨⟨cls,dd,data,sl⟩,ho,hc,n,hd⟩:=pl.isList;simp only at hc hd;subst hc hd;have hj:zs.idxOf z<zs.length:=y0v.mpr hk;let e':Value->Bool:=λ|.str b _=>decide (b=z)|_=>false
 refine jn PySem.F.slot_list_index ⟨_,ho,rfl⟩ PySem.F.entry_list_index (PySem.F.args_list_index_2 _ _)
  (SeqAt.list_indexAt p vs.toArray n dd sl (.str z t) e' (zs.idxOf z) (by simp;omega) (by omega) ?_ ?_) ⟨ho,λy hy=>?_,?_⟩
 ·obtain⟨h,t',e⟩:=hv _ hj;show e' vs[zs.idxOf z]=true;rw[e];exact decide_eq_true (List.getElem_idxOf hj)
 ·intro m hm hlt;have hm':m<zs.length:=by simp at hm;omega
  obtain⟨h,t',e⟩:=hv m hm';show e' vs[m]=false;rw[e];refine decide_eq_false λc=>?_;have h2:zs.idxOf z<=m:=by
   rw[←c];exact zrp zs m hm'
  omega
 ·obtain⟨i,hi,rfl⟩:=y2u (show y∈vs by simpa using hy);obtain⟨h,t',e⟩:=hv i (by omega);rw[e];exact zhz (X:=X) (k:=0) (H:=H) (x:=.str zs[i]) (y:=.str z) rfl rfl pins σ s X.A.in1 _ _ (by show X.A.units+1+0<cLine;omega) I ⟨t',rfl⟩ ⟨t,rfl⟩
 ·exact⟨.int _,H,I.tok _,⟨_,rfl⟩,q⟩
theorem zlf(K:Frag)(hu:X.A.units+8<cLine)(h:X.K=K:=by rfl):MtR X "list.index" (rIndexT K):=h▸znz hu
section
variable {K:Frag}{C:Addr}
theorem dfnm_mk{m q:Str}{st:Stmt}{ps:List Str}{f:Addr}{oc:Value}{od an:Option Addr}{osl:Y8}{kV doc pm cdv ct:Value}(a:PySem.W.findIn K (.ref C) m=some (some (.ref f)))(i:PySem.W.isFn K (.ref f)=true)
  (l:K.lookup f=some ⟨oc,od,.func (PySem.W.fnOf m q (defArgs st) (defBody st) (defScope st) .none kV doc pm an cdv ct),osl⟩) (c:PySem.W.codeIn K cdv q=true) (k:PySem.W.keepIn K (.ref f)=true)
  (hb:∀(kV doc pm:Value) (an:Option Addr) (cdv ct:Value) (us:List Value),us.length=ps.length->j9 (PySem.W.fnOf m q (defArgs st) (defBody st) (defScope st) .none kV doc pm an cdv ct) ⟨us,[]⟩=pure (ps.zip us)):DfnM K C m q st ps :=
 ⟨f,_,zey l c k,(zey l c k).binds hb,⟨a,i,k⟩⟩
theorem dfni_mk{q:Str}{st:Stmt}{ps:List Str}{f:Addr}{oc:Value}{od an:Option Addr}{osl:Y8}{kV doc pm cdv ct:Value}(mk:PySem.W.makesIn K C=true)(a:PySem.W.findIn K (.ref C) "__init__"=some (some (.ref f)))(i:PySem.W.isFn K (.ref f)=true)(kc:PySem.W.keepIn K (.ref C)=true)
  (l:K.lookup f=some ⟨oc,od,.func (PySem.W.fnOf "__init__" q (defArgs st) (defBody st) (defScope st) .none kV doc pm an cdv ct),osl⟩) (c:PySem.W.codeIn K cdv q=true) (k:PySem.W.keepIn K (.ref f)=true)
  (hb:∀(kV doc pm:Value) (an:Option Addr) (cdv ct:Value) (us:List Value),us.length=ps.length->j9 (PySem.W.fnOf "__init__" q (defArgs st) (defBody st) (defScope st) .none kV doc pm an cdv ct) ⟨us,[]⟩=pure (ps.zip us)):DfnI K C q st ps :=
 ⟨f,_,zey l c k,(zey l c k).binds hb,⟨mk,a,i,kc⟩⟩
theorem noattr_mk(h:PySem.W.findIn K (.ref C) f=some none):NoAttr K C f:=h
end
def gLst(K:Frag)(n:Nat)(t:TGs):TG:=λv σ H Q=>∃a xs,v=.ref a/\SqL K H a xs/\xs.length=n/\t xs σ H Q
end L2
namespace SM
structure Thg where
 w:Nat
 step:List Nat->List (List Nat)
 fin:List Nat->Bool
section
variable {T:Thg}{G:List Nat->Prop}{first:List Nat}{fs:List (List Nat)}
theorem zbl{α:Type}[DecidableEq α]:∀{xs:List α} {x:α},x∈xs->xs[nOf xs x]?=some x
 |y::ys,x,h=>by
  by_cases e:y=x
  ·subst e;simp[nOf]
  ·have h':x∈ys:=by
    rcases y08.mp h with z|z
    ·exact absurd z.symm e
    ·exact z
   show(y::ys)[List.idxOf x (y::ys)]?=some x;rw[y3u,show(y==x)=false by simp[e],cond_false,y1x];exact zbl h'
end
theorem zea{α:Type}[DecidableEq α]:∀{xs ys:List α},xs.Nodup->(∀x∈xs,x∈ys)->xs.length<=ys.length
 |[],_,_,_=>y14 _
 |x::xs,ys,hn,h=>by
  rw[y1r]at hn;have hx:=h x y07;have:=zea (ys:=ys.erase x) hn.2 λy hy=>(List.mem_erase_of_ne (λe=>hn.1 (by rw[←e];exact hy))).mpr (h y (y06 _ hy));rw[List.length_erase_of_mem hx]at this;have:=List.length_pos_of_mem hx;rw[y0c];omega
open PySem PySem.Spec PyProof.Rows L2 SS
theorem zkq{c a:Nat}(hc:c<32)(ha:a<=4):(!decide (Builtin.bitAnd (c:Int) ((2^a:Nat):Int)=0))=bit c a:=by
 have h:∀(c:Fin 32) (a:Fin 5),(!decide (Builtin.bitAnd ((c:Nat):Int) ((2^(a:Nat):Nat):Int)=0))=bit c a:=by decide+kernel
 exact h ⟨c,hc⟩ ⟨a,by omega⟩
abbrev fl3(x y z:V):List (Str×V):=[("forms",x),("numbers",y),("steps",z)]
theorem zdi{f g:Str}{v:V}{r:List (Str×V)}(h:(f==g)=false):List.lookup f ((g,v)::r)=List.lookup f r:=by simp only[List.lookup,h]
theorem zom{f:Str}{v:V}{r:List (Str×V)}:List.lookup f ((f,v)::r)=some v:=by simp only[List.lookup,BEq.rfl]
theorem zbk:List.lookup ("forms":Str) (fl3 x y z)=some x:=zom
theorem zdj:List.lookup ("numbers":Str) (fl3 x y z)=some y:=(zdi (by decide)).trans zom
theorem zgm:List.lookup ("steps":Str) (fl3 x y z)=some z:=(zdi (by decide)).trans ((zdi (by decide)).trans zom)
theorem zgn(h1:(f==("forms":Str))=false)(h2:(f==("numbers":Str))=false)(h3:(f==("steps":Str))=false):List.lookup f (fl3 x y z)=none:=(zdi h1).trans ((zdi h2).trans ((zdi h3).trans rfl))
theorem zvo(x y z:V):putF "steps" z (putF "numbers" y (putF "forms" x []))=fl3 x y z:=by
 show putF "steps" z (putF "numbers" y [("forms",x)])=_;have e1:putF "numbers" y [("forms",x)]=([("forms",x),("numbers",y)]:List (Str×V)):=by
  show(if("forms":Str)="numbers" then _ else _)=_;rw[if_neg (by decide)];rfl
 rw[e1];show(if("forms":Str)="steps" then _ else _::(if("numbers":Str)="steps" then _ else _::_))=_;rw[if_neg (by decide),if_neg (by decide)];rfl
def zjw:Sp:=λvs H Q _=>∃(b:Addr) (z:Str) (tl:List Str) (i:Nat),vs=[.str z,.ref b]/\H b=some (.lst (tl.map V.str))/\tl.length<=4/\tl.idxOf z=i/\i<tl.length/\Q (nV (2^i)) H
def zfk:Sp:=λvs H Q _=>∃(b:Addr) (tl:List Str),vs=[.ref b]/\H b=some (.lst (tl.map V.str))/\tl.length<=4/\(∀z∈tl,z.length<=4)/\frameB (tl.map V.str)=true/\∀H',Same H H'->Q .non H'
def zjp:Sp:=λvs H Q _=>∃(b r:Addr) (tl:List Str) (row:List Nat),vs=[.ref b,.ref r]/\H b=some (.lst (tl.map V.str))/\tl.length<=4/\H r=some (.lst (row.map nV))/\row.length<=200/\(∀c∈row,c<2^tl.length)/\∀H',Same H H'->Q .non H'
def zjt:Sp:=λvs H Q _=>∃(b r:Addr) (tl:List Str) (row:List Nat),vs=[.ref b,.ref r]/\H b=some (.lst (tl.map V.str))/\FrOk tl/\H r=some (.lst (row.map nV))/\row.length<=200/\(∀c∈row,c<2^tl.length)/\∀H',Same H H'->Q (.bl (fitB tl row)) H'
end SM
namespace L2
abbrev Key2:=Key ⊕ List Key
section
variable {prog:ig}{w:World}
def Is2(prog:ig)(w:World)(h:Heap):Key2->Value->Prop
 |.inl k,v=>(mixKind prog w).is k v=true
 |.inr l,v=>∃b,v=.ref b/\IsTupleKey (mixKind prog w) h l b
inductive Its2(prog:ig)(w:World)(h:Heap):List Key2->List Value->Prop
 |nil:Its2 prog w h [] []
 |cons {k:Key2} {v:Value} {ks:List Key2} {vs:List Value}:Is2 prog w h k v->Its2 prog w h ks vs->Its2 prog w h (k::ks) (v::vs)
def IsNest(prog:ig)(w:World)(h:Heap)(ks:List Key2)(a:Addr):Prop:=∃o items n,h.get? a=some o/\o.cls=.type "tuple"/\o.data=.seq items n/\Its2 prog w h ks items.toList
theorem zgv(h:(mixKind prog w).is k v=true):carriedByValue v=true:=(mixKind prog w).byValue _ _ h
theorem Is2.inj(hx:Is2 prog w h x v)(hy:Is2 prog w h y v):x=y:=by
 cases x with
 |inl k =>
  cases y with
  |inl j=>rw[(mixKind prog w).inj _ _ _ hx hy]
  |inr l =>
   obtain⟨b,rfl,_⟩:=hy;exact absurd (zgv hx) (by simp[carriedByValue])
 |inr l =>
  obtain⟨b,rfl,hb⟩:=hx;cases y with
  |inl j=>exact absurd (zgv hy) (by simp[carriedByValue])
  |inr l' =>
   obtain⟨b',e,hb'⟩:=hy;cases e;rw[hb.inj hb']
theorem Its2.inj:∀{x y:List Key2},Its2 prog w h x vs->Its2 prog w h y vs->x=y:=by
 intro x y hx
 induction hx generalizing y with
 |nil=>intro hy;cases hy;rfl
 |cons h1 _ ih =>
  intro hy;cases hy with
  |cons h2 t2=>rw[h1.inj h2,ih t2]
theorem IsNest.ty{s:ic}(x:IsNest prog w s.heap ks a):s.TypeIs (.ref a) "tuple":=let⟨o,_,_,ho,hc,_⟩:=x;⟨o,ho,hc⟩
theorem IsNest.inj(hx:IsNest prog w h x a)(hy:IsNest prog w h y a):x=y:=by
 obtain⟨o,its,n,ho,_,hd,hi⟩:=hx;obtain⟨o',its',n',ho',_,hd',hi'⟩:=hy;rw[ho]at ho';cases ho';rw[hd]at hd';cases hd';exact hi.inj hi'
theorem Is2.keeps(x:Is2 prog w h k v)(ho:h.get? d=some o)(hd:o.data=.dict es ep)(hs:Heap.SameBut d h h'):Is2 prog w h' k v:=by
 cases k with
 |inl k=>exact x
 |inr l =>
  obtain⟨b,e,hb⟩:=x;exact⟨b,e,hb.keeps ho hd hs⟩
theorem Its2.keeps(ho:h.get? d=some o)(hd:o.data=.dict es ep)(hs:Heap.SameBut d h h')(x:Its2 prog w h ks vs):Its2 prog w h' ks vs:=by
 induction x with
 |nil=>exact .nil
 |cons h1 _ ih=>exact .cons (h1.keeps ho hd hs) ih
theorem IsNest.keeps(x:IsNest prog w h ks a)(ho:h.get? d=some o)(hd:o.data=.dict es ep)(hs:Heap.SameBut d h h'):IsNest prog w h' ks a:=by
 obtain⟨o',its,n,ho',hc,hd',hi⟩:=x;have ne:a≠d:=λe=>by
  subst e;rw[ho]at ho';cases ho';rw[hd]at hd';cases hd'
 exact⟨o',its,n,(hs.2 a ne).trans ho',hc,hd',hi.keeps ho hd hs⟩
def hash2(prog:ig)(w:World):Key2->Int
 |.inl k=>(mixKind prog w).hash k
 |.inr l=>tupleKeyHash (mixKind prog w) l
def draws2:Key2->Nat
 |.inl _=>1
 |.inr l=>l.length+1
def drawsN(ks:List Key2):Nat:=(ks.map draws2).foldr (· + ·) 0
theorem zi4(ks:List Key2)(k:Key2):drawsN (ks++[k])=drawsN ks+draws2 k:=by
 unfold drawsN
 induction ks with
 |nil=>simp
 |cons x r ih =>
  rw[y3q,y0h,List.foldr_cons,ih,y0h,List.foldr_cons];omega
variable {A:ir}{E:Y0}{s:ic}
theorem zog(hu:A.units<cLine)(x:Is2 prog w s.heap k v)(q:Q (hash2 prog w k) {s with toks:=s.toks+draws2 k}):wpAny (model prog w) A (pyHash v) Q E s:=by
 cases k with
 |inl k=>exact(mixKind prog w).pyHash x q
 |inr l =>
  obtain⟨b,rfl,hb⟩:=x;exact wpAny_pyHash_tuple hu hb q
def nestHash(prog:ig)(w:World)(ks:List Key2):Int:=reduceHash (Builtin.Tuple.tupleHashOf (ks.map (hash2 prog w)))
theorem zof(hu:A.units+1<cLine)(hk:IsNest prog w s.heap ks a)(q:Q (nestHash prog w ks) {s with toks:=s.toks+(drawsN ks+1)}):
  wpAny (model prog w) A (pyHash (.ref a)) Q E s:=by
 have ty:=hk.ty;obtain⟨o,its,n,ho,_,hd,hi⟩:=hk;unfold pyHash
 first|unfold pyHashByItsType|skip
 first|refine ia (wpAny_cRoomFor_or (.inr (Nat.lt_of_succ_lt hu)) ?_)|skip
 refine ia (i8 ty PySem.F.slot_tuple_hash.lookup ?_);show wpAny _ _ (if(some (Value.builtin "tuple.__hash__")==some Value.none)=true then _ else _) Q _ s;rw[if_neg (by rw[beq_builtin_none];exactλz=>nomatch z)];refine ia (i8 ty PySem.F.slot_tuple_hash.lookup ?_);show wpAny _ _ (callSpecialIfBoundUnlessNone? (.ref a) "__hash__" _>>=λ_=>_) Q _ s;refine ia (wpAny_callSpecialIfBoundUnlessNone?_slot ty PySem.F.slot_tuple_hash (ik PySem.F.slot_tuple_hash ty PySem.F.entry_tuple_hash ?_ (PySem.F.args_tuple_hash_1 _)));show wpAny _ _ (Builtin.Tuple.tupleItemsOf (.ref a)>>=λ_=>_) _ _ s;refine ia (wpAny_tupleItemsOf ho hd (ia ?_));rw[←y2l];refine wpAny_forIn_list _ (λleft (b:Array Int) s'=>∃d l,ks=d++l/\Its2 prog w s.heap l left/\b.toList=d.map (hash2 prog w)/\s'={s with toks:=s.toks+drawsN d}) _ ?_ ?_ _ _ ⟨[],ks,rfl,hi,rfl,rfl⟩
 ·rintro x left b s' ⟨d,l,rfl,hl,hb,rfl⟩;cases hl with
  |@cons k _ l' _ h1 hl' =>
   refine ia (zog (s:={s with toks:=s.toks+drawsN d}) hu h1 ?_);have e1:({s with toks:=s.toks+drawsN d+draws2 k}:ic)={s with toks:=s.toks+drawsN (d++[k])}:=by rw[zi4,y3h]
   first
    |exact ib ⟨d++[k],l',by simp,hl',by simp[hb],e1⟩
    |exact ia (ib (ib ⟨d++[k],l',by simp,hl',by simp[hb],e1⟩))
 ·rintro b s' ⟨d,l,rfl,hl,hb,rfl⟩;cases hl;rw[y1s]at q;show wpAny _ _ (retInt (Builtin.Tuple.tupleHashOf b.toList)) _ _ _;rw[hb];refine wpAny_ret_mkInt ?_;generalize hH:Builtin.Tuple.tupleHashOf (d.map (hash2 prog w))=z;unfold nestHash reduceHash at q;rw[hH]at q;show wpAny _ _ (if(decide (-(2:Int)^63<=z)&&decide (z<2^63))=true then _ else _) Q _ _;by_cases hr:(decide (-(2:Int)^63<=z)&&decide (z<2^63))=true
  ·rw[if_pos hr]at q ⊢;exact ib (by simpa[y3h]using q)
  ·rw[if_neg hr]at q ⊢;exact ia (iK (ib (by simpa[y3h]using q)))
theorem zwd:decide ((Sum.inl a:Key2)=Sum.inl b)=decide (a=b):=by
 by_cases e:a=b
 ·rw[e];simp
 ·rw[decide_eq_false e,decide_eq_false λq=>e (Sum.inl.inj q)]
theorem zwc:decide ((Sum.inr a:Key2)=Sum.inr b)=decide (a=b):=by
 by_cases e:a=b
 ·rw[e];simp
 ·rw[decide_eq_false e,decide_eq_false λq=>e (Sum.inr.inj q)]
theorem zkh(x:IsTupleKey (mixKind prog w) h l b):∃its,h.IsTuple b its:=by
 obtain⟨o,its,n,ho,hc,hd,_⟩:=x;exact⟨its,o,ho,hc,n,hd⟩
theorem zto(hu:A.units<cLine)(hx:Is2 prog w s.heap x u)(hy:Is2 prog w s.heap y v)(q:Q (decide (x=y)) s):wpAny (model prog w) A (eqBool u v) Q E s:=by
 cases x with
 |inl k =>
  cases y with
  |inl j=>rw[zwd]at q;exact(mixKind prog w).eqBool hx hy q
  |inr l =>
   obtain⟨b,rfl,hb⟩:=hy;obtain⟨its,tb⟩:=zkh hb;rw[decide_eq_false (λz=>nomatch z)]at q;rcases zaz hx with⟨i,t,rfl,rfl⟩|⟨z,t,rfl,rfl⟩|⟨c,rfl,rfl⟩
   ·exact SeqAt.EqAt.int_tuple i t tb hu prog w E Q q
   ·exact SeqAt.EqAt.str_tuple z t tb hu prog w E Q q
   ·exact SeqAt.EqAt.bool_tuple c tb hu prog w E Q q
 |inr l =>
  obtain⟨b,rfl,hb⟩:=hx;cases y with
  |inl j =>
   obtain⟨its,tb⟩:=zkh hb;rw[decide_eq_false (λz=>nomatch z)]at q;rcases zaz hy with⟨i,t,rfl,rfl⟩|⟨z,t,rfl,rfl⟩|⟨c,rfl,rfl⟩
   ·exact SeqAt.EqAt.tuple_int i t tb hu prog w E Q q
   ·exact SeqAt.EqAt.tuple_str z t tb hu prog w E Q q
   ·exact SeqAt.EqAt.tuple_bool c tb hu prog w E Q q
  |inr l' =>
   obtain⟨b',rfl,hb'⟩:=hy;rw[zwc]at q;exact wpAny_eqBool_tuple hu hb hb' q
theorem znx(hu:A.units<cLine)(hx:IsNest prog w s.heap x a)(hy:IsNest prog w s.heap y b)(q:R (.done (.ret (.bool (decide (x=y))))) s):
  wpAny (model prog w) A (Builtin.«tuple.__eq__» ⟨[.ref a,.ref b],[]⟩) R E s:=by
 have tb:=hy.ty;obtain⟨oa,xs,na,hoa,_,hda,hia⟩:=hx;obtain⟨ob,ys,nb,hob,_,hdb,hib⟩:=hy;show wpAny _ _ (isInstance (.ref b) (.type "tuple")>>=λ_=>_) _ _ s;refine ia (iE tb isSubtype_tuple_tuple ?_);simp only[if_false,y0s,y1o];refine ia (wpAny_tupleItemsOf hoa hda (ia (wpAny_tupleItemsOf hob hdb (ia ?_))));refine wpAny_forIn_list _ (λleft r s'=>r.1=none/\s'=s/\∃x' y' xs' ys',left=List.zip xs' ys'/\Its2 prog w s.heap x' xs'/\Its2 prog w s.heap y' ys'/\decide (x'=y')=decide (x=y)/\(xs'.length==ys'.length)=(xs.size==ys.size)) _ ?_ ?_ _ _
  ⟨rfl,rfl,x,y,xs.toList,ys.toList,rfl,hia,hib,rfl,by simp⟩
 ·rintro⟨u,v⟩ left r s' ⟨hr,rfl,x',y',xs',ys',hz,hx',hy',hdec,hlen⟩;cases hx' with
  |nil=>simp at hz
  |@cons k1 u' x2 xs2 h1 hx2 =>
   cases hy' with
   |nil=>simp at hz
   |@cons k2 v' y2 ys2 h2 hy2 =>
    rw[List.zip_cons_cons]at hz;cases hz;refine ia (zto hu h1 h2 ?_);by_cases hk:k1=k2
    ·subst hk;rw[decide_eq_true rfl];simp only[if_false,y0s,y1o];refine ib ⟨rfl,rfl,x2,y2,xs2,ys2,rfl,hx2,hy2,?_,by simpa using hlen⟩;rw[←hdec];by_cases hxy:x2=y2<;>simp[hxy]
    ·rw[decide_eq_false hk];simp only[if_true,y2q];have hf:decide (x=y)=false:=by rw[←hdec];simp[hk]
     rw[hf]at q;exact ia (ib (ib (ib q)))
 ·rintro⟨r1,r2⟩ s' ⟨hr,rfl,x',y',xs',ys',hz,hx',hy',hdec,hlen⟩;simp only at hr;subst hr;refine ib ?_;have e:(xs.size==ys.size)=decide (x=y):=by
   rw[←hdec,←hlen];cases hx' with
   |nil=>cases hy'<;>simp
   |cons _ _ =>
    cases hy' with
    |nil=>simp
    |cons _ _=>simp at hz
  show R (.done (.ret (.bool (xs.size==ys.size)))) s';rw[e];exact q
theorem ztn(hu:A.units+1<cLine)(hx:IsNest prog w s.heap x a)(hy:IsNest prog w s.heap y b)(q:Q (decide (x=y)) s):wpAny (model prog w) A (eqBool (.ref a) (.ref b)) Q E s:=by
 unfold eqBool
 try with_reducible refine ix ?_
 show wpAny _ _ (if(Value.ref a==Value.ref b)=true then _ else _) Q E s;by_cases hab:(Value.ref a==Value.ref b)=true
 ·rw[if_pos hab];cases eq_of_beq hab;cases hx.inj hy;exact ia (iK (ib (by simpa using q)))
 ·rw[if_neg hab];exact ia (wpAny_richCompare_same_room (op:=.Eq) hx.ty hy.ty PySem.F.slot_tuple_eq
   (ik PySem.F.slot_tuple_eq hx.ty PySem.F.entry_tuple_eq (znx hu hx hy ⟨_,rfl,(λe=>nomatch e),il q⟩) (PySem.F.args_tuple_eq_2 _ _)) (Nat.lt_of_succ_lt hu))
theorem zmx(hk:IsTupleKey (mixKind prog w) s.heap l a)(q:Q true s):wpAny (model prog w) A (eqIsQuiet (n+1) (.ref a)) Q E s:=by
 have ty:=hk.typeIs;obtain⟨o,its,m,ho,_,hd,hi⟩:=hk;unfold eqIsQuiet;refine ia (i8 ty PySem.F.slot_tuple_eq.lookup ?_);show wpAny _ _ (isInstance (.ref a) (.type "tuple")>>=λ_=>_) _ _ s;refine ia (iE ty isSubtype_tuple_tuple ?_);simp only[if_false,y0s,y1o];refine ia (i0 ho hd (ia ?_));show wpAny _ _ (forIn its _ _) _ _ s;rw[←y2l];refine wpAny_forIn_list _ (λleft r s'=>r.1=none/\s'=s/\∀v∈left,carriedByValue v=true) _ ?_ ?_ _ _ ⟨rfl,rfl,hi.byValue⟩
 ·rintro v left r s' ⟨hr,rfl,hall⟩;rw[eqIsQuiet_byValue _ (hall v y07)];refine ia (ib ?_);simp only[if_false,y0s,y1o];exact ib ⟨rfl,rfl,λu hm=>hall u (y06 _ hm)⟩
 ·rintro⟨r1,r2⟩ s' ⟨hr,rfl,_⟩;simp only at hr;subst hr;exact ib q
theorem zk2(h:Is2 prog w s.heap k v)(q:Q true s):wpAny (model prog w) A (eqIsQuiet (n+1) v) Q E s:=by
 cases k with
 |inl k =>
  rw[eqIsQuiet_byValue _ (zgv h)];exact ib q
 |inr l =>
  obtain⟨b,rfl,hb⟩:=h;exact zmx hb q
theorem Its2.mem(x:Its2 prog w h ks vs):∀v∈vs,∃k,Is2 prog w h k v:=by
 induction x with
 |nil=>intro v hv;cases hv
 |@cons k v' ks vs h1 _ ih =>
  intro v hv;rcases y08.mp hv with rfl|hv
  ·exact⟨k,h1⟩
  ·exact ih v hv
theorem zk1(hk:IsNest prog w s.heap ks a)(q:Q true s):wpAny (model prog w) A (eqIsQuiet 8 (.ref a)) Q E s:=by
 have ty:=hk.ty;obtain⟨o,its,m,ho,_,hd,hi⟩:=hk;unfold eqIsQuiet;refine ia (i8 ty PySem.F.slot_tuple_eq.lookup ?_);show wpAny _ _ (isInstance (.ref a) (.type "tuple")>>=λ_=>_) _ _ s;refine ia (iE ty isSubtype_tuple_tuple ?_);simp only[if_false,y0s,y1o];refine ia (i0 ho hd (ia ?_));show wpAny _ _ (forIn its _ _) _ _ s;rw[←y2l];refine wpAny_forIn_list _ (λleft r s'=>r.1=none/\s'=s/\∀v∈left,∃k,Is2 prog w s.heap k v) _ ?_ ?_ _ _ ⟨rfl,rfl,hi.mem⟩
 ·rintro v left r s' ⟨hr,rfl,hall⟩;obtain⟨k,h1⟩:=hall v y07;refine ia (zk2 h1 ?_);simp only[if_false,y0s,y1o];exact ib ⟨rfl,rfl,λu hm=>hall u (y06 _ hm)⟩
 ·rintro⟨r1,r2⟩ s' ⟨hr,rfl,_⟩;simp only at hr;subst hr;exact ib q
end
def nestKind(prog:ig)(w:World):HeapKind prog w (List Key2) where
 is:=IsNest prog w
 hash:=nestHash prog w
 draws:=λks=>drawsN ks+1
 room:=λA=>A.units+1<cLine
 inj:=λhx hy=>hx.inj hy
 keeps:=λx ho hd hs=>x.keeps ho hd hs
 pyHash:=λhu hk h=>zof hu hk h
 eqBool:=λhu hx hy h=>ztn hu hx hy h
 quiet:=λhk h=>zk1 hk h
abbrev NRow:=List Key2×Addr×V
def rowR(y:NRow)(x:List Key2×Addr×Value):Prop:=y.1=x.1/\y.2.1=x.2.1/\RelV y.2.2 x.2.2
def dN(P:ig)(w:World)(a:Addr)(ys:List NRow):HO:=.ext λh=>(a==iy)=false/\ys.length<=ie/\∃xs:List (List Key2×Addr×Value),iq rowR ys xs/\
 ∃o es ep,h.get? a=some o/\o.ExactDict/\o.data=.dict es ep/\es.toList=xs.map (entryOfKey (nestKind P w))/\(xs.map (·.1)).Nodup
def N2(H:Hp)(v:V):Key2->Prop
 |.inl k=>v=kV k
 |.inr l=>∃c,v=.ref c/\H c=some (.tup (l.map kV))
def NestAt(H:Hp)(b:Addr)(ks:List Key2):Prop:=∃vs,H b=some (.tup vs)/\iq (N2 H) vs ks
def Keys(H:Hp)(ys:List NRow):Prop:=∀y∈ys,NestAt H y.2.1 y.1
theorem N2.ts(ts:TupS H H')(x:N2 H v k):N2 H' v k:=by
 cases k with
 |inl k=>exact x
 |inr l =>
  obtain⟨c,e,hc⟩:=x;exact⟨c,e,ts _ _ hc⟩
theorem NestAt.ts(x:NestAt H b ks)(ts:TupS H H'):NestAt H' b ks:=by
 obtain⟨vs,e,p⟩:=x;exact⟨vs,ts _ _ e,L2.Paired.mapP p λ_ _ z=>z.ts ts⟩
theorem Keys.ts(x:Keys H ys)(ts:TupS H H'):Keys H' ys:=λy hy=>(x y hy).ts ts
section
variable {P:ig}{w:World}{H:Hp}{h:Heap}{a b:Addr}
theorem NestAt.is(ok:HOk P w H h)(x:NestAt H b ks):IsNest P w h ks b:=by
 obtain⟨vs,e,p⟩:=x;obtain⟨_,its,r,o,h1,h2,n,h3⟩:=(show ObjOk P w H h b (.tup vs)from ok b _ e);refine⟨o,its.toArray,n,h1,h2,h3,?_⟩;have all:∀{vs:List V} {ks:List Key2},iq (N2 H) vs ks->∀{us:List Value},Vals vs us->Its2 P w h ks us:=by
  intro vs ks q
  induction q with
  |nil=>intro us r;cases r;exact .nil
  |@cons v k vs ks hv _ ih =>
   intro us r;cases r with
   |cons rv rs =>
    refine .cons ?_ (ih rs);cases k with
    |inl k=>cases(show v=kV k from hv);exact zqp rv
    |inr l =>
     obtain⟨c,rfl,hc⟩:=hv;exact⟨c,rv,zht ok hc⟩
 simpa using all p r
theorem ztp(ok:HOk P w H h)(e:H a=some (dN P w a ys))(kk:Keys H ys):(a==iy)=false/\ys.length<=ie/\∃xs,iq rowR ys xs/\h.DictOfH (nestKind P w) a xs:=by
 obtain⟨⟨hd,hz,xs,rel,o,es,ep,h1,h2,h3,h4,h5⟩,_,_⟩:=(show ObjOk P w H h a (dN P w a ys)from ok a _ e);refine⟨hd,hz,xs,rel,o,es,ep,h1,h2,h3,h4,λx hx=>?_,h5⟩;have all:∀{ys:List NRow} {xs:List (List Key2×Addr×Value)},iq rowR ys xs->Keys H ys->∀x∈xs,(nestKind P w).is h x.1 x.2.1:=by
  intro ys xs q
  induction q with
  |nil=>intro _ x hx;cases hx
  |@cons y x ys xs hq _ ih =>
   intro kk z hz;rcases y08.mp hz with e|hz
   ·subst e;have:=(kk y y07).is ok;rw[hq.1,hq.2.1]at this;exact this
   ·exact ih (λy hy=>kk y (y06 _ hy)) z hz
 exact all rel kk x hx
def valN(ys:List NRow)(k:List Key2):Option V:=(ys.find? λy=>decide (y.1=k)).map (·.2.2)
theorem zga(r:iq rowR ys xs)(k:List Key2):RelO (valN ys k) ((atKey xs k).map (·.2)):=by
 unfold valN atKey
 induction r with
 |nil=>exact True.intro
 |@cons y x ys xs hq _ ih =>
  rw[y1m,y1m,←hq.1];by_cases e:y.1=k
  ·rw[decide_eq_true e];exact hq.2.2
  ·rw[decide_eq_false e];exact ih
theorem zrs(hd:(a==iy)=false)(hz:ys.length<=ie)(r:iq rowR ys xs)(dd:h'.DictOfH (nestKind P w) a xs):ObjOk P w H' h' a (dN P w a ys):=by
 obtain⟨o,es,ep,h1,h2,h3,h4,_,h5⟩:=dd;refine⟨⟨hd,hz,xs,r,o,es,ep,h1,h2,h3,h4,h5⟩,⟨o,h1⟩,λg1 g2 x kp=>?_⟩;obtain⟨q1,q2,xs',q3,o',es',ep',q4,q5⟩:=x;exact⟨q1,q2,xs',q3,o',es',ep',kp _ q4,q5⟩
theorem zmu(r:iq rowR ys xs)(rv:RelV v u):iq rowR (ys++[(k,b,v)]) (xs++[(k,b,u)]):=by
 induction r with
 |nil=>exact .cons ⟨rfl,rfl,rv⟩ .nil
 |cons h _ ih=>exact .cons h ih
end
section
variable {X:Cx}
def rNotInN(P:ig)(w:World):R2:=λy x H Q=>∃a b ys k,x=.ref a/\y=.ref b/\H a=some (dN P w a ys)/\Keys H ys/\NestAt H b k/\Q (.bl (!(valN ys k).isSome)) H
theorem znb(hu:X.A.units+8<cLine):OpR X (ii .NotIn) (rNotInN X.prog X.w):=by
 intro pins s σ H y x v u Q I ry rx h;obtain⟨a,b,ys,k,rfl,rfl,e,kk,nb,q⟩:=h;obtain rfl:u=Value.ref a:=rx;obtain rfl:v=Value.ref b:=ry;obtain⟨hd,hz,xs,rel,dd⟩:=ztp I.hok e kk;refine wpAny_notIn_heap (knd:=nestKind X.prog X.w) (show X.A.units+1+1<cLine by omega) (nb.is I.hok) hd dd ?_;have z:=(zga rel k).isSome_eq;rw[y2x]at z;rw[←z];exact⟨.bl (!(valN ys k).isSome),H,I.tok _,rfl,q⟩
def sDPutN(P:ig)(w:World)(td ty tv:TE):TS:=λD σ H=>tv σ H λv H1=>td σ H1 λx H2=>ty σ H2 λy H3=>∃a b ys k,x=.ref a/\y=.ref b/\H3 a=some (dN P w a ys)/\Keys H3 ys/\NestAt H3 b k/\valN ys k=none/\ys.length<ie/\
 ∀H4,H4=upd H3 a (dN P w a (ys++[(k,b,v)]))->D.nx σ H4
theorem zpo{td ty tv:TE}(hu:X.A.units+8<cLine)(ho:PE X o td)(hi:PE X i ty)(hv:PE X value tv)(hs:iX value (some (.Subscript o i pos')) pos.line X.env=pure false):
  PS X (.Assign [.Subscript o i pos'] value pos) (sDPutN X.prog X.w td ty tv):=by
 intro pins s σ H D I h;refine wpAny_Assign_Subscript (thn (hv pins s σ H _ I h) λr s1 zz=>ex5 zz λv H1 I1 rv q1=>thn (ho pins s1 σ H1 _ I1 q1) λu s2 zz=>ex5 zz λx H2 I2 rx q2=>thn (hi pins s2 σ H2 _ I2 q2) λiv s3 ⟨y,H3,I3,ry,a,b,ys,k,ex,ey,e,kk,nb,hn,hl,q3⟩=>?_) hs;subst ex ey;obtain rfl:u=Value.ref a:=rx;obtain rfl:iv=Value.ref b:=ry;obtain⟨hd,hz,xs,rel,dd⟩:=ztp I3.hok e kk;have hzx:xs.length<=ie:=by rw[←Paired.length rel];exact hz
 refine wpAny_setItem_heap (knd:=nestKind X.prog X.w) (hsz:=hzx) (show X.A.units+1+1<cLine by omega) (nb.is I3.hok) dd λh' dd' ss=>?_;have z:=(zga rel k).isSome_eq;rw[hn,y2x]at z;have ek:atKey xs k=none:=by
  cases q:atKey xs k with
  |none=>rfl
  |some p=>rw[q]at z;cases z
 rw[storedH_new ek]at dd';have dd2:=dd';obtain⟨q,es,ep,hq,_⟩:=dd2;refine⟨σ,_,zi6 I3 (by rw[e];exact True.intro) ss ⟨q,hq⟩ (zrs hd ?_ (zmu rel rv) dd'),q3 _ rfl⟩;rw[y0a,y0n];omega
def tDGetN(P:ig)(w:World)(td ty:TE):TE:=λσ H Q=>td σ H λx H1=>ty σ H1 λy H2=>∃a b ys k v,x=.ref a/\y=.ref b/\H2 a=some (dN P w a ys)/\Keys H2 ys/\NestAt H2 b k/\valN ys k=some v/\Q v H2
def tDNew2(P:ig)(w:World):TE:=λ_ H Q=>∀p H',New H p (dN P w p []) H'->Q (.ref p) H'
theorem zqz(h:Heap)(hb:iy<h.objs.size):ObjOk P w H (h.push {cls:=.type "dict",data:=.dict #[]}) h.objs.size (dN P w h.objs.size []):=by
 refine zrs (xs:=[]) (beq_eq_false_iff_ne.mpr (y21 hb)) (y14 _) .nil ?_;exact⟨_,#[],_,y0d _ rfl,⟨rfl,rfl,rfl⟩,rfl,rfl,λx hx=>(nomatch hx),y3c⟩
theorem zpx:PE X (.Dict [] [] pos) (tDNew2 X.prog X.w):=λpins s σ H Q I h =>
 wpAny_Dict_empty ⟨.ref s.heap.objs.size,_,I.laid (a:=s.heap.objs.size) (o:=dN X.prog X.w s.heap.objs.size []) (t':=s.toks) (λ_ _ q=>y02 _ q) (y01 _) (zqz s.heap I.big),rfl,h _ _ (.mk' (I.hok.fresh (y01 _)) _)⟩
theorem zpy(hu:X.A.units+8<cLine)(ho:PE X o td)(hi:PE X i ty)(hs:NoSl i):PE X (.Subscript o i pos) (tDGetN X.prog X.w td ty):=by
 intro pins s σ H Q I h;refine zmb PySem.F.slot_dict_getitem.lookup hs (thn (ho pins s σ H _ I h) λu s1 zz=>ex5 zz λx H1 I1 rx q1=>thn (hi pins s1 σ H1 _ I1 q1) λiv s2 zz=>ex5 zz λy H2 I2 ry zq=>?_);obtain⟨a,b,ys,k,v,ex,ey,e,kk,nb,hv,q2⟩:=zq;subst ex ey;obtain rfl:u=Value.ref a:=rx;obtain rfl:iv=Value.ref b:=ry;obtain⟨hd,hz,xs,rel,dd⟩:=ztp I2.hok e kk;obtain⟨w',hw,rw'⟩:=RelO.some_of (v:=v) (o:=(atKey xs k).map (·.2)) (by rw[←hv];exact zga rel k);obtain⟨p,hp,hp2⟩:=y19.mp hw;have ty:s2.TypeIs (.ref a) "dict":=by
  obtain⟨ob,_,_,ho',hx,_⟩:=id dd;exact⟨ob,ho',hx.1⟩
 refine⟨ty,wpAny_getItem_heap (knd:=nestKind X.prog X.w) (show X.A.units+1+1<cLine by omega) (nb.is I2.hok) dd hp ?_⟩;rw[hp2];exact⟨v,H2,I2.tok _,rw',q2⟩
end
open PySem
abbrev Rise(xs:Array Nat):Prop:=xs.toList.Pairwise (· < ·)
theorem zgb(h:Rise xs)(hij:i<j)(hj:j<xs.size):xs.getD i 0<xs.getD j 0:=by
 have:=List.pairwise_iff_getElem.mp h i j (by simpa using y2w hij hj) (by simpa using hj) hij;simp only[Array.getElem_toList]at this;rw[Array.getD,Array.getD,dif_pos (y2w hij hj),dif_pos hj];exact this
theorem zgw(h:Rise xs)(j:Nat):∀(fuel lo hi:Nat),lo<=hi->hi<=xs.size->hi-lo<=fuel->(∀i,i<lo->xs.getD i 0<j)->(∀i,hi<=i->i<xs.size->j<=xs.getD i 0)->
  SetTable.below.go xs j fuel lo hi<=xs.size/\(∀i,i<SetTable.below.go xs j fuel lo hi->xs.getD i 0<j)/\∀i,SetTable.below.go xs j fuel lo hi<=i->i<xs.size->j<=xs.getD i 0
 |0,lo,hi,h1,h2,h3,h4,h5=>by
  have e:lo=hi:=by omega
  unfold SetTable.below.go;exact⟨by omega,h4,λi hi'=>h5 i (by omega)⟩
 |fuel+1,lo,hi,h1,h2,h3,h4,h5=>by
  unfold SetTable.below.go;by_cases c:lo<hi
  ·rw[if_pos c];have hm:(lo+hi)/2<xs.size:=by omega
   have e:xs.getD ((lo+hi)/2) j=xs.getD ((lo+hi)/2) 0:=by rw[Array.getD,Array.getD,dif_pos hm,dif_pos hm]
   show _/\_/\_;simp only;by_cases c2:xs.getD ((lo+hi)/2) j<j
   ·rw[if_pos c2];refine zgw h j fuel ((lo+hi)/2+1) hi (by omega) h2 (by omega) (λi hi'=>?_) h5;by_cases c3:i=(lo+hi)/2
    ·rw[c3,←e];exact c2
    ·exact y2w (zgb h (j:=(lo+hi)/2) (by omega) hm) (by rw[←e];exact c2)
   ·rw[if_neg c2];refine zgw h j fuel lo ((lo+hi)/2) (by omega) (by omega) (by omega) h4 λi hi' hs=>?_;by_cases c3:i=(lo+hi)/2
    ·rw[c3,←e];omega
    ·have:=zgb h (i:=(lo+hi)/2) (j:=i) (by omega) hs;rw[e]at c2;omega
  ·rw[if_neg c];exact⟨by omega,h4,λi hi'=>h5 i (by omega)⟩
theorem zdl(h:Rise xs)(j:Nat):SetTable.below xs j<=xs.size/\(∀i,i<SetTable.below xs j->xs.getD i 0<j)/\∀i,SetTable.below xs j<=i->i<xs.size->j<=xs.getD i 0 :=
 zgw h j xs.size 0 xs.size (y14 _) (y01 _) (by omega) (λi hi=>absurd hi (y1q _)) λi h1 h2=>by omega
theorem zl0(h:Rise xs)(hi:i<xs.size):SetTable.below xs (xs.getD i 0+1)=i+1:=by
 obtain⟨h1,h2,h3⟩:=zdl h (xs.getD i 0+1);by_cases c:SetTable.below xs (xs.getD i 0+1)<=i
 ·have:=h3 i c hi;omega
 ·by_cases c2:SetTable.below xs (xs.getD i 0+1)=i+1
  ·exact c2
  ·have:=h2 (i+1) (by omega);have:=zgb h (i:=i) (j:=i+1) (by omega) (by omega);omega
theorem zlz(h:Rise xs):SetTable.below xs 0=0:=by
 obtain⟨h1,h2,h3⟩:=zdl h 0;by_cases c:SetTable.below xs 0=0
 ·exact c
 ·have:=h2 0 (by omega);omega
theorem zgk(xs:Array α)(p:Nat)(x:α):(SetTable.insertAt xs p x).toList=xs.toList.take p++x::xs.toList.drop p:=by
 unfold SetTable.insertAt;rw[Array.toList_append,y3l,Array.toList_extract,Array.toList_extract];simp;exact y0o (by simp)
theorem zit(h:Rise xs)(hj:xs[SetTable.below xs j]? ≠ some j):Rise (SetTable.insertAt xs (SetTable.below xs j) j):=by
 obtain⟨h1,h2,h3⟩:=zdl h j;show(SetTable.insertAt xs (SetTable.below xs j) j).toList.Pairwise (· < ·);rw[zgk];generalize SetTable.below xs j=p at *;have at':∀i (hi:i<xs.size),xs.getD i 0=xs.toList[i]'(by simpa using hi):=λi hi=>by rw[Array.getD,dif_pos hi];simp
 have gt:∀i,p<=i->i<xs.size->j<xs.getD i 0:=λi hp hi=>by
  have hle:=h3 i hp hi;by_cases c:i=p
  ·subst c;have hne:xs.getD i 0≠j:=λe=>hj (by rw[y1k hi,←e,Array.getD,dif_pos hi];rfl);omega
  ·have h4:=h3 p (y01 _) (by omega);have:=zgb h (i:=p) (j:=i) (by omega) hi;omega
 refine List.pairwise_append.mpr ⟨h.sublist (List.take_sublist _ _),List.pairwise_cons.mpr ⟨λy hy=>?_,h.sublist (List.drop_sublist _ _)⟩,λx hx y hy=>?_⟩
 ·obtain⟨i,hi,e⟩:=y2u hy;rw[List.getElem_drop]at e;have hi':p+i<xs.size:=by rw[y1v]at hi;simp at hi;omega
  rw[←e,←at' _ hi'];exact gt _ (by omega) hi'
 ·have xlt:x<j:=by
   obtain⟨i,hi,e⟩:=y2u hx;rw[List.getElem_take]at e;have hi':i<p/\i<xs.size:=by rw[y13]at hi;simp at hi;omega
   rw[←e,←at' _ hi'.2];exact h2 i hi'.1
  rcases y08.mp hy with rfl|hy
  ·exact xlt
  ·obtain⟨i,hi,e⟩:=y2u hy;rw[List.getElem_drop]at e;have hi':p+i<xs.size:=by rw[y1v]at hi;simp at hi;omega
   rw[←e,←at' _ hi'];have:=gt (p+i) (by omega) hi';omega
structure Tb(led:Bool)(t:iL):Prop where
 rise:Rise t.place
 led:t.led=led
 dum:t.dummies=#[]
theorem zpd(f m:Nat)(led:Bool):Tb led (.fresh f m led):=⟨List.Pairwise.nil,rfl,rfl⟩
theorem zcq(h:Tb led t)(n:Nat):Tb led (t.standIn n):=⟨by
 show(Array.range n).toList.Pairwise (· < ·);rw[Array.toList_range];exact y44,h.led,rfl⟩
theorem zv1(h:Tb led t)(n:Nat):Tb led (t.orStandIn n):=by
 unfold SetTable.orStandIn;split
 ·exact h
 ·exact zcq h n
theorem zri{t:iL}(h:t.dummies=#[])(j:Nat):SetTable.has t.dummies j=false:=by
 rw[h];unfold SetTable.has;rfl
theorem zel{t:iL}(hd:t.dummies=#[])(hashAt:Nat->Int)(h:Int):∀(fuel:Nat) (p:SetTable.Probe) (j:Nat) (d:Option Nat),p.dummy=none->SetTable.probe.go t hashAt h fuel p=some (.empty j d)->d=none/\t.slot j=.empty
 |0,p,j,d,_,e=>by unfold SetTable.probe.go at e;cases e
 |fuel+1,p,j,d,hp,e=>by
  unfold SetTable.probe.go at e;have adv:∀q:SetTable.Probe,(t.advance q).dummy=q.dummy:=λq=>by unfold SetTable.advance;split<;>rfl
  cases c:t.slot p.j with
  |empty =>
   rw[c]at e;simp only[Option.some.injEq,SetTable.Met.empty.injEq]at e;obtain⟨rfl,rfl⟩:=e;exact⟨hp,c⟩
  |dummy =>
   exfalso;unfold SetTable.slot at c;simp only[zri hd]at c;split at c<;>cases c
  |live i =>
   rw[c]at e;simp only at e;split at e
   ·cases e
   ·exact zel hd hashAt h fuel _ j d (by rw[adv];exact hp) e
theorem zt6{t:iL}(h:Tb led t)(hj:t.slot j=.empty):Tb led (t.put j).1:=by
 refine⟨zit h.rise λe=>?_,h.led,?_⟩
 ·unfold SetTable.slot at hj;simp only[e,beq_self_eq_true,if_true]at hj;cases hj
 ·show(if SetTable.has t.dummies j then _ else t.dummies)=#[];rw[zri h.dum];exact h.dum
theorem zma(h:Tb led t)(es:Array (Int×Value))(k:Int)(x:Value):Tb led (layNew t es k x).2.1/\(layNew t es k x).2.2.1=false:=by
 unfold layNew;cases c:t.freeSlot k with
 |none=>exact⟨zcq h _,rfl⟩
 |some p =>
  obtain⟨slot,wd⟩:=p;unfold SetTable.freeSlot at c;cases c2:t.probe (λ_=>k+1) k (t.probeStart k)with
  |none=>rw[c2]at c;cases c
  |some m =>
   rw[c2]at c;cases m with
   |candidate j i nx=>cases c
   |empty j d =>
    obtain⟨rfl,he⟩:=zel h.dum _ _ _ _ _ _ rfl c2;simp only[Option.some.injEq,Prod.mk.injEq]at c;obtain⟨rfl,rfl⟩:=c;exact⟨zv1 (zt6 h he) _,rfl⟩
theorem zn1{led plain:Bool}(e:SetTable.laid mask finger moves led plain hs=some (t,o)):Tb led t:=by
 unfold SetTable.laid at e;cases c:SetTable.layClean mask hs with
 |none=>rw[c]at e;cases e
 |some owner =>
  rw[c]at e;simp only[Option.bind_eq_bind,Option.bind_some,Option.pure_def,Option.some.injEq,Prod.mk.injEq]at e;obtain⟨rfl,rfl⟩:=e;refine⟨?_,rfl,rfl⟩;show List.Pairwise (· < ·) (List.map (λx:Nat×Nat=>x.1) ((List.range (mask+1)).filterMap λj=>(owner.getD j none).map (j,·)));have:∀l:List Nat,((l.filterMap λj=>(owner.getD j none).map (j,·)).map (·.1)).Sublist l:=λl=>by
   induction l with
   |nil=>exact List.Sublist.refl _
   |cons a l ih =>
    rw[y1z];cases c3:owner.getD a none with
    |none=>exact .cons _ ih
    |some v=>exact .cons_cons _ ih
  exact y44.sublist (this _)
theorem zpb(h:Tb led t)(es:Array (Int×Value))(n:Nat):Tb led (jw t es n).2.1:=by
 unfold jw;cases c:t.relaid (es.map (·.1)) n with
 |none=>exact zcq h _
 |some p =>
  obtain⟨t',o⟩:=p;have:=zn1 c;rw[h.led]at this;simp only;split
  ·exact this
  ·exact zcq h _
theorem zm3(next:Nat->Nat):∀(fuel k:Nat) (left:List α) (out:Array α),left.length=fuel->(pickOrder.go next fuel k left out).toList.Perm (out.toList++left)
 |0,k,left,out,h=>by
  unfold pickOrder.go;rw[y2g.mp h,y1s]
 |fuel+1,k,left,out,h=>by
  unfold pickOrder.go;have hlt:next k%left.length<left.length:=Nat.mod_lt _ (by omega)
  rw[y0b hlt];simp only;refine(zm3 next fuel (k+1) (left.eraseIdx (next k%left.length)) (out.push left[next k%left.length]) (by rw[y3y hlt];omega)).trans ?_;rw[y3l,y2p,List.singleton_append];refine List.Perm.append_left _ ?_;generalize next k%left.length=i at hlt
  have e:left=left.take i++left[i]::left.drop (i+1):=by rw[y45,y37]
  conv=>rhs;rw[e]
  rw[y3k];exact(List.perm_middle).symm
theorem zm2(next:Nat->Nat)(xs:Array α):(pickOrder next xs).toList.Perm xs.toList:=by
 have:=zm3 next xs.size 0 xs.toList #[] (by simp)
 rw[show(#[]:Array α).toList=[]from rfl,y38]at this;exact this
section
variable {P:ig}{w:World}{T:Type}[DecidableEq T]{knd:KeyKind P w T}{A:ir}{E:Y0}{s:ic}{led:Bool}
def SetT(knd:KeyKind P w T)(led:Bool)(h:Heap)(a:Addr)(S:T->Bool)(n:Nat):Prop :=
 ∃o es ep t,h.get? a=some o/\o.ExactSet/\o.data=.set es ep t/\(ElemsOf knd es.toList/\∀k,S k=true↔∃e∈es.toList,knd.is k e.2=true)/\(es.size<iA/\t.fits es.size=true/\es.size=n)/\Tb led t/\es.toList.Pairwise λx y=>∀k,knd.is k x.2=true->knd.is k y.2=false
theorem SetT.kept(x:SetT knd led h a S n)(k:∀o,h.get? a=some o->h'.get? a=some o):SetT knd led h' a S n :=
 let⟨o,es,ep,t,e,r⟩:=x;⟨o,es,ep,t,k o e,r⟩
theorem SetT.congr(x:SetT knd led h a S n)(e:∀k,S k=S' k)(en:n=n'):SetT knd led h a S' n':=by
 have:S=S':=funext e;subst this;subst en;exact x
theorem zpc(h:Tb led t):Tb led {t with plain:=false}:=⟨h.rise,h.led,h.dum⟩
theorem zf0{l l':List (Int×Value)}(h:l.Pairwise λx y=>∀k,knd.is k x.2=true->knd.is k y.2=false)(p:l'.Perm l):l'.Pairwise λx y=>∀k,knd.is k x.2=true->knd.is k y.2=false :=
 p.symm.pairwise h λ{x y} z k hk=>by
  cases c:knd.is k x.2 with
  |false=>rfl
  |true=>rw[z k c]at hk;cases hk
theorem zj0{h:Heap}{o:Obj}(ho:h.get? a=some o)(hx:o.ExactSet)(hd:o.data=.set es ep t){fs:Array (Int×Value)}{u:iL}
  (h1:ElemsOf knd fs.toList) (h2:∀k,S k=true↔∃e∈fs.toList,knd.is k e.2=true) (h3:fs.size<iA) (h4:u.fits fs.size=true) (tb:Tb led u) (ap:fs.toList.Pairwise λx y=>∀k,knd.is k x.2=true->knd.is k y.2=false) :
  (h.update a (Obj.putSet fs u)).get? a=some {o with data:=.set fs (ep+1) u}/\SetT knd led (h.update a (Obj.putSet fs u)) a S fs.size :=
 let z:=(SetOf_store (knd:=knd) (S':=S) ho hx hd h1 h2 h3 h4).1
 ⟨z,_,fs,ep+1,u,z,hx,rfl,⟨h1,h2⟩,⟨h3,h4,rfl⟩,tb,ap⟩
theorem zjy{g:Bool->Sem Unit}(hg:∀(b:Bool) (s1:ic) (R:Unit->ic->Prop),R () s1->wpAny (model P w) A (g b) R E s1){a:Addr}{o:Obj}{es:Array (Int×Value)}{ep:Nat}{t:iL}
  (ho:s.heap.get? a=some o) (hx:o.ExactSet) (hd:o.data=.set es ep t) {fs:Array (Int×Value)} {u:iL} {S:T->Bool} (h1:ElemsOf knd fs.toList) (h2:∀k,S k=true↔∃e∈fs.toList,knd.is k e.2=true)
  (h3:fs.size<iA) (h4:u.fits fs.size=true) (tb:Tb led u) (ap:fs.toList.Pairwise λx y=>∀k,knd.is k x.2=true->knd.is k y.2=false) {wd:Bool} {R:Option Bool->ic->Prop}
  (h:∀h',Heap.SameBut a s.heap h'->SetT knd led h' a S fs.size->R (some true) {s with heap:=h'}) :
  wpAny (model P w) A (do
    storeSet a fs u
    if(!wd&&u.tooFull)=true then do
      g (jw u fs (SetTable.grown fs.size)).2.2
      storeSet a (jw u fs (SetTable.grown fs.size)).1 (jw u fs (SetTable.grown fs.size)).2.1
      pure (some true)
     else pure (some true)) R E s:=by
 refine ia (wpAny_storeSet_of ho hd ?_ (fits_of_scanBound h3));obtain⟨o1,x1⟩:=zj0 (S:=S) ho hx hd h1 h2 h3 h4 tb ap;have b1:=Heap.SameBut.update s.heap a (Obj.putSet fs u);split
 ·have p:=relayAll_perm u fs (SetTable.grown fs.size);have f:=relayAll_fits u fs (SetTable.grown fs.size);have tb2:=zpb tb fs (SetTable.grown fs.size);generalize jw u fs (SetTable.grown fs.size)=Z at p f tb2 ⊢;obtain⟨gs,v,gave⟩:=Z;dsimp only at p f tb2 ⊢;have sz:gs.size=fs.size:=by rw[←y1c,p.length_eq,y1c]
  have i3:gs.size<iA:=by rw[sz];exact h3
  refine ia (hg _ _ _ (ia (wpAny_storeSet_of o1 rfl ?_ (fits_of_scanBound i3))));obtain⟨_,x2⟩:=zj0 (knd:=knd) (S:=S) o1 hx rfl (h1.perm p) (λk'=>(h2 k').trans ⟨λ⟨e,m,q⟩=>⟨e,p.mem_iff.mpr m,q⟩,λ⟨e,m,q⟩=>⟨e,p.mem_iff.mp m,q⟩⟩) i3 f tb2 (zf0 ap p);rw[sz]at x2;exact ib (h _ (b1.trans (Heap.SameBut.update _ a _)) x2)
 ·exact ib (h _ b1 x1)
theorem zsh{a:Addr}{S:T->Bool}{n:Nat}{k:T}{x:Value}{Q:Bool->ic->Prop}(hk:knd.is k x=true)(hs:x.scannable=true)(x0:SetT knd led s.heap a S n)(room:n+1<iA)
  (h:∀h',Heap.SameBut a s.heap h'->SetT knd led h' a (λk'=>S k'||decide (k'=k)) (if S k then n else n+1)->Q (!S k) {s with heap:=h'}):wpAny (model P w) A (setAddHashed a x (knd.hash k)) Q E s:=by
 obtain⟨o,es,ep,t,ho,hx,hd,⟨h1,h2⟩,⟨h3,h4,hn⟩,tb,ap⟩:=id x0;unfold setAddHashed setAddHashedIn;refine ix (ia (i7 ho hd h4 ?_));dsimp only;rw[byScan_of hs h3 h1];simp only[↓reduceIte];unfold setAddByScan;refine ia (ia (iK (ia (wpAny_setScan_of hk ho hd h4 h1 ?_))));cases c:List.findIdx? (λe=>knd.is k e.2) es.toList with
 |some j =>
  dsimp only;obtain⟨hj,hp,_⟩:=List.findIdx?_eq_some_iff_getElem.mp c;have sk:S k=true:=(h2 k).mpr ⟨_,y0t hj,hp⟩;have z:=h s.heap (Heap.SameBut.refl a s.heap) (x0.congr (λk'=>by
   cases e:S k' with
   |true=>rfl
   |false=>rw[y43,eq_comm,decide_eq_false_iff_not];intro q;rw[q,sk]at e;cases e) (by rw[sk];rfl))
  rw[sk]at z;refine ib (ib ?_);cases s;exact z
 |none =>
  dsimp only;have no:=List.findIdx?_eq_none_iff.mp c;have sk:S k=false:=y17.mpr λz=>by
   obtain⟨e,m,q⟩:=(h2 k).mp z;rw[no e m]at q;cases q
  have lp:=layNew_perm t es (knd.hash k) x;have lf:=layNew_fits t es (knd.hash k) x;obtain⟨lt,ld⟩:=zma tb es (knd.hash k) x;generalize layNew t es (knd.hash k) x=Z at lp lf lt ld ⊢;obtain⟨fs,u,wd,gave⟩:=Z;dsimp only at lp lf lt ld ⊢;rw[y3l]at lp;have i1:ElemsOf knd fs.toList:=(h1.push hk hs).perm lp;have i2:∀k',(S k'||decide (k'=k))=true↔∃e∈fs.toList,knd.is k' e.2=true:=mem_push_iff hk h2 lp;have sz:fs.size=n+1:=by rw[←y1c,lp.length_eq,y0a,y1c,hn];rfl
  have i3:fs.size<iA:=by rw[sz];exact room
  have ip:fs.toList.Pairwise λx y=>∀k,knd.is k x.2=true->knd.is k y.2=false:=by
   refine zf0 (List.pairwise_append.mpr ⟨ap,List.pairwise_singleton _ _,λy hy z hz k' hk'=>?_⟩) lp;rw[y09.mp hz];cases q:knd.is k' x with
   |false=>rfl
   |true =>
    have e:=knd.inj x k' k q hk;rw[e,no y hy]at hk';cases hk'
  have fin:∀h',Heap.SameBut a s.heap h'->SetT knd led h' a (λk'=>S k'||decide (k'=k)) fs.size->Q true {s with heap:=h'}:=λh' b z=>by
   have:=h h' b;rw[sk]at this;rw[sz]at z;exact this z
  refine ia ?_;have gw:∀(b:Bool) (s1:ic) (R:Unit->ic->Prop),R () s1->wpAny (model P w) A (match b with|true=>rule "set.scan.the-table-gave-way"|false=>pure ()) R E s1:=λb s1 R q=>by cases b<;>first|exact ib q|exact iK q
  refine gw _ _ _ ?_;split
  ·refine ia ?_;rw[hashByValue_scannable 8 hs];refine ib (zjy (led:=led) gw ho hx hd i1 i2 i3 ?_ ?_ ip λh' b z=>?_)
   ·split
    ·exact lf
    ·exact SetTable.fits_plain_off lf
   ·split
    ·exact lt
    ·exact zpc lt
   ·dsimp only;exact ib (fin h' b z)
  ·refine ia (ib ?_);simp only[↓reduceIte];refine zjy (led:=led) gw ho hx hd i1 i2 i3 lf lt ip λh' b z=>?_;dsimp only;exact ib (fin h' b z)
end
theorem slot_setit_next:Slot "set_iterator" "__next__" "set_iterator.__next__" :=
 .of (owner:="set_iterator") (n:="__next__") (by rw[typeLookup_type,builtinLookup_eq_fast];kernel_rfl) (by decide+kernel) (by decide+kernel) (by decide+kernel) (by first|exact .inl (by decide+kernel)|exact .inr (by decide+kernel)) (by rw[jx];kernel_rfl)
theorem zcf:entryFor table "set_iterator.__next__"=some Builtin.«set_iterator.__next__»:=entryFor_of_fast (by kernel_rfl)
theorem zco(v:Value):argsOk "set_iterator.__next__" ⟨[v],[]⟩:=by unfold argsOk;kernel_rfl
theorem zfe:entryFor table "set.__iter__"=some Builtin.«frozenset.__iter__»:=entryFor_alias (id':="frozenset.__iter__") (by kernel_rfl) rfl (by decide+kernel) (by kernel_rfl)
def byT(w:World):Bool:=w.params.followText "set-order"
inductive Way where
 |text
 |drawn (pt:Addr) (pl:List Nat)
 |place
def ordOf(w:World)(a:Addr)(es:Array (Int×Value))(ep:Nat):Way->List (Int×Value)
 |.text=>(pickOrder (w.params.setOrder a ep) es).toList
 |.drawn _ pl=>pl.filterMap λi=>es[i]?
 |.place=>es.toList
def WayOk(w:World)(es:Array (Int×Value))(t:iL):Way->Prop
 |.text=>byT w=true
 |.drawn _ pl=>byT w=false/\(!t.plain&&decide (es.size>1))=true/\pl.Perm (List.range es.size)
 |.place=>byT w=false/\(!t.plain&&decide (es.size>1))=false
def FirstIs(h:Heap)(t:iL)(i:Nat)(v:Value):Way->Prop
 |.text=>v=.int 0 0
 |.drawn pt pl=>v=.ref pt/\∃o n,h.get? pt=some o/\o.data=.seq (pl.map λj:Nat=>iD j).toArray n
 |.place=>∃j:Nat,v=.int j 0/\SetTable.below t.place j=i
structure SetSt(w:World)(it a:Addr)(es:Array (Int×Value))(ep:Nat)(t:iL)(y:Way)(i:Nat)(h:Heap):Prop where
 st:∃o,h.get? a=some o/\o.data=.set es ep t
 it:∃o v,h.get? it=some o/\o.cls=.type "set_iterator"/\o.data=.fields #[v,.int i 0,.ref a,.int es.size 0,.int ep 0]/\FirstIs h t i v y
theorem zol{α β:Type}{f:α->Option β}{g:α->β}:∀(l:List α),(∀x∈l,f x=some (g x))->l.filterMap f=l.map g
 |[],_=>rfl
 |x::l,h=>by rw[y1z,h x y07,y0h,zol l λy hy=>h y (y06 _ hy)]
section
variable {P:ig}{w:World}{A:ir}{E:Y0}{s:ic}
theorem zge(h:WayOk w es t y):(ordOf w a es ep y).Perm es.toList:=by
 cases y with
 |text=>exact zm2 _ _
 |place=>exact .refl _
 |drawn pt pl =>
  have e:es.toList=(List.range es.size).filterMap λi=>es[i]?:=by
   refine List.ext_getElem? λi=>?_;have:((List.range es.size).filterMap λi=>es[i]?)=(List.range es.size).map λi=>es.getD i default:=by
    refine zol _ λi hi=>?_;rw[y1k (y1h.mp hi),Array.getD,dif_pos (y1h.mp hi)];rfl
   rw[this,y0k];by_cases hi:i<es.size
   ·rw[List.getElem?_range hi,y26,y1k hi,y2e,Array.getD,dif_pos hi];rfl
   ·rw[y23 (by simpa using hi),y23 (by simpa using hi)];rfl
  rw[e];exact h.2.2.filterMap _
theorem zlx(hn:n≠0)(h:∀i d,i<n->Q i {s with drawn:=d}):wpAny M A (choose src n) Q E s :=
 λΓ p hΓ=>⟨hn,h _ _ (Nat.mod_lt _ (Nat.pos_of_ne_zero hn))⟩
theorem zqy(n:Nat):∀(xs:List α) (s:ic) (Q:List α->ic->Prop),xs.length=n->(∀ys d,ys.Perm xs->Q ys {s with drawn:=d})->wpAny M A (drawOrder n xs) Q E s:=by
 induction n with
 |zero =>
  intro xs s Q hn h;cases List.eq_nil_of_length_eq_zero hn;unfold drawOrder;exact ib (h [] s.drawn (.refl _))
 |succ n ih =>
  intro xs s Q hn h;cases xs with
  |nil=>cases hn
  |cons x xs =>
   unfold drawOrder;refine ia (zlx (by simp) λi d hi=>?_);rw[y0b hi];simp only;refine ia (ih _ _ _ (by rw[y3y hi];omega) λys d' p=>?_);refine ib (h _ d' ?_);generalize hl:x::xs=l at hi p ⊢;have e:l=l.take i++l[i]::l.drop (i+1):=by rw[y45,y37]
   rw[y3k]at p
   conv=>rhs;rw[e]
   exact(List.Perm.cons _ p).trans List.perm_middle.symm
theorem SetSt.ty{it a:Addr}{es:Array (Int×Value)}{ep:Nat}{t:iL}{y:Way}{i:Nat}(x:SetSt w it a es ep t y i s.heap):s.TypeIs (.ref it) "set_iterator":=let⟨o,_,ho,hc,_⟩:=x.it;⟨o,ho,hc⟩
theorem zbt{h:Heap}{o:Obj}{vs:Array Value}(ho:h.get? a=some o)(hd:o.data=.fields vs)(i:Nat)(x:Value):∃o',(h.update a (Obj.mapFields (·.setIfInBounds i x))).get? a=some o'/\o'.cls=o.cls/\o'.data=.fields (vs.setIfInBounds i x) :=
 ⟨_,y24 _ ho (Obj.isFreed_of_fields (Obj.data_mapFields hd _)),Obj.cls_mapFields ..,by rw[Obj.data_mapFields hd]⟩
theorem zr2{M:Model}{α:Type}{c:Prop}[Decidable c]{x y:Sem α}{Q:α->ic->Prop}(hc:c)(h:wpAny M A x Q E s):wpAny M A (if c then x else y) Q E s:=by rw[if_pos hc];exact h
theorem zl4{M:Model}{α:Type}{c:Prop}[Decidable c]{x y:Sem α}{Q:α->ic->Prop}(hc:¬c)(h:wpAny M A y Q E s):wpAny M A (if c then x else y) Q E s:=by rw[if_neg hc];exact h
theorem zdm(ho:s.heap.get? a=some o)(hd:o.data=.set es ep t)(hf:t.fits es.size=true)(hb:byT w=true)
  (q:Q (((ordOf w a es ep .text)[i]?).map λe=>(e.2,j)) s):wpAny (model P w) A (setNext a j i ep) Q E s:=by
 unfold setNext;refine ia (i7 ho hd hf ?_);dsimp only;unfold j8;refine ia (ia (iF (ib ?_)));refine zr2 hb (zl4 (by simp) ?_);unfold setWalk;refine ia (ia (i7 ho hd hf ?_));dsimp only;unfold j8;refine ia (ia (iF (ib ?_)));refine zr2 hb ?_;refine ia (iF (ib (ib ?_)));have e:(ordOf w a es ep .text)[i]?=(pickOrder (w.params.setOrder a ep) es)[i]?:=by show(pickOrder (w.params.setOrder a ep) es).toList[i]?=_;rw[y26]
 rw[e]at q;exact q
theorem zc4(ho:s.heap.get? a=some o)(hd:o.data=.set es ep t)(hf:t.fits es.size=true)(hb:byT w=false)(hp:(!t.plain&&decide (es.size>1))=false)(tb:Tb (!byT w) t)
  (q:Q (match es[SetTable.below t.place j]?,t.place[SetTable.below t.place j]? with|some (_,x),some j=>some (x,j+1)|_,_=>none) s):wpAny (model P w) A (setNext a j i ep) Q E s:=by
 unfold setNext;refine ia (i7 ho hd hf ?_);dsimp only;unfold j8;refine ia (ia (iF (ib ?_)));refine zl4 (λz=>by rw[show byT w=true from z]at hb;cases hb) (zl4 (λz=>by rw[show(!t.plain&&decide (es.size>1))=true from z]at hp;cases hp) ?_);have hl:t.led=true:=by rw[tb.led,hb];rfl
 refine ia ?_;refine zl4 (c:=(!t.led && !es.isEmpty)=true) (by rw[hl];simp) (ib (ib q))
theorem zpi(hy:WayOk w es t y)(tb:Tb (!byT w) t)(hf:t.fits es.size=true)(st:SetSt w it a es ep t y i s.heap)(hne:a≠it)(hpt:∀pt pl,y=.drawn pt pl->pt≠it)(hx:(ordOf w a es ep y)[i]?=some (k,x))
  (q:∀h',SetSt w it a es ep t y (i+1) h'->Heap.SameBut it s.heap h'->Q (some x) {s with heap:=h'}):wpAny (model P w) A (jg (.ref it)) Q E s:=by
 have ty:=st.ty;obtain⟨⟨oa,ha,da⟩,oi,v,hi,ci,di,fi⟩:=st;unfold jg;refine ia (jk (iw (name:=Str.ofString "__next__") ty slot_setit_next (ik slot_setit_next ty zcf ?_ (zco _))));unfold Builtin.«set_iterator.__next__»;refine ia (ib ?_);refine ia (wpAny_fieldsOf hi di ?_);dsimp only;refine ia (iW ha da hf ?_);rw[if_neg (by simp)];simp only[y0l];cases y with
 |text =>
  have fv:v=.int 0 0:=fi;subst fv;dsimp only;refine ia (zdm ha da hf hy ?_);rw[hx];dsimp only[y2e];refine ia (i4 hi di (by simp) ?_);obtain⟨o1,h1,c1,d1⟩:=zbt hi di 0 (iD ((0:Int).toNat:Int));refine ia (i4 h1 d1 (by simp) ?_);obtain⟨o2,h2,c2,d2⟩:=zbt h1 d1 1 (iD ((i:Int)+1));have sb:=(Heap.SameBut.update s.heap it (Obj.mapFields (·.setIfInBounds 0 (iD ((0:Int).toNat:Int))))).trans (Heap.SameBut.update _ it (Obj.mapFields (·.setIfInBounds 1 (iD ((i:Int)+1)))));refine ib ⟨x,rfl,ib (q _ ⟨⟨oa,by rw[sb.2 a hne];exact ha,da⟩,o2,.int 0 0,h2,by rw[c2,c1,ci],by rw[d2];rfl,rfl⟩ sb)⟩
 |drawn pt pl =>
  obtain⟨fv,op,n,hp,dp⟩:=fi;subst fv;dsimp only;refine ia (i0 hp dp ?_);dsimp only;obtain⟨j,hj,hjx⟩:∃j,pl[i]?=some j/\es[j]?=some (k,x):=by
   have e:ordOf w a es ep (.drawn pt pl)=pl.map λj=>es.getD j default:=zol _ λj hj=>by
    have:=y1h.mp (hy.2.2.mem_iff.mp hj);rw[y1k this,Array.getD,dif_pos this];rfl
   rw[e,y0k]at hx;obtain⟨j,hj,ej⟩:=y19.mp hx;have hlt:=y1h.mp (hy.2.2.mem_iff.mp (y0j hj));refine⟨j,hj,?_⟩;rw[y1k hlt];rw[Array.getD,dif_pos hlt]at ej;exact congrArg some ej
  have hj':(pl.map λj:Nat=>iD j).toArray[i]?=some (.int j 0):=by
   rw[List.getElem?_toArray,y0k,hj];rfl
  rw[hj'];dsimp only;unfold setNextDrawn;refine ia (ia (i7 ha da hf ?_));dsimp only;refine zl4 (by simp) ?_;simp only[y0l,hjx];refine ib ?_;refine ia (i4 hi di (by simp) ?_);obtain⟨o2,h2,c2,d2⟩:=zbt hi di 1 (iD ((i:Int)+1));have sb:=Heap.SameBut.update s.heap it (Obj.mapFields (·.setIfInBounds 1 (iD ((i:Int)+1))));refine ib ⟨x,rfl,ib (q _ ⟨⟨oa,by rw[sb.2 a hne];exact ha,da⟩,o2,.ref pt,h2,by rw[c2,ci],by rw[d2];rfl,rfl,op,n,by rw[sb.2 pt (hpt pt pl rfl)];exact hp,dp⟩ sb)⟩
 |place =>
  obtain⟨j,fv,fb⟩:=fi;subst fv;dsimp only;refine ia (zc4 ha da hf hy.1 hy.2 tb ?_);have hx':es[i]?=some (k,x):=by
   have:es.toList[i]?=some (k,x):=hx;rw[y26]at this;exact this
  have hlt:i<es.size:=(Array.getElem?_eq_some_iff.mp hx').1;have hpz:t.place.size=es.size:=by
   simp only[SetTable.fits,y04,beq_iff_eq]at hf;exact hf.1
  have hpl:t.place[i]?=some (t.place.getD i 0):=by rw[y1k (by omega),Array.getD,dif_pos (by omega)];rfl
  rw[y0l,fb,hx',hpl];dsimp only;refine ia (i4 hi di (by simp) ?_);obtain⟨o1,h1,c1,d1⟩:=zbt hi di 0 (iD ((t.place.getD i 0+1:Nat):Int));refine ia (i4 h1 d1 (by simp) ?_);obtain⟨o2,h2,c2,d2⟩:=zbt h1 d1 1 (iD ((i:Int)+1));have sb:=(Heap.SameBut.update s.heap it (Obj.mapFields (·.setIfInBounds 0 (iD ((t.place.getD i 0+1:Nat):Int))))).trans (Heap.SameBut.update _ it (Obj.mapFields (·.setIfInBounds 1 (iD ((i:Int)+1)))));refine ib ⟨x,rfl,ib (q _ ⟨⟨oa,by rw[sb.2 a hne];exact ha,da⟩,o2,_,h2,by rw[c2,c1,ci],by rw[d2];rfl,t.place.getD i 0+1,rfl,zl0 tb.rise (by omega)⟩ sb)⟩
theorem zf7{it:Addr}{h1:Heap}{Q:Y9}{R:Fin->ic->Prop}(hh:A.handled=none)(e1:Heap.ExtBut it s.heap h1)(q:∀h',Heap.ExtBut it s.heap h'->Q none {s with heap:=h'}):
  wpAny (model P w) A.in1 (newExc (.type "StopIteration") []>>=raiseNew) R (λe s'=>wpAny (model P w) A (isInstance e (.type "StopIteration")>>=λb=>if b=true then pure none else throw e) Q E s') {s with heap:=h1}:=by
 refine ia ?_;simp only[newExc,newTuple];refine ia (iu (ia (m:=ja _ _) (wpAny_of_eq (a:=Value.none) (by first|rfl|(simp only[ja];rfl)) (iu ?_ (by size_fits)))) (by size_fits));simp only[raiseNew];refine ia (wpAny_handled ?_);rw[show A.in1.handled=none from hh];refine ia (ib (wpAny_throw ?_));refine ia (iE (s:={s with heap:=_}) (T:="StopIteration") (b:=true) ⟨_,y0d _ rfl,rfl⟩ isSubtype_stop ?_);exact ib (q _ ((e1.push _).push _))
theorem zsg(hh:A.handled=none)(hy:WayOk w es t y)(tb:Tb (!byT w) t)(hf:t.fits es.size=true)(st:SetSt w it a es ep t y es.size s.heap)
  (q:∀h',Heap.ExtBut it s.heap h'->Q none {s with heap:=h'}):wpAny (model P w) A (jg (.ref it)) Q E s:=by
 have ty:=st.ty;obtain⟨⟨oa,ha,da⟩,oi,v,hi,ci,di,fi⟩:=st;unfold jg;refine ia (jk (iw (name:=Str.ofString "__next__") ty slot_setit_next (ik slot_setit_next ty zcf ?_ (zco _))));unfold Builtin.«set_iterator.__next__»;refine ia (ib ?_);refine ia (wpAny_fieldsOf hi di ?_);dsimp only;refine ia (iW ha da hf ?_);rw[if_neg (by simp)];simp only[y0l];have hpz:t.place.size=es.size:=by
  simp only[SetTable.fits,y04,beq_iff_eq]at hf;exact hf.1
 cases y with
 |text =>
  have fv:v=.int 0 0:=fi;subst fv;dsimp only;refine ia (zdm ha da hf hy ?_);rw[y23 (by rw[(zge (a:=a) (ep:=ep) hy).length_eq];simp)];dsimp only[Option.map_none];exact ia (i4 hi di (by simp) (zf7 hh (Heap.SameBut.update ..).extBut q))
 |drawn pt pl =>
  obtain⟨fv,op,n,hp,dp⟩:=fi;subst fv;dsimp only;refine ia (i0 hp dp ?_);dsimp only;rw[y46 (by rw[y03,y00,hy.2.2.length_eq,y1p];exact y01 _)];dsimp only;show wpAny _ _ (setField (.ref it) 0 (iD 0)>>=λ_=>setField (.ref it) 2 Value.none>>=λ_=>(newExc (.type "StopIteration") []>>=raiseNew)) _ _ s;obtain⟨o1,h1,c1,d1⟩:=zbt hi di 0 (iD 0);refine ia (i4 hi di (by simp) ?_);refine ia (i4 h1 d1 (by simp) ?_);exact zf7 (s:=s) hh ((Heap.SameBut.update s.heap it _).trans (Heap.SameBut.update _ it _)).extBut q
 |place =>
  obtain⟨j,fv,fb⟩:=fi;subst fv;dsimp only;refine ia (zc4 ha da hf hy.1 hy.2 tb ?_);rw[y0l,fb,y46 (y01 _)];dsimp only;exact ia (i4 hi di (by simp) (zf7 hh (Heap.SameBut.update ..).extBut q))
theorem SetSt.kept{it a:Addr}{es:Array (Int×Value)}{ep:Nat}{t:iL}{y:Way}{i:Nat}{h h':Heap}(x:SetSt w it a es ep t y i h)(k:∀b o,(b=it\/b=a\/∃pl,y=.drawn b pl)->h.get? b=some o->h'.get? b=some o):SetSt w it a es ep t y i h':=by
 obtain⟨⟨oa,ha,da⟩,oi,v,hi,ci,di,fi⟩:=x;refine⟨⟨oa,k a oa (.inr (.inl rfl)) ha,da⟩,oi,v,k it oi (.inl rfl) hi,ci,di,?_⟩;cases y with
 |text=>exact fi
 |place=>exact fi
 |drawn pt pl =>
  obtain⟨fv,op,n,hp,dp⟩:=fi;exact⟨fv,op,n,k pt op (.inr (.inr ⟨pl,rfl⟩)) hp,dp⟩
def Way.fp:Way->List Addr
 |.drawn pt _=>[pt]
 |_=>[]
theorem Way.mem_fp{y:Way}:(∃pl,y=.drawn b pl)↔b∈y.fp:=by
 cases y with
 |text=>exact⟨λ⟨_,h⟩=>(nomatch h),λh=>(nomatch h)⟩
 |place=>exact⟨λ⟨_,h⟩=>(nomatch h),λh=>(nomatch h)⟩
 |drawn pt pl =>
  constructor
  ·rintro⟨pl',h⟩;cases h;exact y09.mpr rfl
  ·intro h;rw[y09.mp h];exact⟨pl,rfl⟩
theorem Walks.set(hh:A.handled=none)(hne:a≠it)(hpt:∀pt pl,y=.drawn pt pl->pt≠it)(hy:WayOk w es t y)(tb:Tb (!byT w) t)(hf:t.fits es.size=true)(hself:∀(s:ic) (Q:Y0) (E:Y0),s.TypeIs (.ref it) "set_iterator"->Q (.ref it) s->wpAny (model P w) A (js (.ref it)) Q E s):
  Walks P w A it (it::a::y.fp) [it] es.size (λi v=>∃k,(ordOf w a es ep y)[i]?=some (k,v)) (λi h=>SetSt w it a es ep t y i h) where
 sub:=λb hb=>by rw[y09.mp hb];exact y07
 frame:=λi h h' x k=>x.kept λb o hb e=>k b (by
  rcases hb with rfl|rfl|hb
  ·exact y07
  ·exact y06 _ y07
  ·exact y06 _ (y06 _ (Way.mem_fp.mp hb))) o e
 item:=λi s Q E hi x q=>by
  have hl:i<(ordOf w a es ep y).length:=by rw[(zge (a:=a) (ep:=ep) hy).length_eq];simpa using hi
  refine zpi hy tb hf x hne hpt (y0b hl) λh' x' sb=>q _ h' s.toks ⟨_,y0b hl⟩ x' λb o hb e=>?_;rw[sb.2 b λz=>hb (by rw[z];exact y09.mpr rfl)];exact e
 done:=λs Q E x q=>zsg hh hy tb hf x λh' e1=>q h' s.toks λb o hb e=>e1 b o (λz=>hb (by rw[z];exact y09.mpr rfl)) e
 self:=λi s Q E x q=>hself s Q E x.ty q
end
local instance (priority:=10000):BEq Key:=instBEqOfDecidableEq
section
variable {prog:ig}{w:World}{A:ir}{E:Y0}{s:ic}
theorem zin(a:Value)
  (h:Q₁ (.ref s.heap.objs.size) {s with heap:=s.heap.push {cls:=.type "set",dict:=none,data:=.set #[] 0 (.fresh 0 0 (!byT w))} }) :
  iR (model prog w) A (.call (.builtin "set.__new__") ⟨[.type "set",a],[]⟩) (wants Q₁ E) s:=by
 refine codeAny_of_tree ?_;show wpAny _ A.in1 (do checkBuiltinCall "set.__new__" ⟨[.type "set",a],[]⟩;again (.builtin "set.__new__" ⟨[.type "set",a],[]⟩)) _ _ s;refine ia (wpAny_of_eq (F.newCall_set_1 a) (ib ⟨ji F.plain_set_new _,iI F.entry_set_new ?_⟩));rw[Around.under_plainId F.plain_set_new _];unfold Builtin.«set.__new__» Builtin.Frozenset.newClass;have hsub:=sub_set_self;obtain⟨hp,g,d,tk,os⟩:=s;dsimp only
 wp_walk
 refine iF (ib ?_);dsimp only;simp only[newObj];refine ia (wpAny_alloc (ib ?_));exact ib h
end
section
variable {P:ig}{w:World}{A:ir}{R:Result->ic->Prop}{it:Addr}{fp wr:List Addr}{G:Array jr->Array jr->Prop}{n:Nat}{Pv:Nat->Value->Prop}{St:Nat->ic->Prop}
def SetTs(P:ig)(w:World)(h:Heap)(a:Addr)(ks:List Int):Prop:=∃n,n<=ks.length/\SetT (jm P w) (!byT w) h a (λk=>decide (k∈ks)) n
theorem SetTs.kept(x:SetTs P w h a ks)(k:∀o,h.get? a=some o->h'.get? a=some o):SetTs P w h' a ks:=let⟨n,l,x⟩:=x;⟨n,l,SetT.kept x k⟩
theorem zpj(h:(jm P w).is k v=true):v.scannable=true:=by
 obtain⟨t,rfl⟩:=Value.isInt_shape h;rfl
theorem zsd(a:Addr)(hm:m<iA):SetR (jm P w) a m (λh ks=>SetTs P w h a ks):=⟨λx k=>x.kept k,λ{A E s ks k v Q} is hl ⟨nn,hnn,x⟩ q=>by
 refine zsh (knd:=jm P w) is (zpj is) x (by omega) λh' sb x2=>q h' _ sb ⟨_,?_,SetT.congr x2 (λk'=>?_) rfl⟩
 ·rw[y0a,y0n];split<;>omega
 ·rw[y1t];simp only[y25,decide_eq_true_eq,y0g,y09]⟩
end
section
variable {P:ig}{w:World}{A:ir}{E:Y0}{s:ic}
theorem zhd(hh:A.handled=none)(hl:s.heap.IsList l its)(hk:ks.length=its.size)(hi:∀(i:Nat) v k,its[i]?=some v->ks[i]?=some k->(jm P w).is k v=true)
  (hb:its.size+1<iA)
  (h:∀(h':Heap) (tk:Nat),SetTs P w h' s.heap.objs.size ks->(∀b o,b<s.heap.objs.size->s.heap.get? b=some o->h'.get? b=some o)->Q (.ref s.heap.objs.size) {s with heap:=h',toks:=tk}) :
  wpAny (model P w) A (call (.type "set") [.ref l]) Q E s :=
 zmp (Lp:=λled=>led=!byT w) hh hl hk hi (zsd _ hb) (λh led e at0=>by
  subst e;obtain⟨o,es,ep,t,ho,hx,hd,h12,h3⟩:=(setObjOf_fresh (knd:=jm P w) (!byT w)).setOf at0 (by unfold iA;omega);have eo:o=_:=(Option.some.inj (at0.symm.trans ho)).symm;subst eo;have hd':Data.set #[] 0 (.fresh 0 0 (!byT w))=Data.set es ep t:=hd;injection hd' with e1 e2 e3
  subst e1;subst e2;subst e3;exact⟨0,y01 _,_,_,_,_,at0,hx,rfl,⟨h12,λk=>by simp⟩,h3.2,zpd _ _ _,.nil⟩) (zin (.ref l) ⟨_,rfl,rfl,rfl⟩) h
end
section
variable {P:ig}{w:World}{A:ir}{E:Y0}{s:ic}
theorem zgy(v:Value):argsOk "set.__iter__" ⟨[v],[]⟩:=by unfold argsOk;kernel_rfl
theorem zk3(ho:s.heap.get? a=some o)(hx:o.ExactSet)(hc:o.cls=.type "set")(hd:o.data=.set es ep t)(hf:t.fits es.size=true)(tb:Tb (!byT w) t)(hn:es.size<=ie)
  (q:∀(it:Addr) (y:Way) (h':Heap) (d:Drawn),WayOk w es t y->a≠it->(∀pt pl,y=.drawn pt pl->pt≠it/\s.heap.objs.size<=pt)->s.heap.objs.size<=it->SetSt w it a es ep t y 0 h'->(∀b u,s.heap.get? b=some u->h'.get? b=some u)->Q (.ref it) {s with heap:=h',drawn:=d}) :
  wpAny (model P w) A (js (.ref a)) Q E s:=by
 have hT:s.TypeIs (.ref a) "set":=⟨o,ho,hc⟩;refine jf hT F.slot_set_iter (ik F.slot_set_iter hT zfe ?_ (zgy _));unfold Builtin.«frozenset.__iter__» Builtin.Frozenset.slot0 slotArgs;refine ia (ia (ib ?_));unfold Builtin.Frozenset.addrOf;refine ib ?_;unfold Builtin.Frozenset.sizeOf;refine ia (ia (iW ho hd hf (ib ?_)));unfold setDrawn;refine ia (ia (i7 ho hd hf ?_));dsimp only;unfold j8;refine ia (ia (iF (ib (ib ?_))));have fin:∀(s2:ic) (v:Value) (y:Way),WayOk w es t y->(∀b u,s.heap.get? b=some u->s2.heap.get? b=some u)->s2={s with heap:=s2.heap,drawn:=s2.drawn}->s.heap.objs.size<=s2.heap.objs.size->FirstIs s2.heap t 0 v y->(∀pt pl,y=.drawn pt pl->s.heap.objs.size<=pt/\pt<s2.heap.objs.size)->
   wpAny (model P w) A.in1 (do let e ←setEpoch a;let f ←newFields "set_iterator" [v,iD 0,.ref a,iD es.size,iD e];ret f) (λfin s'=>∃v,fin=PySem.Fin.done (.ret v)/\∃T' r,s'.TypeIs v T'/\j7 (Value.type T') (Str.ofString "__next__")=pure (some r)/\Q v s') E s2:=by
  intro s2 v y hy hk es2 le hv hpt;obtain⟨h2,g2,d2,tk2,os2⟩:=s2;have e1:g2=s.gens:=congrArg Shared.gens es2;have e2:tk2=s.toks:=congrArg Shared.toks es2;have e3:os2=s.os:=congrArg Shared.os es2;subst e1;subst e2;subst e3;unfold setEpoch;refine ia (ia (i7 (hk a o ho) hd hf (ib ?_)));unfold newFields;refine ia (iu (ib ⟨_,rfl,"set_iterator",_,⟨_,y0d _ rfl,rfl⟩,slot_setit_next.lookup,?_⟩));have lt:a<h2.objs.size:=y0f (hk a o ho);have hk':∀b u,h2.get? b=some u->(h2.push {cls:=.type "set_iterator",data:=.fields #[v,.int 0 0,.ref a,.int es.size 0,.int ep 0]}).get? b=some u:=λb u e=>y02 _ e;refine q _ y _ d2 hy (y0i lt) (λpt pl e=>⟨y0i (hpt pt pl e).2,(hpt pt pl e).1⟩) le ⟨⟨o,hk' a o (hk a o ho),hd⟩,⟨_,v,y0d _ rfl,rfl,rfl,?_⟩⟩ λb u e=>hk' b u (hk b u e);cases y with
  |text=>exact hv
  |place=>exact hv
  |drawn pt pl =>
   obtain⟨e,o2,n2,h1,h2'⟩:=hv;exact⟨e,o2,n2,hk' _ _ h1,h2'⟩
 show wpAny _ _ (if(!byT w&&(!t.plain&&decide (es.size>1)))=true then _ else _) _ _ _;cases hb:byT w with
 |true =>
  rw[if_neg (by simp)];refine ia (ib ?_);exact fin s _ .text hb (λ_ _ e=>e) rfl (y01 _) rfl (λ_ _ e=>nomatch e)
 |false =>
  cases hp:(!t.plain&&decide (es.size>1))with
  |false =>
   rw[if_neg (by simp)];refine ia (ib ?_);exact fin s _ .place ⟨hb,hp⟩ (λ_ _ e=>e) rfl (y01 _) ⟨0,rfl,zlz tb.rise⟩ (λ_ _ e=>nomatch e)
  |true =>
   rw[if_pos (by simp)];refine ia (zqy es.size (List.range es.size) s _ y1p λys d pm=>?_);have yl:ys.length=es.size:=by rw[pm.length_eq,y1p]
   refine ia (jv ?_ (by rw[y00,yl];exact hn));refine fin _ _ (.drawn s.heap.objs.size ys) ⟨hb,hp,pm⟩ (λ_ _ e=>y02 _ e) rfl ?_ ⟨rfl,_,_,y0d _ rfl,rfl⟩ λpt pl e=>?_
   ·show _<=(Heap.push _ _).objs.size;rw[y10];exact y2s _
   ·cases e;refine⟨y01 _,?_⟩;show _<(Heap.push _ _).objs.size;rw[y10];exact y1u _
end
section
variable {P:ig}{w:World}{A:ir}{E:Y0}{s:ic}
theorem zch:Slot "set_iterator" "__iter__" "set_iterator.__iter__" :=
 .of (owner:="set_iterator") (n:="__iter__") (by rw[typeLookup_type,builtinLookup_eq_fast];kernel_rfl) (by decide+kernel) (by decide+kernel) (by decide+kernel) (by first|exact .inl (by decide+kernel)|exact .inr (by decide+kernel)) (by rw[jx];kernel_rfl)
theorem zdy:entryFor table "set_iterator.__iter__"=some Builtin.«dict_keyiterator.__iter__» :=
 entryFor_alias (id':="dict_keyiterator.__iter__") (by kernel_rfl) rfl (by decide+kernel) (by kernel_rfl)
theorem ze6(v:Value):argsOk "set_iterator.__iter__" ⟨[v],[]⟩:=by unfold argsOk;kernel_rfl
theorem zky:j7 (.type "set") (Str.ofString "__len__")=pure (some (.builtin "set.__len__")):=F.slot_set_len.lookup
theorem zi9(hh:A.handled=none)(ho:s.heap.get? a=some o)(hx:o.ExactSet)(hc:o.cls=.type "set")(hd:o.data=.set es ep t)(hf:t.fits es.size=true)(tb:Tb (!byT w) t)(hn:es.size<=ie)
  (q:∀(vs:List Value) (h':Heap) (d:Drawn) (tk:Nat),vs.Perm (es.toList.map (·.2))->s.heap.objs.size<=h'.objs.size->s.toks<=tk->(∀b u,s.heap.get? b=some u->h'.get? b=some u)->Q vs {s with heap:=h',drawn:=d,toks:=tk}) :
  wpAny (model P w) A (collect (.ref a)) Q E s:=by
 have la:a<s.heap.objs.size:=y0f ho;unfold collect;refine ia (wpAny_runValue (iI F.entry_proto_collect ?_));rw[Around.under_plainId F.plain_proto_collect _];show wpAny _ A.in1 (newList []>>=λl=>again (.builtin "list.__iadd__" ⟨[l,.ref a],[]⟩)) _ _ s;refine ia (iu ?_);refine ib ⟨ji F.plain_list_iadd _,iI F.entry_list_iadd ?_⟩;rw[Around.under_plainId F.plain_list_iadd _];have hS₁:(s.heap.push {cls:=.type "list",data:=.seq ([]:List Value).toArray}).get? s.heap.objs.size=some {cls:=.type "list",data:=.seq ([]:List Value).toArray}:=y0d _ rfl;have ha₁:(s.heap.push {cls:=.type "list",data:=.seq ([]:List Value).toArray}).get? a=some o:=y02 _ ho;have h1:Builtin.List.listSameRef (.ref s.heap.objs.size) (.ref a)=false:=by simp[Builtin.List.listSameRef,y21 la]
 show wpAny _ A.in1 (Builtin.List.listExtendWith (.ref s.heap.objs.size) (.ref a) (.ref s.heap.objs.size)) _ _ _;unfold Builtin.List.listExtendWith;have hT:Shared.TypeIs {s with heap:=s.heap.push {cls:=.type "list",data:=.seq ([]:List Value).toArray} } (.ref a) "set":=⟨o,ha₁,hc⟩;refine ia (wpAny_typeOf hT ?_);rw[if_neg (by rw[h1];decide)];refine ia (zk3 (s:={s with heap:=s.heap.push {cls:=.type "list",data:=.seq ([]:List Value).toArray} }) ha₁ hx hc hd hf tb hn λit y h2 d wo hne hpt hit st k2=>?_);refine ia (ix ?_);have hT2:Shared.TypeIs {s with heap:=h2,drawn:=d} (.ref a) "set":=⟨o,k2 a o ha₁,hc⟩;unfold Builtin.List.listLengthHint;refine ia (i8 hT2 zky ?_);generalize hid:("set.__len__":String)=id0
 (fail_if_success (clear hid id0))
 wp_delta
 rw[show splitId id0=some ("set","__len__")from by subst hid;decide+kernel];subst hid;refine ia (iE (b:=true) hT2 (by rw[jx];kernel_rfl) ?_);rw[if_neg (by decide)];refine zr2 (by decide+kernel) ?_;refine ia (wpAny_typeOf hT2 (ib ?_));show wpAny _ A.in1 (rule "list.extend.makes-room">>=λ_=>Builtin.List.listTouch (.ref s.heap.objs.size)>>=λ_ =>
  again (.builtin "list.extend.loop" ⟨[.ref s.heap.objs.size,.ref it,.ref s.heap.objs.size],[]⟩)) _ _ _
 refine ia (iK ?_);have hS2:=k2 _ _ hS₁;refine ia ?_;show wpAny _ A.in1 (updateSeq s.heap.objs.size (·.push .none)>>=λ_=>updateSeq s.heap.objs.size (·.pop)) _ _ _;refine ia (wpAny_updateSeq hS2 rfl ?_);have hS₂:=y24 (Obj.mapSeq (·.push Value.none)) hS2 rfl;refine wpAny_updateSeq hS₂ rfl ?_;have hS₃:=y24 (Obj.mapSeq (·.pop)) hS₂ rfl;have oth:∀b o,b≠s.heap.objs.size->h2.get? b=some o->((h2.update s.heap.objs.size (Obj.mapSeq (·.push Value.none))).update s.heap.objs.size (Obj.mapSeq (·.pop))).get? b=some o :=
  λb o hb e=>(y2n _ _ (Ne.symm hb)).trans ((y2n _ _ (Ne.symm hb)).trans e)
 have hself:∀(s:ic) (Q:Y0) (E:Y0),s.TypeIs (.ref it) "set_iterator"->Q (.ref it) s->wpAny (model P w) A.in1 (js (.ref it)) Q E s:=λs Q E hT q=>by
  refine jf hT zch (ik zch hT zdy ?_ (ze6 _));show wpAny _ _ (ret (.ref it)) _ _ s;exact ib ⟨_,rfl,"set_iterator",_,hT,slot_setit_next.lookup,q⟩
 have sz1:(s.heap.push {cls:=.type "list",data:=.seq ([]:List Value).toArray}).objs.size=s.heap.objs.size+1:=y10 ..;have hit':s.heap.objs.size+1<=it:=by rw[←sz1];exact hit
 have ptne:∀b,b∈y.fp->b≠s.heap.objs.size:=λb hb=>by
  obtain⟨pl,e⟩:=Way.mem_fp.mpr hb;have:=(hpt b pl e).2;have z:s.heap.objs.size+1<=b:=by rw[←sz1];exact this
  exact y21 z
 have W:=(Walks.set (P:=P) (A:=A.in1) (ep:=ep) hh hne (λpt pl e=>(hpt pt pl e).1) wo tb hf hself).toS;have hSf:s.heap.objs.size∉it::a::y.fp:=λhm=>by
  rcases y08.mp hm with z|hm
  ·exact y0i hit' z
  rcases y08.mp hm with z|hm
  ·exact y21 la z
  ·exact ptne _ hm rfl
 refine ib ⟨ji F.plain_extend_loop _,codeAny_extend_loopS W hn _ hSf _ es.size 0 _ _ _ rfl (y14 _) ?_ hS₃ (ItemsOf.nil _) λs' acc' c' hm hS' hacc=>?_⟩
 ·refine st.kept λb u hb e=>oth b u ?_ e;rcases hb with rfl|rfl|hb
  ·exact y21 hit'
  ·exact y0i la
  ·exact ptne b (Way.mem_fp.mp hb)
 show wpAny _ A (load s.heap.objs.size>>=_) _ _ s';refine ia (wpAny_load hS' (ib ?_));obtain⟨h',g',d',tk',os'⟩:=s';have eg:g'=s.gens:=hm.gens;have ed:d'=d:=hm.drawn;have eo:os'=s.os:=hm.os;subst eg;subst ed;subst eo;have op:=zge (a:=a) (ep:=ep) wo;have ol:(ordOf w a es ep y).length=es.size:=by rw[op.length_eq,y1c]
 have hacc':acc'.toList=(ordOf w a es ep y).map (·.2):=by
  refine List.ext_getElem? λj=>?_;rw[y0k,y26];cases e:acc'[j]? with
  |none =>
   have:acc'.size<=j:=Array.getElem?_eq_none_iff.mp e;rw[hacc.1]at this;rw[y23 (by omega)];rfl
  |some v =>
   obtain⟨k,hk⟩:=hacc.2 j v e;rw[hk];rfl
 refine q _ h' d' tk' (by rw[hacc'];exact op.map _) (y1w (y0f hS')) hm.toks λb u e=>?_;have lb:b<s.heap.objs.size:=y0f e;refine hm.heap b u (λhb=>?_) (oth b u (y0i lb) (k2 b u (y02 _ e)));rcases y08.mp hb with z|z
 ·exact y0i lb z
 ·rw[y09.mp z]at lb;exact absurd (y2w lb hit') (y27 _)
end
def iv:Value->Int
 |.int i _=>i
 |_=>0
theorem zoa:∀{l:List Value},(∀v∈l,∃i t,v=.int i t)->je l (l.map iv)
 |[],_=>.nil
 |v::r,h=>by
  obtain⟨i,t,rfl⟩:=h v y07;exact .cons i t (zoa λv hv=>h v (y06 _ hv))
section
variable {P:ig}{w:World}{A:ir}{E:Y0}{s:ic}
theorem zfd{l:List Int}(h1:l.Pairwise (·<=·))(h2:l.Nodup):l.Pairwise (· < ·):=by
 have:=List.Pairwise.and h1 h2;exact this.imp λ⟨a,b⟩=>by omega
end
theorem Inv.drew{X:Cx}{pins:Y2}{σ:St}{H:Hp}{s:ic}(I:Inv X pins σ H s)(d:Drawn):Inv X pins σ H {s with drawn:=d}:=by
 obtain⟨h1,h2,h3,h4,h5,h6,h7,h8,h9,h10,h11⟩:=I;exact⟨h1,h2,h3,h4,h5,h6,h7,h8,h9,h10,h11⟩
def setI(P:ig)(w:World)(a:Addr)(ns:List Int):HO:=.ext λh=>SetTs P w h a ns
theorem zh3(hc:X.calm=true):CallR X (.type "set") (λxs H Q=>∃(p:Addr) (ns:List Int),xs=[.ref p]/\SqL X.K H p (ns.map V.int)/\ns.length<=1000/\∀a,H a=none->Q (.ref a) (upd H a (setI X.prog X.w a ns))):=by
 intro pins s σ H xs us Q I r h;obtain⟨p,ks,rfl,hx,hz,q⟩:=h;obtain⟨u,rfl,rx⟩:=vals1 r;cases(show u=Value.ref p from rx);obtain⟨vs,rv,pl,_⟩:=I.list hx;have lv:=rv.length;rw[y00]at lv;refine zhd (ks:=ks) (I.ok.hd hc) pl.isList (by rw[y03];exact lv) (λi v k e1 e2=>?_) (by rw[y03];unfold iA;omega) λh' tk x k=>?_
 ·have e1':vs[i]?=some v:=by simpa using e1
  obtain⟨u,e,q⟩:=rv.get (i:=i) (x:=V.int k) (by rw[y0k,e2];rfl);rw[e1']at e;cases e;obtain⟨t,rfl⟩:=q;show Value.isInt k (.int k t)=true;unfold Value.isInt;simp
 ·refine⟨.ref s.heap.objs.size,_,I.laid (t':=tk) (λb u e=>k b u (y0f e) e) (y01 _) ?_,rfl,q _ I.fresh⟩;obtain⟨n,hn,o,es,ep,t,ho,rest⟩:=id x;exact⟨x,⟨o,ho⟩,λh1 h2 x1 k1=>x1.kept k1⟩
theorem zfj:∀{vs:List Value} {ns:List Int},je vs ns->Vals (ns.map V.int) vs
 |_,_,.nil=>.nil
 |_,_,.cons n t h=>.cons ⟨t,rfl⟩ (zfj h)
end L2
namespace SM
open PySem PySem.Spec PyProof.Rows L2 SS
abbrev kS(z:Str):Key2:=.inl (.inr z)
abbrev kI(n:Nat):Key2:=.inl (.inl (n:Int))
def noG:List Key2:=[kS "no"]
def yesG:List Key2:=[kS "yes"]
def bareG(wd:Str)(i j:Nat):List Key2:=[kS wd,kI (2^i),kI (2^j)]
def notG(l:Nat):List Key2:=[kS "not",kI l]
structure LA where
 p:Addr
 dx:Addr
 pf:Addr
 pn:Addr
 ps:Addr
def FL2(H:Hp)(v:V)(k:List Key2):Prop:=∃a,v=.ref a/\NestAt H a k
structure Lg(P:ig)(w:World)(C:Addr)(A:LA)(fs:List (List Key2))(sts:List (List Key×V))(H:Hp):Prop where
 e1:H A.p=some (.ins C A.dx (fl3 (.ref A.pf) (.ref A.pn) (.ref A.ps)))
 ef:∃rs,H A.pf=some (.lst rs)/\iq (FL2 H) rs (noG::yesG::fs)
 en:∃ys,H A.pn=some (dN P w A.pn ys)/\Keys H ys/\ys.map (·.1)=fs/\∀i y,ys[i]?=some y->y.2.2=nV (2+i)
 es:H A.ps=some (.dT sts)
def Up3(A:LA)(H H':Hp):Prop:=∀b o,b≠A.pf->b≠A.pn->b≠A.ps->H b=some o->H' b=some o
theorem Up3.refl(A:LA)(H:Hp):Up3 A H H:=λ_ _ _ _ _ e=>e
theorem Same.up3(g:Same H H'):Up3 A H H':=λb o _ _ _ e=>g b o e
theorem Up3.trans(a:Up3 A H H1)(b:Up3 A H1 H2):Up3 A H H2:=λc o n1 n2 n3 e=>b c o n1 n2 n3 (a c o n1 n2 n3 e)
section
variable {P:ig}{w:World}{C:Addr}{A:LA}{fs:List (List Key2)}{sts:List (List Key×V)}{H H':Hp}
theorem Lg.tups(L:Lg P w C A fs sts H)(u:Up3 A H H'):TupS H H':=λb o h=>by
 obtain⟨rs,e2,_⟩:=L.ef;obtain⟨ys,e3,_⟩:=L.en;exact u b _ (λz=>by rw[z,e2]at h;cases h) (λz=>by rw[z,e3]at h;cases h) (λz=>by rw[z,L.es]at h;cases h) h
theorem Lg.lst(L:Lg P w C A fs sts H)(u:Up3 A H H')(hb:b≠A.pf)(h:H b=some (.lst xs)):H' b=some (.lst xs):=by
 obtain⟨ys,e3,_⟩:=L.en;exact u b _ hb (λz=>by rw[z,e3]at h;cases h) (λz=>by rw[z,L.es]at h;cases h) h
theorem Lg.ins(L:Lg P w C A fs sts H)(u:Up3 A H H')(h:H b=some (.ins c d xs)):H' b=some (.ins c d xs):=by
 obtain⟨rs,e2,_⟩:=L.ef;obtain⟨ys,e3,_⟩:=L.en;exact u b _ (λz=>by rw[z,e2]at h;cases h) (λz=>by rw[z,e3]at h;cases h) (λz=>by rw[z,L.es]at h;cases h) h
theorem FL2.ts(h:FL2 H v k)(g:TupS H H'):FL2 H' v k:=let⟨a,e,n⟩:=h;⟨a,e,n.ts g⟩
theorem Lg.same(L:Lg P w C A fs sts H)(g:Same H H'):Lg P w C A fs sts H':=by
 obtain⟨rs,e2,e2'⟩:=L.ef;obtain⟨ys,e3,e4,e5,e6⟩:=L.en;exact⟨g _ _ L.e1,⟨rs,g _ _ e2,L2.Paired.mapP e2' λ_ _ z=>z.ts g.tups⟩,⟨ys,g _ _ e3,e4.ts g.tups,e5,e6⟩,g _ _ L.es⟩
theorem Up3.same(z1:H0 A.pf=none)(z2:H0 A.pn=none)(z3:H0 A.ps=none)(g:Same H0 H)(u:Up3 A H H'):Same H0 H':=λb o h=>u b o (λe=>by rw[e,z1]at h;cases h) (λe=>by rw[e,z2]at h;cases h) (λe=>by rw[e,z3]at h;cases h) (g b o h)
theorem zgi{α:Type}[DecidableEq α](x:α)(xs:List α)(k:α):nOf (x::xs) k=if x=k then 0 else 1+nOf xs k:=by
 unfold nOf;rw[y3u];by_cases e:x=k
 ·rw[if_pos e,beq_iff_eq.mpr e];rfl
 ·rw[if_neg e,beq_eq_false_iff_ne.mpr e];simp only[cond_false];omega
theorem tabN:∀{ys:List NRow} {fs:List (List Key2)} (d:Nat),ys.map (·.1)=fs->(∀i y,ys[i]?=some y->y.2.2=nV (d+i))->∀k,(k∈fs->valN ys k=some (nV (d+nOf fs k)))/\(¬k∈fs->valN ys k=none)
 |[],_,d,rfl,_,k=>⟨λh=>by simp at h,λ_=>rfl⟩
 |y::ys,_,d,rfl,hv,k=>by
  have h0:=hv 0 y rfl;have ih:=tabN (ys:=ys) (d+1) rfl (λi z hz=>by rw[hv (i+1) z (by simpa using hz),show d+(i+1)=d+1+i by omega]) k;have ev:valN (y::ys) k=if y.1=k then some y.2.2 else valN ys k:=by
   unfold valN;rw[y1m];by_cases e:y.1=k
   ·rw[decide_eq_true e,if_pos e];rfl
   ·rw[decide_eq_false e,if_neg e]
  rw[ev,y0h,zgi];by_cases e:y.1=k
  ·rw[if_pos e,if_pos e];exact⟨λ_=>by rw[h0],λh=>absurd (by rw[e];exact y07) h⟩
  ·rw[if_neg e,if_neg e];refine⟨λh=>?_,λh=>ih.2 λz=>h (y06 _ z)⟩;rw[ih.1 ((y08.mp h).resolve_left λz=>e z.symm),show d+(1+nOf (ys.map (·.1)) k)=d+1+nOf (ys.map (·.1)) k by omega]
theorem Lg.form(L:Lg P w C A fs sts H){l:Nat}{k:List Key2}(h:(noG::yesG::fs)[l]?=some k):∃rs b,H A.pf=some (.lst rs)/\rs[l]?=some (.ref b)/\NestAt H b k:=by
 obtain⟨rs,e2,e2'⟩:=L.ef;obtain⟨v,ev,b,rfl,nb⟩:=Paired.at2 e2' h;exact⟨rs,b,e2,ev,nb⟩
end
inductive Fm where
 |bare (w:Str) (i j:Nat)
 |neg (n:Nat)
 |two (a b:Nat)
 |set (b:Nat) (ks:List Nat)
 |plc (b u:Nat) (ks:List Nat)
deriving DecidableEq
inductive Chs(b:Nat):List Nat->List Nat->Prop
 |nil:Chs b [] []
 |out {c:Nat} {r r':List Nat}:Chs b r r'->Chs b (c::r) (c::r')
 |inn {c:Nat} {r r':List Nat}:Chs b r r'->Chs b (c::r) ((c|||2^b)::r')
inductive Put(b:Nat):List Nat->List Nat->Prop
 |here {c:Nat} {r:List Nat}:Put b (c::r) ((c|||2^b)::r)
 |next {c:Nat} {r r':List Nat}:Put b r r'->Put b (c::r) (c::r')
theorem Chs.self(b:Nat):∀r,Chs b r r
 |[]=>.nil
 |_::r=>.out (Chs.self b r)
def hereT(j:Nat):List Nat->Prop
 |[]=>False
 |c::_=>bit c j=true
inductive Is(fs B:List Fm):Nat->Nat->Nat->(List Nat->Prop)->Nat->Prop
 |no {h t g:Nat} {φ:List Nat->Prop} (hg:1<=g) (e:∀r,¬φ r):Is fs B h t g φ 0
 |yes {h t g:Nat} {φ:List Nat->Prop} (hg:1<=g) (e:∀r,φ r):Is fs B h t g φ 1
 |bare {h t g m i j:Nat} {w:Str} {φ:List Nat->Prop} (hg:1<=g) (em:fs[m]?=some (.bare w i j)) (hw:w∈rowWords) (hi:i<=4) (hj:j<=4) (b1:Fm.bare w i j∈B) (b2:Fm.bare "here" j j∈B) (e:∀r,φ r↔aend w (brun w i j 2 r)=true):Is fs B h t g φ (m+2)
 |here {h t g m j:Nat} {φ:List Nat->Prop} (hg:1<=g) (em:fs[m]?=some (.bare "here" j j)) (hj:j<=4) (b2:Fm.bare "here" j j∈B) (e:∀r,φ r↔hereT j r):Is fs B h t g φ (m+2)
 |neg {h t g g' m n:Nat} {φ ψ:List Nat->Prop} (hg:g+1<=g') (em:fs[m]?=some (.neg n)) (I:Is fs B h t g ψ n) (e:∀r,φ r ↔ ¬ψ r):Is fs B (h+1) t g' φ (m+2)
 |two {h t ga gb g' m a b:Nat} {φ ψ χ:List Nat->Prop} (hg:ga+gb+1<=g') (em:fs[m]?=some (.two a b)) (Ia:Is fs B h t ga ψ a) (Ib:Is fs B h t gb χ b) (e:∀r,φ r↔ψ r/\χ r):Is fs B (h+1) t g' φ (m+2)
 |set {h t g g' m b:Nat} {ks:List Nat} {φ:List Nat->Prop} (Ψ:Nat->List Nat->Prop) (hg:3+2*(ks.length*2^t)*g<=g') (em:fs[m]?=some (.set b ks)) (hb:b<=4) (sm:ks.length*2^t<64\/(g<=2/\B.length<=30)) (I:∀k∈ks,Is fs B h t g (Ψ k) k) (e:∀r,φ r↔∃k∈ks,∃r',Chs b r r'/\Ψ k r'):Is fs B (h+1) t g' φ (m+2)
 |plc {h t g g' m b u:Nat} {ks:List Nat} {φ ψ:List Nat->Prop} (Ψ:Nat->List Nat->Prop) (hg:3+(ks.length+t+2)*g<=g') (em:fs[m]?=some (.plc b u ks)) (hb:b<=4) (sm:ks.length+t<64) (Iu:Is fs B h t g ψ u) (I:∀k∈ks,Is fs B h t g (Ψ k) k) (e:∀r,φ r↔(∃k∈ks,Ψ k r)\/∃r',Put b r r'/\ψ r'):Is fs B (h+1) t g' φ (m+2)
section
variable {fs fs' B:List Fm}{h h' t t' g g' l:Nat}{φ φ':List Nat->Prop}
theorem Is.pos(I:Is fs B h t g φ l):1<=g:=by cases I<;>omega
theorem Is.lt(I:Is fs B h t g φ l):l<fs.length+2:=by
 cases I with
 |no=>omega
 |yes=>omega
 |bare _ em=>have:=(y05.mp em).1;omega
 |here _ em=>have:=(y05.mp em).1;omega
 |neg _ em=>have:=(y05.mp em).1;omega
 |two _ em=>have:=(y05.mp em).1;omega
 |set _ _ em=>have:=(y05.mp em).1;omega
 |plc _ _ em=>have:=(y05.mp em).1;omega
theorem Is.mono(I:Is fs B h t g φ l):∀{h' t' g':Nat} {φ':List Nat->Prop},h<=h'->t'<=t->g<=g'->(∀r,φ' r↔φ r)->Is fs B h' t' g' φ' l:=by
 induction I with
 |no hg e=>exactλ_ _ c d=>.no (by omega) λr z=>e r ((d r).mp z)
 |yes hg e=>exactλ_ _ c d=>.yes (by omega) λr=>(d r).mpr (e r)
 |bare hg em hw hi hj b1 b2 e=>exactλ_ _ c d=>.bare (by omega) em hw hi hj b1 b2 λr=>(d r).trans (e r)
 |here hg em hj b2 e=>exactλ_ _ c d=>.here (by omega) em hj b2 λr=>(d r).trans (e r)
 |neg hg em I e ih =>
  intro h' t' g' φ' a b c d;obtain⟨h',rfl⟩:∃k,h'=k+1:=⟨h'-1,by omega⟩;exact .neg (by omega) em (ih (by omega) b (y01 _) λ_=>Iff.rfl) λr=>(d r).trans (e r)
 |two hg em Ia Ib e iha ihb =>
  intro h' t' g' φ' a b c d;obtain⟨h',rfl⟩:∃k,h'=k+1:=⟨h'-1,by omega⟩;exact .two (by omega) em (iha (by omega) b (y01 _) λ_=>Iff.rfl) (ihb (by omega) b (y01 _) λ_=>Iff.rfl) λr=>(d r).trans (e r)
 |@set h t g g0 m b ks φ Ψ hg em hb sm I e ih =>
  intro h' t' g' φ' a bb c d;obtain⟨h',rfl⟩:∃k,h'=k+1:=⟨h'-1,by omega⟩;have h1:ks.length*2^t'<=ks.length*2^t:=y1a _ (y11 (by decide) bb);have h2:2*(ks.length*2^t')*g<=2*(ks.length*2^t)*g:=y18 _ (by omega);exact .set Ψ (by omega) em hb (sm.imp (λz=>by omega) id) (λk hk=>ih k hk (by omega) bb (y01 _) λ_=>Iff.rfl) λr=>(d r).trans (e r)
 |@plc h t g g0 m b u ks φ ψ Ψ hg em hb sm Iu I e ihu ih =>
  intro h' t' g' φ' a bb c d;obtain⟨h',rfl⟩:∃k,h'=k+1:=⟨h'-1,by omega⟩;have h2:(ks.length+t'+2)*g<=(ks.length+t+2)*g:=y18 _ (by omega);exact .plc Ψ (by omega) em hb (by omega) (ihu (by omega) bb (y01 _) λ_=>Iff.rfl) (λk hk=>ih k hk (by omega) bb (y01 _) λ_=>Iff.rfl) λr=>(d r).trans (e r)
theorem Is.cv(I:Is fs B h t g φ l)(d:∀r,φ' r↔φ r):Is fs B h t g φ' l:=I.mono (y01 _) (y01 _) (y01 _) d
theorem zfp{m:Nat}{f:Fm}(p:fs <+:fs')(e:fs[m]?=some f):fs'[m]?=some f:=by
 obtain⟨z,rfl⟩:=p;rw[y16 (y05.mp e).1];exact e
theorem zcs{m:Nat}{f:Fm}(p:fs <+:fs')(hm:m<fs.length)(e:fs'[m]?=some f):fs[m]?=some f:=by
 obtain⟨z,rfl⟩:=p;rwa[y16 hm]at e
theorem Is.ext(I:Is fs B h t g φ l)(p:fs <+:fs'):Is fs' B h t g φ l:=by
 induction I with
 |no hg e=>exact .no hg e
 |yes hg e=>exact .yes hg e
 |bare hg em hw hi hj b1 b2 e=>exact .bare hg (zfp p em) hw hi hj b1 b2 e
 |here hg em hj b2 e=>exact .here hg (zfp p em) hj b2 e
 |neg hg em I e ih=>exact .neg hg (zfp p em) ih e
 |two hg em Ia Ib e iha ihb=>exact .two hg (zfp p em) iha ihb e
 |set Ψ hg em hb sm I e ih=>exact .set Ψ hg (zfp p em) hb sm ih e
 |plc Ψ hg em hb sm Iu I e ihu ih=>exact .plc Ψ hg (zfp p em) hb sm ihu ih e
def Fm.okAt(m:Nat):Fm->Prop
 |.bare w _ _=>w∈rowWords\/w="here"
 |.neg n=>2<=n/\n<m+2
 |.two a b=>2<=a/\a<b/\b<m+2
 |.set _ ks=>ks.Pairwise (· < ·)/\∀k∈ks,2<=k/\k<m+2
 |.plc _ u ks=>u<m+2/\ks.Pairwise (· < ·)/\∀k∈ks,2<=k/\k<m+2
structure FTb(fs:List Fm):Prop where
 at_:∀(m:Nat) (f:Fm),fs[m]?=some f->Fm.okAt m f
 nd:fs.Nodup
theorem Is.cut(I:Is fs' B h t g φ l)(T:FTb fs)(p:fs <+:fs')(hl:l<fs.length+2):Is fs B h t g φ l:=by
 induction I with
 |no hg e=>exact .no hg e
 |yes hg e=>exact .yes hg e
 |bare hg em hw hi hj b1 b2 e=>exact .bare hg (zcs p (by omega) em) hw hi hj b1 b2 e
 |here hg em hj b2 e=>exact .here hg (zcs p (by omega) em) hj b2 e
 |neg hg em I e ih =>
  have em:=zcs p (by omega) em;have:=T.at_ _ _ em;exact .neg hg em (ih (by have:=this.2;omega)) e
 |two hg em Ia Ib e iha ihb =>
  have em:=zcs p (by omega) em;have:=T.at_ _ _ em;exact .two hg em (iha (by have h2:=this.2.1;have h3:=this.2.2;omega)) (ihb (by have h3:=this.2.2;omega)) e
 |set Ψ hg em hb sm I e ih =>
  have em:=zcs p (by omega) em;have:=T.at_ _ _ em;exact .set Ψ hg em hb sm (λk hk=>ih k hk (by have:=(this.2 k hk).2;omega)) e
 |plc Ψ hg em hb sm Iu I e ihu ih =>
  have em:=zcs p (by omega) em;have:=T.at_ _ _ em;exact .plc Ψ hg em hb sm (ihu (by have:=this.1;omega)) (λk hk=>ih k hk (by have:=(this.2.2 k hk).2;omega)) e
theorem zqr(w:Str)(i j:Nat):∀r,aend w (brun w i j 3 r)=true↔hereT j r
 |[]=>by simp[brun,aend,hereT]
 |c::r=>by
  have e:bstep w i j 3 c=if bit c j then 1 else 0:=rfl
  rw[zb0,e,zba (by split<;>omega)];show _↔bit c j=true;cases bit c j<;>simp[aend]
theorem Is.det(I:Is fs B h t g φ l):∀{B':List Fm} {h' t' g':Nat} {φ':List Nat->Prop},Is fs B' h' t' g' φ' l->∀r,φ r↔φ' r:=by
 induction I with
 |no hg e=>intro B' h' t' g' φ' J r;cases J with|no _ e'=>exact iff_of_false (e r) (e' r)
 |yes hg e=>intro B' h' t' g' φ' J r;cases J with|yes _ e'=>exact iff_of_true (e r) (e' r)
 |bare hg em hw hi hj b1 b2 e =>
  intro B' h' t' g' φ' J r;cases J with
  |bare _ em' _ _ _ _ _ e'=>rw[em]at em';cases em';exact(e r).trans (e' r).symm
  |here _ em' _ _ e'=>rw[em]at em';cases em';exact absurd hw (by decide+kernel)
  |neg _ em' _ _=>rw[em]at em';cases em'
  |two _ em' _ _ _=>rw[em]at em';cases em'
  |set _ _ em' _ _ _ _=>rw[em]at em';cases em'
  |plc _ _ em' _ _ _ _ _=>rw[em]at em';cases em'
 |here hg em hj b2 e =>
  intro B' h' t' g' φ' J r;cases J with
  |bare _ em' hw _ _ _ _ e'=>rw[em]at em';cases em';exact absurd hw (by decide+kernel)
  |here _ em' _ _ e'=>rw[em]at em';cases em';exact(e r).trans (e' r).symm
  |neg _ em' _ _=>rw[em]at em';cases em'
  |two _ em' _ _ _=>rw[em]at em';cases em'
  |set _ _ em' _ _ _ _=>rw[em]at em';cases em'
  |plc _ _ em' _ _ _ _ _=>rw[em]at em';cases em'
 |neg hg em I e ih =>
  intro B' h' t' g' φ' J r;cases J with
  |bare _ em'=>rw[em]at em';cases em'
  |here _ em' _ _ e'=>rw[em]at em';cases em'
  |neg _ em' J e'=>rw[em]at em';cases em';exact(e r).trans ((not_congr (ih J r)).trans (e' r).symm)
  |two _ em' _ _ _=>rw[em]at em';cases em'
  |set _ _ em' _ _ _ _=>rw[em]at em';cases em'
  |plc _ _ em' _ _ _ _ _=>rw[em]at em';cases em'
 |two hg em Ia Ib e iha ihb =>
  intro B' h' t' g' φ' J r;cases J with
  |bare _ em'=>rw[em]at em';cases em'
  |here _ em' _ _ e'=>rw[em]at em';cases em'
  |neg _ em' J e'=>rw[em]at em';cases em'
  |two _ em' Ja Jb e'=>rw[em]at em';cases em';exact(e r).trans ((and_congr (iha Ja r) (ihb Jb r)).trans (e' r).symm)
  |set _ _ em' _ _ _ _=>rw[em]at em';cases em'
  |plc _ _ em' _ _ _ _ _=>rw[em]at em';cases em'
 |set Ψ hg em hb sm I e ih =>
  intro B' h' t' g' φ' J r;cases J with
  |bare _ em'=>rw[em]at em';cases em'
  |here _ em' _ _ e'=>rw[em]at em';cases em'
  |neg _ em' J e'=>rw[em]at em';cases em'
  |two _ em' Ja Jb e'=>rw[em]at em';cases em'
  |set Ψ' _ em' _ _ J e' =>
   rw[em]at em';cases em';refine(e r).trans (Iff.trans ?_ (e' r).symm);exact⟨λ⟨k,hk,r',c,z⟩=>⟨k,hk,r',c,(ih k hk (J k hk) r').mp z⟩,λ⟨k,hk,r',c,z⟩=>⟨k,hk,r',c,(ih k hk (J k hk) r').mpr z⟩⟩
  |plc _ _ em' _ _ _ _ _=>rw[em]at em';cases em'
 |plc Ψ hg em hb sm Iu I e ihu ih =>
  intro B' h' t' g' φ' J r;cases J with
  |bare _ em'=>rw[em]at em';cases em'
  |here _ em' _ _ e'=>rw[em]at em';cases em'
  |neg _ em' J e'=>rw[em]at em';cases em'
  |two _ em' Ja Jb e'=>rw[em]at em';cases em'
  |set _ _ em' _ _ _ _=>rw[em]at em';cases em'
  |plc Ψ' _ em' _ _ Ju J e' =>
   rw[em]at em';cases em';refine(e r).trans (Iff.trans ?_ (e' r).symm);refine or_congr ⟨λ⟨k,hk,z⟩=>⟨k,hk,(ih k hk (J k hk) r).mp z⟩,λ⟨k,hk,z⟩=>⟨k,hk,(ih k hk (J k hk) r).mpr z⟩⟩ ⟨λ⟨r',c,z⟩=>⟨r',c,(ihu Ju r').mp z⟩,λ⟨r',c,z⟩=>⟨r',c,(ihu Ju r').mpr z⟩⟩
def Dn(fs:List Fm)(l:Nat)(r:List Nat):Prop:=∃B h t g φ,Is fs B h t g φ l/\φ r
theorem Is.dn(I:Is fs B h t g φ l)(r:List Nat):Dn fs l r↔φ r:=⟨λ⟨_,_,_,_,_,J,z⟩=>(I.det J r).mpr z,λz=>⟨_,_,_,_,_,I,z⟩⟩
end
def opN(fs:List Fm)(f:Fm):List Fm×Nat:=(nxt fs f,2+nOf (nxt fs f) f)
def opNot(fs:List Fm)(l:Nat):List Fm×Nat:=if l=0 then(fs,1)else if l=1 then(fs,0)else match fs[l-2]? with
 |some (.neg n)=>(fs,n)
 |_=>opN fs (.neg l)
def opAnd(fs:List Fm)(a b:Nat):List Fm×Nat:=if a=0\/b=0 then(fs,0)else if a=1\/a=b then(fs,b)else if b=1 then(fs,a)else opN fs (.two (min a b) (max a b))
def opOr(fs:List Fm)(a b:Nat):List Fm×Nat :=
 let x:=opNot fs a;let y:=opNot x.1 b;let z:=opAnd y.1 x.2 y.2
 opNot z.1 z.2
def opSet(fs:List Fm)(b:Nat)(ks:List Nat):List Fm×Nat:=if 1∈ks then(fs,1)else if ks=[]then(fs,0)else opN fs (.set b ks)
def opPlc(fs:List Fm)(b u:Nat)(ks:List Nat):List Fm×Nat:=if 1∈ks then(fs,1)else if u=0/\ks=[]then(fs,0)else opN fs (.plc b u ks)
structure Ex(fs fs':List Fm)(k:Nat):Prop where
 T:FTb fs'
 p:fs <+:fs'
 n:fs'.length<=fs.length+k
structure Kp(lefts ks:List Nat):Prop where
 rise:ks.Pairwise (· < ·)
 iff:∀k,k∈ks↔k∈lefts/\k≠0
section
variable {fs fs' fs2 B:List Fm}{f:Fm}{h h' t t' g g' ga gb l a b c u m k k':Nat}{ks lefts:List Nat}{φ φ' ψ χ:List Nat->Prop}
theorem Ex.refl(T:FTb fs)(k:Nat):Ex fs fs k:=⟨T,List.prefix_refl _,by omega⟩
theorem Ex.trans(x:Ex fs fs' k)(y:Ex fs' fs2 k'):Ex fs fs2 (k+k'):=⟨y.T,x.p.trans y.p,by have:=x.n;have:=y.n;omega⟩
theorem Ex.le(x:Ex fs fs' k)(h:k<=k'):Ex fs fs' k':=⟨x.T,x.p,by have:=x.n;omega⟩
theorem Ex.len(x:Ex fs fs' k):fs.length<=fs'.length:=x.p.length_le
theorem zdr(T:FTb fs)(ok:Fm.okAt fs.length f):Ex fs (opN fs f).1 1/\(opN fs f).1[(opN fs f).2-2]?=some f/\2<=(opN fs f).2/\(opN fs f).2<(opN fs f).1.length+2:=by
 have e2:(opN fs f).2=2+nOf (opN fs f).1 f:=rfl;have hx:Ex fs (opN fs f).1 1/\f∈(opN fs f).1:=by
  show Ex fs (nxt fs f) 1/\f∈nxt fs f;by_cases hf:f∈fs
  ·rw[zhr hf];exact⟨Ex.refl T 1,hf⟩
  ·rw[zer hf];refine⟨⟨⟨λm f' e=>?_,?_⟩,List.prefix_append _ _,by simp⟩,by simp⟩
   ·by_cases hm:m<fs.length
    ·rw[y16 hm]at e;exact T.at_ _ _ e
    ·have:m=fs.length:=by have:=(y05.mp e).1;simp at this;omega
     subst this;rw[y1f (by omega),Nat.sub_self]at e;cases e;exact ok
   ·rw[y3j];exact⟨T.nd,by simp,λa ha b hb e=>by rw[y09.mp hb]at e;subst e;exact hf ha⟩
 have e3:=zbl hx.2;rw[e2];refine⟨hx.1,by rw[show 2+nOf (opN fs f).1 f-2=nOf (opN fs f).1 f by omega];exact e3,by omega,?_⟩;have:=(y05.mp e3).1;omega
theorem zfs(T:FTb fs)(ok:Fm.okAt fs.length f):∃m,(opN fs f).2=m+2/\(opN fs f).1[m]?=some f:=by
 obtain⟨_,h1,h2,_⟩:=zdr T ok;exact⟨_,by omega,h1⟩
theorem notA{l:Nat}(hl:l<fs.length+2):l=0\/l=1\/(∃m n,l=m+2/\fs[m]?=some (.neg n)/\opNot fs l=(fs,n))\/(∃m f,l=m+2/\fs[m]?=some f/\(∀n,f ≠ .neg n)/\opNot fs l=opN fs (.neg l)):=by
 match l with
 |0=>exact .inl rfl
 |1=>exact .inr (.inl rfl)
 |m+2 =>
  obtain⟨f,ef⟩:∃f,fs[m]?=some f:=⟨_,y0b (by omega)⟩;have e:opNot fs (m+2)=match fs[m]? with|some (.neg n)=>(fs,n)|_=>opN fs (.neg (m+2)):=by
   unfold opNot;rw[if_neg (by omega),if_neg (by omega)];rfl
  refine .inr (.inr ?_);cases f with
  |neg n=>exact .inl ⟨m,n,rfl,ef,by rw[e,ef]⟩
  |bare _ _ _=>exact .inr ⟨m,_,rfl,ef,λn z=>(by cases z),by rw[e,ef]⟩
  |two _ _=>exact .inr ⟨m,_,rfl,ef,λn z=>(by cases z),by rw[e,ef]⟩
  |set _ _=>exact .inr ⟨m,_,rfl,ef,λn z=>(by cases z),by rw[e,ef]⟩
  |plc _ _ _=>exact .inr ⟨m,_,rfl,ef,λn z=>(by cases z),by rw[e,ef]⟩
theorem zd8(T:FTb fs)(hl:l<fs.length+2):Ex fs (opNot fs l).1 1/\(opNot fs l).2<(opNot fs l).1.length+2:=by
 rcases notA hl with rfl|rfl|⟨m,n,rfl,em,e⟩|⟨m,f,rfl,em,nf,e⟩
 ·exact⟨Ex.refl T 1,(show 1<fs.length+2 by omega)⟩
 ·exact⟨Ex.refl T 1,(show 0<fs.length+2 by omega)⟩
 ·rw[e];exact⟨Ex.refl T 1,(show n<fs.length+2 by have:=(T.at_ _ _ em).2;omega)⟩
 ·rw[e];obtain⟨x,_,_,y⟩:=zdr (f:=.neg (m+2)) T (show 2<=m+2/\m+2<fs.length+2 by omega);exact⟨x,y⟩
theorem zcc(T:FTb fs)(I:Is fs B h t g φ l):Is (opNot fs l).1 B (h+1) t (g+1) (λr=>¬φ r) (opNot fs l).2:=by
 have hp:=I.pos;rcases notA I.lt with rfl|rfl|⟨m,n,rfl,em,e⟩|⟨m,f,rfl,em,nf,e⟩
 ·show Is fs B _ _ _ _ 1;cases I with|no _ e=>exact .yes (by omega) e
 ·show Is fs B _ _ _ _ 0;cases I with|yes _ e=>exact .no (by omega) λr z=>z (e r)
 ·rw[e];show Is fs B _ _ _ _ n;cases I with
  |bare _ em'=>rw[em]at em';cases em'
  |here _ em' _ _ e'=>rw[em]at em';cases em'
  |neg hg em' J e'=>rw[em]at em';cases em';exact J.mono (by omega) (y01 _) (by omega) λr=>by rw[e' r];exact Classical.not_not
  |two _ em' Ja Jb e'=>rw[em]at em';cases em'
  |set _ _ em' _ _ _ _=>rw[em]at em';cases em'
  |plc _ _ em' _ _ _ _ _=>rw[em]at em';cases em'
 ·rw[e];have ok:Fm.okAt fs.length (.neg (m+2)):=⟨by omega,I.lt⟩;obtain⟨m',e2,e3⟩:=zfs T ok;obtain⟨x,_⟩:=zdr T ok;rw[e2];exact .neg (y01 _) e3 (I.ext x.p) λ_=>Iff.rfl
theorem zl5(a0:¬a=0)(a1:¬a=1)(b0:¬b=0)(b1:¬b=1)(ne:¬a=b)(ha:a<fs.length+2)(hb:b<fs.length+2):Fm.okAt fs.length (.two (min a b) (max a b)):=by
 show 2<=min a b/\min a b<max a b/\max a b<_;omega
theorem zj9(T:FTb fs)(ha:a<fs.length+2)(hb:b<fs.length+2):Ex fs (opAnd fs a b).1 1/\(opAnd fs a b).2<(opAnd fs a b).1.length+2:=by
 unfold opAnd;split
 ·exact⟨Ex.refl T 1,(show 0<fs.length+2 by omega)⟩
 split
 ·exact⟨Ex.refl T 1,hb⟩
 split
 ·exact⟨Ex.refl T 1,ha⟩
 ·rename_i h1 h2 h3;obtain⟨x,_,_,y⟩:=zdr T (zl5 (λz=>h1 (.inl z)) (λz=>h2 (.inl z)) (λz=>h1 (.inr z)) h3 (λz=>h2 (.inr z)) ha hb);exact⟨x,y⟩
theorem zgg(T:FTb fs)(Ia:Is fs B h t ga ψ a)(Ib:Is fs B h t gb χ b):Is (opAnd fs a b).1 B (h+1) t (ga+gb+1) (λr=>ψ r/\χ r) (opAnd fs a b).2:=by
 have pa:=Ia.pos;have pb:=Ib.pos;unfold opAnd;split
 ·rename_i h1;rcases h1 with rfl|rfl
  ·cases Ia with|no _ e=>exact .no (by omega) λr z=>e r z.1
  ·cases Ib with|no _ e=>exact .no (by omega) λr z=>e r z.2
 split
 ·rename_i h1 h2;rcases h2 with rfl|rfl
  ·cases Ia with|yes _ e=>exact Ib.mono (by omega) (y01 _) (by omega) λr=>⟨λz=>z.2,λz=>⟨e r,z⟩⟩
  ·exact Ib.mono (by omega) (y01 _) (by omega) λr=>⟨λz=>z.2,λz=>⟨(Ia.det Ib r).mpr z,z⟩⟩
 split
 ·rename_i h1 h2 h3;subst h3;cases Ib with|yes _ e=>exact Ia.mono (by omega) (y01 _) (by omega) λr=>⟨λz=>z.1,λz=>⟨z,e r⟩⟩
 ·rename_i h1 h2 h3;have ok:=zl5 (λz=>h1 (.inl z)) (λz=>h2 (.inl z)) (λz=>h1 (.inr z)) h3 (λz=>h2 (.inr z)) Ia.lt Ib.lt;obtain⟨m',e2,e3⟩:=zfs T ok;obtain⟨x,_⟩:=zdr T ok;rw[e2];rcases Nat.le_total a b with hab|hab
  ·rw[y3s hab,Nat.max_eq_right hab]at e3 x ⊢;exact .two (y01 _) e3 (Ia.ext x.p) (Ib.ext x.p) λ_=>Iff.rfl
  ·rw[y3o hab,Nat.max_eq_left hab]at e3 x ⊢;exact .two (by omega) e3 (Ib.ext x.p) (Ia.ext x.p) λ_=>And.comm
theorem zs3(T:FTb fs)(Ia:Is fs B h t ga ψ a)(Ib:Is fs B h t gb χ b):Is (opOr fs a b).1 B (h+3) t (ga+gb+4) (λr=>ψ r\/χ r) (opOr fs a b).2:=by
 obtain⟨x1,y1⟩:=zd8 T Ia.lt;have I1:=zcc T Ia;obtain⟨x2,y2⟩:=zd8 (l:=b) x1.T (by have:=x1.len;have:=Ib.lt;omega);have I2:=zcc x1.T (Ib.ext x1.p);obtain⟨x3,y3⟩:=zj9 (a:=(opNot fs a).2) x2.T (by have:=x2.len;omega) y2;have I3:=zgg x2.T (I1.ext x2.p) I2;exact(zcc x3.T I3).mono (y01 _) (y01 _) (by omega) λr=>by
  constructor
  ·rintro(z|z) ⟨y1,y2⟩
   ·exact y1 z
   ·exact y2 z
  ·intro z;by_cases p:ψ r
   ·exact .inl p
   ·by_cases q:χ r
    ·exact .inr q
    ·exact absurd ⟨p,q⟩ z
theorem Kp.len(K:Kp lefts ks):ks.length<=lefts.length:=zea (K.rise.imp λ{a b} z=>y0i z) λx hx=>((K.iff x).mp hx).1
theorem Kp.two(K:Kp lefts ks)(h1:¬1∈ks):∀k∈ks,2<=k:=λk hk=>by
 have h0:=((K.iff k).mp hk).2;have:k≠1:=λz=>h1 (z▸hk);omega
theorem zj7(T:FTb fs)(K:Kp lefts ks)(hb:b<=4)(I:∀x∈lefts,∃χ,Is fs B h t g χ x)(hg:3+2*(lefts.length*2^t)*g<=g')(sm:lefts.length*2^t<64\/(g<=2/\B.length<=30)):
  Is (opSet fs b ks).1 B (h+1) t g' (λr=>∃x∈lefts,∃r',Chs b r r'/\Dn fs x r') (opSet fs b ks).2:=by
 unfold opSet;split
 ·rename_i h1;have h2:=((K.iff 1).mp h1).1;obtain⟨χ,J⟩:=I 1 h2;exact .yes (by omega) λr=>⟨1,h2,r,Chs.self b r,(J.dn r).mpr (by cases J with|yes _ e=>exact e r)⟩
 split
 ·rename_i h1 h2;refine .no (by omega) λr ⟨x,hx,r',_,d⟩=>?_;obtain⟨χ,J⟩:=I x hx;obtain rfl:x=0:=Classical.byContradiction λz=>by have:=(K.iff x).mpr ⟨hx,z⟩;rw[h2]at this;cases this
  have:=(J.dn r').mp d;cases J with|no _ e=>exact e r' this
 ·rename_i h1 h2;have ok:Fm.okAt fs.length (.set b ks):=⟨K.rise,λk hk=>⟨K.two h1 k hk,let⟨_,J⟩:=I k ((K.iff k).mp hk).1;J.lt⟩⟩;obtain⟨m',e2,e3⟩:=zfs T ok;obtain⟨x,_⟩:=zdr T ok;rw[e2];have l1:ks.length*2^t<=lefts.length*2^t:=y18 _ K.len;have l2:2*(ks.length*2^t)*g<=2*(lefts.length*2^t)*g:=y18 _ (by omega);refine .set (Dn fs) (g:=g) (by omega) e3 hb (sm.imp (λz=>by omega) id) (λk hk=>?_) λr=>?_
  ·obtain⟨χ,J⟩:=I k ((K.iff k).mp hk).1;exact(J.ext x.p).cv λr=>J.dn r
  ·constructor
   ·rintro⟨k,hk,r',c,d⟩;refine⟨k,(K.iff k).mpr ⟨hk,λz=>?_⟩,r',c,d⟩;subst z;obtain⟨χ,J⟩:=I 0 hk;have:=(J.dn r').mp d;cases J with|no _ e=>exact e r' this
   ·rintro⟨k,hk,r',c,d⟩;exact⟨k,((K.iff k).mp hk).1,r',c,d⟩
theorem zj8(T:FTb fs)(K:Kp lefts ks)(hb:b<=4)(Iu:Is fs B h t g ψ u)(I:∀x∈lefts,∃χ,Is fs B h t g χ x)(hg:3+(lefts.length+t+2)*g<=g')(sm:lefts.length+t<64):
  Is (opPlc fs b u ks).1 B (h+1) t g' (λr=>(∃x∈lefts,Dn fs x r)\/∃r',Put b r r'/\ψ r') (opPlc fs b u ks).2:=by
 unfold opPlc;split
 ·rename_i h1;have h2:=((K.iff 1).mp h1).1;obtain⟨χ,J⟩:=I 1 h2;exact .yes (by omega) λr=>.inl ⟨1,h2,(J.dn r).mpr (by cases J with|yes _ e=>exact e r)⟩
 split
 ·rename_i h1 h2;obtain⟨rfl,h2⟩:=h2;refine .no (by omega) λr z=>?_;rcases z with⟨x,hx,d⟩|⟨r',_,d⟩
  ·obtain⟨χ,J⟩:=I x hx;obtain rfl:x=0:=Classical.byContradiction λz=>by have:=(K.iff x).mpr ⟨hx,z⟩;rw[h2]at this;cases this
   have:=(J.dn r).mp d;cases J with|no _ e=>exact e r this
  ·cases Iu with|no _ e=>exact e r' d
 ·rename_i h1 h2;have ok:Fm.okAt fs.length (.plc b u ks):=⟨Iu.lt,K.rise,λk hk=>⟨K.two h1 k hk,let⟨_,J⟩:=I k ((K.iff k).mp hk).1;J.lt⟩⟩;obtain⟨m',e2,e3⟩:=zfs T ok;obtain⟨x,_⟩:=zdr T ok;rw[e2];have l2:(ks.length+t+2)*g<=(lefts.length+t+2)*g:=y18 _ (by have:=K.len;omega);refine .plc (Dn fs) (g:=g) (by omega) e3 hb (by have:=K.len;omega) (Iu.ext x.p) (λk hk=>?_) λr=>or_congr ?_ Iff.rfl
  ·obtain⟨χ,J⟩:=I k ((K.iff k).mp hk).1;exact(J.ext x.p).cv λr=>J.dn r
  ·constructor
   ·rintro⟨k,hk,d⟩;refine⟨k,(K.iff k).mpr ⟨hk,λz=>?_⟩,d⟩;subst z;obtain⟨χ,J⟩:=I 0 hk;have:=(J.dn r).mp d;cases J with|no _ e=>exact e r this
   ·rintro⟨k,hk,d⟩;exact⟨k,((K.iff k).mp hk).1,d⟩
end
def Stp(fs fs':List Fm)(c l l':Nat):Prop:=∀(B:List Fm) (h t g:Nat) (φ:List Nat->Prop),Is fs B h (t+1) g φ l->Is fs' B h t g (λr=>φ (c::r)) l'
def opBare(fs:List Fm)(l:Nat)(w:Str)(j:Nat)(one other:Bool):List Fm×Nat :=
 if w="here" then(fs,if one=true then 1 else 0)else if bst w 2 one other=3 then opN fs (.bare "here" j j)else(fs,if bst w 2 one other=2 then l else bst w 2 one other)
section
variable {fs fs' fs1 fs2 B:List Fm}{f:Fm}{h h' t t' g g' ga gb l l' a b c u m k k' n n' i j a' b' u' q:Nat}{ks ps qs lefts:List Nat}{φ φ' ψ χ:List Nat->Prop}{w:Str}
theorem Stp.ext(S:Stp fs fs' c l l')(p:fs' <+:fs2):Stp fs fs2 c l l':=λB h t g φ I=>(S B h t g φ I).ext p
theorem Stp.pre(S:Stp fs1 fs' c l l')(p:fs <+:fs1):Stp fs fs' c l l':=λB h t g φ I=>S B h t g φ (I.ext p)
theorem Stp.up(S:Stp fs fs c l l')(T:FTb fs)(p:fs <+:fs')(hl:l<fs.length+2):Stp fs' fs' c l l':=λB h t g φ I=>(S B h t g φ (I.cut T p hl)).ext p
theorem zmc(hl:l<=1):Stp fs fs c l l:=λB h t g φ I=>by
 rcases(show l=0\/l=1 by omega)with rfl|rfl
 ·cases I with|no hg e=>exact .no hg λr=>e _
 ·cases I with|yes hg e=>exact .yes hg λr=>e _
theorem zvx(w:Str)(one other:Bool):bst w 2 one other<=3:=by
 unfold bst;rw[if_neg (by decide),if_pos rfl]
 repeat' split
 all_goals omega
theorem zk9{one other:Bool}(v:Nat)(hw:¬w="here")(hv:bst w 2 one other=v)(h3:¬v=3):opBare fs l w j one other=(fs,if v=2 then l else v):=by
 unfold opBare;rw[if_neg hw,hv,if_neg h3]
theorem zpf(T:FTb fs)(em:fs[m]?=some (.bare w i j)):Stp fs (opBare fs (m+2) w j (bit c i) (bit c j)).1 c (m+2) (opBare fs (m+2) w j (bit c i) (bit c j)).2:=by
 intro B h t g φ I;cases I with
 |bare hg em' hw hi hj b1 b2 e =>
  rw[em]at em';cases em';have hh:¬w="here":=λz=>by subst z;exact absurd hw (by decide+kernel)
  have e1:∀r,φ (c::r)↔aend w (brun w i j (bst w 2 (bit c i) (bit c j)) r)=true:=λr=>e _;unfold opBare;rw[if_neg hh];split
  ·rename_i h3;rw[h3]at e1;obtain⟨m',e2,e3⟩:=zfs (f:=.bare "here" j j) T (.inr rfl);rw[e2];exact .here hg e3 hj b2 λr=>(e1 r).trans (zqr w i j r)
  ·rename_i h3;have hle:=zvx w (bit c i) (bit c j);show Is fs B h t g _ (if bst w 2 (bit c i) (bit c j)=2 then m+2 else bst w 2 (bit c i) (bit c j));rcases(show bst w 2 (bit c i) (bit c j)=0\/bst w 2 (bit c i) (bit c j)=1\/bst w 2 (bit c i) (bit c j)=2 by omega)with h0|h0|h0<;>rw[h0]at e1 ⊢
   ·exact .no hg λr z=>by have:=(e1 r).mp z;rw[zba (by decide)]at this;simp[aend]at this
   ·exact .yes hg λr=>(e1 r).mpr (by rw[zba (by decide)];simp[aend])
   ·exact .bare hg em hw hi hj b1 b2 e1
 |here hg em' hj b2 e =>
  rw[em]at em';cases em';unfold opBare;rw[if_pos rfl];show Is fs B h t g _ (if bit c i=true then 1 else 0);cases hb:bit c i with
  |true=>exact .yes hg λr=>(e _).mpr hb
  |false=>exact .no hg λr z=>by have:=(e _).mp z;rw[show hereT i (c::r)=(bit c i=true)from rfl,hb]at this;cases this
 |neg _ em'=>rw[em]at em';cases em'
 |two _ em'=>rw[em]at em';cases em'
 |set _ _ em'=>rw[em]at em';cases em'
 |plc _ _ em'=>rw[em]at em';cases em'
theorem zr7(em:fs[m]?=some (.neg n))(T:FTb fs1)(S:Stp fs fs1 c n n'):Stp fs (opNot fs1 n').1 c (m+2) (opNot fs1 n').2:=by
 intro B h t g φ I;cases I with
 |bare _ em'=>rw[em]at em';cases em'
 |here _ em'=>rw[em]at em';cases em'
 |neg hg em' J e=>rw[em]at em';cases em';exact(zcc T (S _ _ _ _ _ J)).mono (y01 _) (y01 _) hg λr=>e _
 |two _ em'=>rw[em]at em';cases em'
 |set _ _ em'=>rw[em]at em';cases em'
 |plc _ _ em'=>rw[em]at em';cases em'
theorem zr4(em:fs[m]?=some (.two a b))(T:FTb fs1)(Sa:Stp fs fs1 c a a')(Sb:Stp fs fs1 c b b'):Stp fs (opAnd fs1 a' b').1 c (m+2) (opAnd fs1 a' b').2:=by
 intro B h t g φ I;cases I with
 |bare _ em'=>rw[em]at em';cases em'
 |here _ em'=>rw[em]at em';cases em'
 |neg _ em'=>rw[em]at em';cases em'
 |two hg em' Ja Jb e=>rw[em]at em';cases em';exact(zgg T (Sa _ _ _ _ _ Ja) (Sb _ _ _ _ _ Jb)).mono (y01 _) (y01 _) hg λr=>e _
 |set _ _ em'=>rw[em]at em';cases em'
 |plc _ _ em'=>rw[em]at em';cases em'
theorem zbn{α β:Type}{R:α->β->Prop}{xs:List α}{ys:List β}{y:β}(p:iq R xs ys)(hy:y∈ys):∃x∈xs,R x y:=by
 induction p with
 |nil=>cases hy
 |cons h _ ih =>
  rcases y08.mp hy with rfl|hy
  ·exact⟨_,y07,h⟩
  ·obtain⟨x,hx,r⟩:=ih hy;exact⟨x,y06 _ hx,r⟩
theorem zd7{α β:Type}{R:α->β->Prop}{xs:List α}{ys:List β}{x:α}(p:iq R xs ys)(hx:x∈xs):∃y∈ys,R x y:=by
 induction p with
 |nil=>cases hx
 |cons h _ ih =>
  rcases y08.mp hx with rfl|hx
  ·exact⟨_,y07,h⟩
  ·obtain⟨y,hy,r⟩:=ih hx;exact⟨y,y06 _ hy,r⟩
theorem zr5(em:fs[m]?=some (.set b ks))(T:FTb fs1)(P1:iq (Stp fs fs1 c) ks ps)(P2:iq (Stp fs fs1 (c|||2^b)) ks qs)(K:Kp (ps++qs) lefts):Stp fs (opSet fs1 b lefts).1 c (m+2) (opSet fs1 b lefts).2:=by
 intro B h t g φ I;cases I with
 |bare _ em'=>rw[em]at em';cases em'
 |here _ em'=>rw[em]at em';cases em'
 |neg _ em'=>rw[em]at em';cases em'
 |two _ em'=>rw[em]at em';cases em'
 |@set h t' g g' m' b' ks' φ Ψ hg em' hb sm J e =>
  rw[em]at em';cases em';have l1:=SS.Paired.len P1;have l2:=SS.Paired.len P2;have ll:(ps++qs).length*2^t=ks.length*2^(t+1):=by rw[y0a,←l1,←l2,y2b];rw[show ks.length+ks.length=ks.length*2 by omega,y40,y47 2]
  refine(zj7 (B:=B) (h:=h) (t:=t) (g:=g) T K hb (λx hx=>?_) (by rw[ll];exact hg) (by rw[ll];exact sm)).cv λr=>(e _).trans ?_
  ·rcases y0g.mp hx with hx|hx
   ·obtain⟨k,hk,S⟩:=zbn P1 hx;exact⟨_,S _ _ _ _ _ (J k hk)⟩
   ·obtain⟨k,hk,S⟩:=zbn P2 hx;exact⟨_,S _ _ _ _ _ (J k hk)⟩
  ·constructor
   ·rintro⟨k,hk,r',ch,z⟩;cases ch with
    |out ch =>
     obtain⟨y,hy,S⟩:=zd7 P1 hk;exact⟨y,y0g.mpr (.inl hy),_,ch,((S _ _ _ _ _ (J k hk)).dn _).mpr z⟩
    |inn ch =>
     obtain⟨y,hy,S⟩:=zd7 P2 hk;exact⟨y,y0g.mpr (.inr hy),_,ch,((S _ _ _ _ _ (J k hk)).dn _).mpr z⟩
   ·rintro⟨x,hx,r',ch,z⟩;rcases y0g.mp hx with hx|hx
    ·obtain⟨k,hk,S⟩:=zbn P1 hx;exact⟨k,hk,_,.out ch,((S _ _ _ _ _ (J k hk)).dn _).mp z⟩
    ·obtain⟨k,hk,S⟩:=zbn P2 hx;exact⟨k,hk,_,.inn ch,((S _ _ _ _ _ (J k hk)).dn _).mp z⟩
 |plc _ _ em'=>rw[em]at em';cases em'
theorem zr6(em:fs[m]?=some (.plc b u ks))(T:FTb fs1)(P1:iq (Stp fs fs1 c) ks ps)(Sq:Stp fs fs1 (c|||2^b) u q)(Su:Stp fs fs1 c u u')(K:Kp (ps++[q]) lefts):Stp fs (opPlc fs1 b u' lefts).1 c (m+2) (opPlc fs1 b u' lefts).2:=by
 intro B h t g φ I;cases I with
 |bare _ em'=>rw[em]at em';cases em'
 |here _ em'=>rw[em]at em';cases em'
 |neg _ em'=>rw[em]at em';cases em'
 |two _ em'=>rw[em]at em';cases em'
 |set _ _ em'=>rw[em]at em';cases em'
 |@plc h t' g g' m' b' u0 ks' φ ψ Ψ hg em' hb sm Ju J e =>
  rw[em]at em';cases em';have l1:=SS.Paired.len P1;have ll:(ps++[q]).length+t=ks.length+(t+1):=by rw[y0a,←l1,y0n];omega
  refine(zj8 (B:=B) (h:=h) (t:=t) (g:=g) T K hb (Su _ _ _ _ _ Ju) (λx hx=>?_) (by rw[ll];exact hg) (by rw[ll];exact sm)).cv λr=>(e _).trans ?_
  ·rcases y0g.mp hx with hx|hx
   ·obtain⟨k,hk,S⟩:=zbn P1 hx;exact⟨_,S _ _ _ _ _ (J k hk)⟩
   ·rw[y09.mp hx];exact⟨_,Sq _ _ _ _ _ Ju⟩
  ·constructor
   ·rintro(⟨k,hk,z⟩|⟨r',pt,z⟩)
    ·obtain⟨y,hy,S⟩:=zd7 P1 hk;exact .inl ⟨y,y0g.mpr (.inl hy),((S _ _ _ _ _ (J k hk)).dn _).mpr z⟩
    ·cases pt with
     |here=>exact .inl ⟨q,by simp,((Sq _ _ _ _ _ Ju).dn _).mpr z⟩
     |next pt=>exact .inr ⟨_,pt,z⟩
   ·rintro(⟨x,hx,z⟩|⟨r',pt,z⟩)
    ·rcases y0g.mp hx with hx|hx
     ·obtain⟨k,hk,S⟩:=zbn P1 hx;exact .inl ⟨k,hk,((S _ _ _ _ _ (J k hk)).dn _).mp z⟩
     ·rw[y09.mp hx]at z;exact .inr ⟨_,.here,((Sq _ _ _ _ _ Ju).dn _).mp z⟩
    ·exact .inr ⟨_,.next pt,z⟩
theorem zo5(T:FTb fs)(e:fs[m]?=some f):m=nOf fs f:=by
 have hf:=zbl (y0j e);exact(y2z (y05.mp e).1 T.nd).mp (e.trans hf.symm)
theorem few(T:FTb fs)(I:∀x∈lefts,∃χ,Is fs B h t g χ x)(sm:lefts.length*2^t'<64\/(g<=2/\B.length<=30)):∃F:List Nat,F.length<64/\∀x∈lefts,x≠0->x∈F:=by
 rcases sm with sm|⟨hg,hB⟩
 ·refine⟨lefts,y2f ?_ sm,λx hx _=>hx⟩;exact y41 _ (y3r (by decide))
 ·refine⟨1::(B.map (λf=>nOf fs f+2)++B.map (λf=>nOf fs (.neg (nOf fs f+2))+2)),by simp;omega,λx hx h0=>?_⟩;have key:∀{h g x:Nat} {χ:List Nat->Prop},Is fs B h t g χ x->g<=2->x≠0->x=1\/(∃f∈B,x=nOf fs f+2)\/(2<=g/\∃n,x=nOf fs (.neg n)+2/\∃h' g' ψ,g'<=1/\2<=n/\Is fs B h' t g' ψ n):=by
   intro h g x χ J hg h0;cases J with
   |no=>exact absurd rfl h0
   |yes=>exact .inl rfl
   |bare _ em _ _ _ b1 _ _=>exact .inr (.inl ⟨_,b1,by rw[←zo5 T em]⟩)
   |here _ em _ b2 _=>exact .inr (.inl ⟨_,b2,by rw[←zo5 T em]⟩)
   |neg hg' em J' _=>exact .inr (.inr ⟨by have:=J'.pos;omega,_,by rw[←zo5 T em],_,_,_,by omega,(T.at_ _ _ em).1,J'⟩)
   |two hg' em Ja Jb _=>have:=Ja.pos;have:=Jb.pos;omega
   |set _ hg'=>omega
   |plc _ hg'=>omega
  obtain⟨χ,J⟩:=I x hx;rcases key J hg h0 with rfl|⟨f,hf,rfl⟩|⟨_,n,rfl,h',g',ψ,hg',hn,J'⟩
  ·exact y07
  ·exact y06 _ (y0g.mpr (.inl (y0m.mpr ⟨f,hf,rfl⟩)))
  ·rcases key J' (by omega) (by omega)with rfl|⟨f,hf,rfl⟩|⟨z,_⟩
   ·omega
   ·exact y06 _ (y0g.mpr (.inr (y0m.mpr ⟨f,hf,rfl⟩)))
   ·omega
end
section
variable {fs B:List Fm}{h t g m n a b i j u:Nat}{ks:List Nat}{φ:List Nat->Prop}{w:Str}
theorem Is.bits(I:Is fs B h t g φ (m+2))(em:fs[m]?=some (.bare w i j)):i<=4/\j<=4:=by
 cases I with
 |bare _ em' _ hi hj=>rw[em]at em';cases em';exact⟨hi,hj⟩
 |here _ em' hj=>rw[em]at em';cases em';exact⟨hj,hj⟩
 |neg _ em'=>rw[em]at em';cases em'
 |two _ em'=>rw[em]at em';cases em'
 |set _ _ em'=>rw[em]at em';cases em'
 |plc _ _ em'=>rw[em]at em';cases em'
theorem Is.i_neg(I:Is fs B h t g φ (m+2))(em:fs[m]?=some (.neg n)):∃h0 g0 ψ,h=h0+1/\g0+1<=g/\Is fs B h0 t g0 ψ n/\∀r,φ r ↔ ¬ψ r:=by
 cases I with
 |bare _ em'=>rw[em]at em';cases em'
 |here _ em'=>rw[em]at em';cases em'
 |neg hg em' J e=>rw[em]at em';cases em';exact⟨_,_,_,rfl,hg,J,e⟩
 |two _ em'=>rw[em]at em';cases em'
 |set _ _ em'=>rw[em]at em';cases em'
 |plc _ _ em'=>rw[em]at em';cases em'
theorem Is.i_two(I:Is fs B h t g φ (m+2))(em:fs[m]?=some (.two a b)):∃h0 ga gb ψ χ,h=h0+1/\ga+gb+1<=g/\Is fs B h0 t ga ψ a/\Is fs B h0 t gb χ b/\∀r,φ r↔ψ r/\χ r:=by
 cases I with
 |bare _ em'=>rw[em]at em';cases em'
 |here _ em'=>rw[em]at em';cases em'
 |neg _ em'=>rw[em]at em';cases em'
 |two hg em' Ja Jb e=>rw[em]at em';cases em';exact⟨_,_,_,_,_,rfl,hg,Ja,Jb,e⟩
 |set _ _ em'=>rw[em]at em';cases em'
 |plc _ _ em'=>rw[em]at em';cases em'
theorem Is.i_set(I:Is fs B h t g φ (m+2))(em:fs[m]?=some (.set b ks)):∃(h0 g0:Nat) (Ψ:Nat->List Nat->Prop),h=h0+1/\3+2*(ks.length*2^t)*g0<=g/\b<=4/\(ks.length*2^t<64\/(g0<=2/\B.length<=30))/\(∀k∈ks,Is fs B h0 t g0 (Ψ k) k)/\∀r,φ r↔∃k∈ks,∃r',Chs b r r'/\Ψ k r':=by
 cases I with
 |bare _ em'=>rw[em]at em';cases em'
 |here _ em'=>rw[em]at em';cases em'
 |neg _ em'=>rw[em]at em';cases em'
 |two _ em'=>rw[em]at em';cases em'
 |set Ψ hg em' hb sm J e=>rw[em]at em';cases em';exact⟨_,_,Ψ,rfl,hg,hb,sm,J,e⟩
 |plc _ _ em'=>rw[em]at em';cases em'
theorem Is.i_plc(I:Is fs B h t g φ (m+2))(em:fs[m]?=some (.plc b u ks)):∃(h0 g0:Nat) (ψ:List Nat->Prop) (Ψ:Nat->List Nat->Prop),h=h0+1/\3+(ks.length+t+2)*g0<=g/\b<=4/\ks.length+t<64/\Is fs B h0 t g0 ψ u/\(∀k∈ks,Is fs B h0 t g0 (Ψ k) k)/\∀r,φ r↔(∃k∈ks,Ψ k r)\/∃r',Put b r r'/\ψ r':=by
 cases I with
 |bare _ em'=>rw[em]at em';cases em'
 |here _ em'=>rw[em]at em';cases em'
 |neg _ em'=>rw[em]at em';cases em'
 |two _ em'=>rw[em]at em';cases em'
 |set _ _ em'=>rw[em]at em';cases em'
 |plc Ψ hg em' hb sm Ju J e=>rw[em]at em';cases em';exact⟨_,_,_,Ψ,rfl,hg,hb,sm,Ju,J,e⟩
end
theorem zkd{fs B:List Fm}{h t t' g:Nat}{ks:List Nat}{Ψ:Nat->List Nat->Prop}(T:FTb fs)(hp:ks.Pairwise (· < ·))(h2:∀k∈ks,2<=k)(I:∀k∈ks,Is fs B h t g (Ψ k) k)(sm:ks.length*2^t'<64\/(g<=2/\B.length<=30)):ks.length<64:=by
 obtain⟨F,hF,hk⟩:=few T (λx hx=>⟨_,I x hx⟩) sm;exact y2f (zea (hp.imp λ{a b} z=>y0i z) λx hx=>hk x hx (by have:=h2 x hx;omega)) hF
def Cho(n:Str)(b:Nat)(r r':List Nat):Prop:=if isPl n=true then Put b r r' else Chs b r r'
def hs:List Str->Sy->List Nat->Prop
 |tl,.bare w n m,r=>aend w (brun w (tl.idxOf n) (tl.idxOf m) 2 r)=true
 |tl,.neg s,r=>¬hs tl s r
 |tl,.two w s t,r=>if w="and" then hs tl s r/\hs tl t r else hs tl s r\/hs tl t r
 |tl,.qu w n s,r=>if w="some" then∃r',Cho n tl.length r r'/\hs (tl++[n]) s r' else∀r',Cho n tl.length r r'->hs (tl++[n]) s r'
def hgS:Sy->Nat
 |.bare _ _ _=>0
 |.neg s=>hgS s+1
 |.two _ s t=>max (hgS s) (hgS t)+3
 |.qu _ _ s=>hgS s+3
def qC(t:Nat)(n:Str)(g:Nat):Nat:=if isPl n=true then 3+(t+2)*g else 3+2*(1*2^t)*g
def gS(t:Nat):Sy->Nat
 |.bare _ _ _=>1
 |.neg s=>gS t s+1
 |.two w a b=>gS t a+gS t b+4
 |.qu w n s=>if w="some" then qC t n (gS t s)else qC t n (gS t s+1)+1
def cS:Sy->Nat
 |.bare _ _ _=>1
 |.neg s=>cS s+1
 |.two _ s t=>cS s+cS t+4
 |.qu _ _ s=>cS s+3
def smS(B:List Fm)(t:Nat):List Str->Sy->Prop
 |tl,.bare w n m=>Fm.bare w (tl.idxOf n) (tl.idxOf m)∈B/\Fm.bare "here" (tl.idxOf m) (tl.idxOf m)∈B
 |tl,.neg s=>smS B t tl s
 |tl,.two _ s u=>smS B t tl s/\smS B t tl u
 |tl,.qu w n s=>(t<64/\(isPl n=false->1*2^t<64\/(gS t s+(if w="some" then 0 else 1)<=2/\B.length<=30)))/\smS B t (tl++[n]) s
def opSome(fs:List Fm)(z:Str)(b l:Nat)(ks:List Nat):List Fm×Nat:=if isPl z=true then opPlc fs b l ks else opSet fs b ks
def lefS(z:Str)(l:Nat):List Nat:=if isPl z=true then[]else[l]
theorem zhq{fs B:List Fm}{z:Str}{b l h t g:Nat}{ks:List Nat}{ψ:List Nat->Prop}(T:FTb fs)(I:Is fs B h t g ψ l)(K:Kp (lefS z l) ks)(hb:b<=4)(ht:t<64)(hsm:isPl z=false->1*2^t<64\/(g<=2/\B.length<=30)):
  Is (opSome fs z b l ks).1 B (h+1) t (qC t z g) (λr=>∃r',Cho z b r r'/\ψ r') (opSome fs z b l ks).2:=by
 unfold opSome lefS qC Cho at *;cases hz:isPl z with
 |true =>
  rw[hz]at K;refine(zj8 T K hb I (λx hx=>by cases hx) (by show 3+(0+t+2)*g<=_;rw[y3m];exact y01 _) (by show 0+t<64;omega)).cv λr=>?_;exact⟨.inr,λz=>z.elim (λ⟨x,hx,_⟩=>by cases hx) id⟩
 |false =>
  rw[hz]at K;refine(zj7 T K hb (λx hx=>by rw[y09.mp hx];exact⟨_,I⟩) (y01 _) (hsm hz)).cv λr=>?_;constructor
  ·rintro⟨r',c,z⟩;exact⟨l,y09.mpr rfl,r',c,(I.dn r').mpr z⟩
  ·rintro⟨x,hx,r',c,z⟩;rw[y09.mp hx]at z;exact⟨r',c,(I.dn r').mp z⟩
theorem zhs{z:Str}(h:isName (.str z)=true):z.length<=4:=by
 have one:∀l,isNm (.str z) l=true->z.length<=4:=λl h=>by
  rw[zii];simp only[isNm,nameB]at h;cases e:z.cps.toList with
  |nil=>simp
  |cons d ds =>
   rw[e]at h;simp only[y04,decide_eq_true_eq]at h;rw[y0c];omega
 unfold isName at h;rw[y25]at h;exact h.elim (one _) (one _)
theorem zmv{w:Str}(h:w∈bareWords)(h2:w∉treeWords):w∈rowWords:=by
 have all:∀w∈bareWords,w∉treeWords->w∈rowWords:=by decide+kernel
 exact all w h h2
def StF(fs:List Fm)(sts:List (List Key×V)):Prop:=∀l c:Nat,∀v,valV sts [.inl ((l:Nat):Int),.inl ((c:Nat):Int)]=some v->∃l',v=nV l'/\l<fs.length+2/\l'<fs.length+2/\Stp fs fs c l l'
theorem StF.up{fs fs':List Fm}{sts:List (List Key×V)}{k:Nat}(S:StF fs sts)(T:FTb fs)(x:Ex fs fs' k):StF fs' sts:=λl c v e =>
 let⟨l',e',h1,h2,s⟩:=S l c v e
 ⟨l',e',by have:=x.len;omega,by have:=x.len;omega,s.up T x.p h1⟩
end SM
namespace L2
section
variable {P:ig}{w:World}{A:ir}{E:Y0}{s:ic}
theorem zil{F:List Int}(hh:A.handled=none)(x:SetTs P w s.heap a ks)(h64:F.length<64)(hF:∀k∈ks,k∈F)
  (q:∀(L:Addr) (vs:List Value) (ns:List Int) (n:Nat) (h':Heap) (d:Drawn) (tk:Nat),je vs ns->ns.Pairwise (· < ·)->(∀k,k∈ns↔k∈ks)->s.heap.objs.size<=L->h'.get? L=some (seqObj "list" vs.toArray n)->s.toks<=tk->(∀b u,s.heap.get? b=some u->h'.get? b=some u)->Q (.ref L) {s with heap:=h',drawn:=d,toks:=tk}) :
  wpAny (model P w) A (call (.builtin "sorted") [.ref a]) Q E s:=by
 obtain⟨n,hn,o,es,ep,t,ho,hx,hd,⟨h1,h2⟩,⟨h3,h4,hsz⟩,tb,ap⟩:=x;refine Calls.call_function_entry kind_sorted plain_sorted entry_sorted (args_sorted1 _) ?_;unfold Builtin.«sorted»;refine ia (m:=checkCount "sorted" 1 1 _) (ib ?_);have iv_is:∀e∈es.toList,(jm P w).is (iv e.2) e.2=true:=λe he=>by
  obtain⟨⟨k,hk,_⟩,_⟩:=h1 e he;obtain⟨t,e'⟩:=Value.isInt_shape hk;rw[e']at hk ⊢;exact hk
 have ivn:(es.toList.map λe=>iv e.2).Nodup:=by
  rw[List.Nodup,List.pairwise_map];refine List.Pairwise.imp_of_mem (λ{x y} hx hy z e=>?_) ap;have h:=z _ (iv_is x hx);rw[e,iv_is y hy]at h;cases h
 have hes:es.size<=F.length:=by
  rw[←y1c,←y00 (f:=λe:Int×Value=>iv e.2)];refine ivn.length_le_of_subset λy hy=>?_;obtain⟨e,he,rfl⟩:=y0m.mp hy;exact hF _ (of_decide_eq_true ((h2 _).mpr ⟨e,he,iv_is e he⟩))
 refine ia (zi9 hh ho hx hx.1 hd h4 tb (show es.size<=ie by unfold ie;omega) λvs h' d tk pm le htk hk=>?_);have hint:∀v∈vs,∃i t,v=.int i t:=λv hv=>by
  obtain⟨e,he,rfl⟩:=y0m.mp (pm.mem_iff.mp hv);obtain⟨⟨k,hk,_⟩,_⟩:=h1 e he;obtain⟨t,e⟩:=Value.isInt_shape hk;exact⟨k,t,e⟩
 have hI:=zoa hint;have vl:vs.length<64:=by
  rw[pm.length_eq,y00,y1c];omega
 refine ia (wpAny_newList ?_);have hoL:(h'.push (seqObj "list" vs.toArray 0)).get? h'.objs.size=some (seqObj "list" vs.toArray 0):=y0d _ rfl;show wpAny _ _ _ _ _ {s with heap:=h'.push (seqObj "list" vs.toArray 0),drawn:=d,toks:=tk};refine ia (ix (ik slot_list_sort ⟨_,hoL,rfl⟩ entry_list_sort (list_sort_tree hoL hI vl λout ns' a1 a2 a3=>⟨_,rfl,?_⟩) (args_list_sort _)));have pe:ns'.Perm (es.toList.map λe=>iv e.2):=by
  refine a2.trans ?_;have:=pm.map iv;rwa[y0x]at this
 obtain⟨ne,hat⟩:=sortedHeap_at (out:=out) hoL;refine ib ⟨_,rfl,q _ out.toList ns' ne _ d tk a1 (zfd a3 ?_) (λk=>?_) le hat htk λb u e=>?_⟩
 ·exact pe.nodup_iff.mpr ivn
 ·rw[pe.mem_iff,y0m];have:=h2 k;rw[decide_eq_true_eq]at this;rw[this];constructor
  ·rintro⟨e,he,rfl⟩;exact⟨e,he,iv_is e he⟩
  ·rintro⟨e,he,hk⟩;obtain⟨t,e'⟩:=Value.isInt_shape hk;exact⟨e,he,by rw[e'];rfl⟩
 ·have lb:b<h'.objs.size:=y0p (y0f e) le;refine(sortedHeap_old (y0i lb) ?_).trans (y02 _ (hk b u e));rw[y10];exact y2o lb
end
def rSortF(P:ig)(w:World):List V->Hp->VK->Prop:=λxs H Q=>∃(p:Addr) (ns F:List Int),xs=[.ref p]/\H p=some (setI P w p ns)/\F.length<64/\(∀k∈ns,k∈F)/\∀(ms:List Int),ms.Pairwise (· < ·)->(∀k,k∈ms↔k∈ns)->∀L H',New H L (.lst (ms.map V.int)) H'->Q (.ref L) H'
theorem zdz{X:Cx}(hc:X.calm=true):CallR X (.builtin "sorted") (rSortF X.prog X.w):=by
 intro pins s σ H xs us Q I r h;obtain⟨p,ns,F,rfl,hx,hz,hF,q⟩:=h;obtain⟨u,rfl,rx⟩:=vals1 r;cases(show u=Value.ref p from rx);obtain⟨x,_⟩:=I.hok p _ hx;refine zil (I.ok.hd hc) x hz hF λL vs ms n h' d tk a1 a2 a3 le hat htk k=>?_;have vl:Vals (ms.map V.int) vs:=zfj a1;have nf:H L=none:=I.hok.fresh le;refine⟨.ref L,_,(I.laid (t':=tk) (o:=.lst (ms.map V.int)) k le ⟨?_,vs,n,vl,hat⟩).drew d,rfl,q ms a2 a3 L _ (New.mk' nf _)⟩;rw[y00];have nd:ms.Nodup:=a2.imp λh=>by omega
 have:ms.length<=F.length:=nd.length_le_of_subset λy hy=>hF y ((a3 y).mp hy);exact zaf (by omega)
open PyProof.Rows.LSm
end L2
namespace SM
open PySem PySem.Spec PyProof.Rows L2 SS
def kL(ks:List Nat):Key2:=.inr (ks.map λn:Nat=>(.inl (n:Int):Key))
def fk:Fm->List Key2
 |.bare w i j=>bareG w i j
 |.neg n=>notG n
 |.two a b=>[kS "and",kI a,kI b]
 |.set b ks=>[kS "some set",kI (2^b),kL ks]
 |.plc b u ks=>[kS "some place",kI (2^b),kI u,kL ks]
def Fm.wok:Fm->Prop
 |.bare w _ _=>w∈rowWords\/w="here"
 |_=>True
theorem Fm.okAt.w{m:Nat}{f:Fm}(h:Fm.okAt m f):f.wok:=by
 cases f<;>first|exact h|trivial
theorem zgz{w:Str}(h:w∈rowWords\/w="here")(z:Str)(hz:z∈(["not","and","some set","some place","yes","no"]:List Str)):¬w=z:=by
 have all:∀w∈("here"::rowWords:List Str),∀z∈(["not","and","some set","some place","yes","no"]:List Str),¬w=z:=by decide+kernel
 refine all w ?_ z hz;rcases h with h|h
 ·exact y06 _ h
 ·rw[h];exact y07
theorem zhu{a b:Nat}(h:kI a=kI b):a=b:=by injection h with h;injection h with h;omega
theorem zkf{a b:Nat}(h:kI (2^a)=kI (2^b)):a=b:=(Nat.pow_right_inj (by decide)).mp (zhu h)
theorem zn4{a b:Str}(h:kS a=kS b):a=b:=Sum.inr.inj (Sum.inl.inj h)
theorem zn5:∀{a b:List Nat},kL a=kL b->a=b
 |[],[],_=>rfl
 |[],_::_,h=>by simp[kL]at h
 |_::_,[],h=>by simp[kL]at h
 |x::a,y::b,h=>by
  have h1:=Sum.inr.inj h;rw[y0h,y0h]at h1;injection h1 with h2 h3
  have e:a=b:=zn5 (congrArg Sum.inr h3);have:(x:Int)=y:=Sum.inl.inj h2;rw[e,show x=y by omega]
theorem zrq{f g:Fm}(hf:f.wok)(hg:g.wok)(e:fk f=fk g):f=g:=by
 cases f<;>cases g<;>simp only[fk,bareG,notG,List.cons.injEq,and_true,reduceCtorEq,and_false,List.nil_eq,List.cons_ne_nil]at e
 ·obtain⟨a,b,c⟩:=e;rw[zn4 a,zkf b,zkf c]
 ·exact absurd (zn4 e.1) (zgz hf _ (by decide+kernel))
 ·obtain⟨a,b,c⟩:=e;simp[kL]at c
 ·rw[zhu e.2]
 ·exact absurd (zn4 e.1).symm (zgz hg _ (by decide+kernel))
 ·obtain⟨a,b,c⟩:=e;rw[zhu b,zhu c]
 ·obtain⟨a,b,c⟩:=e;simp[kL]at c
 ·obtain⟨a,b,c⟩:=e;simp[kL]at c
 ·obtain⟨a,b,c⟩:=e;simp[kL]at c
 ·obtain⟨a,b,c⟩:=e;rw[zkf b,zn5 c]
 ·obtain⟨a,b,c,d⟩:=e;rw[zkf b,zhu c,zn5 d]
theorem zrk:∀{fs:List Fm} {f:Fm},(∀g∈fs,g.wok)->f.wok->nOf (fs.map fk) (fk f)=nOf fs f
 |[],_,_,_=>rfl
 |g::fs,f,h,hf=>by
  rw[y0h,zgi,zgi];by_cases e:g=f
  ·rw[if_pos e,if_pos (by rw[e])]
  ·rw[if_neg e,if_neg λz=>e (zrq (h g y07) hf z),zrk (λx hx=>h x (y06 _ hx)) hf]
theorem zrl{fs:List Fm}{f:Fm}(h:∀g∈fs,g.wok)(hf:f.wok):fk f∈fs.map fk↔f∈fs :=
 ⟨λz=>let⟨g,hg,e⟩:=y0m.mp z;zrq (h g hg) hf e▸hg,λz=>y0m.mpr ⟨f,z,rfl⟩⟩
theorem FTb.wok{fs:List Fm}(T:FTb fs):∀g∈fs,g.wok:=λg hg=>by
 obtain⟨m,hm⟩:=y39.mp hg;exact(T.at_ m g hm).w
theorem zu6{fs:List Fm}{f:Fm}(T:FTb fs)(hf:f.wok):nxt (fs.map fk) (fk f)=(nxt fs f).map fk:=by
 by_cases h:f∈fs
 ·rw[zhr h,zhr ((zrl T.wok hf).mpr h)]
 ·rw[zer h,zer λz=>h ((zrl T.wok hf).mp z),y0r];rfl
theorem zgj{n:Nat}(h:n<1000000):n<ie:=y2w h (by decide)
structure Lv(P:ig)(w:World)(C:Addr)(A:LA)(fs:List Fm)(sts:List (List Key×V))(H:Hp):Prop where
 lg:Lg P w C A (fs.map fk) sts H
 T:FTb fs
 S:StF fs sts
structure Nf(P:ig)(w:World)(C:Addr)(A:LA)(fs:List Fm)(sts:List (List Key×V))(k:Nat)(H:Hp)(fs':List Fm)(sts':List (List Key×V))(H':Hp):Prop where
 up:Up3 A H H'
 lv:Lv P w C A fs' sts' H'
 ex:Ex fs fs' k
 ls:sts'.length<=sts.length+k
section
variable {P:ig}{w:World}{C:Addr}{A:LA}{fs fs' fs2:List Fm}{sts sts' sts2:List (List Key×V)}{H0 H H' H2:Hp}{k k':Nat}{D:Addr}
theorem Lv.same(L:Lv P w C A fs sts H)(g:Same H H'):Lv P w C A fs sts H':=⟨L.lg.same g,L.T,L.S⟩
theorem Nf.same0(L:Lv P w C A fs sts H)(g:Same H H')(k:Nat):Nf P w C A fs sts k H fs sts H':=⟨Same.up3 g,L.same g,Ex.refl L.T k,by omega⟩
theorem Nf.trans(a:Nf P w C A fs sts k H fs' sts' H')(b:Nf P w C A fs' sts' k' H' fs2 sts2 H2):Nf P w C A fs sts (k+k') H fs2 sts2 H2:=⟨a.up.trans b.up,b.lv,a.ex.trans b.ex,by have:=a.ls;have:=b.ls;omega⟩
theorem Nf.le(a:Nf P w C A fs sts k H fs' sts' H')(h:k<=k'):Nf P w C A fs sts k' H fs' sts' H':=⟨a.up,a.lv,a.ex.le h,by have:=a.ls;omega⟩
theorem Nf.aft(a:Nf P w C A fs sts k H fs' sts' H')(g:Same H' H2):Nf P w C A fs sts k H fs' sts' H2:=⟨a.up.trans (Same.up3 g),a.lv.same g,a.ex,a.ls⟩
theorem Nf.bef(a:Nf P w C A fs sts k H' fs' sts' H2)(g:Same H H'):Nf P w C A fs sts k H fs' sts' H2:=⟨(Same.up3 g).trans a.up,a.lv,a.ex,a.ls⟩
theorem Nf.ts(L:Lv P w C A fs sts H)(a:Nf P w C A fs sts k H fs' sts' H'):TupS H H':=L.lg.tups a.up
theorem Nf.lst(L:Lv P w C A fs sts H)(a:Nf P w C A fs sts k H fs' sts' H'){b:Addr}{xs:List V}(hb:b≠A.pf)(h:H b=some (.lst xs)):H' b=some (.lst xs):=L.lg.lst a.up hb h
theorem Lv.nD(L:Lv P w C A fs sts H)(h:H D=none):D≠A.pf:=by
 obtain⟨rs,e1,_⟩:=L.lg.ef;exact(zao e1 h).symm
theorem Lv.wr(L:Lv P w C A fs sts H){ys zs:List V}(hD:H D=some (.lst ys))(n2:D≠A.pf):Lv P w C A fs sts (upd H D (.lst zs)):=by
 obtain⟨⟨e1,⟨rs,e6,e7⟩,⟨ys',e8,ky,ef,ev⟩,es⟩,T,S⟩:=L;have ts:TupS H (upd H D (.lst zs)):=TupS.wr hD _;exact⟨⟨by rw[zar (zdf e1 hD (by intro z;cases z))];exact e1,⟨rs,by rw[zar (Ne.symm n2)];exact e6,L2.Paired.mapP e7 λ_ _ z=>z.ts ts⟩,⟨ys',by rw[zar (zdf e8 hD (by intro z;cases z))];exact e8,ky.ts ts,ef,ev⟩,by rw[zar (zdf es hD (by intro z;cases z))];exact es⟩,T,S⟩
theorem Nf.wr(N:Nf P w C A fs sts k H0 fs' sts' H)(h0:H0 D=none){ys zs:List V}(hD:H D=some (.lst ys))(n2:D≠A.pf):Nf P w C A fs sts k H0 fs' sts' (upd H D (.lst zs)) :=
 ⟨λb x n1 n3 n4 e=>by rw[zar (λz=>by rw[z,h0]at e;cases e)];exact N.up b x n1 n3 n4 e,N.lv.wr hD n2,N.ex,N.ls⟩
theorem Lv.form(L:Lv P w C A fs sts H){m:Nat}{f:Fm}(h:fs[m]?=some f):∃rs b,H A.pf=some (.lst rs)/\rs[m+2]?=some (.ref b)/\NestAt H b (fk f) :=
 L.lg.form (l:=m+2) (k:=fk f) (by rw[y1x,y1x,y0k,h];rfl)
theorem Lv.low(L:Lv P w C A fs sts H):∃rs b0 b1,H A.pf=some (.lst rs)/\rs[0]?=some (.ref b0)/\rs[1]?=some (.ref b1)/\H b0=some (.tup [.str "no"])/\H b1=some (.tup [.str "yes"]):=by
 obtain⟨rs,b0,e,e0,v0,h0,p0⟩:=L.lg.form (l:=0) (k:=noG) rfl;obtain⟨rs',b1,e',e1,v1,h1,p1⟩:=L.lg.form (l:=1) (k:=yesG) rfl;rw[e]at e';cases e';refine⟨rs,b0,b1,e,e0,e1,?_,?_⟩
 ·cases p0 with|cons z p=>cases p;rw[h0,show _=V.str "no" from z]
 ·cases p1 with|cons z p=>cases p;rw[h1,show _=V.str "yes" from z]
def FAt(H:Hp)(b:Addr):Fm->Prop
 |.bare w i j=>H b=some (.tup [.str w,nV (2^i),nV (2^j)])
 |.neg n=>H b=some (.tup [.str "not",nV n])
 |.two x y=>H b=some (.tup [.str "and",nV x,nV y])
 |.set i ks=>∃c,H b=some (.tup [.str "some set",nV (2^i),.ref c])/\H c=some (.tup (ks.map nV))
 |.plc i u ks=>∃c,H b=some (.tup [.str "some place",nV (2^i),nV u,.ref c])/\H c=some (.tup (ks.map nV))
theorem kLv(ks:List Nat):(ks.map λn:Nat=>(.inl (n:Int):Key)).map kV=ks.map nV:=by rw[y0x];rfl
theorem fAt{b:Addr}{f:Fm}(h:NestAt H b (fk f)):FAt H b f:=by
 obtain⟨vs,e,p⟩:=h;cases f with
 |bare w i j=>cases p with|cons h1 p=>cases p with|cons h2 p=>cases p with|cons h3 p=>cases p;show H b=_;rw[e,show _=V.str w from h1,show _=nV (2^i)from h2,show _=nV (2^j)from h3]
 |neg n=>cases p with|cons h1 p=>cases p with|cons h2 p=>cases p;show H b=_;rw[e,show _=V.str "not" from h1,show _=nV n from h2]
 |two x y=>cases p with|cons h1 p=>cases p with|cons h2 p=>cases p with|cons h3 p=>cases p;show H b=_;rw[e,show _=V.str "and" from h1,show _=nV x from h2,show _=nV y from h3]
 |set i ks =>
  cases p with|cons h1 p=>cases p with|cons h2 p=>cases p with|cons h3 p =>
   cases p;obtain⟨c,e4,hc⟩:=h3;exact⟨c,by rw[e,show _=V.str "some set" from h1,show _=nV (2^i)from h2,e4],by rw[hc,kLv]⟩
 |plc i u ks =>
  cases p with|cons h1 p=>cases p with|cons h2 p=>cases p with|cons h3 p=>cases p with|cons h4 p =>
   cases p;obtain⟨c,e4,hc⟩:=h4;exact⟨c,by rw[e,show _=V.str "some place" from h1,show _=nV (2^i)from h2,show _=nV u from h3,e4],by rw[hc,kLv]⟩
theorem zqj{b c:Addr}{i:Nat}{ks:List Nat}(e:H b=some (.tup [.str "some set",nV (2^i),.ref c]))(hc:H c=some (.tup (ks.map nV))):NestAt H b (fk (.set i ks)):=⟨_,e,.cons rfl (.cons rfl (.cons ⟨c,rfl,by rw[hc,kLv]⟩ .nil))⟩
theorem zqk{b c:Addr}{i u:Nat}{ks:List Nat}(e:H b=some (.tup [.str "some place",nV (2^i),nV u,.ref c]))(hc:H c=some (.tup (ks.map nV))):NestAt H b (fk (.plc i u ks)):=⟨_,e,.cons rfl (.cons rfl (.cons rfl (.cons ⟨c,rfl,by rw[hc,kLv]⟩ .nil)))⟩
theorem zva{c b:Nat}(hc:c<32)(hb:b<=4):Builtin.bitOr (c:Int) ((2^b:Nat):Int)=((c|||2^b:Nat):Int)/\c|||2^b<32:=by
 have h:∀(c:Fin 32) (a:Fin 5),Builtin.bitOr ((c:Nat):Int) ((2^(a:Nat):Nat):Int)=(((c:Nat)|||2^(a:Nat):Nat):Int)/\((c:Nat)|||2^(a:Nat):Nat)<32:=by decide+kernel
 exact h ⟨c,hc⟩ ⟨b,by omega⟩
end
theorem Rep.ts(r:Rep H v s)(g:TupS H H'):Rep H' v s:=by
 induction r with
 |bare hw e=>exact .bare hw (g _ _ e)
 |neg e _ ih=>exact .neg (g _ _ e) ih
 |two hw e _ _ ih1 ih2=>exact .two hw (g _ _ e) ih1 ih2
 |qu hw e _ ih=>exact .qu hw (g _ _ e) ih
section
variable (P:ig)(w:World)(C:Addr)
def zju:Sp:=λvs H Q _=>∃(p dx:Addr) (H0:Hp),vs=[.ref p]/\H=upd (upd H0 dx (.own p)) p (.ins C dx [])/\H0 p=none/\H0 dx=none/\dx≠p/\∀(A:LA) H',A.p=p->Lv P w C A [] [] H'->Same H0 H'->H0 A.pf=none->H0 A.pn=none->H0 A.ps=none->Q .non H'
def zcg:Sp:=λvs H Q _=>∃(A:LA) (a:Addr) (fs:List Fm) (sts:List (List Key×V)) (f:Fm),vs=[.ref A.p,.ref a]/\Lv P w C A fs sts H/\fs.length<1000000/\NestAt H a (fk f)/\Fm.okAt fs.length f/\∀H',Nf P w C A fs sts 1 H (opN fs f).1 sts H'->Q (nV (opN fs f).2) H'
def zeg:Sp:=λvs H Q _=>∃(A:LA) (l:Nat) (fs:List Fm) (sts:List (List Key×V)),vs=[.ref A.p,nV l]/\Lv P w C A fs sts H/\fs.length<1000000/\l<fs.length+2/\∀H',Nf P w C A fs sts 1 H (opNot fs l).1 sts H'->Q (nV (opNot fs l).2) H'
def zeh:Sp:=λvs H Q _=>∃(A:LA) (a b:Nat) (fs:List Fm) (sts:List (List Key×V)),vs=[.ref A.p,nV a,nV b]/\Lv P w C A fs sts H/\fs.length<1000000/\a<fs.length+2/\b<fs.length+2/\∀H',Nf P w C A fs sts 1 H (opAnd fs a b).1 sts H'->Q (nV (opAnd fs a b).2) H'
def zq6:Sp:=λvs H Q _=>∃(A:LA) (a b:Nat) (fs:List Fm) (sts:List (List Key×V)),vs=[.ref A.p,nV a,nV b]/\Lv P w C A fs sts H/\fs.length+3<1000000/\a<fs.length+2/\b<fs.length+2/\∀H',Nf P w C A fs sts 4 H (opOr fs a b).1 sts H'->Q (nV (opOr fs a b).2) H'
def zf5:Sp:=λvs H Q _=>∃(b:Addr) (ns F:List Nat),vs=[.ref b]/\H b=some (.lst (ns.map nV))/\ns.length<=1000/\F.length<64/\(∀k∈ns,k≠0->k∈F)/\∀t ks H',Kp ns ks->Same H H'->H' t=some (.tup (ks.map nV))->Q (.ref t) H'
def zf2:Sp:=λvs H Q _=>∃(A:LA) (a:Addr) (b:Nat) (ns F:List Nat) (fs:List Fm) (sts:List (List Key×V)),vs=[.ref A.p,nV (2^b),.ref a]/\Lv P w C A fs sts H/\fs.length<1000000/\H a=some (.lst (ns.map nV))/\ns.length<=1000/\F.length<64/\(∀k∈ns,k≠0->k∈F)/\(∀x∈ns,x<fs.length+2)/\∀ks H',Kp ns ks->Nf P w C A fs sts 1 H (opSet fs b ks).1 sts H'->Q (nV (opSet fs b ks).2) H'
def zf3:Sp:=λvs H Q _=>∃(A:LA) (a:Addr) (b u:Nat) (ns F:List Nat) (fs:List Fm) (sts:List (List Key×V)),vs=[.ref A.p,nV (2^b),nV u,.ref a]/\Lv P w C A fs sts H/\fs.length<1000000/\H a=some (.lst (ns.map nV))/\ns.length<=1000/\F.length<64/\(∀k∈ns,k≠0->k∈F)/\u<fs.length+2/\(∀x∈ns,x<fs.length+2)/\∀ks H',Kp ns ks->Nf P w C A fs sts 1 H (opPlc fs b u ks).1 sts H'->Q (nV (opPlc fs b u ks).2) H'
def zjs:Sp:=λvs H Q _=>∃(A:LA) (z:Str) (b l:Nat) (fs:List Fm) (sts:List (List Key×V)),vs=[.ref A.p,.str z,nV (2^b),nV l]/\Lv P w C A fs sts H/\fs.length<1000000/\z.length<=4/\l<fs.length+2/\
 ∀ks H',Kp (lefS z l) ks->Nf P w C A fs sts 1 H (opSome fs z b l ks).1 sts H'->Q (nV (opSome fs z b l ks).2) H'
structure SayF(B:List Fm)(t:Nat)(tl:List Str)(s:Sy):Prop where
 ok:letB treeWords 4 tl s=true
 wf:wfB s=true
 sm:smS B t tl s
def zmg(lv:Nat):Sp:=λvs H Q _=>∃(A:LA) (b:Addr) (v:V) (s:Sy) (tl:List Str) (B:List Fm) (t:Nat) (fs:List Fm) (sts:List (List Key×V)),vs=[.ref A.p,v,.ref b]/\Lv P w C A fs sts H/\Rep H v s/\s.depth<=lv/\H b=some (.lst (tl.map V.str))/\b≠A.pf/\SayF B t tl s/\fs.length+cS s<1000000/\
 ∀l fs' H',Nf P w C A fs sts (cS s) H fs' sts H'->Is fs' B (hgS s) t (gS t s) (hs tl s) l->Q (nV l) H'
def zmh:Sp:=λvs H Q _=>∃(A:LA) (m i j:Nat) (wd:Str) (one other:Bool) (fs:List Fm) (sts:List (List Key×V)),vs=[.ref A.p,nV (m+2),.bl one,.bl other]/\Lv P w C A fs sts H/\fs.length<1000000/\fs[m]?=some (.bare wd i j)/\
 ∀H',Nf P w C A fs sts 1 H (opBare fs (m+2) wd j one other).1 sts H'->Q (nV (opBare fs (m+2) wd j one other).2) H'
structure Bh(fs B:List Fm)(sts:List (List Key×V))(h t g:Nat)(φ:List Nat->Prop)(l c lv:Nat):Prop where
 is:Is fs B h (t+1) g φ l
 hv:h<lv
 hc:c<32
 lf:fs.length+g<1000000
 ls:sts.length+g<1000000
def zq8(lv:Nat):Sp:=λvs H Q _=>∃(A:LA) (l c h t g:Nat) (φ:List Nat->Prop) (B fs:List Fm) (sts:List (List Key×V)),vs=[.ref A.p,nV l,nV c]/\Lv P w C A fs sts H/\Bh fs B sts h t g φ l c lv/\2<=l/\
 ∀l' fs' sts' H',Nf P w C A fs sts g H fs' sts' H'->sts'.length+1<=sts.length+g->Stp fs fs' c l l'->Q (nV l') H'
def zg7(lv:Nat):Sp:=λvs H Q _=>∃(A:LA) (l c h t g:Nat) (φ:List Nat->Prop) (B fs:List Fm) (sts:List (List Key×V)),vs=[.ref A.p,nV l,nV c]/\Lv P w C A fs sts H/\Bh fs B sts h t g φ l c lv/\
 ∀l' fs' sts' H',Nf P w C A fs sts g H fs' sts' H'->Stp fs fs' c l l'->Q (nV l') H'
def zik(lv:Nat):Sp:=λvs H Q _=>∃(A:LA) (l h t g:Nat) (φ:List Nat->Prop) (B fs:List Fm) (sts:List (List Key×V)),vs=[.ref A.p,nV l]/\Lv P w C A fs sts H/\Is fs B h t g φ l/\h<lv/\∀b H',Same H H'->(b=true↔φ [])->Q (.bl b) H'
end
def zq7:Sp:=λvs H Q _=>∃(v:V) (b r:Addr) (s:Sy) (tl:List Str) (row:List Nat) (B:List Fm),vs=[v,.ref b,.ref r]/\Rep H v s/\H b=some (.lst (tl.map V.str))/\H r=some (.lst (row.map nV))/\row.length<=100/\(∀c∈row,c<32)/\SayF B row.length tl s/\s.depth<=8/\hgS s<=30/\cS s+row.length*gS row.length s<1000000/\∀t H',Same H H'->(t=true↔hs tl s row)->Q (.bl t) H'
structure Fr11(tl:List Str):Prop where
 h4:tl.length<=4
 hl:∀z∈tl,z.length<=4
 fr:frameB (tl.map V.str)=true
 fo:FrOk tl
structure Let11(tl:List Str)(s:Sy):Prop where
 ok:letB treeWords 4 tl s=true
 wf:wfB s=true
 dp:s.depth<=8
 np:s.parts<=60
structure Sml11(B:List Fm)(n:Nat)(tl:List Str)(s:Sy):Prop where
 sf:SayF B n tl s
 dp:s.depth<=8
 hg:hgS s<=30
 bd:cS s+n*gS n s<1000000
 np:s.parts<=60
def zjq:Sp:=λvs H Q _=>∃(v:V) (b:Addr) (tl:List Str) (s:Sy),vs=[v,.ref b]/\Rep H v s/\H b=some (.lst (tl.map V.str))/\Fr11 tl/\Let11 tl s/\∀H',Same H H'->Q .non H'
def zg6:Sp:=λvs H Q _=>∃(v:V) (b r:Addr) (s:Sy) (tl:List Str) (row:List Nat) (B:List Fm),vs=[v,.ref b,.ref r]/\Rep H v s/\H b=some (.lst (tl.map V.str))/\Fr11 tl/\H r=some (.lst (row.map nV))/\row.length<=100/\(∀c∈row,c<2^tl.length)/\Sml11 B row.length tl s/\∀t H',Same H H'->(t=true↔fitB tl row=true/\hs tl s row)->Q (.bl t) H'
end SM
namespace L2
theorem ixm{a:Addr}{S:Addr->List V->Prop}{xs:List V}{i:Int}{v:V}{R:V->Prop}(e:S a xs)(h:atI xs i=some v)(r:R v):∃p,V.ref a=V.ref p/\∃xs,S p xs/\∃v,atI xs i=some v/\R v:=⟨a,rfl,xs,e,v,h,r⟩
theorem fdm{H:Hp}{a C dx:Addr}{fs:List (Str×V)}{K:Frag}{f:Str}{v:V}{R:V->Prop}(e:H a=some (.ins C dx fs))(c:Cls K C)(n:NoAttr K C f)(l:fs.lookup f=some v)(r:R v):∃C dx fs,H a=some (.ins C dx fs)/\Cls K C/\NoAttr K C f/\∃v,fs.lookup f=some v/\R v:=⟨C,dx,fs,e,c,n,v,l,r⟩
theorem mtm{H:Hp}{a C dx:Addr}{fs:List (Str×V)}{m:Str}{R:Prop}(e:H a=some (.ins C dx fs))(l:fs.lookup m=none)(r:R):∃dx fs,H a=some (.ins C dx fs)/\fs.lookup m=none/\R:=⟨dx,fs,e,l,r⟩
theorem mkT{n:Nat}{R:Prop}(k:R)(h:Nat.ble n ie=true:=by rfl):n<=ie/\R:=⟨Nat.le_of_ble_eq_true h,k⟩
theorem atom{A:Prop}(h:∀G:Prop,(A->G)->G):A:=h A id
def rDictCp:List V->Hp->VK->Prop:=λxs H Q=>∃(p:Addr) (kvs:List (Key×V)),xs=[.ref p]/\H p=some (.dK kvs)/\∀d H',New H d (.dK kvs) H'->Q (.ref d) H'
theorem zh8{X:Cx}:CallR X (.type "dict") rDictCp:=by
 intro pins s σ H xs us Q I r h;obtain⟨p,kvs,rfl,e,q⟩:=h;obtain⟨u,rfl,rx⟩:=vals1 r;cases(show u=Value.ref p from rx);obtain⟨z,hd,vs,rel,dd⟩:=zvp I.hok e;refine kt_call_dict (knd:=mixKind X.prog X.w) hd dd (by rw[←rel.length];exact z) λh' x sb=>?_;have k:∀b o,s.heap.get? b=some o->h'.get? b=some o:=λb o hb=>by
  rw[sb.2 b (y0i (y0f hb))];exact y02 _ hb
 exact⟨.ref s.heap.objs.size,_,I.laid k (y01 _) (zrt z (beq_eq_false_iff_ne.mpr (Ne.symm (y0i I.big))) rel x),rfl,q _ _ (.mk' I.fresh _)⟩
end L2
namespace SM
open PySem PySem.Spec PyProof.Rows L2 SS
theorem zl3(row:List Nat)(k:Nat):(wth row k).length=cw row k:=by rw[←zde,zm1];rfl
theorem ixN10(h:j<n):ixN n (j:Int)=some j:=by unfold ixN;rw[if_pos (by omega),if_pos (by omega),y0l]
def pls11:List Str:=["x","x1","y","x12"]
def sts11:List Str:=["X","X1","Y","X12"]
theorem pl11{z:Str}(h:z∈pls11):isPl z=true/\isName (.str z)=true:=by
 have all:∀z∈pls11,isPl z=true/\isName (.str z)=true:=by decide+kernel
 exact all z h
theorem st11{z:Str}(h:z∈sts11):isPl z=false/\isSt z=true/\isName (.str z)=true:=by
 have all:∀z∈sts11,isPl z=false/\isSt z=true/\isName (.str z)=true:=by decide+kernel
 exact all z h
structure T11(tl:List Str):Prop where
 sub:∀z∈tl,z∈pls11\/z∈sts11
 nd:tl.Nodup
 h4:tl.length<=4
theorem T11.nm{tl:List Str}(T:T11 tl):∀z∈tl,isName (.str z)=true:=λz hz=>(T.sub z hz).elim (λh=>(pl11 h).2) λh=>(st11 h).2.2
theorem T11.snoc{tl:List Str}{n:Str}(T:T11 tl)(hn:n∈pls11\/n∈sts11)(h:n∉tl)(h3:tl.length<=3):T11 (tl++[n]):=by
 refine⟨λz hz=>?_,?_,by rw[y0a,y0n];omega⟩
 ·rcases y0g.mp hz with hz|hz
  ·exact T.sub z hz
  ·rw[y09.mp hz];exact hn
 ·rw[y3j];exact⟨T.nd,by simp,λa ha b hb e=>by rw[y09.mp hb]at e;subst e;exact h ha⟩
theorem nmok11{z:Str}(h:z∈pls11\/z∈sts11):NmOk z:=by
 rcases h with h|h
 ·refine .inl ?_;simp only[pls11,y08,y0q,or_false]at h;rcases h with rfl|rfl|rfl|rfl<;>exact zrj rfl (by decide+kernel) (by decide) (by decide+kernel)
 ·refine .inr ?_;simp only[sts11,y08,y0q,or_false]at h;rcases h with rfl|rfl|rfl|rfl<;>exact zrj rfl (by decide+kernel) (by decide) (by decide+kernel)
theorem T11.fr{tl:List Str}(T:T11 tl):Fr11 tl:=by
 refine⟨T.h4,λz hz=>zhs (T.nm z hz),zlq (by rw[y00];exact T.h4) ?_ ?_,T.h4,λz hz=>nmok11 (T.sub z hz)⟩
 ·rw[y0w];intro v hv;obtain⟨z,hz,rfl⟩:=y0m.mp hv;exact T.nm z hz
 ·exact y3x.mp T.nd|>.map V.str (λ_ _ h e=>h (V.str.inj e))|> y3x.mpr
inductive Drw:Nat->Nat->List Str->Sy->Prop
 |bare {d g:Nat} {tl:List Str} {w n m:Str} (hw:w∈rowWords) (hn:n∈tl) (hm:m∈tl) (wf:wfB (.bare w n m)=true):Drw d g tl (.bare w n m)
 |neg {d g:Nat} {tl:List Str} {s:Sy}:Drw d g tl s->Drw (d+1) g tl (.neg s)
 |two {d g:Nat} {tl:List Str} {w:Str} {s t:Sy} (hw:w∈(["and","or"]:List Str)):Drw d g tl s->Drw d g tl t->Drw (d+1) g tl (.two w s t)
 |pl {d g:Nat} {tl:List Str} {w n:Str} {s:Sy} (hw:w∈(["some","all"]:List Str)) (hn:n∈pls11) (h:n∉tl) (h3:tl.length<=3):Drw d g (tl++[n]) s->Drw (d+1) g tl (.qu w n s)
 |st {d g:Nat} {tl:List Str} {w n:Str} {s:Sy} (hw:w∈(["some","all"]:List Str)) (hn:n∈sts11) (h:n∉tl) (h3:tl.length<=3):Drw d g (tl++[n]) s->Drw (d+1) (g+1) tl (.qu w n s)
def Gb(n:Nat):Nat->Nat->Nat
 |0,_=>1
 |d+1,0=>4+2*Gb n d 0+(n+2)*(Gb n d 0+1)
 |d+1,g+1=>4+2*Gb n d (g+1)+(n+2)*(Gb n d (g+1)+1)+2*(1*2^n)*(Gb n d g+1)
theorem zv0(n:Nat):∀d g,1<=Gb n d g
 |0,_=>y01 _
 |d+1,0=>by unfold Gb;omega
 |d+1,g+1=>by unfold Gb;omega
theorem zo8(n d g:Nat):4+2*Gb n d g+(n+2)*(Gb n d g+1)<=Gb n (d+1) g:=by
 cases g with
 |zero=>exact y01 _
 |succ g=>exact Nat.le_add_right _ _
def bS:List Str->Sy->List Fm
 |tl,.bare w n m=>[.bare w (tl.idxOf n) (tl.idxOf m),.bare "here" (tl.idxOf m) (tl.idxOf m)]
 |tl,.neg s=>bS tl s
 |tl,.two _ s u=>bS tl s++bS tl u
 |tl,.qu _ n s=>bS (tl++[n]) s
section
variable {d g:Nat}{tl:List Str}{s:Sy}
theorem zsk{w:Str}(h:w∈rowWords):w∉treeWords:=by
 have all:∀w∈rowWords,w∉treeWords:=by decide+kernel
 exact all w h
theorem Drw.let_(D:Drw d g tl s)(h4:tl.length<=4):letB treeWords 4 tl s=true:=by
 induction D with
 |bare hw hn hm wf=>simp only[letB,y04,decide_eq_true_eq];exact⟨⟨h4,zsk hw⟩,hn,hm⟩
 |neg _ ih=>simp only[letB,y04,decide_eq_true_eq];exact⟨⟨h4,by decide+kernel⟩,ih h4⟩
 |two hw _ _ ih1 ih2 =>
  simp only[letB,y04,decide_eq_true_eq];have all:∀w∈(["and","or"]:List Str),w∉treeWords:=by decide+kernel
  exact⟨⟨h4,all _ hw⟩,ih1 h4,ih2 h4⟩
 |pl hw hn h h3 _ ih =>
  simp only[letB,y04,decide_eq_true_eq];have all:∀w∈(["some","all"]:List Str),w∉treeWords:=by decide+kernel
  exact⟨⟨h4,all _ hw⟩,h,ih (by rw[y0a,y0n];omega)⟩
 |st hw hn h h3 _ ih =>
  simp only[letB,y04,decide_eq_true_eq];have all:∀w∈(["some","all"]:List Str),w∉treeWords:=by decide+kernel
  exact⟨⟨h4,all _ hw⟩,h,ih (by rw[y0a,y0n];omega)⟩
theorem Drw.wf(D:Drw d g tl s):wfB s=true:=by
 induction D with
 |bare hw hn hm wf=>exact wf
 |neg _ ih=>exact ih
 |two hw _ _ ih1 ih2=>simp only[wfB,y04];exact⟨ih1,ih2⟩
 |pl hw hn h h3 _ ih=>simp only[wfB,y04];exact⟨(pl11 hn).2,ih⟩
 |st hw hn h h3 _ ih=>simp only[wfB,y04];exact⟨(st11 hn).2.2,ih⟩
theorem Drw.nums(D:Drw d g tl s):s.depth<=d+1/\hgS s<=3*d/\cS s+4<=5*2^d/\s.parts+1<=2*2^d/\(bS tl s).length<=2*2^d:=by
 have hp:∀d:Nat,1<=2^d:=λd=>y3r (by decide)
 induction D with
 |@bare d g tl w n m hw hn hm wf=>have:=hp d;exact⟨by show 1<=_;omega,y14 _,by show 1+4<=_;omega,by show 1+1<=_;omega,by show 2<=_;omega⟩
 |@neg d g tl s _ ih =>
  obtain⟨a,b,c,e,f⟩:=ih;rw[y2b];have:=hp d;exact⟨by show s.depth+1<=_;omega,by show hgS s+1<=_;omega,by show cS s+1+4<=_;omega,by show s.parts+1+1<=_;omega,by show(bS tl s).length<=_;omega⟩
 |@two d g tl w s t hw _ _ ih1 ih2 =>
  obtain⟨a,b,c,e,f⟩:=ih1;obtain⟨a',b',c',e',f'⟩:=ih2;rw[y2b];have:=hp d;exact⟨by show max s.depth t.depth+1<=_;omega,by show max (hgS s) (hgS t)+3<=_;omega,by show cS s+cS t+4+4<=_;omega,by show s.parts+t.parts+1+1<=_;omega,by show(bS tl s++bS tl t).length<=_;rw[y0a];omega⟩
 |@pl d g tl w n s hw hn h h3 _ ih =>
  obtain⟨a,b,c,e,f⟩:=ih;rw[y2b];have:=hp d;exact⟨by show s.depth+1<=_;omega,by show hgS s+3<=_;omega,by show cS s+3+4<=_;omega,by show s.parts+1+1<=_;omega,by show(bS (tl++[n]) s).length<=_;omega⟩
 |@st d g tl w n s hw hn h h3 _ ih =>
  obtain⟨a,b,c,e,f⟩:=ih;rw[y2b];have:=hp d;exact⟨by show s.depth+1<=_;omega,by show hgS s+3<=_;omega,by show cS s+3+4<=_;omega,by show s.parts+1+1<=_;omega,by show(bS (tl++[n]) s).length<=_;omega⟩
theorem Drw.cost(n:Nat)(D:Drw d g tl s):gS n s<=Gb n d g:=by
 induction D with
 |@bare d g tl w n' m hw hn hm wf=>exact zv0 n d g
 |@neg d g tl s _ ih=>have:=zo8 n d g;show gS n s+1<=_;omega
 |@two d g tl w s t hw _ _ ih1 ih2=>have:=zo8 n d g;show gS n s+gS n t+4<=_;omega
 |@pl d g tl w z s hw hn h h3 _ ih =>
  have h1:=zo8 n d g;have h2:(n+2)*gS n s<=(n+2)*Gb n d g:=y1a _ ih;have h4:(n+2)*(gS n s+1)<=(n+2)*(Gb n d g+1):=y1a _ (by omega);rw[Nat.mul_succ]at h1;show(if w="some" then qC n z (gS n s)else qC n z (gS n s+1)+1)<=_;unfold qC;rw[if_pos (pl11 hn).1,if_pos (pl11 hn).1];split
  ·omega
  ·rw[Nat.mul_succ (n+2) (Gb n d g)]at h4;omega
 |@st d g tl w z s hw hn h h3 _ ih =>
  have h2:2*(1*2^n)*gS n s<=2*(1*2^n)*(Gb n d g+1):=y1a _ (by omega);have h4:2*(1*2^n)*(gS n s+1)<=2*(1*2^n)*(Gb n d g+1):=y1a _ (by omega);show(if w="some" then qC n z (gS n s)else qC n z (gS n s+1)+1)<=4+2*Gb n d (g+1)+(n+2)*(Gb n d (g+1)+1)+2*(1*2^n)*(Gb n d g+1);unfold qC;simp only[(st11 hn).1,y0s,if_false];split<;>omega
theorem Drw.sm{B:List Fm}{n:Nat}(D:Drw d g tl s)(hn:n<64)(hB:∀f∈bS tl s,f∈B)(hs:g=0\/1*2^n<64\/(d<=1/\B.length<=30)):smS B n tl s:=by
 induction D with
 |bare hw hn hm wf=>exact⟨hB _ y07,hB _ (y06 _ y07)⟩
 |neg _ ih=>exact ih hB (hs.imp id (Or.imp id λz=>⟨by omega,z.2⟩))
 |two hw _ _ ih1 ih2 =>
  have hs':=hs.imp id (Or.imp id λz=>(⟨y0y (y2s _) z.1,z.2⟩:_/\_));exact⟨ih1 (λf hf=>hB f (y0g.mpr (.inl hf))) hs',ih2 (λf hf=>hB f (y0g.mpr (.inr hf))) hs'⟩
 |pl hw hn' h h3 _ ih =>
  have hs':=hs.imp id (Or.imp id λz=>(⟨y0y (y2s _) z.1,z.2⟩:_/\_));exact⟨⟨hn,λz=>by rw[(pl11 hn').1]at z;cases z⟩,ih hB hs'⟩
 |@st d g tl w z s hw hn' h h3 D' ih =>
  rcases hs with hs|hs|⟨hd,hb⟩
  ·exact absurd hs (Nat.succ_ne_zero _)
  ·exact⟨⟨hn,λ_=>.inl hs⟩,ih hB (.inr (.inl hs))⟩
  ·obtain rfl:d=0:=by omega
   refine⟨⟨hn,λ_=>.inr ⟨?_,hb⟩⟩,ih hB (.inr (.inr ⟨by omega,hb⟩))⟩;have:gS n s<=1:=D'.cost n;split<;>omega
theorem Drw.small{n:Nat}(D:Drw d g tl s)(h4:tl.length<=4)(hd:d<=3)(hn:n<64)(hc:36+n*Gb n d g<1000000)(hs:g=0\/1*2^n<64\/d<=1):Sml11 (bS tl s) n tl s:=by
 obtain⟨a,b,c,e,f⟩:=D.nums;have hp:2^d<=8:=y11 (by decide) hd;have hm:n*gS n s<=n*Gb n d g:=y1a _ (D.cost n);exact⟨⟨D.let_ h4,D.wf,D.sm hn (λ_ h=>h) (hs.imp id (Or.imp id λz=>⟨z,by omega⟩))⟩,by omega,by omega,by omega,by omega⟩
end
theorem zo2{c b k:Nat}(hc:c<32)(hb:b<=4)(hk:k<=4):bit (c|||2^b) k=(bit c k||decide (k=b)):=by
 have h:∀(c:Fin 32) (b k:Fin 5),bit ((c:Nat)|||2^(b:Nat)) k=(bit c k||decide ((k:Nat)=b)):=by decide+kernel
 exact h ⟨c,hc⟩ ⟨b,by omega⟩ ⟨k,by omega⟩
theorem ztw{c b:Nat}(h:c<2^b):bit c b=false:=by
 unfold bit;rw[Nat.div_eq_of_lt h];rfl
theorem zu9{c b:Nat}(hc:c<2^b)(hb:b<=3):c|||2^b<2^(b+1):=by
 have h:∀(b:Fin 4) (c:Fin 8),(c:Nat)<2^(b:Nat)->(c:Nat)|||2^(b:Nat)<2^((b:Nat)+1):=by decide+kernel
 have h8:2^b<=2^3:=y11 (by decide) hb;exact h ⟨b,by omega⟩ ⟨c,by omega⟩ hc
def mkR(b:Nat)(p:Nat->Bool):Nat->List Nat->List Nat
 |_,[]=>[]
 |o,c::r=>(if p o=true then c|||2^b else c)::mkR b p (o+1) r
def Lo(b:Nat)(r:List Nat):Prop:=∀c∈r,c<2^b
theorem Lo.tail{b c:Nat}{r:List Nat}(h:Lo b (c::r)):Lo b r:=λx hx=>h x (y06 _ hx)
theorem zo0(b:Nat)(p:Nat->Bool):∀(o:Nat) (r:List Nat),Chs b r (mkR b p o r)
 |_,[]=>.nil
 |o,c::r=>by
  unfold mkR;split
  ·exact .inn (zo0 b p (o+1) r)
  ·exact .out (zo0 b p (o+1) r)
theorem zvs{b:Nat}{r r':List Nat}(h:Chs b r r'):∀o,∃p,r'=mkR b p o r:=by
 have key:∀(r:List Nat) (o:Nat) (p q:Nat->Bool),(∀x,o<=x->p x=q x)->mkR b p o r=mkR b q o r:=by
  intro r
  induction r with
  |nil=>intros;rfl
  |cons c r ih =>
   intro o p q h;unfold mkR;rw[h o (y01 _),ih (o+1) p q λx hx=>h x (by omega)]
 induction h with
 |nil=>exactλo=>⟨λ_=>false,rfl⟩
 |@out c r r' _ ih =>
  intro o;obtain⟨p,rfl⟩:=ih (o+1);refine⟨λx=>if x=o then false else p x,?_⟩;show c::mkR b p (o+1) r=(if(if o=o then false else p o)=true then c|||2^b else c)::_;rw[if_pos rfl,if_neg (by decide),key r (o+1) _ p λx hx=>if_neg (by omega)]
 |@inn c r r' _ ih =>
  intro o;obtain⟨p,rfl⟩:=ih (o+1);refine⟨λx=>if x=o then true else p x,?_⟩;show(c|||2^b)::mkR b p (o+1) r=(if(if o=o then true else p o)=true then c|||2^b else c)::_;rw[if_pos rfl,if_pos rfl,key r (o+1) _ p λx hx=>if_neg (by omega)]
theorem zrc{b:Nat}(hb:b<=3)(p:Nat->Bool):∀(o:Nat) (r:List Nat),Lo b r->plc b o (mkR b p o r)=((List.range r.length).map (· + o)).filter p
 |_,[],_=>rfl
 |o,c::r,h=>by
  have hc:=h c y07;have h8:2^b<=2^3:=y11 (by decide) hb;have ih:=zrc hb p (o+1) r h.tail;unfold mkR;show(if bit (if p o=true then c|||2^b else c) b then _ else _)=_;rw[y0c,y1g,y0h,y29,y3m,y0x];have e:((λx=>x+o)∘Nat.succ)=λx=>x+(o+1):=by funext x;show x+1+o=_;omega
  rw[e,←ih];cases hp:p o with
  |true=>rw[if_pos rfl,zo2 (by omega) (by omega) (by omega),decide_eq_true rfl,Bool.or_true]
  |false=>simp only[y0s,if_false,ztw hc]
theorem zfi{b:Nat}(hb:b<=3)(p:Nat->Bool){r:List Nat}(h:Lo b r):wth (mkR b p 0 r) b=(List.range r.length).filter p:=by
 rw[←zde,zrc hb p 0 r h];simp
theorem zkb(b:Nat)(p:Nat->Bool):∀(o:Nat) (r:List Nat),(mkR b p o r).length=r.length
 |_,[]=>rfl
 |o,c::r=>by unfold mkR;rw[y0c,y0c,zkb]
theorem zm0{b k:Nat}(hb:b<=3)(hk:k<b)(p:Nat->Bool):∀(o o':Nat) (r:List Nat),Lo b r->plc k o' (mkR b p o r)=plc k o' r
 |_,_,[],_=>rfl
 |o,o',c::r,h=>by
  have hc:=h c y07;have h8:2^b<=2^3:=y11 (by decide) hb;unfold mkR;show(if bit (if p o=true then c|||2^b else c) k then _ else _)=(if bit c k then _ else _);rw[zm0 hb hk p (o+1) (o'+1) r h.tail];have e:bit (if p o=true then c|||2^b else c) k=bit c k:=by
   split
   ·rw[zo2 (by omega) (by omega) (by omega),decide_eq_false (by omega),Bool.or_false]
   ·rfl
  rw[e]
theorem zl2{b k:Nat}(hb:b<=3)(hk:k<b)(p:Nat->Bool){r:List Nat}(h:Lo b r):wth (mkR b p 0 r) k=wth r k:=by rw[←zde,←zde,zm0 hb hk p 0 0 r h]
theorem zvb{b:Nat}(hb:b<=3)(p:Nat->Bool):∀(o:Nat) (r:List Nat),Lo b r->Lo (b+1) (mkR b p o r)
 |_,[],_=>λ_ h=>nomatch h
 |o,c::r,h=>λx hx=>by
  have hc:=h c y07;rcases y08.mp hx with e|hx
  ·rw[e];split
   ·exact zu9 hc hb
   ·exact y0p hc (y11 (by decide) (y2s _))
  ·exact zvb hb p (o+1) r h.tail x hx
theorem zuh{b:Nat}:∀{r r':List Nat},Put b r r'->∀o,∃i,i<r.length/\r'=mkR b (λx=>decide (x=i+o)) o r:=by
 have none:∀(r:List Nat) (o:Nat) (p:Nat->Bool),(∀x,o<=x->p x=false)->mkR b p o r=r:=by
  intro r
  induction r with
  |nil=>intros;rfl
  |cons c r ih =>
   intro o p h;unfold mkR;rw[h o (y01 _),ih (o+1) p λx hx=>h x (by omega)];rfl
 intro r r' h
 induction h with
 |@here c r =>
  intro o;refine⟨0,by simp,?_⟩;unfold mkR;rw[decide_eq_true (show o=0+o by omega),if_pos rfl,none r (o+1) _ λx hx=>decide_eq_false (by omega)]
 |@next c r r' _ ih =>
  intro o;obtain⟨i,hi,rfl⟩:=ih (o+1);refine⟨i+1,by rw[y0c];omega,?_⟩
  conv=>rhs;unfold mkR
  rw[decide_eq_false (show¬o=i+1+o by omega),if_neg (by decide)];have e:(λx=>decide (x=i+1+o))=λx=>decide (x=i+(o+1)):=by funext x;rw[show i+1+o=i+(o+1) by omega]
  rw[e]
theorem zu8{b:Nat}:∀(r:List Nat) (o i:Nat),i<r.length->Put b r (mkR b (λx=>decide (x=i+o)) o r):=by
 have none:∀(r:List Nat) (o:Nat) (p:Nat->Bool),(∀x,o<=x->p x=false)->mkR b p o r=r:=by
  intro r
  induction r with
  |nil=>intros;rfl
  |cons c r ih =>
   intro o p h;unfold mkR;rw[h o (y01 _),ih (o+1) p λx hx=>h x (by omega)];rfl
 intro r
 induction r with
 |nil=>intro o i h;cases h
 |cons c r ih =>
  intro o i hi;unfold mkR;cases i with
  |zero =>
   rw[decide_eq_true (show o=0+o by omega),if_pos rfl,none r (o+1) _ λx hx=>decide_eq_false (by omega)];exact .here
  |succ i =>
   rw[decide_eq_false (show¬o=i+1+o by omega),if_neg (by decide)];have e:(λx=>decide (x=i+1+o))=λx=>decide (x=i+(o+1)):=by funext x;rw[show i+1+o=i+(o+1) by omega]
   rw[e];exact .next (ih (o+1) i (by rw[y0c]at hi;omega))
def subs:Nat->List (List Nat)
 |0=>[[]]
 |n+1=>subs n++(subs n).map (· ++ [n])
def chos(z:Str)(n:Nat):List (List Nat):=if isPl z=true then(List.range n).map λp=>[p]else subs n
theorem zpe(n:Nat):(subs n).length=2^n:=by
 induction n with
 |zero=>rfl
 |succ n ih=>unfold subs;rw[y0a,y00,ih,y2b];omega
theorem zgo(p:Nat->Bool):∀n,(List.range n).filter p∈subs n
 |0=>by simp[subs]
 |n+1=>by
  rw[y22,y1n];unfold subs;cases h:p n with
  |true =>
   rw[show[n].filter p=[n] by simp[h]];exact y0g.mpr (.inr (y0m.mpr ⟨_,zgo p n,rfl⟩))
  |false =>
   rw[show[n].filter p=[] by simp[h],y1s];exact y0g.mpr (.inl (zgo p n))
theorem zd1:∀(n:Nat) (cs:List Nat),cs∈subs n->∃p,cs=(List.range n).filter p
 |0,cs,h=>⟨λ_=>false,by simp[subs]at h;simp[h]⟩
 |n+1,cs,h=>by
  have cg:∀(p q:Nat->Bool),(∀x,x<n->p x=q x)->(List.range n).filter p=(List.range n).filter q:=λp q h=>y31 λx hx=>h x (y1h.mp hx);unfold subs at h;rcases y0g.mp h with h|h
  ·obtain⟨p,rfl⟩:=zd1 n cs h;refine⟨λx=>if x=n then false else p x,?_⟩;rw[y22,y1n,cg _ p λx hx=>if_neg (by omega)];simp
  ·obtain⟨ds,hd,rfl⟩:=y0m.mp h;obtain⟨p,rfl⟩:=zd1 n ds hd;refine⟨λx=>if x=n then true else p x,?_⟩;rw[y22,y1n,cg _ p λx hx=>if_neg (by omega)];simp
theorem zki{i n:Nat}(h:i<n):(List.range n).filter (λx=>decide (x=i+0))=[i]:=by
 induction n with
 |zero=>cases h
 |succ n ih =>
  rw[y22,y1n];by_cases e:i=n
  ·subst e;rw[List.filter_eq_nil_iff.mpr λx hx=>by have:=y1h.mp hx;simp;omega];simp
  ·rw[ih (by omega)];simp[show¬n=i by omega]
theorem zvt{z:Str}{b:Nat}{r cs:List Nat}(hb:b<=3)(h:Lo b r)(hc:cs∈chos z r.length):∃p,Cho z b r (mkR b p 0 r)/\wth (mkR b p 0 r) b=cs:=by
 unfold chos at hc;unfold Cho;cases hz:isPl z with
 |true =>
  rw[hz,if_pos rfl]at hc;obtain⟨i,hi,rfl⟩:=y0m.mp hc;have hi':=y1h.mp hi;refine⟨λx=>decide (x=i+0),?_,?_⟩
  ·rw[if_pos rfl];exact zu8 r 0 i hi'
  ·rw[zfi hb _ h];exact zki hi'
 |false =>
  rw[hz,if_neg (by decide)]at hc;obtain⟨p,rfl⟩:=zd1 _ _ hc;exact⟨p,by rw[if_neg (by decide)];exact zo0 b p 0 r,zfi hb p h⟩
theorem zvu{z:Str}{b:Nat}{r r':List Nat}(hb:b<=3)(h:Lo b r)(hc:Cho z b r r'):∃p,r'=mkR b p 0 r/\wth r' b∈chos z r.length:=by
 unfold chos;unfold Cho at hc;cases hz:isPl z with
 |true =>
  rw[hz,if_pos rfl]at hc;obtain⟨i,hi,e⟩:=zuh hc 0;refine⟨_,e,?_⟩;rw[e,zfi hb _ h,if_pos rfl,zki hi];exact y0m.mpr ⟨i,y1h.mpr hi,rfl⟩
 |false =>
  rw[hz,if_neg (by decide)]at hc;obtain⟨p,e⟩:=zvs hc 0;refine⟨p,e,?_⟩;rw[e,zfi hb _ h,if_neg (by decide)];exact zgo p _
end SM
namespace L2
def SameB(D:Addr)(H H':Hp):Prop:=∀b o,b≠D->H b=some o->H' b=some o
theorem Same.b(g:Same H H')(D:Addr):SameB D H H':=λb o _ e=>g b o e
theorem SameB.trans(a:SameB D H H1)(b:SameB D H1 H2):SameB D H H2:=λc o n e=>b c o n (a c o n e)
theorem SameB.wr(o:HO):SameB D H (upd H D o):=λb u n e=>by rw[zar n];exact e
section
variable {tn:List Str}{cp:Y6}{g:TG}{tif:TT}{te:TE}{σ0:St}{Q:VK}{H1:Hp}{n:Nat}
def PGenL(S:St->Prop)(G:Addr->Nat->V->Hp->Prop)(H1:Hp)(D:Addr)(i:Nat)(ys:List V)(σ:St)(H:Hp):Prop:=Same H1 H/\S σ/\ys.length=i/\∀j y,ys[j]?=some y->G D j y H
theorem zwe(S:St->Prop)(G:Addr->Nat->V->Hp->Prop)(hn:n<=1000)(h0:S (stB tn cp σ0))(hgo:∀i H,i<n->Same H1 H->J.go i H)(hstop:∀H,Same H1 H->J.stop n H)
  (hs:∀D i ys σ H x H',i<n->Same H1 H->H1 D=none->H D=some (.lst ys)->ys.length=i->(∀j y,ys[j]?=some y->G D j y H)->S σ->J.yld i H x H'->g x σ H' λσ2 H2=>tif σ2 H2 λc H3 =>
   if c=true then te σ2 H3 λv H4=>CStep D n i (PGenL S G H1 D) σ2 v H4 else CSkip D n i (PGenL S G H1 D) σ2 H3)
  (hd:∀D ys H,H1 D=none->Same H1 H->H D=some (.lst ys)->ys.length=n->(∀j y,ys[j]?=some y->G D j y H)->Q (.ref D) H):cBody tn cp g tif te σ0 Q J H1:=by
 refine zly n (λD=>PGenL S G H1 D) (zaf hn) (λD hD=>⟨za8 hD _,h0,rfl,λj y e=>by simp at e⟩) (λD i ys σ H _ hi _ p=>hgo i H hi p.1) (λD ys σ H _ _ p=>hstop H p.1) ?_ ?_
 ·rintro D i ys σ H x H' hD hi hH hl ⟨p1,p2,p3,p4⟩ hy;exact hs D i ys σ H x H' hi p1 hD hH p3 p4 p2 hy
 ·rintro D ys σ H hD hH hl ⟨p1,p2,p3,p4⟩;exact hd D ys H hD p1 hH p3 p4
theorem ztu(hG:∀j y H H',SameB D H H'->G D j y H->G D j y H')(hn:n<=1000)(hi:i<n)(hD:H1 D=none)(h4:H4 D=some (.lst ys))(hl:ys.length=i)
  (hy:∀j y,ys[j]?=some y->G D j y H) (ts:SameB D H H4) (g4:Same H1 H4) (s2:S σ2) (e:G D i v H4):CStep D n i (PGenL S G H1 D) σ2 v H4:=by
 refine cstep (zaf hn) hi h4 (by omega) ⟨g4.wr hD _,s2,by simp[hl],λj y ej=>?_⟩;by_cases h:j<ys.length
 ·rw[y16 h]at ej;exact hG j y _ _ (ts.trans (SameB.wr _)) (hy j y ej)
 ·rw[y1f (by omega)]at ej;have e0:j-ys.length=0:=by
   cases hj:j-ys.length with
   |zero=>rfl
   |succ k=>rw[hj]at ej;simp at ej
  rw[e0]at ej;simp at ej;subst ej;have:j=i:=by omega
  subst this;exact hG _ _ _ _ (SameB.wr _) e
end
end L2
namespace SM
open PySem PySem.Spec PyProof.Rows L2 SS
def FitW(tl:List Str)(row:List Nat):Prop:=∀z∈tl,isPl z=true->(wth row (tl.idxOf z)).length=1
structure Ctx11(tl:List Str)(row:List Nat):Prop where
 T:T11 tl
 lo:Lo tl.length row
 ft:FitW tl row
def EnvW(H:Hp)(d:Addr)(tl:List Str)(row:List Nat):Prop:=∃kvs:List (Key×V),H d=some (.dK kvs)/\kvs.length<=tl.length/\∀z∈tl,∃a,valV kvs (.inr z)=some (.ref a)/\H a=some (.lst ((wth row (tl.idxOf z)).map nV))
theorem EnvW.same{H H':Hp}{d:Addr}{tl:List Str}{row:List Nat}(e:EnvW H d tl row)(g:Same H H'):EnvW H' d tl row :=
 let⟨kvs,h1,h2,h3⟩:=e;⟨kvs,g _ _ h1,h2,λz hz=>let⟨a,h4,h5⟩:=h3 z hz;⟨a,h4,g _ _ h5⟩⟩
theorem zoc{tl:List Str}{n z:Str}(hz:z∈tl):(tl++[n]).idxOf z=tl.idxOf z:=by rw[List.idxOf_append,if_pos hz]
theorem zod{tl:List Str}{n:Str}(h:n∉tl):(tl++[n]).idxOf n=tl.length:=by rw[List.idxOf_append,if_neg h,List.idxOf_cons_self,y3m]
theorem Ctx11.snoc{tl:List Str}{row:List Nat}{n:Str}{p:Nat->Bool}(c:Ctx11 tl row)(hn:n∈pls11\/n∈sts11)(h:n∉tl)(h3:tl.length<=3)(hc:wth (mkR tl.length p 0 row) tl.length∈chos n row.length):Ctx11 (tl++[n]) (mkR tl.length p 0 row):=by
 refine⟨c.T.snoc hn h h3,?_,λz hz hp=>?_⟩
 ·rw[y0a,y0n];exact zvb h3 p 0 row c.lo
 ·rcases y0g.mp hz with hz|hz
  ·rw[zoc hz,zl2 h3 (y0v.mpr hz) p c.lo];exact c.ft z hz hp
  ·rw[y09.mp hz]at hp ⊢;rw[zod h];unfold chos at hc;rw[hp,if_pos rfl]at hc;obtain⟨i,_,e⟩:=y0m.mp hc;rw[←e];rfl
theorem EnvW.put{H:Hp}{d a:Addr}{kvs:List (Key×V)}{tl:List Str}{row:List Nat}{n:Str}{p:Nat->Bool}(c:Ctx11 tl row)(h:n∉tl)(h3:tl.length<=3)(hl:kvs.length<=tl.length)(hk:∀z∈tl,∃a,valV kvs (.inr z)=some (.ref a)/\H a=some (.lst ((wth row (tl.idxOf z)).map nV)))(ed:H d=some (.dK (putK kvs (.inr n) (.ref a))))(ea:H a=some (.lst ((wth (mkR tl.length p 0 row) tl.length).map nV))):EnvW H d (tl++[n]) (mkR tl.length p 0 row):=by
 refine⟨_,ed,?_,λz hz=>?_⟩
 ·have:=zby kvs (.inr n) (.ref a);rw[y0a,y0n];omega
 ·rcases y0g.mp hz with hz|hz
  ·obtain⟨b,h4,h5⟩:=hk z hz;refine⟨b,?_,?_⟩
   ·rw[zb6,if_neg (λe=>h (by rw[←Sum.inr.inj e];exact hz))];exact h4
   ·rw[zoc hz,zl2 h3 (y0v.mpr hz) p c.lo];exact h5
  ·rw[y09.mp hz];exact⟨a,by rw[zb6,if_pos rfl],by rw[zod h];exact ea⟩
theorem zi3{tl:List Str}{row:List Nat}(nd:tl.Nodup):fitB tl row=true↔FitW tl row:=by
 unfold fitB;rw[y0w];constructor
 ·intro h z hz hp;have hi:=y0v.mpr hz;have:=h _ (y1h.mpr hi);rw[y0u,y0b hi,y34,List.getElem_idxOf hi,show isP z=true from hp]at this;rw[zl3];simpa using this
 ·intro h k hk;have hk':=y1h.mp hk;rw[y0u,y0b hk',y34];cases hp:isP tl[k]with
  |false=>rfl
  |true =>
   have:=h _ (y0t hk') hp;have e:tl[tl.idxOf tl[k]]?=some tl[k]:=zbl (y0t hk');have e2:tl.idxOf tl[k]=k:=(y2z (y0v.mpr (y0t hk')) nd).mp (e.trans (y0b hk').symm);rw[e2,zl3]at this;simp[this]
def LnL(H:Hp)(v:V)(cs:List Nat):Prop:=∃a,v=.ref a/\H a=some (.lst (cs.map nV))
def zmi:Sp:=λvs H Q _=>∃(z:Str) (n:Nat),vs=[.str z,nV n]/\(z∈pls11\/z∈sts11)/\n<=14/\(z∈sts11->n<=6)/\∀D rs H',Same H H'->H' D=some (.lst rs)->iq (LnL H') rs (chos z n)->Q (.ref D) H'
def zmk:Sp:=λvs H Q _=>∃(v:V) (d:Addr) (w n m:Str) (tl:List Str) (row:List Nat),vs=[v,.ref d]/\Rep H v (.bare w n m)/\w∈rowWords/\n∈tl/\m∈tl/\wfB (.bare w n m)=true/\Ctx11 tl row/\row.length<=14/\EnvW H d tl row/\∀H',Same H H'->Q (.bl (due w (wth row (tl.idxOf n)) (wth row (tl.idxOf m)))) H'
def zmf(lv:Nat):Sp:=λvs H Q _=>∃(v:V) (d:Addr) (s:Sy) (tl:List Str) (row:List Nat) (dp g:Nat),vs=[v,nV row.length,.ref d]/\Rep H v s/\Drw dp g tl s/\s.depth<=lv/\Ctx11 tl row/\row.length<=14/\(g=0\/row.length<=6)/\EnvW H d tl row/\∀b H',Same H H'->(b=true↔hs tl s row)->Q (.bl b) H'
def zmd:Sp:=λvs H Q _=>∃(b r:Addr) (tl:List Str) (row:List Nat),vs=[.ref b,.ref r]/\T11 tl/\H b=some (.lst (tl.map V.str))/\H r=some (.lst (row.map nV))/\row.length<=14/\Lo tl.length row/\(fitB tl row=false->∀H',Same H H'->Q .non H')/\(fitB tl row=true->∀d H',Same H H'->EnvW H' d tl row->Q (.ref d) H')
def zjv:Sp:=λvs H Q _=>∃(v:V) (b r:Addr) (s:Sy) (tl:List Str) (row:List Nat) (dp g:Nat),vs=[v,.ref b,.ref r]/\T11 tl/\Rep H v s/\Drw dp g tl s/\dp<=3/\H b=some (.lst (tl.map V.str))/\H r=some (.lst (row.map nV))/\row.length<=14/\Lo tl.length row/\(g=0\/row.length<=6)/\∀t H',Same H H'->(t=true↔fitB tl row=true/\hs tl s row)->Q (.bl t) H'
def zf1:Sp:=λvs H Q _=>∃(b:Addr) (tl:List Str) (n:Int) (gr:Bool),vs=[.ref b,.int n,.bl gr]/\0<=n/\H b=some (.lst (tl.map V.str))/\T11 tl/\tl.length<=3/\∀z H',Same H H'->z∈(if gr=true then sts11 else pls11)->z∉tl->Q (.str z) H'
def zei:Sp:=λvs H Q _=>∃(b:Addr) (tl:List Str) (n:Int),vs=[.int n,.ref b]/\0<=n/\H b=some (.lst (tl.map V.str))/\T11 tl/\tl≠[]/\∀v w x y H',Same H H'->Rep H' v (.bare w x y)->w∈rowWords->x∈tl->y∈tl->wfB (.bare w x y)=true->Q v H'
def zfm(lv:Nat):Sp:=λvs H Q _=>∃(st cl b:Addr) (cs:List Int) (tl:List Str) (d r g:Nat),vs=[.ref st,.ref b,nV d,nV r,nV g]/\H st=some (.lst [.ref cl])/\H cl=some (.lst (cs.map V.int))/\cs.length<=100/\H b=some (.lst (tl.map V.str))/\b≠cl/\st≠cl/\T11 tl/\d<lv/\d<=3/\g<=2/\tl.length+r<=4/\(tl=[]->1<=d/\1<=r)/\
 ∀(v:V) (s:Sy) (cs':List Int) (H':Hp),SameB cl H H'->H' cl=some (.lst (cs'.map V.int))->cs'.length<=100->Rep H' v s->Drw d g tl s->Q v H'
def zfl:Sp:=λvs H Q _=>∃n:Int,vs=[.int n]/\∀p tl H',H p=none->Same H H'->H' p=some (.lst (tl.map V.str))->T11 tl->tl.length<=2->Q (.ref p) H'
def zjo:Sp:=λvs H Q _=>∃(c b:Addr) (ns:List Int) (tl:List Str),vs=[.ref c,.ref b]/\H c=some (.lst (ns.map V.int))/\ns.length<=13/\H b=some (.lst (tl.map V.str))/\T11 tl/\tl.length<=2/\∀D row H',H D=none->Same H H'->H' D=some (.lst (row.map nV))->row.length=ns.length->Lo tl.length row->Q (.ref D) H'
theorem ltr11{z:Str}(h:z∈pls11):atI z.cps.toList 0=some (z.cps.toList.headD 0)/\decide ([z.cps.toList.headD 0]<(Str.ofString "a").cps.toList)=false/\decide ((Str.ofString "z").cps.toList<[z.cps.toList.headD 0])=false/\z.length<=3:=by
 have all:∀z∈pls11,atI z.cps.toList 0=some (z.cps.toList.headD 0)/\decide ([z.cps.toList.headD 0]<(Str.ofString "a").cps.toList)=false/\decide ((Str.ofString "z").cps.toList<[z.cps.toList.headD 0])=false/\z.length<=3:=by decide+kernel
 exact all z h
theorem ltrS11{z:Str}(h:z∈sts11):atI z.cps.toList 0=some (z.cps.toList.headD 0)/\decide ([z.cps.toList.headD 0]<(Str.ofString "a").cps.toList)=true/\z.length<=3:=by
 have all:∀z∈sts11,atI z.cps.toList 0=some (z.cps.toList.headD 0)/\decide ([z.cps.toList.headD 0]<(Str.ofString "a").cps.toList)=true/\z.length<=3:=by decide+kernel
 exact all z h
theorem zdq{α:Type}{R:V->α->Prop}{f:Nat->α}:∀{n:Nat} {ys:List V},ys.length=n->(∀j y,ys[j]?=some y->R y (f j))->iq R ys ((List.range n).map f)
 |0,[],_,_=>.nil
 |n+1,y::ys,h,k=>by
  rw[y1g,y0h,y0x];exact .cons (k 0 y rfl) (zdq (f:=λj=>f (j+1)) (by simpa using h) λj z hz=>k (j+1) z (by simpa using hz))
theorem LnL.same{H H':Hp}{v:V}{cs:List Nat}(h:LnL H v cs)(g:Same H H'):LnL H' v cs:=let⟨a,e,h⟩:=h;⟨a,e,g _ _ h⟩
theorem Ctx11.due{tl:List Str}{row:List Nat}{w n m:Str}(C:Ctx11 tl row)(hw:w∈rowWords)(hn:n∈tl)(hm:m∈tl)(wf:wfB (.bare w n m)=true):(SM.due w (wth row (tl.idxOf n)) (wth row (tl.idxOf m))=true↔hs tl (.bare w n m) row):=by
 show _↔aend w (brun w (tl.idxOf n) (tl.idxOf m) 2 row)=true;rw[zwf hw ?_ ?_]
 ·intro h;unfold wfB at wf;split at wf
  ·rw[y04]at wf;exact C.ft n hn wf.1
  ·rw[y04]at wf;exact C.ft n hn wf.1
 ·intro h h2;unfold wfB at wf;rw[if_neg h2,if_neg h,y04]at wf;exact C.ft m hm wf.2
theorem zkc{b:Nat}{p q:Nat->Bool}:∀{r:List Nat} {o:Nat},(∀x,o<=x->x<o+r.length->p x=q x)->mkR b p o r=mkR b q o r
 |[],_,_=>rfl
 |c::r,o,h=>by
  unfold mkR;rw[h o (y01 _) (by rw[y0c];omega),zkc (r:=r) (o:=o+1) λx h1 h2=>h x (by omega) (by rw[y0c];omega)]
theorem ztf{b:Nat}{p q:Nat->Bool}{r:List Nat}(hb:b<=3)(h:Lo b r)(e:wth (mkR b p 0 r) b=wth (mkR b q 0 r) b):mkR b p 0 r=mkR b q 0 r:=by
 rw[zfi hb p h,zfi hb q h]at e;refine zkc λx _ hx=>?_;have hm:x∈List.range r.length:=y1h.mpr (by omega);have h1:x∈(List.range r.length).filter p↔x∈(List.range r.length).filter q:=by rw[e]
 rw[y0z,y0z]at h1;cases hp:p x<;>cases hq:q x<;>simp_all
theorem band1{c k:Nat}(hc:c<32)(hk:k<=4):Builtin.bitAnd ((c:Int)/2^k) 1=if bit c k=true then 1 else 0:=by
 have h:∀(c:Fin 32) (k:Fin 5),Builtin.bitAnd (((c:Nat):Int)/2^(k:Nat)) 1=if bit c k=true then 1 else 0:=by decide+kernel
 exact h ⟨c,hc⟩ ⟨k,by omega⟩
theorem free11{L tl:List Str}(hn:L.Nodup)(h4:L.length=4)(h3:tl.length<=3)(j:Nat):∃z zs,(L.drop j++L.take j).filter (λz=>decide (z∉tl))=z::zs:=by
 have hm:∃z∈L,z∉tl:=Classical.byContradiction λh=>by
  have:=zea hn (ys:=tl) λz hz=>Classical.byContradiction λhz'=>h ⟨z,hz,hz'⟩;omega
 obtain⟨z,hz,hzt⟩:=hm;have hz2:z∈(L.drop j++L.take j).filter (λz=>decide (z∉tl)):=by
  refine y0z.mpr ⟨?_,decide_eq_true hzt⟩;rw[←y37 j L]at hz;exact y0g.mpr ((y0g.mp hz).symm)
 match(L.drop j++L.take j).filter (λz=>decide (z∉tl)),hz2 with
 |z::zs,_=>exact⟨z,zs,rfl⟩
theorem zob{z:Str}{tl:List Str}:inV (V.str z) (tl.map V.str)=decide (z∈tl):=by
 induction tl with
 |nil=>rfl
 |cons y tl ih =>
  rw[y0h];show((y==z)||inV _ (tl.map V.str))=_;rw[ih,y1t];simp only[y25,beq_iff_eq,decide_eq_true_eq,y08];exact or_congr eq_comm Iff.rfl
theorem zhy{tl:List Str}:(tl.map V.str).all flatV=true:=by
 rw[y0w];intro v hv;obtain⟨_,_,rfl⟩:=y0m.mp hv;rfl
def words11(PL SL:List Str):List Str:=(if PL=[]then[]else(["same","ahead","next"]:List Str))++(if SL=[]then[]else("within":Str)::(if PL=[]then[]else(["in","in","in"]:List Str)))
theorem zks{PL SL:List Str}{w:Str}(h:w∈words11 PL SL):w∈rowWords/\(¬w="within"->PL≠[])/\(w="within"\/w="in"->SL≠[]):=by
 unfold words11 at h;by_cases h1:PL=[]<;>by_cases h2:SL=[]
 ·rw[if_pos h1,if_pos h2]at h;cases h
 ·rw[if_pos h1,if_neg h2,if_pos h1]at h;obtain rfl:w="within":=by simpa using h
  exact⟨by decide+kernel,λz=>absurd rfl z,λ_=>h2⟩
 ·rw[if_neg h1,if_pos h2,y1s]at h;have all:∀w∈(["same","ahead","next"]:List Str),w∈rowWords/\¬(w="within"\/w="in"):=by decide+kernel
  exact⟨(all w h).1,λ_=>h1,λz=>absurd z (all w h).2⟩
 ·rw[if_neg h1,if_neg h2,if_neg h1]at h;have all:∀w∈((["same","ahead","next"]:List Str)++("within":Str)::(["in","in","in"]:List Str)),w∈rowWords:=by decide+kernel
  exact⟨all w h,λ_=>h1,λ_=>h2⟩
theorem zig(PL SL:List Str):(words11 PL SL).length<=7:=by
 unfold words11;rw[y0a];split<;>split<;>simp
theorem zif{tl:List Str}(h:tl≠[]):0<(words11 (tl.filter λz=>isPl z) (tl.filter λz=>!isPl z)).length:=by
 match tl,h with
 |z::tl,_ =>
  unfold words11;cases hz:isPl z with
  |true =>
   rw[if_neg (show¬(z::tl).filter (λz=>isPl z)=[] by rw[y29,hz];simp)];rw[y0a];simp;try omega
  |false =>
   rw[if_neg (show¬(z::tl).filter (λz=>!isPl z)=[] by rw[y29,hz];simp)];rw[y0a];simp;try omega
theorem wf11{w x y:Str}{tl:List Str}(T:T11 tl)(hx:x∈(if w="within" then tl.filter (λz=>!isPl z)else tl.filter λz=>isPl z))(hy:y∈(if w="within"\/w="in" then tl.filter (λz=>!isPl z)else tl.filter λz=>isPl z)):x∈tl/\y∈tl/\wfB (.bare w x y)=true:=by
 have st:∀z∈tl,isPl z=false->isSt z=true:=λz hz h=>(T.sub z hz).elim (λk=>by rw[(pl11 k).1]at h;cases h) λk=>(st11 k).2.1;unfold wfB;by_cases h1:w="within"
 ·rw[if_pos h1]at hx;rw[if_pos (.inl h1)]at hy;obtain⟨a1,a2⟩:=y0z.mp hx;obtain⟨b1,b2⟩:=y0z.mp hy;rw[if_neg (by rw[h1];decide+kernel),if_pos h1,st x a1 (by simpa using a2),st y b1 (by simpa using b2)];exact⟨a1,b1,rfl⟩
 ·rw[if_neg h1]at hx;obtain⟨a1,a2⟩:=y0z.mp hx;by_cases h2:w="in"
  ·rw[if_pos (.inr h2)]at hy;obtain⟨b1,b2⟩:=y0z.mp hy;rw[if_pos h2,a2,st y b1 (by simpa using b2)];exact⟨a1,b1,rfl⟩
  ·rw[if_neg (λz=>z.elim h1 h2)]at hy;obtain⟨b1,b2⟩:=y0z.mp hy;rw[if_neg h2,if_neg h1,a2,b2];exact⟨a1,b1,rfl⟩
theorem pick11{L:List Str}(hL:L≠[]){m:Int}:0<((L.map V.str).length:Int)/\∃z∈L,atI (L.map V.str) (m%((L.map V.str).length:Int))=some (.str z):=by
 have hp:0<L.length:=y3g.mpr hL;rw[y00];have h1:=y3w m (show(L.length:Int)≠0 by omega);have h2:=y3i m (show(0:Int)<L.length by omega);obtain⟨i,hi⟩:∃i:Nat,m%(L.length:Int)=i:=⟨(m%(L.length:Int)).toNat,by omega⟩;have hi':i<L.length:=by omega
 refine⟨by omega,L[i],y0t hi',?_⟩;rw[hi];exact zak (by rw[y0k,y0b hi'];rfl)
theorem lt11{z:Str}:(z∈pls11->decide (z.cps.toList<(Str.ofString "a").cps.toList)=false)/\(z∈sts11->decide (z.cps.toList<(Str.ofString "a").cps.toList)=true):=by
 have a1:∀z∈pls11,decide (z.cps.toList<(Str.ofString "a").cps.toList)=false:=by decide+kernel
 have a2:∀z∈sts11,decide (z.cps.toList<(Str.ofString "a").cps.toList)=true:=by decide+kernel
 exact⟨a1 z,a2 z⟩
theorem SameB.tups{l:Addr}{H H':Hp}{xs:List V}(g:SameB l H H')(e:H l=some (.lst xs)):TupS H H':=λb o h=>g b _ (λz=>by rw[z,e]at h;cases h) h
theorem zsy{a b c d:Bool}{X Y:Prop}(hx:(a=true\/(b=true/\c=true/\d=true))->X)(hy:¬(a=true\/(b=true/\c=true/\d=true))->Y):if a=true then X else if b=true then if c=true then if d=true then X else Y else Y else Y:=by
 cases a
 ·cases b
  ·exact hy (by simp)
  ·cases c
   ·exact hy (by simp)
   ·cases d
    ·exact hy (by decide)
    ·exact hx (.inr ⟨rfl,rfl,rfl⟩)
 ·exact hx (.inl rfl)
theorem zpp{P:Bool->Prop}{c e:Bool}{A B:Prop}(ha:A)(hb:B)(h:∀gr,(gr=true->c=true)->P gr):if c=true then A/\B/\P e else P false:=by
 cases c
 ·exact h false λz=>z
 ·exact⟨ha,hb,h e λ_=>rfl⟩
theorem bo11{c k w:Nat}(hw:w<=2)(hk:k<w)(hc:c<2^w):∃d:Nat,Builtin.bitOr (c:Int) (1*2^((k:Nat):Int).toNat)=(d:Int)/\d<2^w:=by
 have h:∀(w:Fin 3) (k:Fin 2) (c:Fin 4),(k:Nat)<w->(c:Nat)<2^(w:Nat)->Builtin.bitOr ((c:Nat):Int) (1*2^(((k:Nat):Int)).toNat)=(((c:Nat)|||2^(k:Nat):Nat):Int)/\(c:Nat)|||2^(k:Nat)<2^(w:Nat):=by decide+kernel
 have h4:2^w<=2^2:=y11 (by decide) hw;exact⟨_,h ⟨w,by omega⟩ ⟨k,by omega⟩ ⟨c,by omega⟩ hk hc⟩
theorem bx11{c k w:Nat}(hw:w<=2)(hk:k<w)(hc:c<2^w):∃d:Nat,Builtin.bitXor (c:Int) (1*2^((k:Nat):Int).toNat)=(d:Int)/\d<2^w:=by
 have h:∀(w:Fin 3) (k:Fin 2) (c:Fin 4),(k:Nat)<w->(c:Nat)<2^(w:Nat)->Builtin.bitXor ((c:Nat):Int) (1*2^(((k:Nat):Int)).toNat)=(((c:Nat) ^^^ 2^(k:Nat):Nat):Int)/\(c:Nat) ^^^ 2^(k:Nat)<2^(w:Nat):=by decide+kernel
 have h4:2^w<=2^2:=y11 (by decide) hw;exact⟨_,h ⟨w,by omega⟩ ⟨k,by omega⟩ ⟨c,by omega⟩ hk hc⟩
theorem zrm{w i d:Nat}{row:List Nat}(h:Lo w row)(hd:d<2^w):Lo w (row.set i d):=λc hc=>(List.mem_or_eq_of_mem_set hc).elim (h c) λe=>by rw[e];exact hd
theorem ztg{w d:Nat}{row:List Nat}(h:Lo w row)(hd:d<2^w):Lo w (row++[d]):=λc hc=>(y0g.mp hc).elim (h c) λe=>by rw[y09.mp e];exact hd
theorem Same.sb{H0 H H':Hp}{l:Addr}(g:Same H0 H)(s:SameB l H H')(h:H0 l=none):Same H0 H':=λb o e=>s b o (λz=>by rw[z,h]at e;cases e) (g b o e)
theorem zv4{n:Nat}{tl:List Str}{s:Sy}(D:Drw 3 2 tl s)(h4:tl.length<=4)(hn:n<=4):Sml11 (bS tl s) n tl s:=by
 have all:∀n:Fin 5,36+(n:Nat)*Gb n 3 2<1000000/\1*2^(n:Nat)<64:=by decide+kernel
 exact D.small h4 (by decide) (by omega) (all ⟨n,by omega⟩).1 (.inr (.inl (all ⟨n,by omega⟩).2))
theorem zv3{n:Nat}{tl:List Str}{s:Sy}(D:Drw 2 0 tl s)(h4:tl.length<=4)(hn:n<=13):Sml11 (bS tl s) n tl s:=by
 have all:∀n:Fin 14,36+(n:Nat)*Gb n 2 0<1000000:=by decide+kernel
 exact D.small h4 (by decide) (by omega) (all ⟨n,by omega⟩) (.inl rfl)
theorem zv2{n:Nat}{tl:List Str}{s:Sy}(D:Drw 1 1 tl s)(h4:tl.length<=4)(hn:n<=6):Sml11 (bS tl s) n tl s:=by
 have all:∀n:Fin 7,36+(n:Nat)*Gb n 1 1<1000000:=by decide+kernel
 exact D.small h4 (by decide) (by omega) (all ⟨n,by omega⟩) (.inr (.inr (by decide)))
theorem zl8{t u:Bool}{A:Prop}(h1:t=true↔A)(h2:u=true↔A):t=u:=by
 rw[y1t,h1,h2]
def Rows(w L:Nat)(H:Hp)(rs:List V):Prop:=∀v∈rs,∃(a:Addr) (row:List Nat),v=.ref a/\H a=some (.lst (row.map nV))/\row.length<=L/\∀c∈row,c<2^w
theorem Rows.same{w L:Nat}{H H':Hp}{rs:List V}(h:Rows w L H rs)(g:Same H H'):Rows w L H' rs:=λv hv=>let⟨a,row,e,ea,r⟩:=h v hv;⟨a,row,e,g _ _ ea,r⟩
theorem Rows.app{w L:Nat}{H:Hp}{rs ys:List V}(h:Rows w L H rs)(k:Rows w L H ys):Rows w L H (rs++ys):=λv hv=>(y0g.mp hv).elim (h v) (k v)
theorem Rows.mono{w L L':Nat}{H:Hp}{rs:List V}(h:Rows w L H rs)(hl:L<=L'):Rows w L' H rs:=λv hv=>let⟨a,row,e,ea,r1,r2⟩:=h v hv;⟨a,row,e,ea,by omega,r2⟩
def zee:Sp:=λvs H Q _=>∃(a:Addr) (rs:List V) (w L:Nat),vs=[.ref a,nV w]/\H a=some (.lst rs)/\w<=3/\rs.length*2^w<=64/\L<=10/\Rows w L H rs/\∀D ys H',H D=none->Same H H'->H' D=some (.lst ys)->ys.length=rs.length*2^w->Rows w (L+1) H' ys->Q (.ref D) H'
def zg4:Sp:=λvs H Q _=>∃w mo:Nat,vs=[nV w,nV mo]/\w<=3/\w*mo<=6/\mo<=3/\∀D ys H',H D=none->Same H H'->H' D=some (.lst ys)->ys.length<=300->Rows w 4 H' ys->(∀v∈ys,v ≠ .ref D)->Q (.ref D) H'
end SM
set_option maxHeartbeats 4000000
namespace L2
open PySem
theorem fitS{n:Nat}{P:List Value->Prop}(h:∀a us,us.length=n->P (a::us)):∀us:List Value,us.length=n+1->P us
 |a::us,e=>h a us (Nat.succ.inj e)
theorem fit0{P:List Value->Prop}(h:P []):∀us:List Value,us.length=0->P us
 |[],_=>h
theorem fit1{P:List Value->Prop}(h:∀a,P [a]):∀us:List Value,us.length=1->P us:=fitS λa=>fit0 (h a)
theorem fit2{P:List Value->Prop}(h:∀a b,P [a,b]):∀us:List Value,us.length=2->P us:=fitS λa=>fit1 (h a)
theorem fit3{P:List Value->Prop}(h:∀a b c,P [a,b,c]):∀us:List Value,us.length=3->P us:=fitS λa=>fit2 (h a)
theorem fit4{P:List Value->Prop}(h:∀a b c d,P [a,b,c,d]):∀us:List Value,us.length=4->P us:=fitS λa=>fit3 (h a)
theorem fit5{P:List Value->Prop}(h:∀a b c d e,P [a,b,c,d,e]):∀us:List Value,us.length=5->P us:=fitS λa=>fit4 (h a)
end L2
namespace K11
open PySem PySem.Spec PyProof.Rows L2 SS SM
local macro_rules| `(tactic|trivial)=>`(tactic|((try dsimp only[rEqI,rNeI,rInDc,rLenD,rLenT,rDictOf,rMaxL,rIndex,rCatTN,rCatTE,tDNewN,tDNewTN,tDisp1T,rNeM,rRange2,rListRng,rRepN,rPopAt,rSetL,gSub,ipI,tDGet,tDGet2,sDPut,iEnum,iEZ,iZipL,iRng3,rIndexT,tFld,sFld,tMeth,tMake,gLst,rNotInN,sDPutN,tDGetN,tDNew2,rSortF,rDictCp,iZip,rInD,rIxD,rLen,rAll,rAny,rSum,rListOf,rEqS,rNeS,rSlTN,rStrB,tTupN,tLstN,rSlLN,rCatN,cxK,cxP,cxW,tSeq,tIfS,tTest,tB,tOp,tUn,tC,tAnd,tOr,tNot,tAndV,tOrV,tNotV,tIf,tNext,tBreak,tCont,tDrop,tRet,tRetN,gName,gNil,gCons,gTup,tAsg,tPar,tAug,rI,rI0,rU,rEq,rNe,tChain,tNil,tCons,tTup,tLst,tCall,tCB,tNoPart,tPart,tSl,rSlT,rSlL,rSlS,rIxL,rIxT,rIxS,rIn,tBM0,tBM,tyV,rAppend,rExtend,rCat,rZfill,rEqD,iList,iTup,iStr,iRng1,iRng2,tYes,tDisp,tPairs,zua,zt9,zmw,zra,zj2,zj3,List.set_cons_zero,List.set_cons_succ,y38,y1s,zub,zuc,zue,zuf,zug]);(try simp only[exists_eq',rEqI,rNeI,rInDc,rLenD,rLenT,rDictOf,rMaxL,rIndex,rCatTN,rCatTE,tDNewN,tDNewTN,tDisp1T,rNeM,rRange2,rListRng,rRepN,rPopAt,rSetL,gSub,ipI,tDGet,tDGet2,sDPut,iEnum,iEZ,iZipL,iRng3,rIndexT,tFld,sFld,tMeth,tMake,gLst,rNotInN,sDPutN,tDGetN,tDNew2,rSortF,rDictCp,iZip,rInD,rIxD,rLen,rAll,rAny,rSum,rListOf,rEqS,rNeS,rSlTN,rStrB,tTupN,tLstN,rSlLN,rCatN,cxK,cxP,cxW,tSeq,tIfS,tTest,tB,tOp,tUn,tC,tAnd,tOr,tNot,tAndV,tOrV,tNotV,tIf,tNext,tBreak,tCont,tDrop,tRet,tRetN,gName,gNil,gCons,gTup,tAsg,tPar,tAug,rI,rI0,rU,rEq,rNe,tChain,tNil,tCons,tTup,tLst,tCall,tCB,tNoPart,tPart,tSl,rSlT,rSlL,rSlS,rIxL,rIxT,rIxS,rIn,tBM0,tBM,tyV,rAppend,rExtend,rCat,rZfill,rEqD,iList,iTup,iStr,iRng1,iRng2,tYes,tDisp,tPairs,zua,zt9,zmw,zra,zj2,zj3,List.set_cons_zero,List.set_cons_succ,y38,y3q,y1s,V.int.injEq,V.str.injEq,V.bl.injEq,V.ref.injEq,V.ty.injEq,List.cons.injEq,and_true,true_and,exists_eq_left,exists_eq_left',exists_and_left,exists_eq,exists_const,if_true,if_false,ite_true,ite_false,zub,zuc,zue,zuf,zug,Option.some.injEq,exists_eq_right,exists_eq_right',and_assoc,reduceCtorEq,false_and,and_false,false_or,or_false,exists_false])))
def top(i:Nat):Stmt:=PySem.Challenge.pw_setsays_k11_whole_holds_plain.main.body.getD i (.Pass ⟨0,0,0,0⟩)
structure Txt(K:Frag)(mg:Y1)(w:World)(tw rw fa cLeftovers:Addr):Prop where
 b_isinstance:mg "isinstance"=none
 b_tuple:mg "tuple"=none
 b_str:mg "str"=none
 b_list:mg "list"=none
 b_int:mg "int"=none
 b_bool:mg "bool"=none
 b_set:mg "set"=none
 b_len:mg "len"=none
 b_all:mg "all"=none
 b_sum:mg "sum"=none
 b_max:mg "max"=none
 b_zip:mg "zip"=none
 b_range:mg "range"=none
 b_enumerate:mg "enumerate"=none
 b_sorted:mg "sorted"=none
 b_any:mg "any"=none
 b_min:mg "min"=none
 b_dict:mg "dict"=none
 g_FIGURES:GlV mg "FIGURES" (.str FIGS)
 g_LONGEST_NAME:GlV mg "LONGEST_NAME" (.int 4)
 g_SMALL_LETTERS:GlV mg "SMALL_LETTERS" (.str SMALL)
 g_GREAT_LETTERS:GlV mg "GREAT_LETTERS" (.str GREAT)
 g_MOST_NAMES:GlV mg "MOST_NAMES" (.int 4)
 g_DEEPEST:GlV mg "DEEPEST" (.int 12)
 g_MOST_PARTS:GlV mg "MOST_PARTS" (.int 60)
 g_NO:GlV mg "NO" (.int 0)
 g_YES:GlV mg "YES" (.int 1)
 g_TELLING_WORDS:GlV mg "TELLING_WORDS" (.ref tw)
 t_TELLING_WORDS:∀H,SqT K H tw [.str "some",.str "all"]
 g_TREE_WORDS:GlV mg "TREE_WORDS" (.ref rw)
 t_TREE_WORDS:∀H,SqT K H rw [.str "left",.str "right",.str "above"]
 g_FORMS:GlV mg "FORMS" (.ref fa)
 f_FORMS:Forms K w fa
 m_Leftovers:mg "Leftovers"=some (.ref cLeftovers)
 cl_Leftovers:Cls K cLeftovers
 n_forms:NoAttr K cLeftovers "forms"
 n_numbers:NoAttr K cLeftovers "numbers"
 n_steps:NoAttr K cLeftovers "steps"
seal PE PT PW PA PS PSs
section
variable {P:ig}{w:World}{K:Frag}{mg:Y1}{base:Heap}{tw rw fa cLeftovers:Addr}
abbrev s_is_letter_with_figures:Stmt:=top 11
theorem zb2:FnScope ["thing","letters"] ["thing","letters"] (defScope s_is_letter_with_figures):={}
variable (T:Txt K mg w tw rw fa cLeftovers)
include T in
theorem zv7(d:Dfn K mg "is_letter_with_figures" s_is_letter_with_figures ["thing","letters"]):Cal P w K mg base 1 "is_letter_with_figures" ["thing","letters"] zr8:=by
 refine d.cal zb2 (λvs H Q E h=>?_) (λf cdv A outer s H vs Q E hr h=>?_)
 ·obtain⟨x,l,k,rfl,_⟩:=h;rfl
 obtain⟨x,l,k,rfl,hk,hz,q⟩:=h;refine⟨_,(zab (zay (PW.pt (zb8 (zb3 (zbe (za0 zbs (by rfl) T.b_isinstance i5 (pa_c (pv 0) (pa_c (zcb (v:=.ty "str") (by rfl) T.b_str boot_str (by rfl)) zaa))))) (zb8 (zag za3 (pv 0) zam (nomark _)) (zbv (zag zhp (za0 zh6 (by rfl) T.b_len im (pa_c (pv 0) zaa)) (zbd (by rfl) T.g_LONGEST_NAME) (nomark _)))))) (zac (zah zfc)) zal) (zac (zah (zb4 (za5 zho (zap zhv (pv 0) zad (λ_ _=>rfl)) (pv 1) (by with_unfolding_all rfl)) (zb1 (za0 (zbc K rfl) (by rfl) T.b_all jb (pa_c (za2 ["sign"] [] (CompOk.of rfl (by rfl) (by rfl)) (by rfl) (zuk (zbm zt8 (pv 0) (zbw zad) zb9)) (λ_ _ _ _ _=>(zau (i:=0) (show List.Nodup (["sign"]:List Str) by decide+kernel) (by rfl) (Or.inl (by rfl)))) (λ_ _ _ _ _=>zbp) (λ_ _ _ _ _=>(za5 zho (pv 0) (zbd (by rfl) T.g_FIGURES) (by with_unfolding_all rfl)))) zaa))))))),?_⟩;refine za1 [some x,some (.str l)] rfl ?_;trivial;refine⟨k,hk,by decide,?_⟩;cases hk with
 |str z =>
  have hz':=hz z rfl;have hl:=zii z;rw[show(!subT "str" "str")=false by decide];trivial;refine ite2 (λc=>?_) (λc=>?_)
  ·have c':=of_decide_eq_true c;subst c';exact q H (Same.refl H)
  have c':=of_decide_eq_false (y17.mpr c);have ne:z.cps.toList≠[]:=λe=>c' (ext_toList e);refine⟨by have:=small1000 hz';omega,?_⟩;obtain⟨c0,r0,e0⟩:=List.exists_cons_of_ne_nil ne;have q':∀H',Same H H'->Q (.bl (decide (r0.length<=3)&&signIn c0 l&&r0.all λd=>signIn d FIGS)) H':=λH' g=>by
   have h:=q H' g;simp only[isNm,nameB,e0]at h;exact h
  rw[e0,y0c]at hl;refine ite2 (λc=>?_) (λc=>?_)
  ·have c2:=of_decide_eq_true c;have h:=q' H (Same.refl H);rw[show decide (r0.length<=3)=false by simp;omega,y1d,y1d]at h;exact h
  have c2:=of_decide_eq_false (y17.mpr c);rw[show decide (r0.length<=3)=true by simp;omega,y1e]at q';refine⟨by have:=small1000 hz';omega,c0,by rw[e0];exact zat,?_⟩;refine ite2 (λc=>?_) (λc=>?_)
  ·rw[show signIn c0 l=true from c,y1e]at q';have es:(Txt.slice z (some 1) none).cps.toList=r0:=by
    rw[zmn,show((1:Int))=((1:Nat):Int)from rfl,zdb,e0];rfl
   have en:(Txt.slice z (some 1) none).cps.size=r0.length:=by rw[←es];simp
   refine⟨by have:=small1000 hz';omega,?_⟩;refine zvw (λD i ys σ H'=>Same H H'/\(∃v,σ=[v])/\ys=(r0.take i).map λd=>V.bl (signIn d FIGS)) (by rw[en];exact y1w (small1000 (by omega))) (λD hD=>⟨za8 hD _,⟨none,rfl⟩,rfl⟩) ?_ ?_
   ·rintro D i ys σ H' d hD hi hd hD' hys ⟨g,⟨v,rfl⟩,rfl⟩;trivial;refine cstep (by rw[en];exact y1w (small1000 (by omega))) hi hD' hys ⟨λb o e=>?_,⟨_,rfl⟩,?_⟩
    ·rw[zar (zao e hD)];exact g b o e
    ·rw[en]at hi;have e1:r0[i]?=some d:=by rw[←es];simpa using hd
     rw[y1i,e1,y0r];rfl
   ·rintro D ys σ H' hD hD' hys ⟨g,_,rfl⟩;rw[en,y0o (y01 _)]at hD';refine⟨_,rfl,r0.map λd=>signIn d FIGS,.of (by rw[hD',y0x];rfl),?_⟩;have h:=q' H' g;rw[y2c];exact h
  ·have h:=q' H (Same.refl H);rw[show signIn c0 l=false from y17.mpr c,y1d]at h;exact h
 |non=>exact q H (Same.refl H)
 |bl b=>exact q H (Same.refl H)
 |int i=>exact q H (Same.refl H)
 |lst e=>exact q H (Same.refl H)
 |tup e=>exact q H (Same.refl H)
 |dK e=>exact q H (Same.refl H)
abbrev s_is_place:Stmt:=top 12
theorem ziq:FnScope ["thing"] ["thing"] (defScope s_is_place):={}
include T in
theorem zp3(d:Dfn K mg "is_place" s_is_place ["thing"])(C_is_letter_with_figures:Cal P w K mg base 1 "is_letter_with_figures" ["thing","letters"] zr8):Cal P w K mg base 2 "is_place" ["thing"] (ze8 SMALL):=by
 refine d.cal ziq (λvs H Q E h=>?_) (λf cdv A outer s H vs Q E hr h=>?_)
 ·obtain⟨x,k,rfl,_⟩:=h;rfl
 obtain⟨x,k,rfl,hk,hz,q⟩:=h;refine⟨_,(zac (zah (zae C_is_letter_with_figures hr (by omega) (by rfl) (pa_c (pv 0) (pa_c (zbd (by rfl) T.g_SMALL_LETTERS) zaa))))),?_⟩;refine za1 [some x] rfl ?_;trivial;exact⟨x,SMALL,k,rfl,hk,hz,q⟩
abbrev s_is_set:Stmt:=top 13
theorem zmr:FnScope ["thing"] ["thing"] (defScope s_is_set):={}
include T in
theorem zuy(d:Dfn K mg "is_set" s_is_set ["thing"])(C_is_letter_with_figures:Cal P w K mg base 1 "is_letter_with_figures" ["thing","letters"] zr8):Cal P w K mg base 2 "is_set" ["thing"] (ze8 GREAT):=by
 refine d.cal zmr (λvs H Q E h=>?_) (λf cdv A outer s H vs Q E hr h=>?_)
 ·obtain⟨x,k,rfl,_⟩:=h;rfl
 obtain⟨x,k,rfl,hk,hz,q⟩:=h;refine⟨_,(zac (zah (zae C_is_letter_with_figures hr (by omega) (by rfl) (pa_c (pv 0) (pa_c (zbd (by rfl) T.g_GREAT_LETTERS) zaa))))),?_⟩;refine za1 [some x] rfl ?_;trivial;exact⟨x,GREAT,k,rfl,hk,hz,q⟩
abbrev s_is_name:Stmt:=top 14
theorem zkz:FnScope ["thing"] ["thing"] (defScope s_is_name):={}
include T in
theorem zv6(d:Dfn K mg "is_name" s_is_name ["thing"])(C_is_place:Cal P w K mg base 2 "is_place" ["thing"] (ze8 SMALL))(C_is_set:Cal P w K mg base 2 "is_set" ["thing"] (ze8 GREAT)):Cal P w K mg base 3 "is_name" ["thing"] zpg:=by
 refine d.cal zkz (λvs H Q E h=>?_) (λf cdv A outer s H vs Q E hr h=>?_)
 ·obtain⟨x,rfl,_⟩:=h;rfl
 obtain⟨x,rfl,⟨⟨k,hk⟩,hz⟩,q⟩:=h;refine⟨_,(zac (zah (zun (zae C_is_place hr (by omega) (by rfl) (pa_c (pv 0) zaa)) (zb1 (zae C_is_set hr (by omega) (by rfl) (pa_c (pv 0) zaa)))))),?_⟩;refine za1 [some x] rfl ?_;trivial;refine⟨x,k,rfl,hk,hz,λH1 g1=>⟨_,rfl,ite2 (λc=>?_) (λc=>⟨x,k,rfl,hk.same g1,hz,λH2 g2=>?_⟩)⟩⟩
 ·have h:=q H1 g1;rw[show isName x=true by unfold isName;rw[c,Bool.true_or]]at h;exact h
 ·have h:=q H2 (g1.trans g2);rw[show isName x=isNm x GREAT by unfold isName;rw[y17.mpr c,y43]]at h;exact h
abbrev s_is_frame:Stmt:=top 15
theorem zir:FnScope ["thing"] ["thing"] (defScope s_is_frame):={}
include T in
theorem zp9(d:Dfn K mg "is_frame" s_is_frame ["thing"])(C_is_name:Cal P w K mg base 3 "is_name" ["thing"] zpg):Cal P w K mg base 4 "is_frame" ["thing"] zsa:=by
 refine d.cal zir (λvs H Q E h=>?_) (λf cdv A outer s H vs Q E hr h=>?_)
 ·obtain⟨x,rfl,_⟩:=h;rfl
 obtain⟨x,rfl,⟨⟨k,hk⟩,hz⟩,hxs,q⟩:=h;refine⟨_,(zab (zay (PW.pt (zb8 (zb3 (zbe (za0 zbs (by rfl) T.b_isinstance i5 (pa_c (pv 0) (pa_c (zcb (v:=.ty "list") (by rfl) T.b_list boot_list (by rfl)) zaa))))) (zbv (zag zhp (za0 (zaj K) (by rfl) T.b_len im (pa_c (pv 0) zaa)) (zbd (by rfl) T.g_MOST_NAMES) (nomark _))))) (zac (zah zfc)) zal) (zac (zah (zb4 (za0 (zbc K rfl) (by rfl) T.b_all jb (pa_c (za2 ["name"] [] (CompOk.of rfl (by rfl) (by rfl)) (by rfl) (zbb K (pv 0)) (λ_ _ _ _ _=>(zau (i:=0) (show List.Nodup (["name"]:List Str) by decide+kernel) (by rfl) (Or.inl (by rfl)))) (λ_ _ _ _ _=>zbp) (λ_ _ _ _ _=>(zae C_is_name hr (by omega) (by rfl) (pa_c (pv 0) zaa)))) zaa)) (zb1 (za5 za3 (za0 zgu (by rfl) T.b_len im (pa_c (zbx (zh2 rfl) (by rfl) T.b_set boot_set (pa_c (pv 0) zaa)) zaa)) (za0 (zaj K) (by rfl) T.b_len im (pa_c (pv 0) zaa)) (nomark _))))))),?_⟩;refine za1 [some x] rfl ?_;trivial;refine⟨k,hk,by decide,?_⟩;cases hk with
 |lst e =>
  rename_i a xs;obtain⟨hl,hy⟩:=hxs a xs rfl e;have hS:SqL K H a xs:=.of e;have ef:frB H (.ref a)=frameB xs:=by simp only[frB,e]
  rw[ef]at q;refine iteF ⟨a,rfl,xs,.inl hS,?_⟩;refine ite2 (λc=>?_) (λc=>⟨a,rfl,⟨xs,hS⟩,?_⟩)
  ·have c':=of_decide_eq_true c;have h:=q H (Same.refl H);rw[show frameB xs=false by unfold frameB;rw[decide_eq_false (by omega),y1d,y1d]]at h;exact h
  have c':=of_decide_eq_false (y17.mpr c);have ef2:frameB xs=(xs.all isName&&decide xs.Nodup):=by unfold frameB;rw[decide_eq_true (by omega),y1e]
  rw[ef2]at q;refine ze3 (K:=K) (a:=a) (xs:=xs) (λD i ys σ H'=>Same H H'/\(∃v,σ=[v])/\ys=(xs.take i).map λy=>V.bl (isName y)) (zaf hl) (λD hD=>⟨za8 hD _,⟨none,rfl⟩,rfl⟩) (λD i ys σ H' _ _ _ ⟨g,_⟩=>g.seq hS) ?_ ?_
  ·rintro D i ys σ H' y hD hi hx hD' hys ⟨g,⟨v,rfl⟩,rfl⟩;trivial;refine⟨y,rfl,(hy y (y0j hx)).same g,λH2 g2=>?_⟩;refine cstep (zaf hl) hi (g2 _ _ hD') hys ⟨λb o e=>?_,⟨_,rfl⟩,?_⟩
   ·rw[zar (zao e hD)];exact g2 b o (g b o e)
   ·rw[y1i,hx,y0r];rfl
  ·rintro D ys σ H' hD hD' hys ⟨g,_,rfl⟩;rw[y0o (y01 _)]at hD';refine⟨D,rfl,xs.map isName,.of (by rw[hD',y0x];rfl),?_⟩;rw[y2c,show(id∘isName)=isName from rfl];refine ite2 (λca=>?_) (λca=>?_)
   ·obtain⟨ks,ek,nk⟩:=zfx ca;have lk:ks.length=xs.length:=by rw[ek,y00]
    refine⟨a,rfl,ks,ek▸g.seq hS,by omega,λb H3 n3=>⟨ks,n3.at',by omega,a,rfl,xs,.inl (n3.g.seq (g.seq hS)),?_⟩⟩;have h:=q _ (g.trans n3.g);rw[ca,y1e]at h;have ed:decide xs.Nodup=decide (((onceK [] ks).length:Int)=(xs.length:Int)):=by
     refine decide_eq_decide.mpr ?_;rw[nk,←zng,lk];omega
    rw[ed]at h;exact h
   ·have h:=q H' g;rw[y17.mpr ca,y1d]at h;exact h
 |non=>exact q H (Same.refl H)
 |bl b=>exact q H (Same.refl H)
 |int i=>exact q H (Same.refl H)
 |str z=>exact q H (Same.refl H)
 |tup e =>
  have h:=q H (Same.refl H);simp only[frB,e]at h;exact h
 |dK e =>
  have h:=q H (Same.refl H);simp only[frB,e]at h;exact h
abbrev s_is_of_sort:Stmt:=top 22
theorem zf8:FnScope ["thing","sort","deepest"] ["thing","sort","deepest"] (defScope s_is_of_sort):={}
theorem zni{n k:Nat}(hk:3<=k)(T:Txt K mg w tw rw fa cLeftovers)(d:Dfn K mg "is_of_sort" s_is_of_sort ["thing","sort","deepest"])(C_is_place:Cal P w K mg base 2 "is_place" ["thing"] (ze8 SMALL))(C_is_set:Cal P w K mg base 2 "is_set" ["thing"] (ze8 GREAT))(C_is_name:Cal P w K mg base 3 "is_name" ["thing"] zpg)
  (C_has_form:Cal P w K mg base k "has_form" ["thing","deepest"] (zf4 n)):Cal P w K mg base (k+1) "is_of_sort" ["thing","sort","deepest"] (zij n):=by
 refine d.cal zf8 (λvs H Q E h=>?_) (λf cdv A outer s H vs Q E hr h=>?_)
 ·obtain⟨v,s,rfl,_⟩:=h;rfl
 obtain⟨v,so,rfl,ex,q⟩:=h;obtain⟨⟨kd,hkd⟩,hz⟩:=ex.thing;have e1:∀b:Str,decide (V.str so=V.str b)=decide (so=b):=λb=>by simp
 refine⟨_,(zab (zay (zag za3 (pv 1) zam (nomark _)) (zac (zah (zae C_is_place hr (by omega) (by rfl) (pa_c (pv 0) zaa)))) zal) (zab (zay (zag za3 (pv 1) zam (nomark _)) (zac (zah (zae C_is_set hr (by omega) (by rfl) (pa_c (pv 0) zaa)))) zal) (zab (zay (zag za3 (pv 1) zam (nomark _)) (zac (zah (zae C_is_name hr (by omega) (by rfl) (pa_c (pv 0) zaa)))) zal) (zac (zah (zae C_has_form hr (by omega) (by rfl) (pa_c (pv 0) (pa_c (pv 2) zaa)))))))),?_⟩;refine za1 [some v,some (.str so),some (.int n)] rfl ?_;trivial;unfold sortB at q;refine ite2 (λc=>?_) λc=>?_
 ·rw[if_pos (of_decide_eq_true c)]at q;exact⟨v,kd,rfl,hkd,hz,q⟩
 rw[if_neg (of_decide_eq_false (y17.mpr c))]at q;refine ite2 (λc=>?_) λc=>?_
 ·rw[if_pos (of_decide_eq_true c)]at q;exact⟨v,kd,rfl,hkd,hz,q⟩
 rw[if_neg (of_decide_eq_false (y17.mpr c))]at q;refine ite2 (λc=>?_) λc=>?_
 ·rw[if_pos (of_decide_eq_true c)]at q;exact⟨v,rfl,⟨⟨kd,hkd⟩,hz⟩,q⟩
 rw[if_neg (of_decide_eq_false (y17.mpr c))]at q;exact⟨v,rfl,ex,q⟩
abbrev s_has_form:Stmt:=top 23
theorem sc_has_form:FnScope ["thing","deepest","sorts"] ["thing","deepest"] (defScope s_has_form):={}
include T in
theorem znp{n k:Nat}(d:Dfn K mg "has_form" s_has_form ["thing","deepest"])(C_is_of_sort:Cal P w K mg base k "is_of_sort" ["thing","sort","deepest"] (sp_sort' n)):Cal P w K mg base (k+1) "has_form" ["thing","deepest"] (zf4 n):=by
 refine d.cal sc_has_form (λvs H Q E h=>?_) (λf cdv A outer s H vs Q E hr h=>?_)
 ·obtain⟨v,rfl,_⟩:=h;rfl
 obtain⟨v,rfl,ex,q⟩:=h;refine⟨_,(zab (zay (PW.pt (zb8 (zag za3 (pv 1) zad (nomark _)) (zb8 (zb3 (zbe (za0 zbs (by rfl) T.b_isinstance i5 (pa_c (pv 0) (pa_c (zcb (v:=.ty "tuple") (by rfl) T.b_tuple boot_tuple (by rfl)) zaa))))) (zbv (zag za3 (za0 (zaj K) (by rfl) T.b_len im (pa_c (pv 0) zaa)) zad (nomark _)))))) (zac (zah zfc)) zal) (zab (zay (PW.pt (zb8 (zb3 (zbe (za0 zbs (by rfl) T.b_isinstance i5 (pa_c (zap (zai K) (pv 0) zad (λ_ _=>rfl)) (pa_c (zcb (v:=.ty "str") (by rfl) T.b_str boot_str (by rfl)) zaa))))) (zbv (zag (zhm K w) (zap (zai K) (pv 0) zad (λ_ _=>rfl)) (zbd (by rfl) T.g_FORMS) (by with_unfolding_all rfl))))) (zac (zah zfc)) zal) (zab (zas (i:=2) sc_has_form.nd rfl (Or.inl rfl) (zap (zvi K w) (zbd (by rfl) T.g_FORMS) (zap (zai K) (pv 0) zad (λ_ _=>rfl)) (λ_ _=>rfl))) (zab (zay (zag zgf (za0 (zaj K) (by rfl) T.b_len im (pa_c (pv 0) zaa)) (zav zep zad (za0 (zaj K) (by rfl) T.b_len im (pa_c (pv 2) zaa))) (nomark _)) (zac (zah zfc)) zal) (zac (zah (za0 (zbc K rfl) (by rfl) T.b_all jb (pa_c (za2 ["part","sort"] [(1,"deepest")] (CompOk.of rfl (by rfl) (by rfl)) (by rfl) (zso K (by rfl) T.b_zip (pa_c (zbm (zjx K) (pv 0) (zbw zad) zb9) (pa_c (pv 2) zaa))) (λ_ _ _ _ _=>(zm6 K (n:=2) rfl (zd5 (zau (i:=0) (show List.Nodup (["part","sort","deepest"]:List Str) by decide+kernel) (by rfl) (Or.inl (by rfl))) (zd5 (zau (i:=1) (show List.Nodup (["part","sort","deepest"]:List Str) by decide+kernel) (by rfl) (Or.inl (by rfl))) zm5)))) (λ_ _ _ _ _=>zbp) (λ_ _ _ _ _=>(zae C_is_of_sort hr (by omega) (by rfl) (pa_c (pv 0) (pa_c (pv 1) (pa_c (zav zcl (pv 2) zad) zaa)))))) zaa)))))))),?_⟩;refine za1 [some v,some (.int n),none] rfl ?_;trivial;cases n with
 |zero =>
  exact itT (show((0:Nat):Int)=0 from rfl) (q H (Same.refl H))
 |succ n =>
 rw[decide_eq_false (show¬((n+1:Nat):Int)=0 by omega)];refine atom λzG zk=>?_;obtain⟨⟨⟨kd,hkd⟩,hz⟩,hin⟩:=id ex;refine zk ?_;refine iteF ⟨kd,hkd,by decide,?_⟩;cases hkd with
 |tup e =>
  rename_i a xs;obtain⟨hl,hx⟩:=hin a xs rfl e;have hS:SqT K H a xs:=.of e;refine iteF ⟨a,rfl,xs,.inr hS,?_⟩;cases xs with
  |nil =>
   have h:=q H (Same.refl H);simp only[formH,e]at h;exact iteT h
  |cons x0 r =>
  rw[decide_eq_false (show¬(((x0::r).length:Nat):Int)=0 by rw[y0c];omega)];refine atom λzG zk=>?_;obtain⟨⟨k0,hk0⟩,_⟩:=(hx x0 y07).thing;refine zk ?_;refine iteF (ixm hS zat ⟨k0,hk0,by decide,?_⟩);cases hk0 with
  |str wd =>
   have q':∀H',Same H H'->Q (.bl (match forms.lookup wd with|some ss=>zipB (formH H n) r ss|none=>false)) H':=λH' g=>by
    have h:=q H' g;simp only[formH,e]at h;exact h
   obtain⟨fm,hd,hf⟩:=T.f_FORMS.ex;refine iteF (ixm hS zat ⟨wd,rfl,fm,hd,?_⟩);rcases hf wd with⟨ss,b,hls,hfw,hst⟩|⟨hls,hfw⟩
   ·rw[hls]at q';replace q':∀H',Same H H'->Q (.bl (zipB (formH H n) r ss)) H':=q';rw[hfw];refine iteF (ixm hS zat ⟨wd,rfl,fm,hd,.ref b,hfw,a,rfl,_,.inr hS,b,rfl,_,.inr (hst H),?_⟩);rw[y0c,y00];by_cases hlen:r.length=ss.length
    ·rw[decide_eq_true (show(((r.length+1:Nat)):Int)=1+(ss.length:Int) by omega)];refine iteF ⟨a,rfl,_,hS,zhb (by simp),λp H1 n1=>?_⟩;have ec:cutL (V.str wd::r) (some 1) none=r:=by
      rw[show((1:Int))=((1:Nat):Int)from rfl,zdb];rfl
     rw[ec]at n1;have lr:r.length<=1000:=by rw[y0c]at hl;omega
     refine⟨b,rfl,⟨_,.of n1.at'⟩,⟨_,hst H1⟩,zvq (K:=K) (a:=p) (b:=b) (xs:=r) (ys:=ss.map V.str) (λσ=>∃v1 v2,σ=[v1,v2,some (.int ((n+1:Nat):Int))]) (λi=>.bl (sortB (formH H n) (r.getD i .non) (ss.getD i ""))) lr (by rw[y00];exact hlen) (.of n1.at') (hst H1) ⟨_,_,rfl⟩ ?_ ?_⟩
     ·rintro D i σ G G' pp x y ex1 ey1 g hD hD' ⟨v1,v2,rfl⟩ nw;rw[y0k]at ey1;obtain⟨sx,es,rfl⟩:=y19.mp ey1;have hi:i<r.length:=(y05.mp ex1).1;have mx:x∈r:=y0j ex1;have gx:Same H G':=n1.g.trans (g.trans nw.g);have exx:=hx x (y06 _ mx);trivial;refine⟨_,.of nw.at',rfl,_,_,rfl,_,_,rfl,rfl,?_⟩;have en:(((n+1:Nat):Int)-1)=(n:Int):=by omega
      rw[en];refine⟨x,sx,rfl,exx.same gx,λG2 g2=>zi7 lr hi hD (g2 _ _ (nw.g _ _ hD')) (g.trans (nw.g.trans g2)) ⟨_,_,rfl⟩ ?_⟩;have e1:r.getD i .non=x:=by rw[y0u,ex1];rfl
      have e2:ss.getD i ""=sx:=by rw[y0u,es];rfl
      rw[e1,e2];unfold sortB;rw[zdh gx exx]
     ·intro D G hD g eD;refine⟨D,rfl,(List.range r.length).map λi=>sortB (formH H n) (r.getD i .non) (ss.getD i ""),.of (by rw[eD,y0x];rfl),?_⟩;have h:=q' G (n1.g.trans g);rw[zfg hlen]at h;rw[y2c];exact h
    ·rw[decide_eq_false (show¬(((r.length+1:Nat)):Int)=1+(ss.length:Int) by omega)];have h:=q' H (Same.refl H);rw[zjj hlen]at h;exact iteT h
   ·rw[hls]at q';rw[hfw];exact iteT (q' H (Same.refl H))
  |_ =>
   have h:=q H (Same.refl H);simp only[formH,e]at h;exact iteT h
 |non=>exact iteT (q H (Same.refl H))
 |bl b=>exact iteT (q H (Same.refl H))
 |int i=>exact iteT (q H (Same.refl H))
 |str z=>exact iteT (q H (Same.refl H))
 |lst e =>
  have h:=q H (Same.refl H);simp only[formH,e]at h;exact iteT h
 |dK e =>
  have h:=q H (Same.refl H);simp only[formH,e]at h;exact iteT h
theorem zkr(T:Txt K mg w tw rw fa cLeftovers)(d1:Dfn K mg "is_of_sort" s_is_of_sort ["thing","sort","deepest"])(d2:Dfn K mg "has_form" s_has_form ["thing","deepest"])(C1:Cal P w K mg base 2 "is_place" ["thing"] (ze8 SMALL))(C2:Cal P w K mg base 2 "is_set" ["thing"] (ze8 GREAT))(C3:Cal P w K mg base 3 "is_name" ["thing"] zpg):
  ∀n,Cal P w K mg base (2*n+4) "has_form" ["thing","deepest"] (zf4 n)/\Cal P w K mg base (2*n+5) "is_of_sort" ["thing","sort","deepest"] (zij n)
 |0=>by
  have c:=znp (n:=0) T d2 ((d1.never (sp:=sp_sort' 0) λvs H Q E h=>h).mono (y14 3):Cal P w K mg base 3 _ _ _);exact⟨c,zni (by decide) T d1 C1 C2 C3 c⟩
 |n+1=>by
  have ih:=zkr T d1 d2 C1 C2 C3 n;have c:=znp (n:=n+1) T d2 ih.2;exact⟨c,zni (by omega) T d1 C1 C2 C3 c⟩
abbrev s_Leftovers___init__:Stmt:=inClass (top 37) 0
theorem zcj:FnScope ["self"] ["self"] (defScope s_Leftovers___init__):={}
include T in
theorem zqc(d:DfnI K cLeftovers "Leftovers.__init__" s_Leftovers___init__ ["self"]):CalI P w K mg base 1 cLeftovers "Leftovers" ["self"] (zju P w cLeftovers):=by
 refine d.cal T.m_Leftovers zcj (λvs H Q E h=>?_) (λf cdv A outer s H vs Q E hr h=>?_)
 ·obtain⟨p,dx,H0,rfl,_⟩:=h;rfl
 obtain⟨p,dx,H0,rfl,eH,e0,e1,ne,q⟩:=h;refine⟨_,(zab (zmy (pv 0) (zaq (pa_c (zbf (pa_c zam zaa)) (pa_c (zbf (pa_c zam zaa)) zaa))) (by rfl)) (zab (zmy (pv 0) zpx (by rfl)) (zac (zmy (pv 0) zm8 (by rfl))))),?_⟩;refine za1 [some (.ref p)] rfl ?_;trivial;have gH:Same H0 H:=by rw[eH];exact((Same.refl H0).wr e1 _).wr e0 _
 have ep:H p=some (.ins cLeftovers dx []):=by rw[eH,zaw]
 refine mkT λp1 H1 n1=>mkT λp2 H2 n2=>mkT λpf H3 n3=>?_;have g3:Same H H3:=n1.g.trans (n2.g.trans n3.g);have ep3:=g3 _ _ ep;refine⟨_,_,_,ep3,T.cl_Leftovers,T.n_forms,by simp,λpn H4 n4=>?_⟩;have ep4:=n4.g _ _ zaw;refine⟨_,_,_,ep4,T.cl_Leftovers,T.n_numbers,by simp[putF],λps H5 n5=>?_⟩;have ep5:=n5.g _ _ zaw;have hl:(putF "numbers" (V.ref pn) (putF "forms" (V.ref pf) [])).length<1000:=by
  have:=zcd "numbers" (V.ref pn) (putF "forms" (V.ref pf) []);have:=zcd "forms" (V.ref pf) [];simp only[y1l]at this;omega
 have g03:Same H0 H3:=gH.trans g3;have g04:Same H0 H4:=(g03.wr e0 _).trans n4.g;have g05:Same H0 H5:=(g04.wr e0 _).trans n5.g;have npn:p≠pn:=zao zaw n4.nil;have nps:p≠ps:=zao zaw n5.nil;have npf:p≠pf:=zao (n1.g.trans n2.g _ _ ep) n3.nil;have np1:p≠p1:=zao ep n1.nil;have np2:p≠p2:=zao (n1.g _ _ ep) n2.nil;have up:∀b o,b≠p->H3 b=some o->upd H5 p (.ins cLeftovers dx (putF "steps" (V.ref ps) (putF "numbers" (V.ref pn) (putF "forms" (V.ref pf) [])))) b=some o:=λb o hb e=>by
  rw[zar hb];refine n5.g _ _ ?_;rw[zar hb];refine n4.g _ _ ?_;rw[zar hb];exact e
 have en4:upd H4 p (.ins cLeftovers dx (putF "numbers" (V.ref pn) (putF "forms" (V.ref pf) []))) pn=some (dN P w pn []):=by rw[zar (Ne.symm npn)];exact n4.at'
 refine⟨_,_,_,ep5,T.cl_Leftovers,T.n_steps,hl,q ⟨p,dx,pf,pn,ps⟩ _ rfl ⟨?_,⟨λm f e=>(by cases e),y3c⟩,λl c v e=>(by cases e)⟩ (g05.wr e0 _) ((gH.trans (n1.g.trans n2.g)).free n3.nil) ((g03.wr e0 _).free n4.nil) ((g04.wr e0 _).free n5.nil)⟩;refine⟨by rw[zaw,zvo],⟨[.ref p1,.ref p2],up _ _ (Ne.symm npf) n3.at',.cons ⟨p1,rfl,_,up _ _ (Ne.symm np1) ((n2.g.trans n3.g) _ _ n1.at'),.cons rfl .nil⟩ (.cons ⟨p2,rfl,_,up _ _ (Ne.symm np2) (n3.g _ _ n2.at'),.cons rfl .nil⟩ .nil)⟩,⟨[],?_,(λy hy=>nomatch hy),rfl,λi y h=>by simp at h⟩,?_⟩
 ·rw[zar (Ne.symm npn)];exact n5.g _ _ en4
 ·rw[zar (Ne.symm nps)];exact n5.at'
abbrev s_Leftovers_numbered:Stmt:=inClass (top 37) 1
theorem zci:FnScope ["self","form"] ["self","form"] (defScope s_Leftovers_numbered):={}
include T in
theorem zs8(d:DfnM K cLeftovers "numbered" "Leftovers.numbered" s_Leftovers_numbered ["self","form"]):CalM P w K mg base 1 cLeftovers "numbered" ["self","form"] (zcg P w cLeftovers):=by
 refine d.cal zci (λvs H Q E h=>?_) (λf cdv A outer s H vs Q E hr h=>?_)
 ·obtain⟨A,a,fs,sts,k,rfl,_⟩:=h;rfl
 obtain⟨LA,a,fs,sts,fm,rfl,L,h10,ea,ok,q⟩:=h;have hu:=zex hr 8 (by decide);refine⟨_,(zcz (zay (zag (znb hu) (pv 1) (zce (pv 0) (by rfl)) (by with_unfolding_all rfl)) (zab (zpo hu (zce (pv 0) (by rfl)) (pv 1) (za0 (zaj K) (by rfl) T.b_len im (pa_c (zce (pv 0) (by rfl)) zaa)) rfl) (zac (zc0 (zhl K PySem.F.plainAttrs_list PySem.F.slot_list_append PySem.F.type_list_append zcm (zce (pv 0) (by rfl)) (pa_c (pv 1) zaa))))) zal) (zac (zah (zpy hu (zce (pv 0) (by rfl)) (pv 1) (λ_ _=>rfl))))),?_⟩;refine za1 [some (.ref LA.p),some (.ref a)] rfl ?_;have ek:nxt (fs.map fk) (fk fm)=(nxt fs fm).map fk:=zu6 L.T ok.w;refine⟨λσ' H'=>σ'=[some (.ref LA.p),some (.ref a)]/\Up3 LA H H'/\NestAt H' a (fk fm)/\Lg P w cLeftovers LA (nxt (fs.map fk) (fk fm)) sts H',?_,?_⟩
 ·trivial;obtain⟨rs,e6,e7⟩:=L.lg.ef;obtain⟨ys,e8,ky,ef,ev⟩:=L.lg.en;have hrl:=SS.Paired.len e7;simp only[y0c,y00]at hrl;have hyl:ys.length=fs.length:=by rw[←y00 (f:=fk),←ef,y00]
  obtain⟨t1,t2⟩:=tabN 2 ef ev (fk fm);refine fdm L.lg.e1 T.cl_Leftovers T.n_numbers zdj ⟨LA.pn,rfl,_,e8,ky,fk fm,ea,?_⟩;by_cases hin:fk fm∈fs.map fk
  ·rw[t1 hin,zhr hin];exact iteF ⟨Up3.refl _ _,ea,L.lg⟩
  ·rw[t2 hin,zer hin];have npn:LA.p≠LA.pn:=zdf L.lg.e1 e8 (by intro z;cases z);have npf:LA.p≠LA.pf:=zdf L.lg.e1 e6 (by intro z;cases z);have nfn:LA.pf≠LA.pn:=zdf e6 e8 (by intro z;cases z);have nfs:LA.pf≠LA.ps:=zdf e6 L.lg.es (by intro z;cases z);have nns:LA.pn≠LA.ps:=zdf e8 L.lg.es (by intro z;cases z);refine iteT (fdm L.lg.e1 T.cl_Leftovers T.n_forms zbk ⟨LA.pf,rfl,_,.inl (.of e6),fdm L.lg.e1 T.cl_Leftovers T.n_numbers zdj ⟨LA.pn,rfl,_,e8,ky,fk fm,ea,t2 hin,?_⟩⟩);refine⟨zgj (by omega),λH4 e4=>?_⟩;subst e4;have e1':∀o,upd H LA.pn o LA.p=some (.ins cLeftovers LA.dx (fl3 (.ref LA.pf) (.ref LA.pn) (.ref LA.ps))):=λo=>by rw[zar npn];exact L.lg.e1
   have e6':∀o,upd H LA.pn o LA.pf=some (.lst rs):=λo=>by rw[zar nfn];exact e6
   refine fdm (e1' _) T.cl_Leftovers T.n_forms zbk ⟨.inl ⟨_,.of (e6' _)⟩,LA.pf,rfl,_,e6' _,y0p (show rs.length<1000003 by omega) (by decide),?_⟩;have uA:Up3 LA H (upd (upd H LA.pn (dN P w LA.pn (ys++[(fk fm,a,V.int (rs.length:Int))]))) LA.pf (.lst (rs++[.ref a]))):=λb o h1 h2 h3 e=>by rw[zar h1,zar h2];exact e
   have tsA:=L.lg.tups uA;have evn:V.int (rs.length:Int)=nV (2+fs.length):=by show V.int _=V.int _;congr 1;omega
   refine⟨uA,ea.ts tsA,by rw[zar npf];exact e1' _,⟨_,zaw,SM.Paired.snoc (L2.Paired.mapP e7 λ_ _ z=>z.ts tsA) ⟨a,rfl,ea.ts tsA⟩⟩,⟨_,by rw[zar (Ne.symm nfn),zaw],?_,by rw[y0r,ef];rfl,λi y h=>?_⟩,by rw[zar (Ne.symm nfs),zar (Ne.symm nns)];exact L.lg.es⟩
   ·intro y hy;rcases y0g.mp hy with h|h
    ·exact(ky y h).ts tsA
    ·rw[y09.mp h];exact ea.ts tsA
   ·by_cases hi:i<ys.length
    ·rw[y16 hi]at h;exact ev i y h
    ·rw[y1f (by omega)]at h;have h0:i-ys.length=0:=by
      have:=(y05.mp h).1;simp at this;omega
     rw[h0]at h;cases h;show V.int _=_;rw[evn];congr 2;omega
 ·rintro σ' H' ⟨rfl,u',ea',L'⟩;trivial;obtain⟨ys,e8,ky,ef,ev⟩:=L'.en;have hin:fk fm∈nxt (fs.map fk) (fk fm):=by
   by_cases h:fk fm∈fs.map fk
   ·rw[zhr h];exact h
   ·rw[zer h];simp
  obtain⟨t1,t2⟩:=tabN 2 ef ev (fk fm);obtain⟨x,_⟩:=zdr L.T ok;refine fdm L'.e1 T.cl_Leftovers T.n_numbers zdj ⟨LA.pn,rfl,_,e8,ky,fk fm,ea',_,t1 hin,?_⟩;rw[ek]at L' ⊢;rw[show nOf ((nxt fs fm).map fk) (fk fm)=nOf (nxt fs fm) fm from zrk x.T.wok ok.w];exact q H' ⟨u',⟨L',x.T,L.S.up L.T x⟩,x,by omega⟩
abbrev s_bit_of:Stmt:=top 35
theorem zmt:FnScope ["name","names"] ["name","names"] (defScope s_bit_of):={}
include T in
theorem zqg(d:Dfn K mg "bit_of" s_bit_of ["name","names"]):Cal P w K mg base 1 "bit_of" ["name","names"] zjw:=by
 refine d.cal zmt (λvs H Q E h=>?_) (λf cdv A outer s H vs Q E hr h=>?_)
 ·obtain⟨b,z,tl,i,rfl,_⟩:=h;rfl
 obtain⟨b,z,tl,i,rfl,eb,h4,ei,hi,q⟩:=h;have hu:=zex hr 8 (by decide);refine⟨_,(zac (zah (zav zeo zad (zhl K PySem.F.plainAttrs_list PySem.F.slot_list_index PySem.F.type_list_index (zlf K hu) (pv 1) (pa_c (pv 0) zaa))))),?_⟩;refine za1 [some (.str z),some (.ref b)] rfl ?_;trivial;have hz:z∈tl:=y0v.mp (by rw[ei];exact hi);refine⟨.inl ⟨_,.of eb⟩,_,.of eb,hz,by omega,⟨by omega,by omega,by decide⟩,?_⟩;rw[ei,y0l,y3v];have:((2:Int)^i)=((2^i:Nat):Int):=by simp
 rw[this];exact q
abbrev s_worth_keeping:Stmt:=top 36
theorem zdv:FnScope ["lefts"] ["lefts"] (defScope s_worth_keeping):={}
include T in
theorem zqa(d:Dfn K mg "worth_keeping" s_worth_keeping ["lefts"]):Cal P w K mg base 1 "worth_keeping" ["lefts"] zf5:=by
 refine d.cal zdv (λvs H Q E h=>?_) (λf cdv A outer s H vs Q E hr h=>?_)
 ·obtain⟨b,ns,F,rfl,_⟩:=h;rfl
 obtain⟨b,ns,F,rfl,eb,hl,hF,hns,q⟩:=h;refine⟨_,(zac (zah (zbx zff (by rfl) T.b_tuple boot_tuple (pa_c (za0 (zdz rfl) (by rfl) T.b_sorted (by rfl) (pa_c (zbx (zh3 rfl) (by rfl) T.b_set (by rfl) (pa_c (za2 ["left"] [] (CompOk.of rfl (by rfl) (by rfl)) (by rfl) (zbb K (pv 0)) (λ_ _ _ _ _=>(zau (i:=0) (show List.Nodup (["left"]:List Str) by decide+kernel) (by rfl) (Or.inl (by rfl)))) (λ_ _ _ _ _=>(zen (zag zgf (pv 0) (zbd (by rfl) T.g_NO) (nomark _)))) (λ_ _ _ _ _=>(pv 0))) zaa)) zaa)) zaa)))),?_⟩;refine za1 [some (.ref b)] rfl ?_;trivial;refine⟨⟨_,.of eb⟩,zgr (K:=K) (a:=b) (xs:=ns.map nV) (λσ=>∃v,σ=[v]) (λv=>decide (v ≠ .int 0)) id (by rw[y00];exact hl) (.of eb) ⟨_,rfl⟩ ?_ ?_⟩
 ·rintro D i σ H1 x hi hm hx gg hD hD' ⟨v,rfl⟩;obtain⟨k,mk,rfl⟩:=y0m.mp hm;have hl:(ns.map nV).length<=1000:=by rw[y00];exact hl
  trivial;by_cases h0:k=0
  ·subst h0;exact iteF (ze2 hx (by decide) hD' gg ⟨_,rfl⟩)
  ·rw[decide_eq_false (by omega)];exact iteT (ze1 hl hx (decide_eq_true λz=>h0 (by injection z with z;omega)) hD hD' gg ⟨_,rfl⟩ rfl)
 intro D H1 hD g1 eD;have e1:(List.filter (λv=>decide (v≠V.int 0)) (ns.map nV)).map id=((ns.filter (· ≠ 0)).map λ(n:Nat)=>(n:Int)).map V.int:=by
  rw[y3f,y2v,y0x];have:((λv=>decide (v≠V.int 0))∘nV)=λk:Nat=>decide (k≠0):=by
   funext k;show decide (V.int (k:Int)≠V.int 0)=decide (k≠0);refine decide_eq_decide.mpr ⟨λz e=>z (by rw[e];rfl),λz e=>z (by injection e with e;omega)⟩
  rw[this];rfl
 rw[e1]at eD;have hlf:(ns.filter (· ≠ 0)).length<=ns.length:=y1b _ _;refine⟨D,rfl,_,.of eD,by rw[y00];omega,λa0 ha0=>⟨_,zaw,F.map λ(n:Nat)=>(n:Int),by rw[y00];exact hF,λk hk=>?_,λms p1 p2 L H2 n2=>?_⟩⟩
 ·obtain⟨n,hn,rfl⟩:=y0m.mp hk;obtain⟨h1,h2⟩:=y0z.mp hn;exact y0m.mpr ⟨n,hns n h1 (of_decide_eq_true h2),rfl⟩
 have hms:∀k∈ms,0<=k:=λk hk=>by
  obtain⟨n,hn,rfl⟩:=y0m.mp ((p2 k).mp hk);omega
 have e2:ms.map V.int=(ms.map Int.toNat).map nV:=by
  rw[y0x];refine y2t λk hk=>?_;have:=hms k hk;show V.int k=V.int ((k.toNat:Nat):Int);rw[show((k.toNat:Nat):Int)=k by omega]
 refine⟨_,.inl ⟨n2.lst,λl H3 n3=>q l (ms.map Int.toNat) H3 ⟨?_,λk=>?_⟩ (g1.trans ((za8 ha0 _).trans (n2.g.trans n3.g))) ?_⟩⟩
 ·rw[List.pairwise_map];refine List.Pairwise.imp_of_mem (λ{a b} ha hb h=>?_) p1;have:=hms a ha;have:=hms b hb;omega
 ·constructor
  ·intro hk;obtain⟨x,hx,rfl⟩:=y0m.mp hk;obtain⟨n,hn,rfl⟩:=y0m.mp ((p2 x).mp hx);rw[y0l];exact⟨(y0z.mp hn).1,of_decide_eq_true (y0z.mp hn).2⟩
  ·rintro⟨h1,h2⟩;exact y0m.mpr ⟨(k:Int),(p2 _).mpr (y0m.mpr ⟨k,y0z.mpr ⟨h1,decide_eq_true h2⟩,rfl⟩),by simp⟩
 ·rw[n3.at',e2]
theorem za9{A:LA}{m:Str}(h:m∈(["numbered","of_not","of_and","of_or","of_some_set","of_some_place","of_some","of_saying","behind","behind_form","behind_bare","at_end"]:List Str)):List.lookup m (fl3 (.ref A.pf) (.ref A.pn) (.ref A.ps))=none:=by
 have all:∀m∈(["numbered","of_not","of_and","of_or","of_some_set","of_some_place","of_some","of_saying","behind","behind_form","behind_bare","at_end"]:List Str),(m==("forms":Str))=false/\(m==("numbers":Str))=false/\(m==("steps":Str))=false:=by decide+kernel
 obtain⟨h1,h2,h3⟩:=all m h;exact zgn h1 h2 h3
abbrev s_Leftovers_of_not:Stmt:=inClass (top 37) 2
theorem sc_Leftovers_of_not:FnScope ["self","left","form"] ["self","left"] (defScope s_Leftovers_of_not):={}
include T in
theorem zs9(d:DfnM K cLeftovers "of_not" "Leftovers.of_not" s_Leftovers_of_not ["self","left"])(C_Leftovers_numbered:CalM P w K mg base 1 cLeftovers "numbered" ["self","form"] (zcg P w cLeftovers)):CalM P w K mg base 2 cLeftovers "of_not" ["self","left"] (zeg P w cLeftovers):=by
 refine d.cal sc_Leftovers_of_not (λvs H Q E h=>?_) (λf cdv A outer s H vs Q E hr h=>?_)
 ·obtain⟨A,l,fs,sts,rfl,_⟩:=h;rfl
 obtain⟨LA,l,fs,sts,rfl,L,hlim,hl,q⟩:=h;refine⟨_,(zab (zay (zag za3 (pv 1) (zbd (by rfl) T.g_NO) (nomark _)) (zac (zah (zbd (by rfl) T.g_YES))) zal) (zab (zay (zag za3 (pv 1) (zbd (by rfl) T.g_YES) (nomark _)) (zac (zah (zbd (by rfl) T.g_NO))) zal) (zab (zas (i:=2) sc_Leftovers_of_not.nd rfl (Or.inl rfl) (zap (zax K) (zce (pv 0) (by rfl)) (pv 1) (λ_ _=>rfl))) (zac (zah (zca (zag za3 (zap (zai K) (pv 2) zad (λ_ _=>rfl)) zam (nomark _)) (zap (zai K) (pv 2) zad (λ_ _=>rfl)) (zan C_Leftovers_numbered T.cl_Leftovers hr (by omega) (pv 0) (pa_c (zbf (pa_c zam (pa_c (pv 1) zaa))) zaa)))))))),?_⟩;refine za1 [some (.ref LA.p),some (nV l),none] rfl ?_;trivial;rcases notA hl with rfl|rfl|⟨m,n,rfl,em,eo⟩|⟨m,fm,rfl,em,nf,eo⟩
 ·exact iteT (q H (Nf.same0 L (Same.refl _) 1))
 ·exact iteF (iteT (q H (Nf.same0 L (Same.refl _) 1)))
 ·rw[eo]at q;obtain⟨rs,b,e6,el,nb⟩:=L.form em;have ev:H b=some (.tup [.str "not",nV n]):=fAt nb;refine itF (by omega) (itF (by omega) (fdm L.lg.e1 T.cl_Leftovers T.n_forms zbk (ixm (.of e6) (zak el) (ixm (.of ev) zat ⟨rfl,?_⟩))));exact itT rfl (ixm (.of ev) (zak (j:=1) rfl) (q H (Nf.same0 L (Same.refl _) 1)))
 ·rw[eo]at q;obtain⟨rs,b,e6,el,nb⟩:=L.form em;obtain⟨z,xs,ev,hz⟩:∃(z:Str) (xs:List V),H b=some (.tup (.str z::xs))/\¬z="not":=by
   have fa:=fAt nb;cases fm with
   |bare wd i j=>exact⟨_,_,fa,zgz (L.T.at_ _ _ em) _ (by decide+kernel)⟩
   |neg n=>exact absurd rfl (nf n)
   |two x y=>exact⟨_,_,fa,by decide+kernel⟩
   |set i ks=>obtain⟨c,e,_⟩:=fa;exact⟨_,_,e,by decide+kernel⟩
   |plc i u ks=>obtain⟨c,e,_⟩:=fa;exact⟨_,_,e,by decide+kernel⟩
  refine itF (by omega) (itF (by omega) (fdm L.lg.e1 T.cl_Leftovers T.n_forms zbk (ixm (.of e6) (zak el) (ixm (.of ev) zat ⟨rfl,?_⟩))));refine itF (λe=>hz (V.str.inj e)) (mtm L.lg.e1 (za9 (by decide+kernel)) (mkT λp1 H1 n1=>?_));exact⟨LA,p1,fs,sts,.neg (m+2),rfl,L.same n1.g,hlim,⟨_,n1.at',.cons rfl (.cons rfl .nil)⟩,⟨by omega,hl⟩,λH2 N=>q H2 (N.bef n1.g)⟩
abbrev s_Leftovers_of_and:Stmt:=inClass (top 37) 3
theorem zcx:FnScope ["self","one","other"] ["self","one","other"] (defScope s_Leftovers_of_and):={}
include T in
theorem zta(d:DfnM K cLeftovers "of_and" "Leftovers.of_and" s_Leftovers_of_and ["self","one","other"])(C_Leftovers_numbered:CalM P w K mg base 1 cLeftovers "numbered" ["self","form"] (zcg P w cLeftovers)):CalM P w K mg base 2 cLeftovers "of_and" ["self","one","other"] (zeh P w cLeftovers):=by
 refine d.cal zcx (λvs H Q E h=>?_) (λf cdv A outer s H vs Q E hr h=>?_)
 ·obtain⟨A,a,b,fs,sts,rfl,_⟩:=h;rfl
 obtain⟨LA,a,b,fs,sts,rfl,L,hlim,ha,hb,q⟩:=h;refine⟨_,(zab (zay (PW.pt (zb8 (zag za3 (pv 1) (zbd (by rfl) T.g_NO) (nomark _)) (zbv (zag za3 (pv 2) (zbd (by rfl) T.g_NO) (nomark _))))) (zac (zah (zbd (by rfl) T.g_NO))) zal) (zab (zay (PW.pt (zb8 (zag za3 (pv 1) (zbd (by rfl) T.g_YES) (nomark _)) (zbv (zag za3 (pv 1) (pv 2) (nomark _))))) (zac (zah (pv 2))) zal) (zab (zay (zag za3 (pv 2) (zbd (by rfl) T.g_YES) (nomark _)) (zac (zah (pv 1))) zal) (zac (zah (zan C_Leftovers_numbered T.cl_Leftovers hr (by omega) (pv 0) (pa_c (zbf (pa_c zam (pa_c (za0 (zh4 rfl) (by rfl) T.b_min boot_min (pa_c (pv 1) (pa_c (pv 2) zaa))) (pa_c (za0 (ze4 rfl) (by rfl) T.b_max boot_max (pa_c (pv 1) (pa_c (pv 2) zaa))) zaa)))) zaa))))))),?_⟩;refine za1 [some (.ref LA.p),some (nV a),some (nV b)] rfl ?_;trivial;unfold opAnd at q;by_cases a0:a=0
 ·rw[if_pos (.inl a0)]at q;exact itT (by omega) (q H (Nf.same0 L (Same.refl _) 1))
 refine itF (by omega) ?_;by_cases b0:b=0
 ·rw[if_pos (.inr b0)]at q;exact itT (by omega) (q H (Nf.same0 L (Same.refl _) 1))
 refine itF (by omega) ?_;rw[if_neg (λz=>z.elim a0 b0)]at q;by_cases a1:a=1
 ·rw[if_pos (.inl a1)]at q;exact itT (by omega) (q H (Nf.same0 L (Same.refl _) 1))
 refine itF (by omega) ?_;by_cases ab:a=b
 ·rw[if_pos (.inr ab)]at q;exact itT (by omega) (q H (Nf.same0 L (Same.refl _) 1))
 refine itF (by omega) ?_;rw[if_neg (λz=>z.elim a1 ab)]at q;by_cases b1:b=1
 ·rw[if_pos b1]at q;exact itT (by omega) (q H (Nf.same0 L (Same.refl _) 1))
 rw[if_neg b1]at q;refine itF (by omega) (mtm L.lg.e1 (za9 (by decide+kernel)) (mkT λp1 H1 n1=>?_));have e1:(if(b:Int)<a then(b:Int)else a)=((min a b:Nat):Int):=by split<;>omega
 have e2:(if(b:Int)>a then(b:Int)else a)=((max a b:Nat):Int):=by split<;>omega
 rw[e1,e2]at n1;exact⟨LA,p1,fs,sts,.two (min a b) (max a b),rfl,L.same n1.g,hlim,⟨_,n1.at',.cons rfl (.cons rfl (.cons rfl .nil))⟩,zl5 a0 a1 b0 b1 ab ha hb,λH2 N=>q H2 (N.bef n1.g)⟩
abbrev s_Leftovers_of_or:Stmt:=inClass (top 37) 4
theorem zc6:FnScope ["self","one","other"] ["self","one","other"] (defScope s_Leftovers_of_or):={}
include T in
theorem zu1(d:DfnM K cLeftovers "of_or" "Leftovers.of_or" s_Leftovers_of_or ["self","one","other"])(C_Leftovers_of_not:CalM P w K mg base 2 cLeftovers "of_not" ["self","left"] (zeg P w cLeftovers))(C_Leftovers_of_and:CalM P w K mg base 2 cLeftovers "of_and" ["self","one","other"] (zeh P w cLeftovers)):CalM P w K mg base 3 cLeftovers "of_or" ["self","one","other"] (zq6 P w cLeftovers):=by
 refine d.cal zc6 (λvs H Q E h=>?_) (λf cdv A outer s H vs Q E hr h=>?_)
 ·obtain⟨A,a,b,fs,sts,rfl,_⟩:=h;rfl
 obtain⟨LA,a,b,fs,sts,rfl,L,hlim,ha,hb,q⟩:=h;refine⟨_,(zac (zah (zan C_Leftovers_of_not T.cl_Leftovers hr (by omega) (pv 0) (pa_c (zan C_Leftovers_of_and T.cl_Leftovers hr (by omega) (pv 0) (pa_c (zan C_Leftovers_of_not T.cl_Leftovers hr (by omega) (pv 0) (pa_c (pv 1) zaa)) (pa_c (zan C_Leftovers_of_not T.cl_Leftovers hr (by omega) (pv 0) (pa_c (pv 2) zaa)) zaa))) zaa)))),?_⟩;refine za1 [some (.ref LA.p),some (nV a),some (nV b)] rfl ?_;trivial;refine mtm L.lg.e1 (za9 (by decide+kernel)) (mtm L.lg.e1 (za9 (by decide+kernel)) (mtm L.lg.e1 (za9 (by decide+kernel)) ⟨LA,a,fs,sts,rfl,L,by omega,ha,λH1 N1=>?_⟩));have x1:=zd8 L.T ha;have y1:=x1.1.n;have z1:=x1.1.len;refine mtm N1.lv.lg.e1 (za9 (by decide+kernel)) ⟨LA,b,_,sts,rfl,N1.lv,by omega,by omega,λH2 N2=>?_⟩;have x2:=zd8 (l:=b) x1.1.T (by omega);have y2:=x2.1.n;have z2:=x2.1.len;refine⟨LA,_,_,_,sts,rfl,N2.lv,by omega,by omega,x2.2,λH3 N3=>?_⟩;have x3:=zj9 (a:=(opNot fs a).2) x2.1.T (by omega) x2.2;have y3:=x3.1.n;exact⟨LA,_,_,sts,rfl,N3.lv,by omega,x3.2,λH4 N4=>q H4 (((N1.trans N2).trans N3).trans N4)⟩
theorem ztk{ks:List Nat}{n:Nat}:inV (V.int (n:Int)) (ks.map nV)=decide (n∈ks):=by
 induction ks with
 |nil=>rfl
 |cons k ks ih =>
  rw[y0h];show(((k:Int)==(n:Int))||inV _ (ks.map nV))=_;rw[ih,y1t];simp only[y25,beq_iff_eq,decide_eq_true_eq,y08];exact or_congr ⟨λz=>by omega,λz=>by omega⟩ Iff.rfl
theorem zi2{ks:List Nat}:(ks.map nV).all flatV=true:=by
 rw[y0w];intro v hv;obtain⟨_,_,rfl⟩:=y0m.mp hv;rfl
abbrev s_Leftovers_of_some_set:Stmt:=inClass (top 37) 5
theorem sc_Leftovers_of_some_set:FnScope ["self","bit","lefts","kept"] ["self","bit","lefts"] (defScope s_Leftovers_of_some_set):={}
include T in
theorem zs6(d:DfnM K cLeftovers "of_some_set" "Leftovers.of_some_set" s_Leftovers_of_some_set ["self","bit","lefts"])(C_worth_keeping:Cal P w K mg base 1 "worth_keeping" ["lefts"] zf5)(C_Leftovers_numbered:CalM P w K mg base 1 cLeftovers "numbered" ["self","form"] (zcg P w cLeftovers)):CalM P w K mg base 2 cLeftovers "of_some_set" ["self","bit","lefts"] (zf2 P w cLeftovers):=by
 refine d.cal sc_Leftovers_of_some_set (λvs H Q E h=>?_) (λf cdv A outer s H vs Q E hr h=>?_)
 ·obtain⟨A,a,b,ns,F,fs,sts,rfl,_⟩:=h;rfl
 obtain⟨LA,a,b,ns,F,fs,sts,rfl,L,hlim,ea,hn,hF,hFs,hns,q⟩:=h;refine⟨_,(zab (zas (i:=3) sc_Leftovers_of_some_set.nd rfl (Or.inl rfl) (zae C_worth_keeping hr (by omega) (by rfl) (pa_c (pv 2) zaa))) (zab (zay (zag (zbg K) (zbd (by rfl) T.g_YES) (pv 3) (by with_unfolding_all rfl)) (zac (zah (zbd (by rfl) T.g_YES))) zal) (zac (zah (zca (zj4 (pv 3) (λ_=>rfl)) (zan C_Leftovers_numbered T.cl_Leftovers hr (by omega) (pv 0) (pa_c (zbf (pa_c zam (pa_c (pv 1) (pa_c (pv 3) zaa)))) zaa)) (zbd (by rfl) T.g_NO)))))),?_⟩;refine za1 [some (.ref LA.p),some (nV (2^b)),some (.ref a),none] rfl ?_;trivial;refine⟨a,ns,F,rfl,ea,hn,hF,hFs,λt ks H1 kp g1 et=>?_⟩;have q:=q ks;unfold opSet at q;have L1:=L.same g1;refine⟨t,rfl,_,.inr (.of et),rfl,zi2,?_⟩;rw[show inV (V.int 1) (ks.map nV)=decide (1∈ks)from ztk];by_cases h1:1∈ks
 ·rw[if_pos h1]at q;exact itT h1 (q H1 kp (Nf.same0 L g1 1))
 rw[if_neg h1]at q;refine itF h1 ⟨_,.inr (.inl ⟨_,.of et,rfl⟩),?_⟩;cases ks with
 |nil=>exact iteF (q H1 kp (Nf.same0 L g1 1))
 |cons k ks =>
  rw[if_neg (by simp)]at q;refine iteT (mtm L1.lg.e1 (za9 (by decide+kernel)) (mkT λp2 H2 n2=>?_));exact⟨LA,p2,fs,sts,.set b (k::ks),rfl,L1.same n2.g,hlim,zqj n2.at' (n2.g _ _ et),⟨kp.rise,λx hx=>⟨kp.two h1 x hx,hns x ((kp.iff x).mp hx).1⟩⟩,λH3 N=>q H3 kp (N.bef (g1.trans n2.g))⟩
abbrev s_Leftovers_of_some_place:Stmt:=inClass (top 37) 6
theorem sc_Leftovers_of_some_place:FnScope ["self","bit","unplaced","lefts","kept"] ["self","bit","unplaced","lefts"] (defScope s_Leftovers_of_some_place):={}
include T in
theorem zs7(d:DfnM K cLeftovers "of_some_place" "Leftovers.of_some_place" s_Leftovers_of_some_place ["self","bit","unplaced","lefts"])(C_worth_keeping:Cal P w K mg base 1 "worth_keeping" ["lefts"] zf5)(C_Leftovers_numbered:CalM P w K mg base 1 cLeftovers "numbered" ["self","form"] (zcg P w cLeftovers)):CalM P w K mg base 2 cLeftovers "of_some_place" ["self","bit","unplaced","lefts"] (zf3 P w cLeftovers):=by
 refine d.cal sc_Leftovers_of_some_place (λvs H Q E h=>?_) (λf cdv A outer s H vs Q E hr h=>?_)
 ·obtain⟨A,a,b,u,ns,F,fs,sts,rfl,_⟩:=h;rfl
 obtain⟨LA,a,b,u,ns,F,fs,sts,rfl,L,hlim,ea,hn,hF,hFs,hu,hns,q⟩:=h;refine⟨_,(zab (zas (i:=4) sc_Leftovers_of_some_place.nd rfl (Or.inl rfl) (zae C_worth_keeping hr (by omega) (by rfl) (pa_c (pv 3) zaa))) (zab (zay (zag (zbg K) (zbd (by rfl) T.g_YES) (pv 4) (by with_unfolding_all rfl)) (zac (zah (zbd (by rfl) T.g_YES))) zal) (zab (zay (PW.pt (zdp (zag za3 (pv 2) (zbd (by rfl) T.g_NO) (nomark _)) (zcy (zb3 (zj4 (pv 4) (λ_=>rfl)))))) (zac (zah (zbd (by rfl) T.g_NO))) zal) (zac (zah (zan C_Leftovers_numbered T.cl_Leftovers hr (by omega) (pv 0) (pa_c (zbf (pa_c zam (pa_c (pv 1) (pa_c (pv 2) (pa_c (pv 4) zaa))))) zaa))))))),?_⟩;refine za1 [some (.ref LA.p),some (nV (2^b)),some (nV u),some (.ref a),none] rfl ?_;trivial;refine⟨a,ns,F,rfl,ea,hn,hF,hFs,λt ks H1 kp g1 et=>?_⟩;have q:=q ks;unfold opPlc at q;have L1:=L.same g1;refine⟨t,rfl,_,.inr (.of et),rfl,zi2,?_⟩;rw[show inV (V.int 1) (ks.map nV)=decide (1∈ks)from ztk];by_cases h1:1∈ks
 ·rw[if_pos h1]at q;exact itT h1 (q H1 kp (Nf.same0 L g1 1))
 rw[if_neg h1]at q;refine itF h1 ?_;have fin:¬(u=0/\ks=[])->∃dx fs,H1 LA.p=some (HO.ins cLeftovers dx fs)/\List.lookup (Str.ofString "numbered") fs=none/\[V.str (Str.ofString "some place"),nV (2^b),nV u,V.ref t].length<=ie/\∀(p:Addr) (H':Hp),New H1 p (HO.tup [V.str (Str.ofString "some place"),nV (2^b),nV u,V.ref t]) H'->zcg P w cLeftovers [V.ref LA.p,V.ref p] H' Q E0:=λhne=>by
  rw[if_neg hne]at q;exact mtm L1.lg.e1 (za9 (by decide+kernel)) (mkT λp2 H2 n2=>⟨LA,p2,fs,sts,.plc b u ks,rfl,L1.same n2.g,hlim,zqk n2.at' (n2.g _ _ et),⟨hu,kp.rise,λx hx=>⟨kp.two h1 x hx,hns x ((kp.iff x).mp hx).1⟩⟩,λH3 N=>q H3 kp (N.bef (g1.trans n2.g))⟩)
 by_cases h0:u=0
 ·refine itT (by omega) ⟨_,.inr (.inl ⟨_,.of et,rfl⟩),?_⟩;cases ks with
  |nil=>rw[if_pos ⟨h0,rfl⟩]at q;exact iteT (q H1 kp (Nf.same0 L g1 1))
  |cons k ks=>exact iteF (fin (by simp))
 ·exact itF (by omega) (fin λz=>h0 z.1)
abbrev s_Leftovers_of_some:Stmt:=inClass (top 37) 7
theorem zcv:FnScope ["self","name","bit","left"] ["self","name","bit","left"] (defScope s_Leftovers_of_some):={}
include T in
theorem zp8(d:DfnM K cLeftovers "of_some" "Leftovers.of_some" s_Leftovers_of_some ["self","name","bit","left"])(C_is_place:Cal P w K mg base 2 "is_place" ["thing"] (ze8 SMALL))(C_Leftovers_of_some_place:CalM P w K mg base 2 cLeftovers "of_some_place" ["self","bit","unplaced","lefts"] (zf3 P w cLeftovers))(C_Leftovers_of_some_set:CalM P w K mg base 2 cLeftovers "of_some_set" ["self","bit","lefts"] (zf2 P w cLeftovers)):CalM P w K mg base 3 cLeftovers "of_some" ["self","name","bit","left"] (zjs P w cLeftovers):=by
 refine d.cal zcv (λvs H Q E h=>?_) (λf cdv A outer s H vs Q E hr h=>?_)
 ·obtain⟨A,z,b,l,fs,sts,rfl,_⟩:=h;rfl
 obtain⟨LA,z,b,l,fs,sts,rfl,L,hlim,hz,hl,q⟩:=h;refine⟨_,(zac (zah (zca (zbe (zae C_is_place hr (by omega) (by rfl) (pa_c (pv 1) zaa))) (zan C_Leftovers_of_some_place T.cl_Leftovers hr (by omega) (pv 0) (pa_c (pv 2) (pa_c (pv 3) (pa_c (zaq zaa) zaa)))) (zan C_Leftovers_of_some_set T.cl_Leftovers hr (by omega) (pv 0) (pa_c (pv 2) (pa_c (zaq (pa_c (pv 3) zaa)) zaa)))))),?_⟩;refine za1 [some (.ref LA.p),some (.str z),some (nV (2^b)),some (nV l)] rfl ?_;trivial;refine⟨_,_,rfl,.str _,(λz' ez=>by cases ez;omega),λH1 g1=>⟨_,rfl,?_⟩⟩;have L1:=L.same g1;unfold opSome lefS at q;show if isPl z=true then _ else _
 cases hp:isPl z with
 |true =>
  rw[hp]at q;exact iteT (mtm L1.lg.e1 (za9 (by decide+kernel)) (mkT λp2 H2 n2=>⟨LA,p2,b,l,[],[],fs,sts,rfl,L1.same n2.g,hlim,n2.at',by decide,by decide,(λk hk=>by cases hk),hl,(λk hk=>by cases hk),λks H3 kp N=>q ks H3 kp (N.bef (g1.trans n2.g))⟩))
 |false =>
  rw[hp]at q;exact iteF (mtm L1.lg.e1 (za9 (by decide+kernel)) (mkT λp2 H2 n2=>⟨LA,p2,b,[l],[l],fs,sts,rfl,L1.same n2.g,hlim,n2.at',by simp,by simp,(λk hk _=>hk),(λk hk=>by rw[y09.mp hk];exact hl),λks H3 kp N=>q ks H3 kp (N.bef (g1.trans n2.g))⟩))
theorem zk6(p:iq R xs ys)(q:iq R xs' ys'):iq R (xs++xs') (ys++ys'):=by
 induction p with
 |nil=>exact q
 |cons h _ ih=>exact .cons h ih
theorem zk5{α β γ:Type}{R:α->γ->Prop}{f:β->γ}{xs:List α}{ys:List β}(p:iq (λx y=>R x (f y)) xs ys):iq R xs (ys.map f):=by
 induction p with
 |nil=>exact .nil
 |cons h _ ih=>exact .cons h ih
abbrev s_law_choices:Stmt:=top 56
theorem sc_law_choices:FnScope ["_law_name","_law_size","_law_found","_law_place"] ["_law_name","_law_size"] (defScope s_law_choices):={}
include T in
theorem ztb(d:Dfn K mg "_law_choices" s_law_choices ["_law_name","_law_size"]):Cal P w K mg base 1 "_law_choices" ["_law_name","_law_size"] zmi:=by
 refine d.cal sc_law_choices (λvs H Q E h=>?_) (λf cdv A outer s H vs Q E hr h=>?_)
 ·obtain⟨z,n,rfl,_⟩:=h;rfl
 obtain⟨z,n,rfl,hz,h14,h6,q⟩:=h;refine⟨_,(zab (zay (zd4 zbq zbq zam (zap zhv (pv 0) zad (λ_ _=>rfl)) zam) (zac (zah (za2 ["_law_place"] [] (CompOk.of rfl (by rfl) (by rfl)) (by rfl) (zbo (by rfl) T.b_range (pa_c (pv 1) zaa)) (λ_ _ _ _ _=>(zau (i:=0) (show List.Nodup (["_law_place"]:List Str) by decide+kernel) (by rfl) (Or.inl (by rfl)))) (λ_ _ _ _ _=>zbp) (λ_ _ _ _ _=>(zaq (pa_c (pv 0) zaa)))))) zal) (zab (zas (i:=2) sc_law_choices.nd rfl (Or.inl rfl) (zaq (pa_c (zaq zaa) zaa))) (zab (zck PassesOwn.never rfl (zbo (by rfl) T.b_range (pa_c (pv 1) zaa)) (zau (i:=3) sc_law_choices.nd (by rfl) (Or.inr (by rfl))) (zac (zas (i:=2) sc_law_choices.nd rfl (Or.inl rfl) (zav zbj (pv 2) (za2 ["_law_some"] [(3,"_law_place")] (CompOk.of rfl (by rfl) (by rfl)) (by rfl) (zbb K (pv 2)) (λ_ _ _ _ _=>(zau (i:=0) (show List.Nodup (["_law_some","_law_place"]:List Str) by decide+kernel) (by rfl) (Or.inl (by rfl)))) (λ_ _ _ _ _=>zbp) (λ_ _ _ _ _=>(zav zbj (pv 0) (zaq (pa_c (pv 1) zaa))))))))) (zac (zah (pv 2)))))),?_⟩;refine za1 [some (.str z),some (nV n),none,none] rfl ?_;trivial;rcases hz with hz|hz
 ·obtain⟨h1,h2,h3,h4⟩:=ltr11 hz;have hm:chos z n=(List.range n).map λp=>[p]:=by unfold chos;rw[(pl11 hz).1,if_pos rfl]
  rw[hm]at q;refine⟨zaf (by omega),_,h1,?_⟩;rw[h2,h3];refine iteT (iteT ⟨by omega,by omega,?_⟩);rw[y0l];refine zq4 (λσ=>∃v,σ=[v]) (λl=>[nV l]) (by omega) ⟨_,rfl⟩ ?_ ?_
  ·rintro D3 i3 zs σ H4 hi3 gg hD3 hD3' hl3 hy3 ⟨v,rfl⟩;trivial;refine mkT λp6 H6 n6=>?_;refine ztt (by omega) hi3 hD3 hD3' hl3 hy3 gg n6.g ⟨_,rfl⟩ (λe=>?_) ?_
   ·have:=n6.nil;rw[e,hD3']at this;cases this
   ·rw[n6.at',y2r]
  ·intro D3 zs H4 hD3 g4 eD3 hl3 hy3;exact q D3 zs H4 g4 eD3 (zdq hl3 λj y hj=>let⟨c,e,_,ec⟩:=hy3 j y hj;⟨c,e,ec⟩)
 ·obtain⟨h1,h2,h4⟩:=ltrS11 hz;refine⟨zaf (by omega),_,h1,?_⟩;rw[h2];refine iteF ?_;have hpl:=(st11 hz).1;have hn6:=h6 hz;have hm:chos z n=subs n:=by unfold chos;rw[hpl,if_neg (by decide)]
  rw[hm]at q;refine mkT λp0 H0 n0=>mkT λp1 H1 n1=>⟨by omega,by omega,?_⟩;rw[y0l];refine zda (λk σ H'=>Same H H'/\∃p rs v3,σ=[some (.str z),some (nV n),some (.ref p),v3]/\k<=n/\H' p=some (.lst rs)/\iq (LnL H') rs (subs k)) ⟨n0.g.trans n1.g,p1,_,none,rfl,y14 _,n1.at',.cons ⟨p0,rfl,n1.g _ _ n0.at'⟩ .nil⟩ ?_ ?_
  ·rintro k σ H' hk ⟨g,p,rs,v3,rfl,_,ep,pr⟩;have hlen:rs.length<=64:=by
    rw[SS.Paired.len pr,zpe];exact y0y (y11 (by decide) (show k<=6 by omega)) (by decide)
   trivial;rw[y2r];refine⟨⟨_,.of ep⟩,?_⟩;refine ze3 (K:=K) (a:=p) (xs:=rs) (λD i ys σ H2=>Same H' H2/\(∃v,σ=[v,some (nV k)])/\iq (λy cs=>∃a,y=.ref a/\a≠D/\H2 a=some (.lst ((cs++[k]).map nV))) ys ((subs k).take i)) (zaf (by omega)) (λD hD=>⟨za8 hD _,⟨_,rfl⟩,.nil⟩) (λD i ys σ H2 hD hi hH z=>.of (z.1 _ _ ep)) ?_ ?_
   ·rintro D i ys σ H2 x hD hi hx hH hl ⟨g2,⟨v,rfl⟩,py⟩;obtain⟨cs,ecs,ax,rfl,eax⟩:=SS.Paired.at pr hx;have hcl:cs.length<=64:=by
     have h1:=y0j ecs;obtain⟨pp,rfl⟩:=zd1 _ _ h1;have:=y1b pp (List.range k);rw[y1p]at this;omega
    trivial;refine mkT λp5 H5 n5=>⟨_,n5.g _ _ (g2 _ _ eax),_,n5.at',zaf (by rw[y00];simp;omega),λp6 H6 n6=>?_⟩;have g26:=n5.g.trans n6.g;refine cstep (zaf (by omega)) hi (g26 _ _ hH) hl ⟨(g2.trans g26).wr hD _,⟨_,rfl⟩,?_⟩;rw[y1i,ecs,y2d];have nD6:p6≠D:=(zao (n5.g _ _ hH) n6.nil).symm;refine SM.Paired.snoc (L2.Paired.mapP py λy c ⟨a,e1,e2,e3⟩=>⟨a,e1,e2,by rw[zar e2];exact g26 _ _ e3⟩) ⟨p6,rfl,nD6,by rw[zar nD6,n6.at',y0r];rfl⟩
   ·rintro D ys σ H2 hD hH hl ⟨g2,_,py⟩;rw[SS.Paired.len pr,y0o (y01 _)]at py;refine⟨D,rfl,_,g2 _ _ ep,_,hH,zaf (by omega),λp7 H7 n7=>⟨g.trans (g2.trans n7.g),by omega,_,n7.at',?_⟩⟩;unfold subs;refine zk6 (L2.Paired.mapP pr λ_ _ z=>z.same (g2.trans n7.g)) ?_;exact zk5 (L2.Paired.mapP py λy c ⟨a,e1,_,e3⟩=>⟨a,e1,n7.g _ _ e3⟩)
  ·rintro σ H' ⟨g,p,rs,v3,rfl,_,ep,pr⟩;trivial;exact q p rs H' g ep pr
theorem map_cast_inj:∀{xs ys:List Nat},xs.map (λ(x:Nat)=>(x:Int))=ys.map (λ(x:Nat)=>(x:Int))->xs=ys
 |[],[],_=>rfl
 |[],_::_,h=>by simp at h
 |_::_,[],h=>by simp at h
 |x::xs,y::ys,h=>by
  rw[y0h,y0h]at h;injection h with h1 h2
  rw[map_cast_inj h2,show x=y by omega]
abbrev s_law_bare_holds:Stmt:=top 57
theorem sc_law_bare_holds:FnScope ["_law_saying","_law_stand_here","_law_one","_law_other"] ["_law_saying","_law_stand_here"] (defScope s_law_bare_holds):={}
include T in
theorem ztd(d:Dfn K mg "_law_bare_holds" s_law_bare_holds ["_law_saying","_law_stand_here"]):Cal P w K mg base 1 "_law_bare_holds" ["_law_saying","_law_stand_here"] zmk:=by
 refine d.cal sc_law_bare_holds (λvs H Q E h=>?_) (λf cdv A outer s H vs Q E hr h=>?_)
 ·obtain⟨v,d,wd,n,m,tl,row,rfl,_⟩:=h;rfl
 obtain⟨v,dd,wd,n,m,tl,row,rfl,r,hw,hn,hm,wf,C,h14,⟨kvs,ed,hkl,hk⟩,q⟩:=h;have hu:=zex hr 8 (by decide);refine⟨_,(zab (zas (i:=2) sc_law_bare_holds.nd rfl (Or.inl rfl) (zd6 hu (pv 1) (zap (zai K) (pv 0) zad (λ_ _=>rfl)) (λ_ _=>rfl))) (zab (zas (i:=3) sc_law_bare_holds.nd rfl (Or.inr rfl) (zd6 hu (pv 1) (zap (zai K) (pv 0) zad (λ_ _=>rfl)) (λ_ _=>rfl))) (zab (zay (PW.pt (zb8 (zag za3 (zap (zai K) (pv 0) zad (λ_ _=>rfl)) zam (nomark _)) (zbv (zag za3 (zap (zai K) (pv 0) zad (λ_ _=>rfl)) zam (nomark _))))) (zac (zah (za0 (zbc K rfl) (by rfl) T.b_all jb (pa_c (za2 ["_law_place"] [(3,"_law_other")] (CompOk.of rfl (by rfl) (by rfl)) (by rfl) (zbb K (pv 2)) (λ_ _ _ _ _=>(zau (i:=0) (show List.Nodup (["_law_place","_law_other"]:List Str) by decide+kernel) (by rfl) (Or.inl (by rfl)))) (λ_ _ _ _ _=>zbp) (λ_ _ _ _ _=>(za5 (zbg K) (pv 0) (pv 1) (by with_unfolding_all rfl)))) zaa)))) zal) (zab (zay (zag za3 (zap (zai K) (pv 0) zad (λ_ _=>rfl)) zam (nomark _)) (zac (zah (za5 (zs2 K hu) (pv 2) (pv 3) (nomark _)))) zal) (zab (zay (zag za3 (zap (zai K) (pv 0) zad (λ_ _=>rfl)) zam (nomark _)) (zac (zah (za5 zp1 (zap (zax K) (pv 2) zad (λ_ _=>rfl)) (zap (zax K) (pv 3) zad (λ_ _=>rfl)) (nomark _)))) zal) (zac (zah (za5 za3 (zap (zax K) (pv 2) zad (λ_ _=>rfl)) (zav zcl (zap (zax K) (pv 3) zad (λ_ _=>rfl)) zad) (nomark _))))))))),?_⟩;refine za1 [some v,some (.ref dd),none,none] rfl ?_;trivial;cases r with
 |bare hw' e =>
 rename_i a;obtain⟨a1,v1,e1⟩:=hk n hn;obtain⟨a2,v2,e2⟩:=hk m hm;have d1:DGet H dd (.str n) (some (.ref a1)):=by rw[←v1];exact DGet.k (k:=.inr n) ed
 have d2:DGet H dd (.str m) (some (.ref a2)):=by rw[←v2];exact DGet.k (k:=.inr m) ed
 have hw1:∀k,(wth row k).length<=14:=λk=>by
  unfold wth;have:=y1b (λx=>bit (row.getD x 0) k) (List.range row.length);rw[y1p]at this;omega
 have nn:∀z:Str,¬wd=z->¬V.str wd=V.str z:=λz h e=>h (V.str.inj e);refine ixm (.of e) (zak (j:=1) rfl) ⟨_,d1,ixm (.of e) (zak (j:=2) rfl) ⟨_,d2,ixm (.of e) zat ⟨rfl,?_⟩⟩⟩;have al:(wd="in"\/wd="within")->(∃xs,SqL K H a1 xs)/\cBody [Str.ofString "_law_place"] [(3,Str.ofString "_law_other")] (gName 0) tYes (tOp (rIn K false) (tVar 0) (tVar 1)) [some (V.ref a),some (V.ref dd),some (.ref a1),some (.ref a2)] (λx H1=>∃p,x=V.ref p/\∃x,SqL K H1 p (List.map V.bl x)/\Q (V.bl (x.all id)) H1) (Itl K a1) H:=λhwd=>by
  refine⟨⟨_,.of e1⟩,zja (K:=K) (a:=a1) (xs:=(wth row (tl.idxOf n)).map nV) (λσ=>∃v,σ=[v,some (.ref a2)]) (λv=>.bl (inV v ((wth row (tl.idxOf m)).map nV))) (by rw[y00];have:=hw1 (tl.idxOf n);omega) (.of e1) ⟨_,rfl⟩ ?_ ?_⟩
  ·rintro D i σ H3 x hi hm' hx gg hD hD' ⟨v,rfl⟩;obtain⟨k,mk,rfl⟩:=y0m.mp hm';trivial;exact⟨_,.inl (.of (gg _ _ e2)),rfl,zi2,zgq (by rw[y00];have:=hw1 (tl.idxOf n);omega) hx hD hD' gg ⟨_,rfl⟩ rfl⟩
  intro D H3 hD g3 eD;have eD':H3 D=some (.lst (((wth row (tl.idxOf n)).map λ(k:Nat)=>decide (k∈wth row (tl.idxOf m))).map V.bl)):=by
   rw[eD,y0x,y0x];congr 2;refine y2t λk _=>?_;show V.bl (inV (V.int (k:Int)) _)=_;rw[ztk];rfl
  refine⟨D,rfl,_,.of eD',?_⟩;have:=q H3 g3;unfold SM.due at this;rw[if_pos hwd]at this;rw[y2c];exact this
 have at0:∀{k:Nat},(wth row k).length=1->((wth row k).map nV)[0]?=some (nV ((wth row k).getD 0 0)):=λ{k} h=>by
  match wth row k,h with
  |[x],_=>rfl
 have two:¬wd="in"->¬wd="within"->(wth row (tl.idxOf n)).length=1/\(wth row (tl.idxOf m)).length=1:=λh1 h2=>by
  unfold wfB at wf;rw[if_neg h1,if_neg h2,y04]at wf;exact⟨C.ft n hn wf.1,C.ft m hm wf.2⟩
 have e1':∀k,(wth row k).map nV=((wth row k).map λ(x:Nat)=>(x:Int)).map V.int:=λk=>by rw[y0x];rfl
 simp only[SM.rowWords,y08,y0q,or_false]at hw;rcases hw with rfl|rfl|rfl|rfl|rfl
 ·exact itT rfl ⟨a1,rfl,al (.inl rfl)⟩
 ·refine itF (nn _ (by decide+kernel)) (ixm (.of e) zat ⟨rfl,itF (nn _ (by decide+kernel)) (ixm (.of e) zat ⟨rfl,itT rfl ?_⟩)⟩);refine⟨a1,rfl,a2,rfl,_,.of (by rw[e1,e1']),_,.of (by rw[e2,e1']),?_⟩;have:=q H (Same.refl _);unfold SM.due at this;rw[if_neg (by decide+kernel),if_pos rfl]at this;rw[decide_eq_decide.mpr (show(wth row (tl.idxOf n)).map (λ(x:Nat)=>(x:Int))=(wth row (tl.idxOf m)).map (λ(x:Nat)=>(x:Int))↔wth row (tl.idxOf n)=wth row (tl.idxOf m)from⟨λh=>map_cast_inj h,λh=>by rw[h]⟩)];exact this
 ·exact itF (nn _ (by decide+kernel)) (ixm (.of e) zat ⟨rfl,itT rfl ⟨a1,rfl,al (.inr rfl)⟩⟩)
 ·refine itF (nn _ (by decide+kernel)) (ixm (.of e) zat ⟨rfl,itF (nn _ (by decide+kernel)) (ixm (.of e) zat ⟨rfl,itF (nn _ (by decide+kernel)) (ixm (.of e) zat ⟨rfl,itT rfl ?_⟩)⟩)⟩);obtain⟨o1,o2⟩:=two (by decide+kernel) (by decide+kernel);refine ixm (.of e1) (zak (j:=0) (at0 o1)) (ixm (.of e2) (zak (j:=0) (at0 o2)) ⟨_,rfl,_,rfl,?_⟩);have:=q H (Same.refl _);unfold SM.due at this;rw[if_neg (by decide+kernel),if_neg (by decide+kernel),if_pos rfl]at this;rw[decide_eq_decide.mpr (show(((wth row (tl.idxOf n)).getD 0 0:Nat):Int)<(((wth row (tl.idxOf m)).getD 0 0:Nat):Int)↔_ from Int.ofNat_lt)];exact this
 ·refine itF (nn _ (by decide+kernel)) (ixm (.of e) zat ⟨rfl,itF (nn _ (by decide+kernel)) (ixm (.of e) zat ⟨rfl,itF (nn _ (by decide+kernel)) (ixm (.of e) zat ⟨rfl,itF (nn _ (by decide+kernel)) ?_⟩)⟩)⟩);obtain⟨o1,o2⟩:=two (by decide+kernel) (by decide+kernel);refine ixm (.of e1) (zak (j:=0) (at0 o1)) (ixm (.of e2) (zak (j:=0) (at0 o2)) ⟨_,rfl,rfl,?_⟩);have:=q H (Same.refl _);unfold SM.due at this;rw[if_neg (by decide+kernel),if_neg (by decide+kernel),if_neg (by decide+kernel)]at this;rw[decide_eq_decide.mpr (show nV ((wth row (tl.idxOf n)).getD 0 0)=V.int ((((wth row (tl.idxOf m)).getD 0 0:Nat):Int)-1)↔(wth row (tl.idxOf n)).getD 0 0+1=(wth row (tl.idxOf m)).getD 0 0 from⟨λh=>by injection h with h;omega,λh=>by show V.int _=_;congr 1;omega⟩)];exact this
abbrev s_law_holds:Stmt:=top 58
theorem sc_law_holds:FnScope ["_law_saying","_law_size","_law_stand_here","_law_word","_law_places","_law_inner"] ["_law_saying","_law_size","_law_stand_here"] (defScope s_law_holds):={}
theorem znl(T:Txt K mg w tw rw fa cLeftovers)(d:Dfn K mg "_law_holds" s_law_holds ["_law_saying","_law_size","_law_stand_here"])(C_law_choices:Cal P w K mg base 1 "_law_choices" ["_law_name","_law_size"] zmi)(C_law_bare_holds:Cal P w K mg base 1 "_law_bare_holds" ["_law_saying","_law_stand_here"] zmk):∀lv,Cal P w K mg base (2+lv) "_law_holds" ["_law_saying","_law_size","_law_stand_here"] (zmf lv)
 |0=>(d.never λvs H Q E z=>by obtain⟨_,_,s,_,_,_,_,_,_,_,h,_⟩:=z;cases s<;>exact absurd h (by simp[Sy.depth])).mono (by omega)
 |lv+1=>by
  have C_law_holds:=znl T d C_law_choices C_law_bare_holds lv;refine d.cal sc_law_holds (λvs H Q E h=>?_) (λf cdv A outer s H vs Q E hr h=>?_)
  ·obtain⟨v,d,s,tl,row,dp,g,rfl,_⟩:=h;rfl
  obtain⟨v,dd,sy,tl,row,dp,g,rfl,r,D,hd,C,h14,hg,env,q⟩:=h;have hu:=zex hr 8 (by omega);change Room (2+lv) _ at hr;refine⟨_,(zab (zas (i:=3) sc_law_holds.nd rfl (Or.inl rfl) (zap (zai K) (pv 0) zad (λ_ _=>rfl))) (zab (zay (zag za3 (pv 3) zam (nomark _)) (zac (zah (zm7 (zae C_law_holds hr (by omega) (by rfl) (pa_c (zap (zai K) (pv 0) zad (λ_ _=>rfl)) (pa_c (pv 1) (pa_c (pv 2) zaa))))))) zal) (zab (zay (zag za3 (pv 3) zam (nomark _)) (zac (zah (zb4 (zae C_law_holds hr (by omega) (by rfl) (pa_c (zap (zai K) (pv 0) zad (λ_ _=>rfl)) (pa_c (pv 1) (pa_c (pv 2) zaa)))) (zb1 (zae C_law_holds hr (by omega) (by rfl) (pa_c (zap (zai K) (pv 0) zad (λ_ _=>rfl)) (pa_c (pv 1) (pa_c (pv 2) zaa)))))))) zal) (zab (zay (zag za3 (pv 3) zam (nomark _)) (zac (zah (zun (zae C_law_holds hr (by omega) (by rfl) (pa_c (zap (zai K) (pv 0) zad (λ_ _=>rfl)) (pa_c (pv 1) (pa_c (pv 2) zaa)))) (zb1 (zae C_law_holds hr (by omega) (by rfl) (pa_c (zap (zai K) (pv 0) zad (λ_ _=>rfl)) (pa_c (pv 1) (pa_c (pv 2) zaa)))))))) zal) (zab (zay (zag (zbr K) (pv 3) (zbf (pa_c zam (pa_c zam zaa))) (by with_unfolding_all rfl)) (zac (zah (zae C_law_bare_holds hr (by omega) (by rfl) (pa_c (pv 0) (pa_c (pv 2) zaa))))) zal) (zab (zck PassesOwn.never rfl (zbb K (zae C_law_choices hr (by omega) (by rfl) (pa_c (zap (zai K) (pv 0) zad (λ_ _=>rfl)) (pa_c (pv 1) zaa)))) (zau (i:=4) sc_law_holds.nd (by rfl) (Or.inl (by rfl))) (zab (zas (i:=5) sc_law_holds.nd rfl (Or.inl rfl) (zbx zh8 (by rfl) T.b_dict boot_dict (pa_c (pv 2) zaa))) (zab (zgd hu (pv 5) (zap (zai K) (pv 0) zad (λ_ _=>rfl)) (pv 4) rfl) (zac (zay (zag za3 (zae C_law_holds hr (by omega) (by rfl) (pa_c (zap (zai K) (pv 0) zad (λ_ _=>rfl)) (pa_c (pv 1) (pa_c (pv 5) zaa)))) (za5 za3 (pv 3) zam (nomark _)) (nomark _)) (zac (zah (za5 za3 (pv 3) zam (nomark _)))) zal))))) (zac (zah (za5 za3 (pv 3) zam (nomark _)))))))))),?_⟩;refine za1 [some v,some (nV row.length),some (.ref dd),none,none,none] rfl ?_;trivial;cases r with
  |bare hw e =>
   rename_i a wd n m;cases D with
   |bare hw' hn hm wf =>
   have nn:∀z:Str,z∈(["not","and","or","some","all"]:List Str)->¬V.str wd=V.str z:=λz hz e0=>by
    have all:∀a∈SM.rowWords,∀z∈(["not","and","or","some","all"]:List Str),¬a=z:=by decide+kernel
    exact all wd hw' z hz (V.str.inj e0)
   refine ixm (.of e) zat ⟨rfl,itF (nn _ (by decide+kernel)) ⟨rfl,itF (nn _ (by decide+kernel)) ⟨rfl,itF (nn _ (by decide+kernel)) (mkT λp1 H1 n1=>⟨_,.inr (.of n1.at'),rfl,rfl,?_⟩)⟩⟩⟩;have hin:inV (V.str wd) [V.str "some",V.str "all"]=false:=by
    have all:∀a∈SM.rowWords,inV (V.str a) [V.str "some",V.str "all"]=false:=by decide+kernel
    exact all wd hw'
   rw[hin];refine iteT ⟨.ref a,dd,wd,n,m,tl,row,rfl,.bare hw (n1.g _ _ e),hw',hn,hm,wf,C,h14,env.same n1.g,λH2 g2=>q _ H2 (n1.g.trans g2) (C.due hw' hn hm wf)⟩
  |neg e r1 =>
   rename_i a x s1;cases D with
   |neg D1 =>
   have hd1:s1.depth+1<=lv+1:=hd;exact ixm (.of e) zat ⟨rfl,itT rfl (ixm (.of e) (zak (j:=1) rfl) ⟨x,dd,s1,tl,row,_,g,rfl,r1,D1,by omega,C,h14,hg,env,λb H1 g1 hb=>⟨b,rfl,q _ H1 g1 (by show _ ↔ ¬hs tl s1 row;rw[←hb];cases b<;>decide)⟩⟩)⟩
  |two hw e r1 r2 =>
   rename_i a wd x y s1 s2;cases D with
   |two hw' D1 D2 =>
   have hd1:max s1.depth s2.depth+1<=lv+1:=hd;rcases y08.mp hw with rfl|hw1
   ·refine ixm (.of e) zat ⟨rfl,itF (by decide+kernel) ⟨rfl,itT rfl (ixm (.of e) (zak (j:=1) rfl) ⟨x,dd,s1,tl,row,_,g,rfl,r1,D1,by omega,C,h14,hg,env,λb H1 g1 hb=>⟨b,rfl,?_⟩⟩)⟩⟩;have hss:∀t:Bool,(t=true↔hs tl s1 row/\hs tl s2 row)->(t=true↔hs tl (.two "and" s1 s2) row):=λt h=>by show _↔(if _ then _ else _);rw[if_pos rfl];exact h
    cases b with
    |false=>exact iteF (q _ H1 g1 (hss _ (iff_of_false (by decide) λz=>by have:=hb.mpr z.1;cases this)))
    |true=>exact iteT (ixm (.of (g1 _ _ e)) (zak (j:=2) rfl) ⟨y,dd,s2,tl,row,_,g,rfl,r2.same g1,D2,by omega,C,h14,hg,env.same g1,λb2 H2 g2 hb2=>q _ H2 (g1.trans g2) (hss _ (by rw[hb2];exact⟨λz=>⟨hb.mp rfl,z⟩,λz=>z.2⟩))⟩)
   ·obtain rfl:=y09.mp hw1;refine ixm (.of e) zat ⟨rfl,itF (by decide+kernel) ⟨rfl,itF (by decide+kernel) ⟨rfl,itT rfl (ixm (.of e) (zak (j:=1) rfl) ⟨x,dd,s1,tl,row,_,g,rfl,r1,D1,by omega,C,h14,hg,env,λb H1 g1 hb=>⟨b,rfl,?_⟩⟩)⟩⟩⟩;have hss:∀t:Bool,(t=true↔hs tl s1 row\/hs tl s2 row)->(t=true↔hs tl (.two "or" s1 s2) row):=λt h=>by show _↔(if _ then _ else _);rw[if_neg (by decide+kernel)];exact h
    cases b with
    |true=>exact iteT (q _ H1 g1 (hss _ (iff_of_true rfl (.inl (hb.mp rfl)))))
    |false=>exact iteF (ixm (.of (g1 _ _ e)) (zak (j:=2) rfl) ⟨y,dd,s2,tl,row,_,g,rfl,r2.same g1,D2,by omega,C,h14,hg,env.same g1,λb2 H2 g2 hb2=>q _ H2 (g1.trans g2) (hss _ (by rw[hb2];exact⟨.inr,λz=>z.elim (λz=>by have:=hb.mpr z;cases this) id⟩))⟩)
  |qu hw e r1 =>
   rename_i a wd n x s1;have hd1:s1.depth+1<=lv+1:=hd;obtain⟨dp0,g0,hn,hnt,h3,D1,hgn⟩:∃dp0 g0,(n∈pls11\/n∈sts11)/\n∉tl/\tl.length<=3/\Drw dp0 g0 (tl++[n]) s1/\(n∈sts11->row.length<=6)/\(g0=0\/row.length<=6):=by
    cases D with
    |pl _ hn h h3 D1=>exact⟨_,_,.inl hn,h,h3,D1,λz=>absurd (pl11 hn).1 (by rw[(st11 z).1];decide),hg⟩
    |st _ hn h h3 D1 =>
     have h6:=hg.resolve_left (Nat.succ_ne_zero _);exact⟨_,_,.inr hn,h,h3,D1,λ_=>h6,.inr h6⟩
   have nn:∀z:Str,z∈(["not","and","or"]:List Str)->¬V.str wd=V.str z:=λz hz e0=>by
    have all:∀a∈(["some","all"]:List Str),∀z∈(["not","and","or"]:List Str),¬a=z:=by decide+kernel
    exact all wd hw z hz (V.str.inj e0)
   refine ixm (.of e) zat ⟨rfl,itF (nn _ (by decide+kernel)) ⟨rfl,itF (nn _ (by decide+kernel)) ⟨rfl,itF (nn _ (by decide+kernel)) (mkT λp1 H1 n1=>⟨_,.inr (.of n1.at'),rfl,rfl,?_⟩)⟩⟩⟩;have hin:inV (V.str wd) [V.str "some",V.str "all"]=true:=by
    have all:∀a∈(["some","all"]:List Str),inV (V.str a) [V.str "some",V.str "all"]=true:=by decide+kernel
    exact all wd hw
   rw[hin];refine iteF (ixm (.of (n1.g _ _ e)) (zak (j:=1) rfl) ⟨n,row.length,rfl,hn,h14,hgn.1,λDD rs H2 g2 eDD prs=>⟨DD,rfl,⟨_,.of eDD⟩,?_⟩⟩);have g12:=n1.g.trans g2;obtain⟨kvs,ed,hkl,hk⟩:=env;have qsome:wd="some"->∀b:Bool,(b=true↔∃r',Cho n tl.length row r'/\hs (tl++[n]) s1 r')->(b=true↔hs tl (.qu wd n s1) row):=λh b hb=>by show _↔(if _ then _ else _);rw[if_pos h];exact hb
   have qall:¬wd="some"->∀b:Bool,(b=true↔∀r',Cho n tl.length row r'->hs (tl++[n]) s1 r')->(b=true↔hs tl (.qu wd n s1) row):=λh b hb=>by show _↔(if _ then _ else _);rw[if_neg h];exact hb
   refine zez (K:=K) (a:=DD) (xs:=rs) (λi σ H'=>Same H2 H'/\(∃v4 v5,σ=[some (.ref a),some (nV row.length),some (.ref dd),some (.str wd),v4,v5])/\∀j cs,j<i->(chos n row.length)[j]?=some cs->∃p,Cho n tl.length row (mkR tl.length p 0 row)/\wth (mkR tl.length p 0 row) tl.length=cs/\(hs (tl++[n]) s1 (mkR tl.length p 0 row) ↔ ¬wd="some")) ⟨Same.refl _,⟨_,_,rfl⟩,λj cs h=>absurd h (y1q _)⟩ (λi σ H' _ z=>.of (z.1 _ _ eDD)) ?_ ?_
   ·rintro i y σ H' hy ⟨g3,⟨v4,v5,rfl⟩,hall⟩;obtain⟨cs,ecs,ax,rfl,eax⟩:=SS.Paired.at prs hy;trivial;have gH:=g12.trans g3;have edH:=gH _ _ ed;refine⟨kvs,edH,λd2 H4 n4=>?_⟩;have g5:Same H' (upd H4 d2 (.dK (putK kvs (.inr n) (.ref ax)))):=n4.g.wr n4.nil _;refine⟨_,.of ((gH.trans n4.g) _ _ e),_,zak (j:=1) rfl,_,DPut.k (k:=.inr n) n4.at' (small1000 (by omega)),_,.of ((gH.trans g5) _ _ e),_,zak (j:=2) rfl,?_⟩;have hmem:=y0j ecs;obtain⟨p,hcho,hwth⟩:=zvt h3 C.lo hmem;have env5:EnvW (upd H4 d2 (.dK (putK kvs (.inr n) (.ref ax)))) d2 (tl++[n]) (mkR tl.length p 0 row):=EnvW.put C hnt h3 hkl (λz hz=>let⟨a,h4,h5⟩:=hk z hz;⟨a,h4,(gH.trans g5) _ _ h5⟩) zaw (by rw[hwth];exact(g3.trans g5) _ _ eax);have C5:=C.snoc hn hnt h3 (p:=p) (by rw[hwth];exact hmem);refine⟨x,d2,s1,tl++[n],mkR tl.length p 0 row,dp0,g0,by rw[zkb],r1.same (gH.trans g5),D1,by omega,C5,by rw[zkb];exact h14,by rw[zkb];exact hgn.2,env5,λb H6 g6 hb=>⟨rfl,?_⟩⟩;have g26:=g3.trans (g5.trans g6);by_cases hbw:b=decide (wd="some")
    ·rw[←hbw];refine itT rfl (q b H6 (g12.trans g26) ?_);by_cases hs:wd="some"
     ·rw[decide_eq_true hs]at hbw;exact qsome hs _ (iff_of_true hbw ⟨_,hcho,hb.mp hbw⟩)
     ·rw[decide_eq_false hs]at hbw;exact qall hs _ (iff_of_false (by rw[hbw];decide) λz=>by have:=hb.mpr (z _ hcho);rw[hbw]at this;cases this)
    ·refine itF (λe=>hbw (V.bl.inj e)) ⟨g26,λj cs' hj hcs=>?_⟩;by_cases hji:j<i
     ·exact hall j cs' hji hcs
     ·obtain rfl:j=i:=by omega
      rw[ecs]at hcs;cases hcs;refine⟨p,hcho,hwth,?_⟩;rw[←hb];cases b with
      |true=>exact iff_of_true rfl λh=>hbw (by rw[decide_eq_true h])
      |false=>exact iff_of_false (by decide) λh=>hbw (by rw[decide_eq_false h])
   ·rintro σ H' ⟨g3,⟨v4,v5,rfl⟩,hall⟩;trivial;have key:∀r',Cho n tl.length row r'->(hs (tl++[n]) s1 r' ↔ ¬wd="some"):=λr' hc=>by
     obtain⟨p,rfl,hm⟩:=zvu h3 C.lo hc;obtain⟨j,hj⟩:=y39.mp hm;obtain⟨p',_,hw',hh⟩:=hall j _ (by rw[SS.Paired.len prs];exact(y05.mp hj).1) hj;rw[ztf h3 C.lo hw'.symm];exact hh
    refine q _ H' (g12.trans g3) ?_;rcases y08.mp hw with rfl|hw1
    ·rw[decide_eq_false (by decide+kernel)];exact qsome rfl _ (iff_of_false (by decide) λ⟨r',hc,z⟩=>(key r' hc).mp z rfl)
    ·obtain rfl:=y09.mp hw1;rw[decide_eq_true rfl];exact qall (by decide+kernel) _ (iff_of_true rfl λr' hc=>(key r' hc).mpr (by decide+kernel))
abbrev s_law_stand:Stmt:=top 55
theorem sc_law_stand:FnScope ["_law_frame_here","_law_row_here","_law_stand_here","_law_k"] ["_law_frame_here","_law_row_here"] (defScope s_law_stand):={}
include T in
theorem zs4(d:Dfn K mg "_law_stand" s_law_stand ["_law_frame_here","_law_row_here"]):Cal P w K mg base 1 "_law_stand" ["_law_frame_here","_law_row_here"] zmd:=by
 refine d.cal sc_law_stand (λvs H Q E h=>?_) (λf cdv A outer s H vs Q E hr h=>?_)
 ·obtain⟨b,r,tl,row,rfl,_⟩:=h;rfl
 obtain⟨b,r,tl,row,rfl,T1,eb,er,h14,lo,qn,qd⟩:=h;have hu:=zex hr 8 (by decide);refine⟨_,(zab (zas (i:=2) sc_law_stand.nd rfl (Or.inl rfl) zpv) (zab (zck PassesOwn.never rfl (zbo (by rfl) T.b_range (pa_c (za0 (zaj K) (by rfl) T.b_len im (pa_c (pv 0) zaa)) zaa)) (zau (i:=3) sc_law_stand.nd (by rfl) (Or.inr (by rfl))) (zab (zgd hu (pv 2) (zap (zax K) (pv 0) (pv 3) (λ_ _=>rfl)) (za2 ["_law_place"] [(3,"_law_k"),(1,"_law_row_here")] (CompOk.of rfl (by rfl) (by rfl)) (by rfl) (zbo (by rfl) T.b_range (pa_c (za0 (zaj K) (by rfl) T.b_len im (pa_c (pv 1) zaa)) zaa)) (λ_ _ _ _ _=>(zau (i:=0) (show List.Nodup (["_law_place","_law_k","_law_row_here"]:List Str) by decide+kernel) (by rfl) (Or.inl (by rfl)))) (λ_ _ _ _ _=>(zen (zag za3 (zav zj6 (zav zrf (zap (zax K) (pv 2) (pv 0) (λ_ _=>rfl)) (pv 1)) zad) zad (nomark _)))) (λ_ _ _ _ _=>(pv 0))) rfl) (zac (zay (PW.pt (zdp (zd4 zbq zbq zam (zap zhv (zap (zax K) (pv 0) (pv 3) (λ_ _=>rfl)) zad (λ_ _=>rfl)) zam) (zcy (zag zgf (za0 (zaj K) (by rfl) T.b_len im (pa_c (zd6 hu (pv 2) (zap (zax K) (pv 0) (pv 3) (λ_ _=>rfl)) (λ_ _=>rfl)) zaa)) zad (nomark _))))) (zac (zah zre)) zal)))) (zac (zah (pv 2))))),?_⟩;refine za1 [some (.ref b),some (.ref r),none,none] rfl ?_;trivial;intro dd H1 n1;have h4:=T1.h4;refine⟨_,.inl (.of (n1.g _ _ eb)),by rw[y00];omega,by rw[y00];omega,?_⟩;rw[y00,y0l];have hdd:H dd=none:=n1.nil;have h16:2^tl.length<=16:=y0y (y11 (by decide) h4) (by decide);refine zda (λk σ H'=>Same H H'/\∃kvs v3,σ=[some (.ref b),some (.ref r),some (.ref dd),v3]/\H' dd=some (.dK kvs)/\kvs.length<=k/\(∀(j:Nat) (z:Str),j<k->tl[j]?=some z->∃a,a≠dd/\valV kvs (.inr z)=some (.ref a)/\H' a=some (.lst ((wth row j).map nV)))/\∀(j:Nat) (z:Str),j<k->tl[j]?=some z->isPl z=true->(wth row j).length=1)
  ⟨n1.g,[],none,rfl,n1.at',y01 _,λj z h=>absurd h (y1q _),λj z h=>absurd h (y1q _)⟩ ?_ ?_
 ·rintro k σ H' hk ⟨g,kvs,v3,rfl,ed,hkl,hv,hf⟩;have ez:tl[k]?=some tl[k]:=y0b hk;have ezV:(tl.map V.str)[k]?=some (.str tl[k]):=by rw[y0k,ez];rfl
  trivial;rw[y2r];refine⟨_,.inl (.of (g _ _ er)),by rw[y00];omega,by rw[y00];omega,?_⟩;rw[y00,y0l];refine zts (λσ=>∃v,σ=[v,some (nV k),some (.ref r)]) (λx=>bit (row.getD x 0) k) (λx=>nV x) (by omega) ⟨_,rfl⟩ ?_ ?_
  ·rintro D i σ H4 hi gg hD hD' ⟨v,rfl⟩;have ei:(row.map nV)[i]?=some (nV row[i]):=by rw[y0k,y0b hi];rfl
   have egd:row.getD i 0=row[i]:=by rw[y0u,y0b hi];rfl
   have hlo:=lo _ (y0t hi);trivial;rw[y2r];refine⟨_,.of ((g.trans gg) _ _ er),_,zak ei,_,rfl,by omega,?_⟩;rw[y0l,band1 (by omega) (by omega),←egd];cases hb:bit (row.getD i 0) k with
   |true=>exact iteT (zkl (by omega) hi hb hD hD' gg ⟨_,rfl⟩ rfl)
   |false=>exact iteF (zkm hi hb hD' gg ⟨_,rfl⟩)
  intro D H4 hD g4 eD;have eD':H4 D=some (.lst ((wth row k).map nV)):=eD;have ed4:=g4 _ _ ed;have nD:D≠dd:=zdf eD' ed4 (by intro z;cases z);have g5:Same H (upd H4 dd (.dK (putK kvs (.inr tl[k]) (.ref D)))):=(g.trans g4).wr hdd _;have eb5:=g5 _ _ eb;have eD5:upd H4 dd (.dK (putK kvs (.inr tl[k]) (.ref D))) D=some (.lst ((wth row k).map nV)):=by rw[zar nD];exact eD'
  have fin:(isPl tl[k]=true->(wth row k).length=1)->Same H (upd H4 dd (.dK (putK kvs (.inr tl[k]) (.ref D))))/\∃kvs',upd H4 dd (.dK (putK kvs (.inr tl[k]) (.ref D))) dd=some (.dK kvs')/\kvs'.length<=k+1/\(∀(j:Nat) (z:Str),j<k+1->tl[j]?=some z->∃a,a≠dd/\valV kvs' (.inr z)=some (.ref a)/\upd H4 dd (.dK (putK kvs (.inr tl[k]) (.ref D))) a=some (.lst ((wth row j).map nV)))/\∀(j:Nat) (z:Str),j<k+1->tl[j]?=some z->isPl z=true->(wth row j).length=1:=λh1=>by
   refine⟨g5,_,zaw,by have:=zby kvs (.inr tl[k]) (.ref D);omega,λj z hj hz=>?_,λj z hj hz hp=>?_⟩
   ·by_cases e:j=k
    ·subst e;rw[ez]at hz;cases hz;exact⟨D,nD,by rw[zb6,if_pos rfl],eD5⟩
    ·obtain⟨a,na,h2,h3⟩:=hv j z (by omega) hz;refine⟨a,na,?_,by rw[zar na];exact g4 _ _ h3⟩;rw[zb6,if_neg (λe'=>e ((y2z (y05.mp hz).1 T1.nd).mp (by rw[hz,ez,Sum.inr.inj e'])))];exact h2
   ·by_cases e:j=k
    ·subst e;rw[ez]at hz;cases hz;exact h1 hp
    ·exact hf j z (by omega) hz hp
  have hnm:=T1.sub _ (y0t hk);have hc0:atI tl[k].cps.toList 0=some (tl[k].cps.toList.headD 0)/\tl[k].length<=3:=hnm.elim (λh=>⟨(ltr11 h).1,(ltr11 h).2.2.2⟩) λh=>⟨(ltrS11 h).1,(ltrS11 h).2.2⟩;refine⟨_,.of ((g.trans g4) _ _ eb),_,zak ezV,_,DPut.k (k:=.inr tl[k]) ed4 (small1000 (by omega)),_,.of eb5,_,zak ezV,_,rfl,zaf (by omega),_,hc0.1,?_⟩;rcases hnm with hnm|hnm
  ·obtain⟨_,h2,h3,_⟩:=ltr11 hnm;rw[h2,h3];have dg:DGet (upd H4 dd (.dK (putK kvs (.inr tl[k]) (.ref D)))) dd (.str tl[k]) (some (.ref D)):=by
    have:=DGet.k (k:=.inr tl[k]) (show upd H4 dd (.dK (putK kvs (.inr tl[k]) (.ref D))) dd=_ from zaw);rw[zb6,if_pos rfl]at this;exact this
   refine iteT (iteT ⟨_,.of eb5,_,zak ezV,_,dg,D,rfl,_,.inl (.of eD5),?_⟩);rw[y00];by_cases h1:(wth row k).length=1
   ·rw[decide_eq_true (show((wth row k).length:Int)=1 by omega)];exact iteF (fin λ_=>h1)
   ·rw[decide_eq_false (show¬((wth row k).length:Int)=1 by omega)];refine iteT (qn ?_ _ g5);rw[y17];intro hfit;have e2:tl.idxOf tl[k]=k:=(y2z (y0v.mpr (y0t hk)) T1.nd).mp ((zbl (y0t hk)).trans ez.symm);have:=(zi3 T1.nd).mp hfit _ (y0t hk) (pl11 hnm).1;rw[e2]at this;exact h1 this
  ·obtain⟨_,h2,_⟩:=ltrS11 hnm;rw[h2];exact iteF (fin λh=>by rw[(st11 hnm).1]at h;cases h)
 ·rintro σ H' ⟨g,kvs,v3,rfl,ed,hkl,hv,hf⟩;trivial;have fit:fitB tl row=true:=(zi3 T1.nd).mpr λz hz hp=>hf _ z (y0v.mpr hz) (zbl hz) hp;refine qd fit dd H' g ⟨kvs,ed,hkl,λz hz=>?_⟩;obtain⟨a,_,h1,h2⟩:=hv _ z (y0v.mpr hz) (zbl hz);exact⟨a,h1,h2⟩
abbrev s_law_due:Stmt:=top 59
theorem sc_law_due:FnScope ["_law_saying","_law_frame_here","_law_row_here","_law_stand_here"] ["_law_saying","_law_frame_here","_law_row_here"] (defScope s_law_due):={}
include T in
theorem zqd(d:Dfn K mg "_law_due" s_law_due ["_law_saying","_law_frame_here","_law_row_here"])(C_law_stand:Cal P w K mg base 1 "_law_stand" ["_law_frame_here","_law_row_here"] zmd)(C_law_holds:Cal P w K mg base 6 "_law_holds" ["_law_saying","_law_size","_law_stand_here"] (zmf 4)):Cal P w K mg base 7 "_law_due" ["_law_saying","_law_frame_here","_law_row_here"] zjv:=by
 refine d.cal sc_law_due (λvs H Q E h=>?_) (λf cdv A outer s H vs Q E hr h=>?_)
 ·obtain⟨v,b,r,s,tl,row,dp,g,rfl,_⟩:=h;rfl
 obtain⟨v,b,r,sy,tl,row,dp,g,rfl,T1,rp,D,hdp,eb,er,h14,lo,hg,q⟩:=h;refine⟨_,(zab (zas (i:=3) sc_law_due.nd rfl (Or.inl rfl) (zae C_law_stand hr (by omega) (by rfl) (pa_c (pv 1) (pa_c (pv 2) zaa)))) (zac (zah (zb4 (za5 zs0 (pv 3) zre (nomark _)) (zb1 (zae C_law_holds hr (by omega) (by rfl) (pa_c (pv 0) (pa_c (za0 (zaj K) (by rfl) T.b_len im (pa_c (pv 2) zaa)) (pa_c (pv 3) zaa))))))))),?_⟩;refine za1 [some v,some (.ref b),some (.ref r),none] rfl ?_;trivial;refine⟨b,r,tl,row,rfl,T1,eb,er,h14,lo,λhf H1 g1=>?_,λhf d1 H1 g1 env=>?_⟩
 ·show if(!decide (V.non=V.non))=true then _ else _
  rw[decide_eq_true rfl];exact iteF (q false H1 g1 (by rw[hf];exact iff_of_false (by decide) λz=>by cases z.1))
 ·show if(!decide (V.ref d1=V.non))=true then _ else _
  rw[decide_eq_false (by intro z;cases z)];exact iteT ⟨_,.inl (.of (g1 _ _ er)),v,d1,sy,tl,row,dp,g,by rw[y00],rp.same g1,D,by have:=D.nums.1;omega,⟨T1,lo,(zi3 T1.nd).mp hf⟩,h14,hg,env,λb H2 g2 hb=>q b H2 (g1.trans g2) (by rw[hf,hb];exact⟨λz=>⟨rfl,z⟩,λz=>z.2⟩)⟩
abbrev s_law_new:Stmt:=top 52
theorem sc_law_new:FnScope ["_law_frame_here","_law_number","_law_great","_law_some"] ["_law_frame_here","_law_number","_law_great"] (defScope s_law_new):={}
include T in
theorem zp4(d:Dfn K mg "_law_new" s_law_new ["_law_frame_here","_law_number","_law_great"]):Cal P w K mg base 1 "_law_new" ["_law_frame_here","_law_number","_law_great"] zf1:=by
 refine d.cal sc_law_new (λvs H Q E h=>?_) (λf cdv A outer s H vs Q E hr h=>?_)
 ·obtain⟨b,tl,n,gr,rfl,_⟩:=h;rfl
 obtain⟨b,tl,n,gr,rfl,hn,eb,T1,h3,q⟩:=h;refine⟨_,(zab (zas (i:=3) sc_law_new.nd rfl (Or.inl rfl) (zaq (pa_c zam (pa_c zam (pa_c zam (pa_c zam zaa)))))) (zcz (zay (zbe (pv 2)) (zac (zas (i:=3) sc_law_new.nd rfl (Or.inl rfl) (zaq (pa_c zam (pa_c zam (pa_c zam (pa_c zam zaa))))))) zal) (zab (zas (i:=3) sc_law_new.nd rfl (Or.inl rfl) (zav zbj (zbm (zbu K) (pv 3) (zbw (zav zb5 (pv 1) zad)) zb9) (zbm (zbu K) (pv 3) zb9 (zbw (zav zb5 (pv 1) zad))))) (zac (zah (zap (zax K) (za2 ["_law_name"] [(0,"_law_frame_here")] (CompOk.of rfl (by rfl) (by rfl)) (by rfl) (zbb K (pv 3)) (λ_ _ _ _ _=>(zau (i:=0) (show List.Nodup (["_law_name","_law_frame_here"]:List Str) by decide+kernel) (by rfl) (Or.inl (by rfl)))) (λ_ _ _ _ _=>(zen (zag (zbr K) (pv 0) (pv 1) (by with_unfolding_all rfl)))) (λ_ _ _ _ _=>(pv 0))) zad (λ_ _=>rfl))))))),?_⟩;refine za1 [some (.ref b),some (.int n),some (.bl gr),none] rfl ?_;trivial;refine mkT λp0 H0 n0=>⟨λσ' H'=>∃p',σ'=[some (.ref b),some (.int n),some (.bl gr),some (.ref p')]/\Same H H'/\H' p'=some (.lst ((if gr=true then sts11 else pls11).map V.str)),?_,?_⟩
 ·trivial;cases gr with
  |true=>exact iteT (mkT λp1 H1 n1=>⟨n0.g.trans n1.g,n1.at'⟩)
  |false=>exact iteF ⟨n0.g,n0.at'⟩
 rintro σ' H' ⟨p',rfl,g,ep⟩;trivial;have h4:0<=n%4/\n%4<4:=⟨by omega,by omega⟩;obtain⟨j,hj⟩:∃j:Nat,n%4=(j:Int):=⟨(n%4).toNat,by omega⟩;have hL:(if gr=true then sts11 else pls11).Nodup/\(if gr=true then sts11 else pls11).length=4:=by cases gr<;>decide+kernel
 generalize hLL:(if gr=true then sts11 else pls11)=L at hL ep q;rw[hj];refine⟨by decide,_,.of ep,λp1 H1 n1=>⟨by decide,_,.of (n1.g _ _ ep),λp2 H2 n2=>?_⟩⟩;rw[zdb]at n1;rw[zgp]at n2;refine⟨_,n2.g _ _ n1.at',_,n2.at',zaf (by rw[y1v,y13,y00];omega),λp3 H3 n3=>?_⟩;have e3:H3 p3=some (.lst ((L.drop j++L.take j).map V.str)):=by rw[n3.at',y0r,List.map_drop,List.map_take]
 have g3:Same H H3:=g.trans (n1.g.trans (n2.g.trans n3.g));have hl8:(L.drop j++L.take j).length<=8:=by rw[y0a,y1v,y13];omega
 refine⟨⟨_,.of e3⟩,zgr (K:=K) (a:=p3) (xs:=(L.drop j++L.take j).map V.str) (λσ=>∃v,σ=[v,some (.ref b)]) (λv=>!inV v (tl.map V.str)) id (by rw[y00];omega) (.of e3) ⟨_,rfl⟩ ?_ ?_⟩
 ·rintro D i σ H4 x hi hm hx gg hD hD' ⟨v,rfl⟩;obtain⟨z,mz,rfl⟩:=y0m.mp hm;have hl:((L.drop j++L.take j).map V.str).length<=1000:=by rw[y00];omega
  trivial;refine⟨_,.inl (.of ((g3.trans gg) _ _ eb)),rfl,zhy,?_⟩;cases hz:inV (V.str z) (tl.map V.str)with
  |true=>exact iteF (ze2 hx (by show(!inV _ _)=false;rw[hz];rfl) hD' gg ⟨_,rfl⟩)
  |false=>exact iteT (ze1 hl hx (by show(!inV _ _)=true;rw[hz];rfl) hD hD' gg ⟨_,rfl⟩ rfl)
 intro D H4 hD g4 eD;obtain⟨z,zs,ezs⟩:=free11 hL.1 hL.2 h3 j;have eD':H4 D=some (.lst (((L.drop j++L.take j).filter (λz=>decide (z∉tl))).map V.str)):=by
  rw[eD,y3f,y2v];congr 3;refine y31 λz _=>?_;show(!inV (V.str z) (tl.map V.str))=_;rw[zob];by_cases h:z∈tl<;>simp[h]
 rw[ezs]at eD';have hz:=y0z.mp (show z∈(L.drop j++L.take j).filter (λz=>decide (z∉tl)) by rw[ezs];exact y07);refine ixm (.of eD') zat (q z H4 (g3.trans g4) ?_ (of_decide_eq_true hz.2));rcases y0g.mp hz.1 with h|h
 ·exact List.mem_of_mem_drop h
 ·exact List.mem_of_mem_take h
abbrev s_law_bare:Stmt:=top 53
theorem sc_law_bare:FnScope ["_law_number","_law_frame_here","_law_places","_law_sets","_law_words","_law_word","_law_ones","_law_others"] ["_law_number","_law_frame_here"] (defScope s_law_bare):={}
include T in
theorem znu(d:Dfn K mg "_law_bare" s_law_bare ["_law_number","_law_frame_here"]):Cal P w K mg base 1 "_law_bare" ["_law_number","_law_frame_here"] zei:=by
 refine d.cal sc_law_bare (λvs H Q E h=>?_) (λf cdv A outer s H vs Q E hr h=>?_)
 ·obtain⟨b,tl,n,rfl,_⟩:=h;rfl
 obtain⟨b,tl,n,rfl,hn,eb,T1,hne,q⟩:=h;have hu:=zex hr 8 (by decide);refine⟨_,(zab (zas (i:=2) sc_law_bare.nd rfl (Or.inr rfl) (za2 ["_law_name"] [] (CompOk.of rfl (by rfl) (by rfl)) (by rfl) (zbb K (pv 1)) (λ_ _ _ _ _=>(zau (i:=0) (show List.Nodup (["_law_name"]:List Str) by decide+kernel) (by rfl) (Or.inl (by rfl)))) (λ_ _ _ _ _=>(zen (zd4 zbq zbq zam (zap zhv (pv 0) zad (λ_ _=>rfl)) zam))) (λ_ _ _ _ _=>(pv 0)))) (zab (ziu (i:=3) sc_law_bare.nd rfl (Or.inl rfl) ["_law_name"] [(2,"_law_places")] (CompOk.of rfl (by rfl) (by rfl)) (by rfl) (zbb K (pv 1)) (λ_ _ _ _ _=>(zau (i:=0) (show List.Nodup (["_law_name","_law_places"]:List Str) by decide+kernel) (by rfl) (Or.inl (by rfl)))) (λ_ _ _ _ _=>(zen (zag (zbr K) (pv 0) (pv 1) (by with_unfolding_all rfl)))) (λ_ _ _ _ _=>(pv 0))) (zab (zas (i:=4) sc_law_bare.nd rfl (Or.inl rfl) (zav zna (zaq (pa_c zam (pa_c zam (pa_c zam zaa)))) (zbx ze5 (by rfl) T.b_int boot_int (pa_c (za5 (ziv K hu) (pv 2) (zaq zaa) (nomark _)) zaa)))) (zcz (zay (zag (ziv K hu) (pv 3) (zaq zaa) (nomark _)) (zac (zas (i:=4) sc_law_bare.nd rfl (Or.inl rfl) (zav zbj (zav zbj (pv 4) (zaq (pa_c zam zaa))) (zav zna (zaq (pa_c zam (pa_c zam (pa_c zam zaa)))) (zbx ze5 (by rfl) T.b_int boot_int (pa_c (za5 (ziv K hu) (pv 2) (zaq zaa) (nomark _)) zaa)))))) zal) (zab (zas (i:=5) sc_law_bare.nd rfl (Or.inl rfl) (zap (zax K) (pv 4) (zav zb5 (pv 0) (za0 (zaj K) (by rfl) T.b_len im (pa_c (pv 4) zaa))) (λ_ _=>rfl))) (zab (zas (i:=6) sc_law_bare.nd rfl (Or.inl rfl) (pv 2)) (zab (zas (i:=7) sc_law_bare.nd rfl (Or.inl rfl) (pv 2)) (zcz (zay (zag za3 (pv 5) zam (nomark _)) (zac (zas (i:=6) sc_law_bare.nd rfl (Or.inl rfl) (pv 3))) zal) (zcz (zay (PW.pt (zb8 (zag za3 (pv 5) zam (nomark _)) (zbv (zag za3 (pv 5) zam (nomark _))))) (zac (zas (i:=7) sc_law_bare.nd rfl (Or.inl rfl) (pv 3))) zal) (zac (zah (zbf (pa_c (pv 5) (pa_c (zap (zax K) (pv 6) (zav zb5 (zav zc2 (pv 0) zad) (za0 (zaj K) (by rfl) T.b_len im (pa_c (pv 6) zaa))) (λ_ _=>rfl)) (pa_c (zap (zax K) (pv 7) (zav zb5 (zav zc2 (pv 0) zad) (za0 (zaj K) (by rfl) T.b_len im (pa_c (pv 7) zaa))) (λ_ _=>rfl)) zaa))))))))))))))),?_⟩;refine za1 [some (.int n),some (.ref b),none,none,none,none,none,none] rfl ?_;trivial;have h4:=T1.h4;have hfl:∀p:Str->Bool,(tl.filter p).length<=4:=λp=>y0y (y1b _ _) h4;refine⟨⟨_,.of eb⟩,zgr (K:=K) (a:=b) (xs:=tl.map V.str) (λσ=>∃v,σ=[v]) (λv=>match v with|.str z=>isPl z|_=>false) id (by rw[y00];omega) (.of eb) ⟨_,rfl⟩ ?_ ?_⟩
 ·rintro D i σ H4 x hi hm hx gg hD hD' ⟨v,rfl⟩;obtain⟨z,mz,rfl⟩:=y0m.mp hm;have hl:(tl.map V.str).length<=1000:=by rw[y00];omega
  trivial;rcases T1.sub z mz with hz|hz
  ·obtain⟨h1,h2,h3,h5⟩:=ltr11 hz;refine⟨zaf (by omega),_,h1,?_⟩;rw[h2,h3];exact iteT (iteT (ze1 hl hx (pl11 hz).1 hD hD' gg ⟨_,rfl⟩ rfl))
  ·obtain⟨h1,h2,h5⟩:=ltrS11 hz;refine⟨zaf (by omega),_,h1,?_⟩;rw[h2];exact iteF (ze2 hx (st11 hz).1 hD' gg ⟨_,rfl⟩)
 intro D1 H1 hD1 g1 eD1;have e1:H1 D1=some (.lst ((tl.filter λz=>isPl z).map V.str)):=by rw[eD1,y3f,y2v];rfl
 refine⟨⟨_,.of (g1 _ _ eb)⟩,zgr (K:=K) (a:=b) (xs:=tl.map V.str) (λσ=>∃v,σ=[v,some (.ref D1)]) (λv=>!inV v ((tl.filter λz=>isPl z).map V.str)) id (by rw[y00];omega) (.of (g1 _ _ eb)) ⟨_,rfl⟩ ?_ ?_⟩
 ·rintro D i σ H4 x hi hm hx gg hD hD' ⟨v,rfl⟩;obtain⟨z,mz,rfl⟩:=y0m.mp hm;have hl:(tl.map V.str).length<=1000:=by rw[y00];omega
  trivial;refine⟨_,.inl (.of (gg _ _ e1)),rfl,zhy,?_⟩;cases hz:inV (V.str z) ((tl.filter λz=>isPl z).map V.str)with
  |true=>exact iteF (ze2 hx (by show(!inV _ _)=false;rw[hz];rfl) hD' gg ⟨_,rfl⟩)
  |false=>exact iteT (ze1 hl hx (by show(!inV _ _)=true;rw[hz];rfl) hD hD' gg ⟨_,rfl⟩ rfl)
 intro D2 H2 hD2 g2 eD2;have e2:H2 D2=some (.lst ((tl.filter λz=>!isPl z).map V.str)):=by
  rw[eD2,y3f,y2v];congr 3;refine y31 λz hz=>?_;show(!inV (V.str z) _)=_;rw[zob];congr 1;rw[y1t,decide_eq_true_eq,y0z];exact⟨λh=>h.2,λh=>⟨hz,h⟩⟩
 have e12:=g2 _ _ e1;have hne:=zif hne;have hwl:=zig (tl.filter λz=>isPl z) (tl.filter λz=>!isPl z);generalize hPL:(tl.filter λz=>isPl z)=PL at e1 e12 hne hwl;generalize hSL:(tl.filter λz=>!isPl z)=SL at e2 hne hwl;have hPl:PL.length<=4:=by rw[←hPL];exact hfl _
 have hSl:SL.length<=4:=by rw[←hSL];exact hfl _
 have rep:∀(xs:List Str),(List.replicate (if(!decide (PL=[]))=true then 1 else 0:Int).toNat (xs.map V.str)).flatten=(if PL=[]then[]else xs).map V.str:=λxs=>by
  by_cases h:PL=[]
  ·rw[decide_eq_true h,if_pos h];rfl
  ·rw[decide_eq_false h,if_neg h];simp
 have le1:(if(!decide (PL=[]))=true then 1 else 0:Int).toNat<=1/\(0:Int)<=(if(!decide (PL=[]))=true then 1 else 0)/\(if(!decide (PL=[]))=true then 1 else 0:Int)<=1:=by split<;>decide
 refine mkT λp3 H3 n3=>mkT λp4 H4 n4=>⟨D1,rfl,PL,.of ((n3.g.trans n4.g) _ _ e12),[],.of n4.at',_,n4.g _ _ n3.at',by omega,by omega,?_,λp5 H5 n5=>?_⟩
 ·exact y0y (y1a _ le1.1) (by simp;decide)
 have g25:Same H2 H5:=n3.g.trans (n4.g.trans n5.g);have e5:H5 p5=some (.lst ((if PL=[]then[]else(["same","ahead","next"]:List Str)).map V.str)):=by rw[n5.at',←rep];rfl
 refine⟨λσ' H'=>∃p,σ'=[some (.int n),some (.ref b),some (.ref D1),some (.ref D2),some (.ref p),none,none,none]/\Same H5 H'/\H' p=some (.lst ((words11 PL SL).map V.str)),?_,?_⟩
 ·trivial;refine mkT λq1 G1 m1=>⟨SL,.of ((g25.trans m1.g) _ _ e2),[],.of m1.at',?_⟩;by_cases hS:SL=[]
  ·rw[decide_eq_true hS];refine iteF ⟨m1.g,?_⟩;rw[m1.g _ _ e5];unfold words11;rw[if_pos hS,y1s]
  ·rw[decide_eq_false hS];refine iteT (mkT λq2 G2 m2=>⟨_,(m1.g.trans m2.g) _ _ e5,_,m2.at',zaf (by rw[y00];split<;>simp),λq3 G3 m3=>mkT λq4 G4 m4=>mkT λq5 G5 m5=>⟨PL,.of ((g25.trans (m1.g.trans (m2.g.trans (m3.g.trans (m4.g.trans m5.g))))) _ _ e12),[],.of m5.at',_,m5.g _ _ m4.at',by omega,by omega,?_,λq6 G6 m6=>⟨_,(m4.g.trans (m5.g.trans m6.g)) _ _ m3.at',_,m6.at',?_,λq7 G7 m7=>⟨m1.g.trans (m2.g.trans (m3.g.trans (m4.g.trans (m5.g.trans (m6.g.trans m7.g))))),?_⟩⟩⟩⟩)
   ·exact y0y (y1a _ le1.1) (by simp;decide)
   ·have:=rep ["in","in","in"];rw[show(List.replicate (if(!decide (PL=[]))=true then 1 else 0:Int).toNat [V.str "in",V.str "in",V.str "in"]).flatten=_ from this];refine zaf ?_;rw[y0a,y00,y00];split<;>simp
   ·have:=rep ["in","in","in"];rw[m7.at',show(List.replicate (if(!decide (PL=[]))=true then 1 else 0:Int).toNat [V.str "in",V.str "in",V.str "in"]).flatten=_ from this];unfold words11;rw[if_neg hS,y0r,y0h,y2p];rfl
 rintro σ' H6 ⟨p6,rfl,g56,e6⟩;trivial;obtain⟨hp0,wd,hwd,ewd⟩:=pick11 (L:=words11 PL SL) (λz=>by rw[z]at hne;exact absurd hne (y27 _)) (m:=n);refine⟨_,.inl (.of e6),hp0,_,.of e6,_,ewd,?_⟩;obtain⟨hrw,hnP,hnS⟩:=zks hwd;have g6:Same H2 H6:=g25.trans g56;have f1:=g6 _ _ e12;have f2:=g6 _ _ e2;refine⟨λσ' H'=>H'=H6/\σ'=[some (.int n),some (.ref b),some (.ref D1),some (.ref D2),some (.ref p6),some (.str wd),some (.ref (if wd="within" then D2 else D1)),some (.ref D1)],?_,?_⟩
 ·trivial;by_cases h:wd="within"
  ·exact itT h (if_pos h).symm
  ·exact itF h (if_neg h).symm
 rintro σ' H7 ⟨rfl,rfl⟩;refine⟨λσ' H'=>H'=H7/\σ'=[some (.int n),some (.ref b),some (.ref D1),some (.ref D2),some (.ref p6),some (.str wd),some (.ref (if wd="within" then D2 else D1)),some (.ref (if wd="within"\/wd="in" then D2 else D1))],?_,?_⟩
 ·trivial;by_cases h:wd="within"
  ·exact itT h (if_pos (.inl h)).symm
  ·refine itF h ?_;by_cases h':wd="in"
   ·exact itT h' (if_pos (.inr h')).symm
   ·exact itF h' (if_neg (λz=>z.elim h h')).symm
 rintro σ' H8 ⟨rfl,rfl⟩;trivial;have eo:H8 (if wd="within" then D2 else D1)=some (.lst ((if wd="within" then SL else PL).map V.str)):=by split<;>assumption
 have eo':H8 (if wd="within"\/wd="in" then D2 else D1)=some (.lst ((if wd="within"\/wd="in" then SL else PL).map V.str)):=by split<;>assumption
 have n1:(if wd="within" then SL else PL)≠[]:=by
  by_cases h:wd="within"
  ·rw[if_pos h];exact hnS (.inl h)
  ·rw[if_neg h];exact hnP h
 have n2:(if wd="within"\/wd="in" then SL else PL)≠[]:=by
  by_cases h:wd="within"\/wd="in"
  ·rw[if_pos h];exact hnS h
  ·rw[if_neg h];exact hnP λz=>h (.inl z)
 obtain⟨a1,x,hx,ex⟩:=pick11 n1 (m:=n/7);obtain⟨a2,y,hy,ey⟩:=pick11 n2 (m:=n/28);refine⟨⟨by decide,by decide⟩,_,.inl (.of eo),a1,_,.of eo,_,ex,⟨by decide,by decide⟩,_,.inl (.of eo'),a2,_,.of eo',_,ey,mkT λp9 H9 n9=>?_⟩;have hw9:=wf11 (w:=wd) T1 (x:=x) (y:=y) (by rw[hPL,hSL];exact hx) (by rw[hPL,hSL];exact hy);have hbw:wd∈bareWords:=by
  have all:∀a∈SM.rowWords,a∈bareWords:=by decide+kernel
  exact all wd hrw
 exact q _ wd x y H9 ((g1.trans g2).trans (g6.trans n9.g)) (.bare hbw n9.at') hrw hw9.1 hw9.2.1 hw9.2.2
abbrev s_law_mixed:Stmt:=top 51
theorem zhe:FnScope ["_law_cell"] ["_law_cell"] (defScope s_law_mixed):={}
include T in
theorem zp5(d:Dfn K mg "_law_mixed" s_law_mixed ["_law_cell"]):Cal P w K mg base 1 "_law_mixed" ["_law_cell"] zd2:=by
 refine d.cal zhe (λvs H Q E h=>?_) (λf cdv A outer s H vs Q E hr h=>?_)
 ·obtain⟨c,rfl,_⟩:=h;rfl
 obtain⟨c,rfl,q⟩:=h;refine⟨_,(zac (zah (zav zb5 (zav zrg (pv 0) zad) zad))),?_⟩;refine za1 [some (.int c)] rfl ?_;trivial;exact⟨.inr ⟨by decide,by decide⟩,by decide,q _ (y3w _ (by decide)) (y3i _ (by decide))⟩
abbrev s_law_drawn:Stmt:=top 54
theorem sc_law_drawn:FnScope ["_law_state","_law_frame_here","_law_deep","_law_room","_law_great","_law_cell","_law_number","_law_way","_law_name","_law_inner","_law_one"] ["_law_state","_law_frame_here","_law_deep","_law_room","_law_great"] (defScope s_law_drawn):={}
theorem zfu(T:Txt K mg w tw rw fa cLeftovers)(d:Dfn K mg "_law_drawn" s_law_drawn ["_law_state","_law_frame_here","_law_deep","_law_room","_law_great"])(C_law_mixed:Cal P w K mg base 1 "_law_mixed" ["_law_cell"] zd2)(C_law_new:Cal P w K mg base 1 "_law_new" ["_law_frame_here","_law_number","_law_great"] zf1)(C_law_bare:Cal P w K mg base 1 "_law_bare" ["_law_number","_law_frame_here"] zei):∀lv,Cal P w K mg base (2+lv) "_law_drawn" ["_law_state","_law_frame_here","_law_deep","_law_room","_law_great"] (zfm lv)
 |0=>(d.never λvs H Q E z=>by obtain⟨_,_,_,_,_,_,_,_,_,_,_,_,_,_,_,_,h,_⟩:=z;exact absurd h (y1q _)).mono (by omega)
 |lv+1=>by
  have C_law_drawn:=zfu T d C_law_mixed C_law_new C_law_bare lv;refine d.cal sc_law_drawn (λvs H Q E h=>?_) (λf cdv A outer s H vs Q E hr h=>?_)
  ·obtain⟨st,cl,b,cs,tl,d,r,g,rfl,_⟩:=h;rfl
  obtain⟨st,cl,b,cs,tl,dp,r,g,rfl,es,ec,hcl,eb,nbc,nsc,T1,hlv,hd3,hg2,h4,hnil,q⟩:=h;have hu:=zex hr 8 (by omega);change Room (2+lv) _ at hr;refine⟨_,(zab (zas (i:=5) sc_law_drawn.nd rfl (Or.inl rfl) (zav zep zad (zav zrg zad (pv 2)))) (zcz (zay (zag (znc K hu) (zap (zax K) (pv 0) zad (λ_ _=>rfl)) (zaq zaa) (nomark _)) (zac (zas (i:=5) sc_law_drawn.nd rfl (Or.inl rfl) (zsw K PySem.F.plainAttrs_list PySem.F.slot_list_pop PySem.F.type_list_pop zu7 (zap (zax K) (pv 0) zad (λ_ _=>rfl))))) zal) (zab (zas (i:=6) sc_law_drawn.nd rfl (Or.inl rfl) (zae C_law_mixed hr (by omega) (by rfl) (pa_c (pv 5) zaa))) (zab (zas (i:=7) sc_law_drawn.nd rfl (Or.inl rfl) (zav zb5 (pv 6) zad)) (zab (zas (i:=6) sc_law_drawn.nd rfl (Or.inl rfl) (zav zc2 (pv 6) zad)) (zab (zay (PW.pt (zb8 (zag (zs1 K hu) (pv 1) (zaq zaa) (nomark _)) (zbv (PW.pt (zdp (zag zhp (pv 2) zad (nomark _)) (zdp (zag zhp (pv 3) zad (nomark _)) (zcy (zag zhp (pv 7) zad (nomark _))))))))) (zab (zas (i:=8) sc_law_drawn.nd rfl (Or.inl rfl) (zae C_law_new hr (by omega) (by rfl) (pa_c (pv 1) (pa_c (pv 6) (pa_c (zb4 (za5 zhp (pv 4) zad (nomark _)) (zb1 (za5 za3 (zav zb5 (zav zc2 (pv 6) zad) zad) zad (nomark _)))) zaa))))) (zab (zas (i:=9) sc_law_drawn.nd rfl (Or.inl rfl) (zae C_law_drawn hr (by omega) (by rfl) (pa_c (pv 0) (pa_c (zav zbj (pv 1) (zaq (pa_c (pv 8) zaa))) (pa_c (za0 (ze4 rfl) (by rfl) T.b_max boot_max (pa_c zad (pa_c (zav zcl (pv 2) zad) zaa))) (pa_c (zav zcl (pv 3) zad) (pa_c (zav zcl (pv 4) (zbx ze5 (by rfl) T.b_int boot_int (pa_c (za5 znd (pv 8) zam (nomark _)) zaa))) zaa))))))) (zac (zah (zbf (pa_c (zap (zax K) (zaq (pa_c zam (pa_c zam zaa))) (zav zb5 (zav zc2 (pv 6) zad) zad) (λ_ _=>rfl)) (pa_c (pv 8) (pa_c (pv 9) zaa)))))))) zal) (zab (zay (PW.pt (zb8 (zag za3 (pv 2) zad (nomark _)) (zb8 (zag zp1 (pv 7) zad (nomark _)) (zbv (zag zhp (pv 7) zad (nomark _)))))) (zac (zah (zae C_law_bare hr (by omega) (by rfl) (pa_c (pv 6) (pa_c (pv 1) zaa))))) zal) (zab (zas (i:=10) sc_law_drawn.nd rfl (Or.inl rfl) (zae C_law_drawn hr (by omega) (by rfl) (pa_c (pv 0) (pa_c (pv 1) (pa_c (zav zcl (pv 2) zad) (pa_c (pv 3) (pa_c (pv 4) zaa))))))) (zab (zay (zag za3 (pv 7) zad (nomark _)) (zac (zah (zbf (pa_c zam (pa_c (pv 10) zaa))))) zal) (zac (zah (zbf (pa_c (zap (zax K) (zaq (pa_c zam (pa_c zam zaa))) (zav zcl (pv 7) zad) (λ_ _=>rfl)) (pa_c (pv 10) (pa_c (zae C_law_drawn hr (by omega) (by rfl) (pa_c (pv 0) (pa_c (pv 1) (pa_c (zav zcl (pv 2) zad) (pa_c (pv 3) (pa_c (pv 4) zaa)))))) zaa))))))))))))))),?_⟩;refine za1 [some (.ref st),some (.ref b),some (nV dp),some (nV r),some (nV g),none,none,none,none,none,none] rfl ?_;trivial;refine⟨.inl ⟨by decide,by decide⟩,λσ' H'=>∃(cell:Int) (cs':List Int),σ'=[some (.ref st),some (.ref b),some (nV dp),some (nV r),some (nV g),some (.int cell),none,none,none,none,none]/\SameB cl H H'/\H' cl=some (.lst (cs'.map V.int))/\cs'.length<=100,?_,?_⟩
  ·trivial;refine⟨_,.of es,_,zat,mkT λp0 H0 n0=>⟨cl,rfl,cs,.of (n0.g _ _ ec),[],.of n0.at',?_⟩⟩;by_cases hc:cs=[]
   ·rw[decide_eq_true hc];exact iteF ⟨n0.g.b _,cs,n0.g _ _ ec,hcl⟩
   ·rw[decide_eq_false hc];refine iteT ⟨_,.of (n0.g _ _ es),_,zat,.inl ⟨_,.of (n0.g _ _ ec)⟩,?_⟩;have hp:cs.length-1<cs.length:=by have:=y3g.mpr hc;omega
    refine⟨cl,cs.map V.int,.int cs[cs.length-1],rfl,rfl,n0.g _ _ ec,?_,_,rfl,λb o hb e=>by rw[zar hb];exact n0.g _ _ e,cs.dropLast,by rw[zaw,List.map_dropLast],by rw[List.length_dropLast];omega⟩;rw[y00,y0k,y0b hp];rfl
  rintro σ' H1 ⟨cell,cs1,rfl,g1,ec1,hcl1⟩;trivial;refine⟨cell,rfl,λnm hn0 hn1=>⟨nm,rfl,by decide,nm,rfl,⟨by decide,by decide⟩,mkT λp1 H2 n2=>⟨tl,.of (n2.g _ _ (g1 _ _ nbc eb)),[],.of n2.at',?_⟩⟩⟩;have g2:SameB cl H H2:=g1.trans (n2.g.b _);have ec2:=n2.g _ _ ec1;have eb2:=g2 _ _ nbc eb;have es2:=g2 _ _ nsc es;have hm0:0<=nm/10:=Int.ediv_nonneg hn0 (by decide);refine zsy (λhc=>?_) λhc=>?_
  ·have hdr:1<=dp/\1<=r:=by
    rcases hc with hc|⟨h1,h2,_⟩
    ·exact hnil (of_decide_eq_true hc)
    ·have h1:=of_decide_eq_true h1;have h2:=of_decide_eq_true h2;omega
   refine zpp (P:=λgr=>zf1 [.ref b,.int (nm/10),.bl gr] H2 _ E0) ⟨by decide,by decide⟩ (by decide) λgr hgr=>⟨b,tl,nm/10,gr,rfl,hm0,eb2,T1,by omega,λz H3 g3 hz hzt=>mkT λp4 H4 n4=>⟨_,(g3.trans n4.g) _ _ eb2,_,n4.at',zaf (by rw[y00];simp only[y0c,y1l];omega),λp5 H5 n5=>⟨z,rfl,?_⟩⟩⟩;have g25:Same H2 H5:=g3.trans (n4.g.trans n5.g);have ep5:H5 p5=some (.lst ((tl++[z]).map V.str)):=by rw[n5.at',y0r];rfl
   have n5c:p5≠cl:=(zao ((g3.trans n4.g) _ _ ec2) n5.nil).symm;obtain⟨g',eg',hg',hzz,hD⟩:∃g':Nat,((g:Int)-if decide (z.cps.toList<(Str.ofString "a").cps.toList)=true then 1 else 0)=(g':Int)/\g'<=2/\(z∈pls11\/z∈sts11)/\∀wd s,wd∈(["some","all"]:List Str)->Drw (dp-1) g' (tl++[z]) s->Drw dp g tl (.qu wd z s):=by
    have h3:tl.length<=3:=by omega
    cases gr with
    |true =>
     have hg1:=of_decide_eq_true (hgr rfl);rw[if_pos rfl]at hz;rw[lt11.2 hz,if_pos rfl];refine⟨g-1,by omega,by omega,.inr hz,λwd s hw D=>?_⟩;have:=Drw.st hw hz hzt h3 D;rwa[show dp-1+1=dp by omega,show g-1+1=g by omega]at this
    |false =>
     rw[if_neg (by decide)]at hz;rw[lt11.1 hz,if_neg (by decide)];refine⟨g,by omega,hg2,.inl hz,λwd s hw D=>?_⟩;have:=Drw.pl hw hz hzt h3 D;rwa[show dp-1+1=dp by omega]at this
   rw[eg',show(if(dp:Int)-1>0 then(dp:Int)-1 else 0)=((dp-1:Nat):Int) by split<;>omega,show(r:Int)-1=((r-1:Nat):Int) by omega];refine⟨st,cl,p5,cs1,tl++[z],dp-1,r-1,g',rfl,g25 _ _ es2,g25 _ _ ec2,hcl1,ep5,n5c,nsc,T1.snoc hzz hzt (by omega),by omega,by omega,hg',by rw[y0a,y0n];omega,(λz=>by simp at z),λv s cs' H6 g6 ec6 hc6 rp D=>?_⟩;obtain⟨_,wd,hwd,ewd⟩:=pick11 (L:=["some","all"]) (by decide) (m:=nm/10/8);refine mkT λp7 H7 n7=>⟨⟨by decide,by decide⟩,by decide,_,.of n7.at',_,ewd,mkT λp8 H8 n8=>?_⟩;have g68:=n7.g.trans n8.g;exact q (.ref p8) (.qu wd z s) cs' H8 (g2.trans ((g25.b _).trans (g6.trans (g68.b _)))) (g68 _ _ ec6) hc6 (.qu hwd n8.at' (rp.same g68)) (hD wd s hwd D)
  ·have hne:tl≠[]:=λh=>hc (.inl (decide_eq_true h));have bare:zei [V.int (nm/10),V.ref b] H2 Q E0:=⟨b,tl,nm/10,rfl,hm0,eb2,T1,hne,λv w x y H3 g3 rp hw hx hy wf=>q v _ cs1 H3 (g2.trans (g3.b _)) (g3 _ _ ec2) hcl1 rp (.bare hw hx hy wf)⟩;by_cases h0:dp=0
   ·exact itT (by omega) bare
   refine itF (by omega) ?_;by_cases h1:nm%10<2
   ·exact itT h1 bare
   refine itF h1 ?_;by_cases h5:4<nm%10
   ·exact itT h5 bare
   refine itF h5 ?_;have ed:(dp:Int)-1=((dp-1:Nat):Int):=by omega
   rw[ed];refine⟨st,cl,b,cs1,tl,dp-1,r,g,rfl,es2,ec2,hcl1,eb2,nbc,nsc,T1,by omega,by omega,hg2,h4,(λh=>absurd h hne),λv1 s1 cs3 H3 g3 ec3 hc3 rp1 D1=>?_⟩;have g23:=g2.trans g3;by_cases h2:nm%10=2
   ·refine itT h2 (mkT λp4 H4 n4=>q (.ref p4) (.neg s1) cs3 H4 (g23.trans (n4.g.b _)) (n4.g _ _ ec3) hc3 (.neg n4.at' (rp1.same n4.g)) ?_);have:=Drw.neg D1;rwa[show dp-1+1=dp by omega]at this
   ·obtain⟨wd,hwd,ewd⟩:∃wd:Str,wd∈(["and","or"]:List Str)/\atI [V.str (Str.ofString "and"),V.str (Str.ofString "or")] (nm%10-3)=some (.str wd):=by
     rcases(show nm%10=3\/nm%10=4 by omega)with h|h<;>rw[h]
     ·exact⟨"and",by decide+kernel,rfl⟩
     ·exact⟨"or",by decide+kernel,rfl⟩
    refine itF h2 (mkT λp4 H4 n4=>⟨_,.of n4.at',_,ewd,?_⟩);have g24:=g23.trans (n4.g.b _);refine⟨st,cl,b,cs3,tl,dp-1,r,g,rfl,g24 _ _ nsc es,n4.g _ _ ec3,hc3,g24 _ _ nbc eb,nbc,nsc,T1,by omega,by omega,hg2,h4,(λh=>absurd h hne),λv2 s2 cs5 H5 g5 ec5 hc5 rp2 D2=>mkT λp6 H6 n6=>?_⟩;have rp1':=(SM.Rep.ts (rp1.same n4.g) (SameB.tups g5 (n4.g _ _ ec3))).same n6.g;refine q (.ref p6) (.two wd s1 s2) cs5 H6 (g24.trans (g5.trans (n6.g.b _))) (n6.g _ _ ec5) hc5 (.two hwd n6.at' rp1' (rp2.same n6.g)) ?_;have:=Drw.two hwd D1 D2;rwa[show dp-1+1=dp by omega]at this
abbrev s_law_longer:Stmt:=top 61
theorem sc_law_longer:FnScope ["_law_rows_here","_law_width","_law_found","_law_row_here"] ["_law_rows_here","_law_width"] (defScope s_law_longer):={}
include T in
theorem znk(d:Dfn K mg "_law_longer" s_law_longer ["_law_rows_here","_law_width"]):Cal P w K mg base 1 "_law_longer" ["_law_rows_here","_law_width"] zee:=by
 refine d.cal sc_law_longer (λvs H Q E h=>?_) (λf cdv A outer s H vs Q E hr h=>?_)
 ·obtain⟨a,rs,w,L,rfl,_⟩:=h;rfl
 obtain⟨a,rs,wd,L,rfl,ea,h3,h64,hL,R,q⟩:=h;refine⟨_,(zab (zas (i:=2) sc_law_longer.nd rfl (Or.inl rfl) (zaq zaa)) (zab (zck PassesOwn.never rfl (zbb K (pv 0)) (zau (i:=3) sc_law_longer.nd (by rfl) (Or.inr (by rfl))) (zac (zas (i:=2) sc_law_longer.nd rfl (Or.inl rfl) (zav zbj (pv 2) (za2 ["_law_letter"] [(3,"_law_row_here")] (CompOk.of rfl (by rfl) (by rfl)) (by rfl) (zbo (by rfl) T.b_range (pa_c (zav zeo zad (pv 1)) zaa)) (λ_ _ _ _ _=>(zau (i:=0) (show List.Nodup (["_law_letter","_law_row_here"]:List Str) by decide+kernel) (by rfl) (Or.inl (by rfl)))) (λ_ _ _ _ _=>zbp) (λ_ _ _ _ _=>(zav zbj (pv 1) (zaq (pa_c (pv 0) zaa))))))))) (zac (zah (pv 2))))),?_⟩;refine za1 [some (.ref a),some (nV wd),none,none] rfl ?_;trivial;refine⟨by decide,λpf H1 n1=>⟨⟨_,.of (n1.g _ _ ea)⟩,?_⟩⟩;refine zez (K:=K) (a:=a) (xs:=rs) (λk σ H'=>Same H H'/\∃p ys v3,σ=[some (.ref a),some (nV wd),some (.ref p),v3]/\H p=none/\H' p=some (.lst ys)/\ys.length=k*2^wd/\Rows wd (L+1) H' ys)
  ⟨n1.g,pf,[],none,rfl,n1.nil,n1.at',by simp,λv hv=>(nomatch hv)⟩ (λk σ H' _ z=>.of (z.1 _ _ ea)) ?_ ?_
 ·rintro k y σ H' hy ⟨g,p,ys,v3,rfl,hp,ep,hl,RR⟩;obtain⟨ar,row,rfl,er,hr1,hr2⟩:=R y (y0j hy);have hk:=(y05.mp hy).1;have hp8:1<=2^wd/\2^wd<=8:=by rcases(show wd=0\/wd=1\/wd=2\/wd=3 by omega)with rfl|rfl|rfl|rfl<;>decide
  have hpi:(1*2^((wd:Nat):Int).toNat:Int)=((2^wd:Nat):Int):=by simp
  have hpw:(1*2^((wd:Nat):Int).toNat:Int).toNat=2^wd:=by rw[hpi];exact y0l _
  have hks:(k+1)*2^wd<=rs.length*2^wd:=y18 _ hk;have hk1:(k+1)*2^wd=k*2^wd+2^wd:=by rw[y32,y3e]
  trivial;refine⟨⟨by omega,by omega,by decide⟩,by rw[hpi];omega,by rw[hpi];omega,?_⟩;rw[hpw];refine zwe (n:=2^wd) (λσ=>∃v,σ=[v,some (.ref ar)]) (λD j y H=>∃a,y=.ref a/\a≠D/\H a=some (.lst ((row++[j]).map nV))) (by omega) ⟨_,rfl⟩ (λi H5 hi gh=>hi) (λH5 gh=>y01 _) ?_ ?_
  ·rintro D i ys' σ H5 x H5' hi gh hD hD' hl' hy' ⟨v,rfl⟩ ⟨rfl,rfl⟩;trivial;rw[y2r];refine⟨zaf (by simp),λt Ht nt=>⟨_,(gh.trans nt.g) _ _ (g _ _ er),_,nt.at',zaf (by rw[y00];simp only[y0c,y1l];omega),λt2 Hu nu=>?_⟩⟩;have g2:=nt.g.trans nu.g;refine ztu (λj y H H' ts z=>let⟨a,e,n,ea⟩:=z;⟨a,e,n,ts _ _ n ea⟩) (by omega) hi hD (g2 _ _ hD') hl' hy' (g2.b _) (gh.trans g2) ⟨_,rfl⟩ ⟨t2,rfl,(zao (nt.g _ _ hD') nu.nil).symm,by rw[nu.at',y0r];rfl⟩
  intro D ys' H5 hD g5 eD hyl hy';refine⟨D,rfl,_,g5 _ _ ep,_,eD,zaf (by omega),λp2 H6 n6=>⟨g.trans (g5.trans n6.g),(g.trans g5).free n6.nil,_,n6.at',by rw[y0a];omega,?_⟩⟩;refine(RR.same (g5.trans n6.g)).app λv hv=>?_;obtain⟨j,hj⟩:=y39.mp hv;have hj2:j<2^wd:=by rw[←hyl];exact(y05.mp hj).1
  obtain⟨a2,rfl,_,ea2⟩:=hy' j v hj;refine⟨a2,row++[j],rfl,n6.g _ _ ea2,by simp only[y0a,y0c,y1l];omega,λc hc=>?_⟩;rcases y0g.mp hc with h|h
  ·exact hr2 c h
  ·rw[y09.mp h];exact hj2
 ·rintro σ H' ⟨g,p,ys,v3,rfl,hp,ep,hl,RR⟩;trivial;exact q p ys H' hp g ep hl RR
abbrev s_law_rows:Stmt:=top 62
theorem sc_law_rows:FnScope ["_law_width","_law_most","_law_rows_here","_law_last","_law_k"] ["_law_width","_law_most"] (defScope s_law_rows):={}
include T in
theorem znj(d:Dfn K mg "_law_rows" s_law_rows ["_law_width","_law_most"])(C_law_longer:Cal P w K mg base 1 "_law_longer" ["_law_rows_here","_law_width"] zee):Cal P w K mg base 2 "_law_rows" ["_law_width","_law_most"] zg4:=by
 refine d.cal sc_law_rows (λvs H Q E h=>?_) (λf cdv A outer s H vs Q E hr h=>?_)
 ·obtain⟨wd,mo,rfl,_⟩:=h;rfl
 obtain⟨wd,mo,rfl,h3,h6,hm3,q⟩:=h;refine⟨_,(zab (zas (i:=2) sc_law_rows.nd rfl (Or.inl rfl) (zaq (pa_c (zaq zaa) zaa))) (zab (zas (i:=3) sc_law_rows.nd rfl (Or.inl rfl) (zaq (pa_c (zaq zaa) zaa))) (zab (zck PassesOwn.never rfl (zbo (by rfl) T.b_range (pa_c (pv 1) zaa)) (zau (i:=4) sc_law_rows.nd (by rfl) (Or.inl (by rfl))) (zab (zas (i:=3) sc_law_rows.nd rfl (Or.inl rfl) (zae C_law_longer hr (by omega) (by rfl) (pa_c (pv 3) (pa_c (pv 0) zaa)))) (zac (zas (i:=2) sc_law_rows.nd rfl (Or.inl rfl) (zav zbj (pv 2) (pv 3)))))) (zac (zah (pv 2)))))),?_⟩;refine za1 [some (nV wd),some (nV mo),none,none,none] rfl ?_;trivial;refine⟨by decide,λp1 H1 n1=>⟨zaf (by simp),λp2 H2 n2=>⟨by decide,λp3 H3 n3=>⟨zaf (by simp),λp4 H4 n4=>⟨by omega,by omega,?_⟩⟩⟩⟩⟩;rw[y0l];have g04:Same H H4:=n1.g.trans (n2.g.trans (n3.g.trans n4.g));have e1:=(n2.g.trans (n3.g.trans n4.g)) _ _ n1.at';have e2:=(n3.g.trans n4.g) _ _ n2.at';have e3:=n4.g _ _ n3.at';have np:p1≠p2:=zao n1.at' n2.nil;refine zda (λk σ H'=>Same H H'/\∃pr pl rs ls v4,σ=[some (nV wd),some (nV mo),some (.ref pr),some (.ref pl),v4]/\H pr=none/\H' pr=some (.lst rs)/\H' pl=some (.lst ls)/\rs.length<=1+64*k/\ls.length=2^(wd*k)/\Rows wd k H' rs/\Rows wd k H' ls/\∀v∈rs,v ≠ .ref pr)
  ⟨g04,p2,p4,[.ref p1],[.ref p3],none,rfl,n1.g.free n2.nil,e2,n4.at',by simp,by simp,λv hv=>⟨p1,[],y09.mp hv,e1,by simp,λc hc=>(nomatch hc)⟩,λv hv=>⟨p3,[],y09.mp hv,e3,by simp,λc hc=>(nomatch hc)⟩,λv hv=>by rw[y09.mp hv];intro z;exact np (V.ref.inj z)⟩ ?_ ?_
 ·rintro k σ H' hk ⟨g,pr,pl,rs,ls,v4,rfl,hpr,er,el,hrl,hll,R1,R2,hne⟩;have hpk:2^(wd*(k+1))<=2^6:=y11 (by decide) (y0y (y1a wd (show k+1<=mo by omega)) h6);have hmul:ls.length*2^wd=2^(wd*(k+1)):=by rw[hll,←Nat.pow_add,Nat.mul_add,Nat.mul_one]
  trivial;refine⟨pl,ls,wd,k,rfl,el,h3,by rw[hmul];exact hpk,by omega,R2,λD ys H5 hD g5 eD hyl RY=>?_⟩;rw[hmul]at hyl;refine⟨D,rfl,_,g5 _ _ er,_,eD,zaf (by omega),λp5 H6 n6=>?_⟩;have g6:=g5.trans n6.g;refine⟨g.trans g6,D,rfl,(g.trans g5).free n6.nil,_,n6.at',ys,n6.g _ _ eD,by rw[y0a];omega,hyl,((R1.same g6).mono (by omega)).app (RY.same n6.g),RY.same n6.g,λv hv=>?_⟩;intro z;subst z;rcases y0g.mp hv with h|h
  ·obtain⟨a2,row,e,ea,_⟩:=R1 _ h;cases e;exact absurd (g5 _ _ ea) (by rw[n6.nil];simp)
  ·obtain⟨a2,row,e,ea,_⟩:=RY _ h;cases e;exact absurd ea (by rw[n6.nil];simp)
 ·rintro σ H' ⟨g,pr,pl,rs,ls,v4,rfl,hpr,er,el,hrl,hll,R1,R2,hne⟩;trivial;exact q pr rs H' hpr g er (by omega) (R1.mono (by omega)) hne
abbrev s_law_frame:Stmt:=top 60
theorem sc_law_frame:FnScope ["_law_cell","_law_mixed_here"] ["_law_cell"] (defScope s_law_frame):={}
include T in
theorem zla(d:Dfn K mg "_law_frame" s_law_frame ["_law_cell"])(C_law_mixed:Cal P w K mg base 1 "_law_mixed" ["_law_cell"] zd2):Cal P w K mg base 2 "_law_frame" ["_law_cell"] zfl:=by
 refine d.cal sc_law_frame (λvs H Q E h=>?_) (λf cdv A outer s H vs Q E hr h=>?_)
 ·obtain⟨n,rfl,_⟩:=h;rfl
 obtain⟨n,rfl,q⟩:=h;refine⟨_,(zab (zas (i:=1) sc_law_frame.nd rfl (Or.inl rfl) (zae C_law_mixed hr (by omega) (by rfl) (pa_c (pv 0) zaa))) (zac (zah (zap (zax K) (zaq (pa_c (zaq zaa) (pa_c (zaq (pa_c zam zaa)) (pa_c (zaq (pa_c zam zaa)) (pa_c (zaq (pa_c zam (pa_c zam zaa))) (pa_c (zaq (pa_c zam (pa_c zam zaa))) (pa_c (zaq (pa_c zam (pa_c zam zaa))) (pa_c (zaq (pa_c zam zaa)) (pa_c (zaq (pa_c zam (pa_c zam zaa))) zaa))))))))) (zav zb5 (pv 1) zad) (λ_ _=>rfl))))),?_⟩;refine za1 [some (.int n),none] rfl ?_;trivial;refine⟨n,rfl,λr h0 h1=>?_⟩;refine mkT λp0 G0 m0=>mkT λp1 G1 m1=>mkT λp2 G2 m2=>mkT λp3 G3 m3=>mkT λp4 G4 m4=>mkT λp5 G5 m5=>mkT λp6 G6 m6=>mkT λp7 G7 m7=>mkT λp8 G8 m8=>⟨r,rfl,by decide,_,.of m8.at',?_⟩;have a1:=m0.g.trans m1.g;have a2:=a1.trans m2.g;have a3:=a2.trans m3.g;have a4:=a3.trans m4.g;have a5:=a4.trans m5.g;have a6:=a5.trans m6.g;have a7:=a6.trans m7.g;have b7:=m8.g;have b6:=m7.g.trans b7;have b5:=m6.g.trans b6;have b4:=m5.g.trans b5;have b3:=m4.g.trans b4;have b2:=m3.g.trans b3;have b1:=m2.g.trans b2;have b0:=m1.g.trans b1;have g8:=a7.trans m8.g;rcases(show r%8=0\/r%8=1\/r%8=2\/r%8=3\/r%8=4\/r%8=5\/r%8=6\/r%8=7 by omega)with h|h|h|h|h|h|h|h<;>rw[h]
 ·exact⟨_,rfl,q p0 [] G8 m0.nil g8 (b0 _ _ m0.at') ⟨by decide+kernel,by decide+kernel,by decide⟩ (by decide)⟩
 ·exact⟨_,rfl,q p1 ["x"] G8 (m0.g.free m1.nil) g8 (b1 _ _ m1.at') ⟨by decide+kernel,by decide+kernel,by decide⟩ (by decide)⟩
 ·exact⟨_,rfl,q p2 ["X"] G8 (a1.free m2.nil) g8 (b2 _ _ m2.at') ⟨by decide+kernel,by decide+kernel,by decide⟩ (by decide)⟩
 ·exact⟨_,rfl,q p3 ["x","X"] G8 (a2.free m3.nil) g8 (b3 _ _ m3.at') ⟨by decide+kernel,by decide+kernel,by decide⟩ (by decide)⟩
 ·exact⟨_,rfl,q p4 ["X1","x"] G8 (a3.free m4.nil) g8 (b4 _ _ m4.at') ⟨by decide+kernel,by decide+kernel,by decide⟩ (by decide)⟩
 ·exact⟨_,rfl,q p5 ["x","x1"] G8 (a4.free m5.nil) g8 (b5 _ _ m5.at') ⟨by decide+kernel,by decide+kernel,by decide⟩ (by decide)⟩
 ·exact⟨_,rfl,q p6 ["X"] G8 (a5.free m6.nil) g8 (b6 _ _ m6.at') ⟨by decide+kernel,by decide+kernel,by decide⟩ (by decide)⟩
 ·exact⟨_,rfl,q p7 ["x12","X"] G8 (a6.free m7.nil) g8 (b7 _ _ m7.at') ⟨by decide+kernel,by decide+kernel,by decide⟩ (by decide)⟩
abbrev s_law_row:Stmt:=top 63
theorem sc_law_row:FnScope ["_law_cells","_law_frame_here","_law_row_here","_law_cell","_law_k","_law_at","_law_place"] ["_law_cells","_law_frame_here"] (defScope s_law_row):={}
include T in
theorem zp2(d:Dfn K mg "_law_row" s_law_row ["_law_cells","_law_frame_here"])(C_law_mixed:Cal P w K mg base 1 "_law_mixed" ["_law_cell"] zd2):Cal P w K mg base 2 "_law_row" ["_law_cells","_law_frame_here"] zjo:=by
 refine d.cal sc_law_row (λvs H Q E h=>?_) (λf cdv A outer s H vs Q E hr h=>?_)
 ·obtain⟨c,b,ns,tl,rfl,_⟩:=h;rfl
 obtain⟨c,b,ns,tl,rfl,ec,h13,eb,T1,h2,q⟩:=h;have hu:=zex hr 8 (by decide);refine⟨_,(zab (zas (i:=2) sc_law_row.nd rfl (Or.inl rfl) (zaq zaa)) (zab (zck PassesOwn.never rfl (zbb K (pv 0)) (zau (i:=3) sc_law_row.nd (by rfl) (Or.inl (by rfl))) (zac (zc0 (zhl K PySem.F.plainAttrs_list PySem.F.slot_list_append PySem.F.type_list_append zcm (pv 2) (pa_c (zav zb5 (zav zc2 (zae C_law_mixed hr (by omega) (by rfl) (pa_c (pv 3) zaa)) zad) (zav zeo zad (za0 (zaj K) (by rfl) T.b_len im (pa_c (pv 1) zaa)))) zaa))))) (zab (zck PassesOwn.never rfl (zbo (by rfl) T.b_range (pa_c (za0 (zaj K) (by rfl) T.b_len im (pa_c (pv 1) zaa)) zaa)) (zau (i:=4) sc_law_row.nd (by rfl) (Or.inl (by rfl))) (zac (zay (PW.pt (zdp (zd4 zbq zbq zam (zap zhv (zap (zax K) (pv 1) (pv 4) (λ_ _=>rfl)) zad (λ_ _=>rfl)) zam) (zcy (zag (znc K hu) (pv 2) (zaq zaa) (nomark _))))) (zab (zas (i:=5) sc_law_row.nd rfl (Or.inl rfl) (zav zb5 (zav zc2 (zae C_law_mixed hr (by omega) (by rfl) (pa_c (zav zep (zap (zax K) (pv 0) zad (λ_ _=>rfl)) (pv 4)) zaa)) zad) (za0 (zaj K) (by rfl) T.b_len im (pa_c (pv 2) zaa)))) (zac (zck PassesOwn.never rfl (zbo (by rfl) T.b_range (pa_c (za0 (zaj K) (by rfl) T.b_len im (pa_c (pv 2) zaa)) zaa)) (zau (i:=6) sc_law_row.nd (by rfl) (Or.inl (by rfl))) (zab (zrb (zav zsz (zap (zax K) (pv 2) (pv 6) (λ_ _=>rfl)) (zav zeo zad (pv 4))) (zrd (pv 2) (pv 6) zjz)) (zac (zay (zag zgf (pv 6) (pv 5) (nomark _)) (zac (zrb (zav zup (zap (zax K) (pv 2) (pv 6) (λ_ _=>rfl)) (zav zeo zad (pv 4))) (zrd (pv 2) (pv 6) zjz))) zal)))))) zal))) (zac (zah (pv 2)))))),?_⟩;refine za1 [some (.ref c),some (.ref b),none,none,none,none,none] rfl ?_;trivial;refine mkT λp H1 n1=>⟨⟨_,.of (n1.g _ _ ec)⟩,?_⟩;have hp:H p=none:=n1.nil;have epw:(1:Int)*2^(tl.length:Int).toNat=((2^tl.length:Nat):Int):=by rw[y0l,y3v];simp
 have hpp:1<=2^tl.length:=y3r (by decide);refine zez (K:=K) (a:=c) (xs:=ns.map V.int) (λk σ H'=>Same H H'/\∃row v3,σ=[some (.ref c),some (.ref b),some (.ref p),v3,none,none,none]/\H' p=some (.lst (row.map nV))/\row.length=k/\Lo tl.length row) ⟨n1.g,[],none,rfl,n1.at',rfl,λ_ h=>nomatch h⟩ (λk σ H' _ z=>.of (z.1 _ _ ec)) ?_ ?_
 ·rintro k y σ H' hy ⟨g,row,v3,rfl,ep,hl,lo⟩;rw[y0k]at hy;obtain⟨x,ex,rfl⟩:=y19.mp hy;have hk:=(y05.mp ex).1;trivial;refine⟨.inl ⟨_,.of ep⟩,x,rfl,λm h0 h1=>⟨m,rfl,⟨by decide,by decide⟩,_,.inl (.of (g _ _ eb)),?_⟩⟩;rw[y00,epw];have hm1:=y3w (m/7) (show((2^tl.length:Nat):Int)≠0 by omega);have hm2:=y3i (m/7) (show(0:Int)<((2^tl.length:Nat):Int) by omega);obtain⟨d,hd⟩:∃d:Nat,m/7%((2^tl.length:Nat):Int)=(d:Int):=⟨(m/7%((2^tl.length:Nat):Int)).toNat,by omega⟩;rw[hd];refine⟨⟨by omega,by omega,by decide⟩,by omega,_,ep,small1000 (by rw[y00];omega),g.wr hp _,row++[d],by rw[zaw,y0r];rfl,by rw[y0a,hl];rfl,ztg lo (by omega)⟩
 rintro σ H' ⟨g,row,v3,rfl,ep,hl,lo⟩;rw[y00]at hl;trivial;refine⟨_,.inl (.of (g _ _ eb)),by rw[y00];omega,by rw[y00];omega,?_⟩;rw[y00,y0l];refine zda (λk σ H'=>Same H H'/\∃row v3 v4 v5 v6,σ=[some (.ref c),some (.ref b),some (.ref p),v3,v4,v5,v6]/\H' p=some (.lst (row.map nV))/\row.length=ns.length/\Lo tl.length row) ⟨g,row,_,_,_,_,rfl,ep,hl,lo⟩ ?_ ?_
 ·rintro k σ H2 hk ⟨g2,row2,v3,v4,v5,v6,rfl,ep2,hl2,lo2⟩;trivial;have hkk:k<tl.length:=hk;have ezV:(tl.map V.str)[k]?=some (.str tl[k]):=by rw[y0k,y0b hkk];rfl
  have hnm:=T1.sub _ (y0t hkk);have hc0:atI tl[k].cps.toList 0=some (tl[k].cps.toList.headD 0)/\tl[k].length<=3:=hnm.elim (λh=>⟨(ltr11 h).1,(ltr11 h).2.2.2⟩) λh=>⟨(ltrS11 h).1,(ltrS11 h).2.2⟩;rw[y2r];refine⟨_,.of (g2 _ _ eb),_,zak ezV,_,rfl,zaf (by omega),_,hc0.1,?_⟩;have eint:row2.map nV=(row2.map λ(x:Nat)=>(x:Int)).map V.int:=by rw[y0x];rfl
  rcases hnm with hnm|hnm
  ·obtain⟨_,h2',h3',_⟩:=ltr11 hnm;rw[h2',h3'];refine iteT (iteT (mkT λp1 H3 n3=>⟨_,.of (by rw[n3.g _ _ ep2,eint]),[],.of n3.at',?_⟩));have ep3:=n3.g _ _ ep2;have g3:=g2.trans n3.g;by_cases he:row2=[]
   ·rw[decide_eq_true (by rw[he];rfl)];exact iteF ⟨g3,row2,ep3,hl2,lo2⟩
   rw[decide_eq_false (λz=>he (List.map_eq_nil_iff.mp z))];have hpos:0<row2.length:=y3g.mpr he;obtain⟨x0,ex0⟩:∃x0,ns[0]?=some x0:=⟨_,y0b (by omega)⟩;have ex1:(ns.map V.int)[0]?=some (.int x0):=by rw[y0k,ex0];rfl
   refine iteT ⟨_,.of (g3 _ _ ec),_,zak (j:=0) ex1,_,rfl,_,rfl,λm h0 h1=>⟨m,rfl,⟨by decide,by decide⟩,_,.inl (.of ep3),by rw[y00];omega,_,.inl (.of ep3),by rw[y00];omega,by rw[y00];omega,?_⟩⟩;rw[y00,y0l];generalize m/50%(row2.length:Int)=at_;refine zda (λi σ H'=>Same H H'/\∃row v3 v6,σ=[some (.ref c),some (.ref b),some (.ref p),v3,some (.int (k:Int)),some (.int at_),v6]/\H' p=some (.lst (row.map nV))/\row.length=ns.length/\Lo tl.length row) ⟨g3,row2,_,_,rfl,ep3,hl2,lo2⟩ ?_ ?_
   ·rintro i σ H4 hi ⟨g4,row4,v3',v6',rfl,ep4,hl4,lo4⟩;trivial;rw[y2r];have hi4:i<row4.length:=by omega
    have ei:(row4.map nV)[i]?=some (nV row4[i]):=by rw[y0k,y0b hi4];rfl
    obtain⟨d,ed,hd⟩:=bo11 h2 hkk (lo4 _ (y0t hi4));refine⟨_,.of ep4,_,zak ei,⟨by omega,by omega,by decide⟩,_,rfl,_,ep4,i,ixN10 (by rw[y00];exact hi4),?_⟩;rw[ed,show(row4.map nV).set i (V.int (d:Int))=(row4.set i d).map nV from List.map_set.symm];have lo5:=zrm (i:=i) lo4 hd;have hl5:(row4.set i d).length=ns.length:=by rw[y3a];exact hl4
    by_cases ha:(i:Int)=at_
    ·rw[decide_eq_true ha];exact iteF ⟨g4.wr hp _,row4.set i d,zaw,hl5,lo5⟩
    ·rw[decide_eq_false ha];have ei5:((row4.set i d).map nV)[i]?=some (nV d):=by rw[y0k,y36 hi4];rfl
     obtain⟨d2,ed2,hd2⟩:=bx11 h2 hkk hd;refine iteT ⟨_,.of zaw,_,zak ei5,⟨by omega,by omega,by decide⟩,_,rfl,_,zaw,i,ixN10 (by rw[y00,y3a];exact hi4),?_⟩;rw[ed2,show((row4.set i d).map nV).set i (V.int (d2:Int))=((row4.set i d).set i d2).map nV from List.map_set.symm];exact⟨(g4.wr hp _).wr hp _,_,zaw,by rw[y3a];exact hl5,zrm lo5 hd2⟩
   ·rintro σ H4 ⟨g4,row4,v3',v6',rfl,ep4,hl4,lo4⟩;exact⟨g4,row4,_,_,_,_,rfl,ep4,hl4,lo4⟩
  ·obtain⟨_,h2',_⟩:=ltrS11 hnm;rw[h2'];exact iteF ⟨g2,row2,ep2,hl2,lo2⟩
 ·rintro σ H2 ⟨g2,row2,v3,v4,v5,v6,rfl,ep2,hl2,lo2⟩;trivial;exact q p row2 H2 hp g2 ep2 hl2 lo2
abbrev s_inner_sayings:Stmt:=top 24
theorem zdx:FnScope ["saying"] ["saying"] (defScope s_inner_sayings):={}
include T in
theorem zp7(d:Dfn K mg "inner_sayings" s_inner_sayings ["saying"]):Cal P w K mg base 1 "inner_sayings" ["saying"] zb7:=by
 refine d.cal zdx (λvs H Q E h=>?_) (λf cdv A outer s H vs Q E hr h=>?_)
 ·obtain⟨a,xs,rfl,_⟩:=h;rfl
 obtain⟨a,xs,rfl,e,hl,hk,q⟩:=h;refine⟨_,(zac (zah (za2 ["thing"] [] (CompOk.of rfl (by rfl) (by rfl)) (by rfl) (zc1 K (pv 0)) (λ_ _ _ _ _=>(zau (i:=0) (show List.Nodup (["thing"]:List Str) by decide+kernel) (by rfl) (Or.inl (by rfl)))) (λ_ _ _ _ _=>(zen (zbe (za0 zbs (by rfl) T.b_isinstance i5 (pa_c (pv 0) (pa_c (zcb (v:=.ty "tuple") (by rfl) T.b_tuple boot_tuple (by rfl)) zaa)))))) (λ_ _ _ _ _=>(pv 0))))),?_⟩;refine za1 [some (.ref a)] rfl ?_;trivial;have hS:SqT K H a xs:=.of e;refine⟨⟨xs,hS⟩,zvv (λσ=>∃v,σ=[v]) (isT H) id hl hS ⟨_,rfl⟩ ?_ ?_⟩
 ·rintro D i σ H' x hi hm hx g hD hD' ⟨v,rfl⟩;obtain⟨k,hk'⟩:=hk x hm;trivial;refine⟨k,hk'.same g,by decide,?_⟩;rw[Kd.isT hk'];cases ht:isT H x with
  |true=>exact iteT (ze1 hl hx ht hD hD' g ⟨_,rfl⟩ rfl)
  |false=>exact iteF (ze2 hx ht hD' g ⟨_,rfl⟩)
 ·intro D H' hD g hD';rw[y3f]at hD';exact q D H' hD g hD'
abbrev s_is_bare:Stmt:=top 25
theorem zk0:FnScope ["saying"] ["saying"] (defScope s_is_bare):={}
include T in
theorem znm(d:Dfn K mg "is_bare" s_is_bare ["saying"])(C_inner_sayings:Cal P w K mg base 1 "inner_sayings" ["saying"] zb7):Cal P w K mg base 2 "is_bare" ["saying"] zc3:=by
 refine d.cal zk0 (λvs H Q E h=>?_) (λf cdv A outer s H vs Q E hr h=>?_)
 ·obtain⟨v,s,rfl,_⟩:=h;rfl
 obtain⟨v,sy,rfl,r,q⟩:=h;have hu:=zex hr 8 (by decide);refine⟨_,(zac (zah (za5 (znf hu) (zae C_inner_sayings hr (by omega) (by rfl) (pa_c (pv 0) zaa)) (zaq zaa) (nomark _)))),?_⟩;refine za1 [some v] rfl ?_;trivial;refine atom λzG zk=>?_;obtain⟨a,xs,rfl,e,hl,hk,hp⟩:=r.items;refine zk ?_;refine⟨a,xs,rfl,e,by omega,hk,λD H1 hD g1 eD=>⟨by decide,λp H2 n2=>⟨_,(zpm (k:=0) (.of (n2.g _ _ eD)) n2.lst).up (by decide),?_⟩⟩⟩;have h:=q H2 (g1.trans n2.g);have eb:sy.isBare=decide (xs.filter (isT H)=[]):=by
  generalize xs.filter (isT H)=ys at hp;cases sy with
  |bare w n m=>cases hp;rfl
  |neg s=>cases hp;rfl
  |two w s t=>cases hp;rfl
  |qu w n s=>cases hp;rfl
 rw[eb]at h;exact h
abbrev s_count_parts:Stmt:=top 26
theorem zfa:FnScope ["saying"] ["saying"] (defScope s_count_parts):={}
include T in
theorem zqe{n:Nat}(d:Dfn K mg "count_parts" s_count_parts ["saying"])(C_inner_sayings:Cal P w K mg base 1 "inner_sayings" ["saying"] zb7)(C_count_parts:Cal P w K mg base (n+1) "count_parts" ["saying"] (zd3 n)):Cal P w K mg base (n+1+1) "count_parts" ["saying"] (zd3 (n+1)):=by
 refine d.cal zfa (λvs H Q E h=>?_) (λf cdv A outer s H vs Q E hr h=>?_)
 ·obtain⟨v,s,rfl,_⟩:=h;rfl
 obtain⟨v,sy,rfl,r,hd,q⟩:=h;refine⟨_,(zac (zah (zav zep zad (za0 (zdc K rfl) (by rfl) T.b_sum boot_sum (pa_c (za2 ["inner"] [] (CompOk.of rfl (by rfl) (by rfl)) (by rfl) (zbb K (zae C_inner_sayings hr (by omega) (by rfl) (pa_c (pv 0) zaa))) (λ_ _ _ _ _=>(zau (i:=0) (show List.Nodup (["inner"]:List Str) by decide+kernel) (by rfl) (Or.inl (by rfl)))) (λ_ _ _ _ _=>zbp) (λ_ _ _ _ _=>(zae C_count_parts hr (by omega) (by rfl) (pa_c (pv 0) zaa)))) zaa))))),?_⟩;refine za1 [some v] rfl ?_;trivial;obtain⟨a,xs,rfl,e,hl,hk,hp⟩:=r.items;refine⟨a,xs,rfl,e,by omega,hk,λD1 H1 hD1 g1 e1=>⟨D1,rfl,⟨_,.of e1⟩,?_⟩⟩;have hpl:=Paired.len hp;have l3:(xs.filter (isT H)).length<=1000:=y0y (y1b _ _) (by omega);refine zoz (K:=K) (a:=D1) (xs:=xs.filter (isT H)) (λσ=>∃v,σ=[v]) (λi=>.int (((sy.inner[i]?).map Sy.parts).getD 0)) l3 (.of e1) ⟨_,rfl⟩ ?_ ?_
 ·rintro D i σ H' x hi hx g hD hD' ⟨v,rfl⟩;obtain⟨t,et,rt⟩:=Paired.at hp hx;have dt:=(zew (y0j et)).1;trivial;refine⟨x,t,rfl,rt.same (g1.trans g),by omega,λH2 g2=>zi7 l3 hi hD (g2 _ _ hD') (g.trans g2) ⟨_,rfl⟩ (by rw[et];rfl)⟩
 ·intro D H' hD g eD;refine⟨D,rfl,(List.range (xs.filter (isT H)).length).map λi=>(((sy.inner[i]?).map Sy.parts).getD 0:Nat),.of (by rw[eD,y0x];rfl),?_⟩;have h:=q H' (g1.trans g);have es:(1:Int)+((List.range (xs.filter (isT H)).length).map λi=>((((sy.inner[i]?).map Sy.parts).getD 0:Nat):Int)).sum=(sy.parts:Int):=by
   rw[hpl];cases sy with
   |bare w n m=>rfl
   |neg s=>show(1:Int)+((s.parts:Int)+0)=((s.parts+1:Nat):Int);omega
   |two w s t=>show(1:Int)+((s.parts:Int)+((t.parts:Int)+0))=((s.parts+t.parts+1:Nat):Int);omega
   |qu w n s=>show(1:Int)+((s.parts:Int)+0)=((s.parts+1:Nat):Int);omega
  rw[es];exact h
theorem zid(T:Txt K mg w tw rw fa cLeftovers)(d:Dfn K mg "count_parts" s_count_parts ["saying"])(C1:Cal P w K mg base 1 "inner_sayings" ["saying"] zb7):∀n,Cal P w K mg base (n+1) "count_parts" ["saying"] (zd3 n)
 |0=>(d.never λvs H Q E h=>by obtain⟨v,s,_,_,hd,_⟩:=h;exact absurd hd (y1q _)).mono (by decide)
 |n+1=>zqe T d C1 (zid T d C1 n)
abbrev s_is_any_saying:Stmt:=top 27
theorem zdw:FnScope ["thing"] ["thing"] (defScope s_is_any_saying):={}
include T in
theorem znv(d:Dfn K mg "is_any_saying" s_is_any_saying ["thing"])(C_has_form:Cal P w K mg base 28 "has_form" ["thing","deepest"] (zf4 12))(C_count_parts:Cal P w K mg base 14 "count_parts" ["saying"] (zd3 13)):Cal P w K mg base 29 "is_any_saying" ["thing"] zha:=by
 refine d.cal zdw (λvs H Q E h=>?_) (λf cdv A outer s H vs Q E hr h=>?_)
 ·obtain⟨v,rfl,_⟩:=h;rfl
 obtain⟨v,rfl,ex,q⟩:=h;refine⟨_,(zac (zah (zb4 (zae C_has_form hr (by omega) (by rfl) (pa_c (pv 0) (pa_c (zbd (by rfl) T.g_DEEPEST) zaa))) (zb1 (za5 zuu (zae C_count_parts hr (by omega) (by rfl) (pa_c (pv 0) zaa)) (zbd (by rfl) T.g_MOST_PARTS) (nomark _)))))),?_⟩;refine za1 [some v] rfl ?_;trivial;refine⟨v,rfl,ex,λH1 g1=>⟨_,rfl,ite2 (λc=>?_) λc=>q false H1 g1 ⟨λz=>(by cases z),λ⟨s,r,hw,hd,_⟩=>absurd (zj1 r hw hd) c⟩⟩⟩;obtain⟨sy,r,hw,hd⟩:=zcu c;refine⟨v,sy,rfl,r.same g1,by omega,λH2 g2=>⟨_,rfl,q _ H2 (g1.trans g2) ⟨λz=>⟨sy,r,hw,hd,?_⟩,λ⟨s,r',_,_,hp⟩=>?_⟩⟩⟩
 ·have:=of_decide_eq_true z;omega
 ·rw[r.det r'];exact decide_eq_true (by omega)
abbrev s_is_let:Stmt:=top 28
theorem zms:FnScope ["saying","known","barred","most"] ["saying","known","barred","most"] (defScope s_is_let):={}
include T in
theorem zuz{n:Nat}{bw:List Str}(d:Dfn K mg "is_let" s_is_let ["saying","known","barred","most"])(C_inner_sayings:Cal P w K mg base 1 "inner_sayings" ["saying"] zb7)(C_is_bare:Cal P w K mg base 2 "is_bare" ["saying"] zc3)
  (C_is_let:Cal P w K mg base (n+2) "is_let" ["saying","known","barred","most"] (zg5 K bw n)):Cal P w K mg base (n+1+2) "is_let" ["saying","known","barred","most"] (zg5 K bw (n+1)):=by
 refine d.cal zms (λvs H Q E h=>?_) (λf cdv A outer s H vs Q E hr h=>?_)
 ·obtain⟨v,a,ba,s,tl,mo,rfl,_⟩:=h;rfl
 obtain⟨v,a,ba,sy,tl,mo,rfl,r,hd,ea,hl,hb,q⟩:=h;refine⟨_,(zab (zay (PW.pt (zb8 (zag zhp (za0 (zaj K) (by rfl) T.b_len im (pa_c (pv 1) zaa)) (pv 3) (nomark _)) (zbv (zag (zbg K) (zap (zai K) (pv 0) zad (λ_ _=>rfl)) (pv 2) (by with_unfolding_all rfl))))) (zac (zah zfc)) zal) (zab (zay (zag (zbg K) (zap (zai K) (pv 0) zad (λ_ _=>rfl)) (zbd (by rfl) T.g_TELLING_WORDS) (by with_unfolding_all rfl)) (zac (zah (zb4 (za5 (zbr K) (zap (zai K) (pv 0) zad (λ_ _=>rfl)) (pv 1) (by with_unfolding_all rfl)) (zb1 (zae C_is_let hr (by omega) (by rfl) (pa_c (zap (zai K) (pv 0) zad (λ_ _=>rfl)) (pa_c (zav zbj (pv 1) (zaq (pa_c (zap (zai K) (pv 0) zad (λ_ _=>rfl)) zaa))) (pa_c (pv 2) (pa_c (pv 3) zaa))))))))) zal) (zab (zay (zbe (zae C_is_bare hr (by omega) (by rfl) (pa_c (pv 0) zaa))) (zac (zah (za0 (zbc K rfl) (by rfl) T.b_all jb (pa_c (za2 ["name"] [(1,"known")] (CompOk.of rfl (by rfl) (by rfl)) (by rfl) (zc1 K (zbm (zjx K) (pv 0) (zbw zad) zb9)) (λ_ _ _ _ _=>(zau (i:=0) (show List.Nodup (["name","known"]:List Str) by decide+kernel) (by rfl) (Or.inl (by rfl)))) (λ_ _ _ _ _=>zbp) (λ_ _ _ _ _=>(za5 (zbg K) (pv 0) (pv 1) (by with_unfolding_all rfl)))) zaa)))) zal) (zac (zah (za0 (zbc K rfl) (by rfl) T.b_all jb (pa_c (za2 ["inner"] [(1,"known"),(2,"barred"),(3,"most")] (CompOk.of rfl (by rfl) (by rfl)) (by rfl) (zbb K (zae C_inner_sayings hr (by omega) (by rfl) (pa_c (pv 0) zaa))) (λ_ _ _ _ _=>(zau (i:=0) (show List.Nodup (["inner","known","barred","most"]:List Str) by decide+kernel) (by rfl) (Or.inl (by rfl)))) (λ_ _ _ _ _=>zbp) (λ_ _ _ _ _=>(zae C_is_let hr (by omega) (by rfl) (pa_c (pv 0) (pa_c (pv 1) (pa_c (pv 2) (pa_c (pv 3) zaa))))))) zaa))))))),?_⟩;refine za1 [some v,some (.ref a),some (.ref ba),some (.int mo)] rfl ?_;trivial;rw[zth]at q;refine⟨_,.inl (.of ea),ite2 (λc=>?_) λc=>?_⟩
 ·have c':=of_decide_eq_true c;rw[y00]at c';have h:=q H (Same.refl H);rw[decide_eq_false (by omega),y1d,y1d]at h;exact h
 have c':=of_decide_eq_false (y17.mpr c);rw[y00]at c';rw[decide_eq_true (by omega),y1e]at q;have tw':=T.t_TELLING_WORDS H;refine atom λzG zk=>?_;obtain⟨p0,rest,ev,e0⟩:∃p rest,v=.ref p/\H p=some (.tup (.str (wordOf sy)::rest)):=by
  cases r with
  |bare hw e=>exact⟨_,_,rfl,e⟩
  |neg e hx=>exact⟨_,_,rfl,e⟩
  |two hw e h1 h2=>exact⟨_,_,rfl,e⟩
  |qu hw e hx=>exact⟨_,_,rfl,e⟩
 refine zk ?_;subst ev;refine ixm (.of e0) zat ⟨_,.inr (hb H),rfl,zbz bw,?_⟩;rw[zeb];by_cases hwb:wordOf sy∈bw
 ·rw[decide_eq_true hwb];have h:=q H (Same.refl H);rw[decide_eq_false (λz=>z hwb),y1d]at h;exact iteT h
 rw[decide_eq_false hwb];rw[decide_eq_true hwb,y1e]at q;refine iteF (ixm (.of e0) zat ⟨_,.inr tw',rfl,rfl,?_⟩);have other:(∀w n t,sy ≠ .qu w n t)->sy.isBare=false->∀H1,Same H H1->zb7 [.ref p0] H1 (λx H1=>∃a_1,x=V.ref a_1/\(∃xs,SqL K H1 a_1 xs)/\
   cBody ["inner"] [(1,"known"),(2,"barred"),(3,"most")] (gName 0) tYes (tCall (zg5 K bw n) [] E0 (tCons (tVar 0) (tCons (tVar 1) (tCons (tVar 2) (tCons (tVar 3) tNil)))))
    [some (.ref p0),some (V.ref a),some (V.ref ba),some (V.int mo)] (λx H1=>∃p,x=V.ref p/\∃x,SqL K H1 p (List.map V.bl x)/\Q (V.bl (x.all id)) H1) (Itl K a_1) H1) E0:=by
  intro nq hbare H1 g1;refine atom λzG zk=>?_;obtain⟨p1,xs,ev',e,hl3,hk,pr⟩:=r.items;refine zk ?_;cases ev';rw[zlk nq hbare]at q;have eis:xs.filter (isT H1)=xs.filter (isT H):=y31 λy hy=>by
   obtain⟨k,z⟩:=hk y hy;rw[←Kd.isT z,←Kd.isT (z.same g1)]
  have hpl:=Paired.len pr;have l3:(xs.filter (isT H)).length<=1000:=y0y (y1b _ _) (by omega);refine⟨p0,xs,rfl,g1 _ _ e,by omega,λy hy=>let⟨k,z⟩:=hk y hy;⟨k,z.same g1⟩,λD1 H2 hD1 g2 e2=>⟨D1,rfl,⟨_,.of e2⟩,?_⟩⟩;rw[eis]at e2;have g12:=g1.trans g2;refine zoz (K:=K) (a:=D1) (xs:=xs.filter (isT H)) (λσ=>∃v,σ=[v,some (V.ref a),some (V.ref ba),some (V.int mo)]) (λi=>.bl (((sy.inner[i]?).map (letB bw mo tl)).getD true)) l3 (.of e2) ⟨_,rfl⟩ ?_ ?_
  ·rintro D i σ H' x hi hx g hD hD' ⟨v,rfl⟩;obtain⟨t,et,rt⟩:=Paired.at pr hx;have dt:=(zew (y0j et)).1;have gx:=g12.trans g;trivial;exact⟨x,a,ba,t,tl,mo,rfl,rt.same gx,by omega,gx _ _ ea,by omega,hb,λH3 g3=>zi7 l3 hi hD (g3 _ _ hD') (g.trans g3) ⟨_,rfl⟩ (by rw[et];rfl)⟩
  ·intro D H' hD g eD;refine⟨D,rfl,(List.range (xs.filter (isT H)).length).map λi=>((sy.inner[i]?).map (letB bw mo tl)).getD true,.of (by rw[eD,y0x];rfl),?_⟩;rw[hpl,zcp];exact q H' (g12.trans g)
 cases r with
 |qu hw e hx =>
  rename_i wd nm x t;rw[show wordOf (Sy.qu wd nm t)=wd from rfl,zl9 wd hw];replace q:∀H',Same H H'->Q (.bl (decide (nm∉tl)&&letB bw mo (tl++[nm]) t)) H':=q;have dn:=zq2 wd nm t;refine iteT (ixm (.of e) (zak (j:=1) rfl) ⟨_,.inl (.of ea),rfl,zbz tl,?_⟩);rw[zeb];by_cases hn:nm∈tl
  ·rw[decide_eq_true hn];have h:=q H (Same.refl H);rw[decide_eq_false (λz=>z hn),y1d]at h;exact iteF h
  rw[decide_eq_false hn];rw[decide_eq_true hn,y1e]at q;refine iteT (ixm (.of e) (zak (j:=2) rfl) (ixm (.of e) (zak (j:=1) rfl) (mkT λp1 H1 n1=>⟨_,n1.g _ _ ea,_,n1.at',zaf (by rw[y00,y0n];omega),λp2 H2 n2=>?_⟩)));have g2:=n1.g.trans n2.g;exact⟨x,p2,ba,t,tl++[nm],mo,rfl,hx.same g2,by omega,by rw[n2.at',y0r];rfl,by rw[y0a,y0n];omega,hb,λH3 g3=>q H3 (g2.trans g3)⟩
 |neg e hx =>
  rw[show wordOf (Sy.neg _)=("not":Str)from rfl,zqh];exact iteF ⟨_,_,rfl,.neg e hx,λH1 g1=>⟨_,rfl,iteF (other (λ_ _ _ z=>by cases z) rfl H1 g1)⟩⟩
 |two hw e h1 h2 =>
  rename_i wd x y t1 t2;rw[show wordOf (Sy.two wd t1 t2)=wd from rfl,zn6 wd hw];exact iteF ⟨_,_,rfl,.two hw e h1 h2,λH1 g1=>⟨_,rfl,iteF (other (λ_ _ _ z=>by cases z) rfl H1 g1)⟩⟩
 |bare hw e =>
  rename_i wd nm m;rw[show wordOf (Sy.bare wd nm m)=wd from rfl,zo3 wd hw];replace q:∀H',Same H H'->Q (.bl (decide (nm∈tl)&&decide (m∈tl))) H':=q;refine iteF ⟨_,_,rfl,.bare hw e,λH1 g1=>⟨_,rfl,iteT ⟨p0,rfl,_,.of (g1 _ _ e),zhb (by simp),λp H2 n2=>⟨⟨_,.of n2.at'⟩,?_⟩⟩⟩⟩;have ec:cutL [V.str wd,V.str nm,V.str m] (some 1) none=[nm,m].map V.str:=by
   rw[show((1:Int))=((1:Nat):Int)from rfl,zdb];rfl
  rw[ec]at n2;have g:=g1.trans n2.g;refine zvr (K:=K) (a:=p) (xs:=[nm,m].map V.str) (λσ=>∃v,σ=[v,some (.ref a)]) (λy=>.bl (inV y (tl.map V.str))) (by simp) (.of n2.at') ⟨_,rfl⟩ ?_ ?_
  ·rintro D i σ H' x hi hm hx g' hD hD' ⟨v,rfl⟩;have fx:flatV x=true:=by
    obtain⟨z,_,rfl⟩:=y0m.mp hm;rfl
   trivial;exact⟨_,.inl (.of (g' _ _ (g _ _ ea))),fx,zbz tl,zgq (by simp) hx hD hD' g' ⟨_,rfl⟩ rfl⟩
  ·intro D H' hD g' hD';refine⟨D,rfl,[decide (nm∈tl),decide (m∈tl)],.of ?_,?_⟩
   ·rw[hD'];show some (HO.lst [.bl (inV (.str nm) (tl.map V.str)),.bl (inV (.str m) (tl.map V.str))])=_;rw[zeb,zeb];rfl
   ·have h:=q H' (g.trans g');rw[show[decide (nm∈tl),decide (m∈tl)].all id=(decide (nm∈tl)&&(decide (m∈tl)&&true))from rfl,y2k];exact h
theorem zo6{bw:List Str}(T:Txt K mg w tw rw fa cLeftovers)(d:Dfn K mg "is_let" s_is_let ["saying","known","barred","most"])(C1:Cal P w K mg base 1 "inner_sayings" ["saying"] zb7)(C2:Cal P w K mg base 2 "is_bare" ["saying"] zc3):
  ∀n,Cal P w K mg base (n+2) "is_let" ["saying","known","barred","most"] (zg5 K bw n)
 |0=>(d.never λvs H Q E h=>by obtain⟨v,a,ba,s,tl,mo,_,_,hd,_⟩:=h;exact absurd hd (y1q _)).mono (by decide)
 |n+1=>zuz T d C1 C2 (zo6 T d C1 C2 n)
abbrev s_is_saying:Stmt:=top 29
theorem zhf:FnScope ["thing","frame"] ["thing","frame"] (defScope s_is_saying):={}
include T in
theorem zp6(d:Dfn K mg "is_saying" s_is_saying ["thing","frame"])(C_is_frame:Cal P w K mg base 4 "is_frame" ["thing"] zsa)(C_is_any_saying:Cal P w K mg base 29 "is_any_saying" ["thing"] zha)
  (C_is_let:Cal P w K mg base 15 "is_let" ["saying","known","barred","most"] (zg5 K treeWords 13)):Cal P w K mg base 30 "is_saying" ["thing","frame"] (zjr treeWords 4):=by
 refine d.cal zhf (λvs H Q E h=>?_) (λf cdv A outer s H vs Q E hr h=>?_)
 ·obtain⟨v,fv,rfl,_⟩:=h;rfl
 obtain⟨v,fv,rfl,ex,tf,hf,q⟩:=h;refine⟨_,(zac (zah (zb4 (zae C_is_frame hr (by omega) (by rfl) (pa_c (pv 1) zaa)) (zb4 (zae C_is_any_saying hr (by omega) (by rfl) (pa_c (pv 0) zaa)) (zb1 (zae C_is_let hr (by omega) (by rfl) (pa_c (pv 0) (pa_c (pv 1) (pa_c (zbd (by rfl) T.g_TREE_WORDS) (pa_c (zbd (by rfl) T.g_MOST_NAMES) zaa)))))))))),?_⟩;refine za1 [some v,some fv] rfl ?_;trivial;refine⟨fv,rfl,tf,hf,λH1 g1=>⟨_,rfl,ite2 (λc=>?_) λc=>q false H1 g1 ⟨λz=>(by cases z),λ⟨a,tl,s,ev,e,hfr,_⟩=>absurd (show frB H fv=true by rw[ev];simp only[frB,e];exact hfr) c⟩⟩⟩;refine atom λzG zk=>?_;obtain⟨a,tl,rfl,e,hfr,h4⟩:=zvm c;refine zk ?_;refine⟨v,rfl,ex.same g1,λb H2 g2 hb=>⟨_,rfl,?_⟩⟩;have back:(∃s,AnySay H1 v s)↔∃s,AnySay H v s:=⟨λ⟨s,r,hw,hd,hp⟩=>by
   have h1:=zj1 r hw hd;rw[zdh g1 ex]at h1;refine atom λzG zk=>?_;obtain⟨s',r',hw',hd'⟩:=zcu h1;refine zk ?_;rw[r.det (r'.same g1)]at hp;exact⟨s',r',hw',hd',hp⟩,λ⟨s,r,hw,hd,hp⟩=>⟨s,r.same g1,hw,hd,hp⟩⟩
 rw[back]at hb;refine ite2 (λcb=>?_) λcb=>q false H2 (g1.trans g2) ⟨λz=>(by cases z),λ⟨_,_,s,_,_,_,as,_⟩=>absurd (hb.mpr ⟨s,as⟩) cb⟩;refine atom λzG zk=>?_;obtain⟨sy,as⟩:=hb.mp cb;obtain⟨r,hw,hd,hp⟩:=id as;refine zk ?_;refine⟨v,a,rw,sy,tl,4,rfl,r.same (g1.trans g2),by omega,g2 _ _ (g1 _ _ e),by omega,T.t_TREE_WORDS,λH3 g3=>q _ H3 (g1.trans (g2.trans g3)) ⟨λz=>⟨a,tl,sy,rfl,e,hfr,as,z⟩,λ⟨a',tl',s',ev,e',_,as',z⟩=>?_⟩⟩;cases ev;rw[e]at e';have et:tl=tl':=by
  have:=(Option.some.inj e');exact zjm (HO.lst.inj this)
 subst et;rw[r.det as'.1];exact z
abbrev s_is_whole:Stmt:=top 39
theorem zio:FnScope ["thing"] ["thing"] (defScope s_is_whole):={}
include T in
theorem znh(d:Dfn K mg "is_whole" s_is_whole ["thing"]):Cal P w K mg base 1 "is_whole" ["thing"] zg3:=by
 refine d.cal zio (λvs H Q E h=>?_) (λf cdv A outer s H vs Q E hr h=>?_)
 ·obtain⟨v,rfl,_⟩:=h;rfl
 obtain⟨v,rfl,h⟩:=h;refine⟨_,(zac (zah (zb4 (za0 zbs (by rfl) T.b_isinstance i5 (pa_c (pv 0) (pa_c (zcb (v:=.ty "int") (by rfl) T.b_int boot_int (by rfl)) zaa))) (zb1 (zm7 (za0 zbs (by rfl) T.b_isinstance i5 (pa_c (pv 0) (pa_c (zcb (v:=.ty "bool") (by rfl) T.b_bool boot_bool (by rfl)) zaa)))))))),?_⟩;refine za1 [some v] rfl ?_;trivial;rcases h with⟨r,rfl,q⟩|⟨k,kd,nk,q⟩
 ·exact⟨_,.int r,by decide,iteT ⟨_,.int r,by decide,q⟩⟩
 ·refine⟨_,kd,by decide,?_⟩;cases kd with
  |bl b=>exact iteT ⟨_,.bl b,by decide,q⟩
  |int=>exact absurd rfl nk
  |_=>exact iteF q
abbrev s_is_below:Stmt:=top 40
theorem zis:FnScope ["thing","bound"] ["thing","bound"] (defScope s_is_below):={}
include T in
theorem znt(d:Dfn K mg "is_below" s_is_below ["thing","bound"])(C_is_whole:Cal P w K mg base 1 "is_whole" ["thing"] zg3):Cal P w K mg base 2 "is_below" ["thing","bound"] zg9:=by
 refine d.cal zis (λvs H Q E h=>?_) (λf cdv A outer s H vs Q E hr h=>?_)
 ·obtain⟨v,n,rfl,_⟩:=h;rfl
 obtain⟨v,n,rfl,h⟩:=h;refine⟨_,(zac (zah (zb4 (zae C_is_whole hr (by omega) (by rfl) (pa_c (pv 0) zaa)) (zb1 (zpz zuu zp1 zad (pv 0) (pv 1)))))),?_⟩;refine za1 [some v,some (.int n)] rfl ?_;trivial;rcases h with⟨r,rfl,h0,h1,q⟩|⟨⟨r,rfl,hn⟩|⟨k,kd,nk⟩,q⟩
 ·refine⟨_,rfl,.inl ⟨r,rfl,_,rfl,iteT ⟨r,rfl,?_⟩⟩⟩;refine itT h0 ⟨r,rfl,?_⟩;rw[decide_eq_true h1];exact q
 ·refine⟨_,rfl,.inl ⟨r,rfl,_,rfl,iteT ⟨r,rfl,?_⟩⟩⟩;by_cases h0:0<=r
  ·refine itT h0 ⟨r,rfl,?_⟩;rw[decide_eq_false (λh1=>hn ⟨h0,h1⟩)];exact q
  ·exact itF h0 q
 ·exact⟨_,rfl,.inr ⟨k,kd,nk,_,rfl,iteF q⟩⟩
abbrev s_is_letter:Stmt:=top 42
theorem zhg:FnScope ["thing","tracks"] ["thing","tracks"] (defScope s_is_letter):={}
include T in
theorem ziw(d:Dfn K mg "is_letter" s_is_letter ["thing","tracks"])(C_is_below:Cal P w K mg base 2 "is_below" ["thing","bound"] zg9):Cal P w K mg base 3 "is_letter" ["thing","tracks"] zef:=by
 refine d.cal zhg (λvs H Q E h=>?_) (λf cdv A outer s H vs Q E hr h=>?_)
 ·obtain⟨r,k,rfl,_⟩:=h;rfl
 obtain⟨r,k,rfl,hk,q⟩:=h;have hp2:(1:Int)*2^((k:Nat):Int).toNat=2^k:=by rw[y3v,y0l]
 refine⟨_,(zac (zah (zae C_is_below hr (by omega) (by rfl) (pa_c (pv 0) (pa_c (zav zeo zad (pv 1)) zaa))))),?_⟩;refine za1 [some (.int r),some (nV k)] rfl ?_;trivial;refine⟨⟨by omega,by omega,by decide⟩,_,_,rfl,?_⟩;rw[hp2];by_cases h:0<=r/\r<2^k
 ·rw[decide_eq_true h]at q;exact .inl ⟨r,rfl,h.1,h.2,q⟩
 ·rw[decide_eq_false h]at q;exact .inr ⟨.inl ⟨r,rfl,h⟩,q⟩
abbrev s_check_row:Stmt:=top 43
theorem zhh:FnScope ["frame","row"] ["frame","row"] (defScope s_check_row):={}
include T in
theorem zns(d:Dfn K mg "check_row" s_check_row ["frame","row"])(C_is_letter:Cal P w K mg base 3 "is_letter" ["thing","tracks"] zef):Cal P w K mg base 4 "check_row" ["frame","row"] zjp:=by
 refine d.cal zhh (λvs H Q E h=>?_) (λf cdv A outer s H vs Q E hr h=>?_)
 ·obtain⟨f,r,names,rs,rfl,_⟩:=h;rfl
 obtain⟨fa,ra,names,row,rfl,ef,h4,er,h200,hin,q⟩:=h;refine⟨_,(zac (zay (PW.pt (zb8 (zb3 (zbe (za0 zbs (by rfl) T.b_isinstance i5 (pa_c (pv 1) (pa_c (zcb (v:=.ty "list") (by rfl) T.b_list boot_list (by rfl)) zaa))))) (zbv (zb3 (zbe (za0 (zbc K rfl) (by rfl) T.b_all jb (pa_c (za2 ["thing"] [(0,"frame")] (CompOk.of rfl (by rfl) (by rfl)) (by rfl) (zbb K (pv 1)) (λ_ _ _ _ _=>(zau (i:=0) (show List.Nodup (["thing","frame"]:List Str) by decide+kernel) (by rfl) (Or.inl (by rfl)))) (λ_ _ _ _ _=>zbp) (λ_ _ _ _ _=>(zae C_is_letter hr (by omega) (by rfl) (pa_c (pv 0) (pa_c (za0 (zaj K) (by rfl) T.b_len im (pa_c (pv 1) zaa)) zaa))))) zaa))))))) (zac zgc) zal)),?_⟩;refine za1 [some (.ref fa),some (.ref ra)] rfl ?_;trivial;refine⟨_,.lst er,by decide,iteF ⟨⟨_,.of er⟩,zja (K:=K) (a:=ra) (xs:=row.map nV) (λσ=>∃v,σ=[v,some (.ref fa)]) (λ_=>.bl true) (by rw[y00];omega) (.of er) ⟨_,rfl⟩ ?_ ?_⟩⟩
 ·rintro D3 i σ H3 x hi hm hx gg hD3 hD3' ⟨v,rfl⟩;obtain⟨z,mz,rfl⟩:=y0m.mp hm;trivial;refine⟨_,.inl (.of (gg _ _ ef)),?_⟩;rw[y00];refine⟨z,names.length,rfl,h4,?_⟩;have h1:=hin z mz;rw[show decide (0<=(z:Int)/\(z:Int)<2^names.length)=true from decide_eq_true ⟨by omega,by rw[zsn];omega⟩];exact zgq (by rw[y00];omega) hx hD3 hD3' gg ⟨_,rfl⟩ rfl
 intro D3 H3 hD3 g3 eD3;have eD3':H3 D3=some (.lst ((row.map λ_=>true).map V.bl)):=by rw[eD3,y0x,y0x];rfl
 refine⟨D3,rfl,_,.of eD3',?_⟩;rw[show(!(row.map λ_=>true).all id)=false by simp];exact iteF (q H3 g3)
abbrev s_count_with:Stmt:=top 44
theorem zf9:FnScope ["letters","track"] ["letters","track"] (defScope s_count_with):={}
include T in
theorem znr(d:Dfn K mg "count_with" s_count_with ["letters","track"]):Cal P w K mg base 1 "count_with" ["letters","track"] zg8:=by
 refine d.cal zf9 (λvs H Q E h=>?_) (λf cdv A outer s H vs Q E hr h=>?_)
 ·obtain⟨r,row,k,rfl,_⟩:=h;rfl
 obtain⟨ra,row,k,rfl,er,h200,h32,hk,q⟩:=h;refine⟨_,(zac (zah (za0 (zdc K rfl) (by rfl) T.b_sum boot_sum (pa_c (za2 ["letter"] [(1,"track")] (CompOk.of rfl (by rfl) (by rfl)) (by rfl) (zbb K (pv 0)) (λ_ _ _ _ _=>(zau (i:=0) (show List.Nodup (["letter","track"]:List Str) by decide+kernel) (by rfl) (Or.inl (by rfl)))) (λ_ _ _ _ _=>zbp) (λ_ _ _ _ _=>(zav zj6 (zav zrf (pv 0) (pv 1)) zad))) zaa)))),?_⟩;refine za1 [some (.ref ra),some (nV k)] rfl ?_;trivial;refine⟨⟨_,.of er⟩,zja (K:=K) (a:=ra) (xs:=row.map nV) (λσ=>∃v,σ=[v,some (nV k)]) (λv=>match v with|.int i=>.int (Builtin.bitAnd (i/2^k) 1)|_=>.non) (by rw[y00];omega) (.of er) ⟨_,rfl⟩ ?_ ?_⟩
 ·rintro D3 i σ H3 x hi hm hx gg hD3 hD3' ⟨v,rfl⟩;obtain⟨z,mz,rfl⟩:=y0m.mp hm;trivial;exact⟨by omega,zgq (by rw[y00];omega) hx hD3 hD3' gg ⟨_,rfl⟩ (by rw[y0l])⟩
 intro D3 H3 hD3 g3 eD3;have eD3':H3 D3=some (.lst ((row.map λ(l:Nat)=>Builtin.bitAnd ((l:Int)/2^k) 1).map V.int)):=by rw[eD3,y0x,y0x];rfl
 refine⟨D3,rfl,_,.of eD3',?_⟩;rw[zrv k hk row h32];exact q H3 g3
abbrev s_each_place_once:Stmt:=top 45
theorem zc5:FnScope ["frame","letters"] ["frame","letters"] (defScope s_each_place_once):={}
include T in
theorem zs5(d:Dfn K mg "each_place_once" s_each_place_once ["frame","letters"])(C_is_place:Cal P w K mg base 2 "is_place" ["thing"] (ze8 SMALL))(C_count_with:Cal P w K mg base 1 "count_with" ["letters","track"] zg8):Cal P w K mg base 3 "each_place_once" ["frame","letters"] zme:=by
 refine d.cal zc5 (λvs H Q E h=>?_) (λf cdv A outer s H vs Q E hr h=>?_)
 ·obtain⟨f,r,names,rs,rfl,_⟩:=h;rfl
 obtain⟨fa,ra,names,row,rfl,ef,fo,er,h200,h32,q⟩:=h;have h4:=fo.1;refine⟨_,(zac (zah (za0 (zbc K rfl) (by rfl) T.b_all jb (pa_c (za2 ["track","name"] [(1,"letters")] (CompOk.of rfl (by rfl) (by rfl)) (by rfl) (zpr K (by rfl) T.b_enumerate (pa_c (pv 0) zaa)) (λ_ _ _ _ _=>(zm6 K (n:=2) rfl (zd5 (zau (i:=0) (show List.Nodup (["track","name","letters"]:List Str) by decide+kernel) (by rfl) (Or.inl (by rfl))) (zd5 (zau (i:=1) (show List.Nodup (["track","name","letters"]:List Str) by decide+kernel) (by rfl) (Or.inl (by rfl))) zm5)))) (λ_ _ _ _ _=>(zen (zbe (zae C_is_place hr (by omega) (by rfl) (pa_c (pv 1) zaa))))) (λ_ _ _ _ _=>(za5 za3 (zae C_count_with hr (by omega) (by rfl) (pa_c (pv 2) (pa_c (pv 0) zaa))) zad (nomark _)))) zaa)))),?_⟩;refine za1 [some (.ref fa),some (.ref ra)] rfl ?_;trivial;refine⟨⟨_,.of ef⟩,?_⟩;refine ztv (K:=K) (a:=fa) (xs:=names.map V.str) (λσ=>∃v v',σ=[v,v',some (.ref ra)]) (λk=>isP (names.getD k (Str.ofString ""))) (λk=>.bl (cw row k==1)) (by rw[y00];omega) (.of ef) ⟨_,_,rfl⟩ ?_ ?_
 ·rintro D3 i σ H3 x pt H4 hx gg hD3 hD3' ⟨v,v',rfl⟩ n4;rw[y0k]at hx;obtain⟨z,ez,rfl⟩:=y19.mp hx;have hi:=(y05.mp ez).1;have hz:names.getD i (Str.ofString "")=z:=by rw[y0u,ez];rfl
  trivial;refine⟨_,.of n4.at',rfl,_,_,rfl,_,_,rfl,rfl,.str z,_,rfl,.str z,(λz' ez'=>by injection ez' with ez';subst ez';exact zqi (fo.2 z (y0j ez))),λH5 g5=>⟨_,rfl,?_⟩⟩;have hv:isNm (.str z) SMALL=isP (names.getD i (Str.ofString "")):=by rw[hz];rfl
  rw[hv];cases hP:isP (names.getD i (Str.ofString ""))with
  |true =>
   refine iteT ⟨ra,row,i,rfl,(gg.trans (n4.g.trans g5)) _ _ er,h200,h32,by omega,λH6 g6=>⟨rfl,?_⟩⟩;refine zkl (by rw[y00];omega) (by rw[y00];exact hi) hP hD3 ((n4.g.trans (g5.trans g6)) _ _ hD3') (gg.trans (n4.g.trans (g5.trans g6))) ⟨_,_,rfl⟩ ?_;exact congrArg V.bl (ztq (cw row i))
  |false=>exact iteF (zkm (by rw[y00];exact hi) hP ((n4.g.trans g5) _ _ hD3') (gg.trans (n4.g.trans g5)) ⟨_,_,rfl⟩)
 intro D3 H3 hD3 g3 eD3;have eD3':H3 D3=some (.lst ((((List.range names.length).filter λk=>isP (names.getD k (Str.ofString ""))).map λk=>cw row k==1).map V.bl)):=by rw[eD3,y00,y0x];rfl
 refine⟨D3,rfl,_,.of eD3',?_⟩;have e:((((List.range names.length).filter λk=>isP (names.getD k (Str.ofString ""))).map λk=>cw row k==1).all id)=fitB names row:=by
  unfold fitB;rw[y2c,List.all_filter];rfl
 rw[e];exact q H3 g3
abbrev s_fits:Stmt:=top 46
theorem zsj:FnScope ["frame","row"] ["frame","row"] (defScope s_fits):={}
include T in
theorem zqb(d:Dfn K mg "fits" s_fits ["frame","row"])(C_check_row:Cal P w K mg base 4 "check_row" ["frame","row"] zjp)(C_each_place_once:Cal P w K mg base 3 "each_place_once" ["frame","letters"] zme):Cal P w K mg base 5 "fits" ["frame","row"] zjt:=by
 refine d.cal zsj (λvs H Q E h=>?_) (λf cdv A outer s H vs Q E hr h=>?_)
 ·obtain⟨f,r,names,rs,rfl,_⟩:=h;rfl
 obtain⟨fa,ra,names,row,rfl,ef,fo,er,h200,hin,q⟩:=h;have h4:=fo.1;refine⟨_,(zab (zc0 (zae C_check_row hr (by omega) (by rfl) (pa_c (pv 0) (pa_c (pv 1) zaa)))) (zac (zah (zae C_each_place_once hr (by omega) (by rfl) (pa_c (pv 0) (pa_c (pv 1) zaa)))))),?_⟩;refine za1 [some (.ref fa),some (.ref ra)] rfl ?_;trivial;have h32:∀l∈row,l<32:=λl ml=>by
  have:=hin l ml;have:=zhk h4;omega
 exact⟨fa,ra,names,row,rfl,ef,h4,er,h200,hin,λH1 g1=>⟨fa,ra,names,row,rfl,g1 _ _ ef,fo,g1 _ _ er,h200,h32,λH2 g2=>q H2 (g1.trans g2)⟩⟩
abbrev s_Leftovers_of_saying:Stmt:=inClass (top 37) 8
theorem sc_Leftovers_of_saying:FnScope ["self","saying","names","word","bit","left"] ["self","saying","names"] (defScope s_Leftovers_of_saying):={}
theorem zno(T:Txt K mg w tw rw fa cLeftovers)(d:DfnM K cLeftovers "of_saying" "Leftovers.of_saying" s_Leftovers_of_saying ["self","saying","names"])(C_is_bare:Cal P w K mg base 2 "is_bare" ["saying"] zc3)(C_bit_of:Cal P w K mg base 1 "bit_of" ["name","names"] zjw)(C_Leftovers_numbered:CalM P w K mg base 1 cLeftovers "numbered" ["self","form"] (zcg P w cLeftovers))(C_Leftovers_of_not:CalM P w K mg base 2 cLeftovers "of_not" ["self","left"] (zeg P w cLeftovers))(C_Leftovers_of_and:CalM P w K mg base 2 cLeftovers "of_and" ["self","one","other"] (zeh P w cLeftovers))(C_Leftovers_of_or:CalM P w K mg base 3 cLeftovers "of_or" ["self","one","other"] (zq6 P w cLeftovers))(C_Leftovers_of_some:CalM P w K mg base 3 cLeftovers "of_some" ["self","name","bit","left"] (zjs P w cLeftovers)):∀lv,CalM P w K mg base (4+lv) cLeftovers "of_saying" ["self","saying","names"] (zmg P w cLeftovers lv)
 |0=>(d.never λvs H Q E z=>by obtain⟨_,_,_,s,_,_,_,_,_,_,_,_,h,_⟩:=z;cases s<;>exact absurd h (by simp[Sy.depth])).mono (by omega)
 |lv+1=>by
  have C_Leftovers_of_saying:=zno T d C_is_bare C_bit_of C_Leftovers_numbered C_Leftovers_of_not C_Leftovers_of_and C_Leftovers_of_or C_Leftovers_of_some lv;refine d.cal sc_Leftovers_of_saying (λvs H Q E h=>?_) (λf cdv A outer s H vs Q E hr h=>?_)
  ·obtain⟨A,b,v,s,tl,B,t,fs,sts,rfl,_⟩:=h;rfl
  obtain⟨LA,b,v,sy,tl,B,t,fs,sts,rfl,L,r,hd,eb,nb,S,hlim,q⟩:=h;change Room (4+lv) _ at hr;refine⟨_,(zab (zas (i:=3) sc_Leftovers_of_saying.nd rfl (Or.inl rfl) (zap (zai K) (pv 1) zad (λ_ _=>rfl))) (zab (zay (zbe (zae C_is_bare hr (by omega) (by rfl) (pa_c (pv 1) zaa))) (zac (zah (zan C_Leftovers_numbered T.cl_Leftovers hr (by omega) (pv 0) (pa_c (zbf (pa_c (pv 3) (pa_c (zae C_bit_of hr (by omega) (by rfl) (pa_c (zap (zai K) (pv 1) zad (λ_ _=>rfl)) (pa_c (pv 2) zaa))) (pa_c (zae C_bit_of hr (by omega) (by rfl) (pa_c (zap (zai K) (pv 1) zad (λ_ _=>rfl)) (pa_c (pv 2) zaa))) zaa)))) zaa)))) zal) (zab (zay (zag za3 (pv 3) zam (nomark _)) (zac (zah (zan C_Leftovers_of_not T.cl_Leftovers hr (by omega) (pv 0) (pa_c (zan C_Leftovers_of_saying T.cl_Leftovers hr (by omega) (pv 0) (pa_c (zap (zai K) (pv 1) zad (λ_ _=>rfl)) (pa_c (pv 2) zaa))) zaa)))) zal) (zab (zay (zag za3 (pv 3) zam (nomark _)) (zac (zah (zan C_Leftovers_of_and T.cl_Leftovers hr (by omega) (pv 0) (pa_c (zan C_Leftovers_of_saying T.cl_Leftovers hr (by omega) (pv 0) (pa_c (zap (zai K) (pv 1) zad (λ_ _=>rfl)) (pa_c (pv 2) zaa))) (pa_c (zan C_Leftovers_of_saying T.cl_Leftovers hr (by omega) (pv 0) (pa_c (zap (zai K) (pv 1) zad (λ_ _=>rfl)) (pa_c (pv 2) zaa))) zaa))))) zal) (zab (zay (zag za3 (pv 3) zam (nomark _)) (zac (zah (zan C_Leftovers_of_or T.cl_Leftovers hr (by omega) (pv 0) (pa_c (zan C_Leftovers_of_saying T.cl_Leftovers hr (by omega) (pv 0) (pa_c (zap (zai K) (pv 1) zad (λ_ _=>rfl)) (pa_c (pv 2) zaa))) (pa_c (zan C_Leftovers_of_saying T.cl_Leftovers hr (by omega) (pv 0) (pa_c (zap (zai K) (pv 1) zad (λ_ _=>rfl)) (pa_c (pv 2) zaa))) zaa))))) zal) (zab (zas (i:=4) sc_Leftovers_of_saying.nd rfl (Or.inl rfl) (zav zeo zad (za0 (zaj K) (by rfl) T.b_len im (pa_c (pv 2) zaa)))) (zab (zas (i:=5) sc_Leftovers_of_saying.nd rfl (Or.inl rfl) (zan C_Leftovers_of_saying T.cl_Leftovers hr (by omega) (pv 0) (pa_c (zap (zai K) (pv 1) zad (λ_ _=>rfl)) (pa_c (zav zbj (pv 2) (zaq (pa_c (zap (zai K) (pv 1) zad (λ_ _=>rfl)) zaa))) zaa)))) (zab (zay (zag za3 (pv 3) zam (nomark _)) (zac (zah (zan C_Leftovers_of_some T.cl_Leftovers hr (by omega) (pv 0) (pa_c (zap (zai K) (pv 1) zad (λ_ _=>rfl)) (pa_c (pv 4) (pa_c (pv 5) zaa)))))) zal) (zac (zah (zan C_Leftovers_of_not T.cl_Leftovers hr (by omega) (pv 0) (pa_c (zan C_Leftovers_of_some T.cl_Leftovers hr (by omega) (pv 0) (pa_c (zap (zai K) (pv 1) zad (λ_ _=>rfl)) (pa_c (pv 4) (pa_c (zan C_Leftovers_of_not T.cl_Leftovers hr (by omega) (pv 0) (pa_c (pv 5) zaa)) zaa)))) zaa)))))))))))),?_⟩;refine za1 [some (.ref LA.p),some v,some (.ref b),none,none,none] rfl ?_;trivial;cases r with
  |bare hw e =>
   rename_i a wd n m;obtain⟨⟨h4,hb⟩,hn,hm⟩:(tl.length<=4/\wd∉treeWords)/\n∈tl/\m∈tl:=by simpa only[letB,y04,decide_eq_true_eq]using S.ok
   refine ixm (.of e) zat ⟨_,_,rfl,.bare hw e,λH1 g1=>⟨_,rfl,?_⟩⟩;have hi:=y0v.mpr hn;have hj:=y0v.mpr hm;have hr':=zmv hw hb;refine iteT (mtm (g1 _ _ L.lg.e1) (za9 (by decide+kernel)) (ixm (.of (g1 _ _ e)) (zak (j:=1) rfl) ⟨b,n,tl,_,rfl,g1 _ _ eb,h4,rfl,hi,ixm (.of (g1 _ _ e)) (zak (j:=2) rfl) ⟨b,m,tl,_,rfl,g1 _ _ eb,h4,rfl,hj,mkT λp4 H4 n4=>?_⟩⟩));have L4:=L.same (g1.trans n4.g);have ok:Fm.okAt fs.length (.bare wd (tl.idxOf n) (tl.idxOf m)):=.inl hr';refine⟨LA,p4,fs,sts,.bare wd (tl.idxOf n) (tl.idxOf m),rfl,L4,by omega,⟨_,n4.at',.cons rfl (.cons rfl (.cons rfl .nil))⟩,ok,λH5 N=>?_⟩;obtain⟨m',e2,e3⟩:=zfs L.T ok;refine q _ _ H5 (N.bef (g1.trans n4.g)) ?_;rw[e2];exact .bare (y01 _) e3 hr' (by omega) (by omega) S.sm.1 S.sm.2 λr=>Iff.rfl
  |neg e r1 =>
   rename_i a x s1;have hok:(tl.length<=4/\("not":Str)∉treeWords)/\letB treeWords 4 tl s1=true:=by simpa only[letB,y04,decide_eq_true_eq]using S.ok
   have hd1:s1.depth+1<=lv+1:=hd;have hc1:fs.length+(cS s1+1)<1000000:=hlim;refine ixm (.of e) zat ⟨_,_,rfl,.neg e r1,λH1 g1=>⟨_,rfl,?_⟩⟩;have L1:=L.same g1;refine iteF ⟨rfl,itT rfl (mtm L1.lg.e1 (za9 (by decide+kernel)) (mtm L1.lg.e1 (za9 (by decide+kernel)) (ixm (.of (g1 _ _ e)) (zak (j:=1) rfl) ?_)))⟩;refine⟨LA,b,x,s1,tl,B,t,fs,sts,rfl,L1,r1.same g1,by omega,g1 _ _ eb,nb,⟨hok.2,S.wf,S.sm⟩,by omega,λl fs' H2 N I=>?_⟩;exact⟨LA,l,fs',sts,rfl,N.lv,by have:=N.ex.n;omega,I.lt,λH3 N3=>q _ _ H3 ((N.trans N3).bef g1) (zcc N.lv.T I)⟩
  |two hw e r1 r2 =>
   rename_i a wd x y s1 s2;have hok:(tl.length<=4/\wd∉treeWords)/\letB treeWords 4 tl s1=true/\letB treeWords 4 tl s2=true:=by simpa only[letB,y04,decide_eq_true_eq]using S.ok
   have hwf:wfB s1=true/\wfB s2=true:=by simpa only[wfB,y04]using S.wf
   have hd1:max s1.depth s2.depth+1<=lv+1:=hd;have hc1:fs.length+(cS s1+cS s2+4)<1000000:=hlim;refine ixm (.of e) zat ⟨_,_,rfl,.two hw e r1 r2,λH1 g1=>⟨_,rfl,?_⟩⟩;have L1:=L.same g1;have e1:=g1 _ _ e;have S1:SayF B t tl s1:=⟨hok.2.1,hwf.1,S.sm.1⟩;have S2:SayF B t tl s2:=⟨hok.2.2,hwf.2,S.sm.2⟩;rcases y08.mp hw with rfl|hw1
   ·refine iteF ⟨rfl,itF (by decide+kernel) ⟨rfl,itT rfl (mtm L1.lg.e1 (za9 (by decide+kernel)) (mtm L1.lg.e1 (za9 (by decide+kernel)) (ixm (.of e1) (zak (j:=1) rfl) ?_)))⟩⟩;refine⟨LA,b,x,s1,tl,B,t,fs,sts,rfl,L1,r1.same g1,by omega,g1 _ _ eb,nb,S1,by omega,λl1 fs1 H2 N1 I1=>?_⟩;have ts:=Nf.ts L1 N1;refine mtm N1.lv.lg.e1 (za9 (by decide+kernel)) (ixm (.of (ts _ _ e1)) (zak (j:=2) rfl) ?_);have n1:=N1.ex.n;refine⟨LA,b,y,s2,tl,B,t,fs1,sts,rfl,N1.lv,SM.Rep.ts (r2.same g1) ts,by omega,Nf.lst L1 N1 nb (g1 _ _ eb),nb,S2,by omega,λl2 fs2 H3 N2 I2=>?_⟩;have n2:=N2.ex.n;have J1:=(I1.ext N2.ex.p).mono (Nat.le_max_left (hgS s1) (hgS s2)) (y01 _) (y01 _) λ_=>Iff.rfl;have J2:=I2.mono (Nat.le_max_right (hgS s1) (hgS s2)) (y01 _) (y01 _) λ_=>Iff.rfl;refine⟨LA,l1,l2,fs2,sts,rfl,N2.lv,by omega,J1.lt,J2.lt,λH4 N3=>q _ _ H4 ((((N1.trans N2).trans N3).bef g1).le (by show _<=cS s1+cS s2+4;omega)) ?_⟩;exact(zgg N2.lv.T J1 J2).mono (by show _<=max (hgS s1) (hgS s2)+3;omega) (y01 _) (by show _<=gS t s1+gS t s2+4;omega) λr=>by show(if _ then _ else _)↔_;rw[if_pos rfl]
   ·obtain rfl:=y09.mp hw1;refine iteF ⟨rfl,itF (by decide+kernel) ⟨rfl,itF (by decide+kernel) ⟨rfl,itT rfl (mtm L1.lg.e1 (za9 (by decide+kernel)) (mtm L1.lg.e1 (za9 (by decide+kernel)) (ixm (.of e1) (zak (j:=1) rfl) ?_)))⟩⟩⟩;refine⟨LA,b,x,s1,tl,B,t,fs,sts,rfl,L1,r1.same g1,by omega,g1 _ _ eb,nb,S1,by omega,λl1 fs1 H2 N1 I1=>?_⟩;have ts:=Nf.ts L1 N1;refine mtm N1.lv.lg.e1 (za9 (by decide+kernel)) (ixm (.of (ts _ _ e1)) (zak (j:=2) rfl) ?_);have n1:=N1.ex.n;refine⟨LA,b,y,s2,tl,B,t,fs1,sts,rfl,N1.lv,SM.Rep.ts (r2.same g1) ts,by omega,Nf.lst L1 N1 nb (g1 _ _ eb),nb,S2,by omega,λl2 fs2 H3 N2 I2=>?_⟩;have n2:=N2.ex.n;have J1:=(I1.ext N2.ex.p).mono (Nat.le_max_left (hgS s1) (hgS s2)) (y01 _) (y01 _) λ_=>Iff.rfl;have J2:=I2.mono (Nat.le_max_right (hgS s1) (hgS s2)) (y01 _) (y01 _) λ_=>Iff.rfl;refine⟨LA,l1,l2,fs2,sts,rfl,N2.lv,by omega,J1.lt,J2.lt,λH4 N3=>q _ _ H4 (((N1.trans N2).trans N3).bef g1) ?_⟩;exact(zs3 N2.lv.T J1 J2).cv λr=>by show(if _ then _ else _)↔_;rw[if_neg (by decide+kernel)]
  |qu hw e r1 =>
   rename_i a wd n x s1;have hok:(tl.length<=4/\wd∉treeWords)/\n∉tl/\letB treeWords 4 (tl++[n]) s1=true:=by simpa only[letB,y04,decide_eq_true_eq]using S.ok
   have hwf:isName (.str n)=true/\wfB s1=true:=by simpa only[wfB,y04]using S.wf
   have hd1:s1.depth+1<=lv+1:=hd;have hc1:fs.length+(cS s1+3)<1000000:=hlim;have hn4:n.length<=4:=zhs hwf.1;have sm:=S.sm;refine ixm (.of e) zat ⟨_,_,rfl,.qu hw e r1,λH1 g1=>⟨_,rfl,?_⟩⟩;have L1:=L.same g1;have e1:=g1 _ _ e;have eb1:=g1 _ _ eb;have nw:∀z:Str,z∈(["not","and","or"]:List Str)->¬V.str wd=V.str z:=λz hz e0=>by
    have all:∀a∈(["some","all"]:List Str),∀z∈(["not","and","or"]:List Str),¬a=z:=by decide+kernel
    exact all wd hw z hz (V.str.inj e0)
   refine iteF ⟨rfl,itF (nw _ (by decide+kernel)) ⟨rfl,itF (nw _ (by decide+kernel)) ⟨rfl,itF (nw _ (by decide+kernel)) ⟨_,.inl (.of eb1),⟨by omega,by rw[y00];omega,by decide⟩,mtm L1.lg.e1 (za9 (by decide+kernel)) (ixm (.of e1) (zak (j:=2) rfl) (ixm (.of e1) (zak (j:=1) rfl) (mkT λp2 H2 n2=>⟨_,n2.g _ _ eb1,_,n2.at',zaf (by rw[y00];simp only[y0c,y1l];omega),λp3 H3 n3=>?_⟩)))⟩⟩⟩⟩;have g3:=g1.trans (n2.g.trans n3.g);have L3:=L.same g3;have ep3:H3 p3=some (.lst ((tl++[n]).map V.str)):=by rw[n3.at',y0r];rfl
   refine⟨LA,p3,x,s1,tl++[n],B,t,fs,sts,rfl,L3,r1.same g3,by omega,ep3,(L.same (g1.trans n2.g)).nD n3.nil,⟨hok.2.2,hwf.2,sm.2⟩,by omega,λl fs' H4 N I=>⟨rfl,?_⟩⟩;have ts:=Nf.ts L3 N;have e4:=ts _ _ (g3 _ _ e);have epw:(1:Int)*2^((tl.map V.str).length:Int).toNat=((2^tl.length:Nat):Int):=by rw[y0l,y3v,y00];simp
   rw[epw];have nx:=N.ex.n;have hb4:tl.length<=4:=hok.1.1;rcases y08.mp hw with rfl|hw1
   ·refine itT rfl (mtm N.lv.lg.e1 (za9 (by decide+kernel)) (ixm (.of e4) (zak (j:=1) rfl) ⟨LA,n,tl.length,l,fs',sts,rfl,N.lv,by omega,hn4,I.lt,λks H5 kp N5=>?_⟩));refine q _ _ H5 (((N.trans N5).bef g3).le (by show _<=cS s1+3;omega)) ?_;refine(zhq N.lv.T I kp hb4 sm.1.1 λhz=>?_).mono (by show _<=hgS s1+3;omega) (y01 _) (by show _<=(if _ then _ else _);rw[if_pos rfl];exact y01 _) λr=>by show(if _ then _ else _)↔_;rw[if_pos rfl]
    have:=sm.1.2 hz;rwa[if_pos rfl]at this
   ·obtain rfl:=y09.mp hw1;refine itF (by decide+kernel) (mtm N.lv.lg.e1 (za9 (by decide+kernel)) (mtm N.lv.lg.e1 (za9 (by decide+kernel)) (ixm (.of e4) (zak (j:=1) rfl) (mtm N.lv.lg.e1 (za9 (by decide+kernel)) ⟨LA,l,fs',sts,rfl,N.lv,by omega,I.lt,λH5 N5=>?_⟩))));have J:=zcc N.lv.T I;have n5:=N5.ex.n;refine⟨LA,n,tl.length,_,_,sts,rfl,N5.lv,by omega,hn4,J.lt,λks H6 kp N6=>?_⟩;have J2:=zhq (b:=tl.length) N5.lv.T J kp hb4 sm.1.1 λhz=>by
     have:=sm.1.2 hz;rwa[if_neg (by decide+kernel)]at this
    have n6:=N6.ex.n;refine⟨LA,_,_,sts,rfl,N6.lv,by omega,J2.lt,λH7 N7=>q _ _ H7 (((((N.trans N5).trans N6).trans N7).bef g3)) ?_⟩;refine(zcc N6.lv.T J2).mono (y01 _) (y01 _) (by show _<=(if _ then _ else _);rw[if_neg (by decide+kernel)];exact y01 _) λr=>?_;show(if _ then _ else _)↔_;rw[if_neg (by decide+kernel)];exact⟨λz ⟨r',c,nz⟩=>nz (z r' c),λz r' c=>Classical.byContradiction λnz=>z ⟨r',c,nz⟩⟩
theorem itB{b:Bool}{A B:Prop}(h:b=true)(a:A):if b=true then A else B:=by rw[h];exact a
theorem itC{b:Bool}{A B:Prop}(h:b=false)(x:B):if b=true then A else B:=by rw[h];exact x
abbrev s_Leftovers_behind_bare:Stmt:=inClass (top 37) 11
theorem sc_Leftovers_behind_bare:FnScope ["self","left","one","other","form"] ["self","left","one","other"] (defScope s_Leftovers_behind_bare):={}
include T in
theorem zu5(d:DfnM K cLeftovers "behind_bare" "Leftovers.behind_bare" s_Leftovers_behind_bare ["self","left","one","other"])(C_Leftovers_numbered:CalM P w K mg base 1 cLeftovers "numbered" ["self","form"] (zcg P w cLeftovers)):CalM P w K mg base 2 cLeftovers "behind_bare" ["self","left","one","other"] (zmh P w cLeftovers):=by
 refine d.cal sc_Leftovers_behind_bare (λvs H Q E h=>?_) (λf cdv A outer s H vs Q E hr h=>?_)
 ·obtain⟨A,m,i,j,wd,one,other,fs,sts,rfl,_⟩:=h;rfl
 obtain⟨LA,m,i,j,wd,one,other,fs,sts,rfl,L,hlim,em,q⟩:=h;refine⟨_,(zab (zas (i:=4) sc_Leftovers_behind_bare.nd rfl (Or.inl rfl) (zap (zax K) (zce (pv 0) (by rfl)) (pv 1) (λ_ _=>rfl))) (zab (zay (zag za3 (zap (zai K) (pv 4) zad (λ_ _=>rfl)) zam (nomark _)) (zac (zah (zca (PW.pt (zdp (zbe (pv 2)) (zcy (zb3 (zbe (pv 3)))))) (zbd (by rfl) T.g_NO) (pv 1)))) zal) (zab (zay (zag za3 (zap (zai K) (pv 4) zad (λ_ _=>rfl)) zam (nomark _)) (zac (zah (zca (zbe (pv 2)) (zbd (by rfl) T.g_YES) (zbd (by rfl) T.g_NO)))) zal) (zab (zay (PW.pt (zdp (zb3 (zbe (pv 2))) (zcy (PW.pt (zb8 (zb3 (zbe (pv 3))) (zbv (zag za3 (zap (zai K) (pv 4) zad (λ_ _=>rfl)) zam (nomark _)))))))) (zac (zah (pv 1))) zal) (zab (zay (zag (zbg K) (zap (zai K) (pv 4) zad (λ_ _=>rfl)) (zbf (pa_c zam (pa_c zam zaa))) (by with_unfolding_all rfl)) (zac (zah (zca (PW.pt (zdp (zbe (pv 2)) (zcy (zbe (pv 3))))) (zbd (by rfl) T.g_YES) (zbd (by rfl) T.g_NO)))) zal) (zab (zay (zbe (pv 3)) (zac (zah (zbd (by rfl) T.g_NO))) zal) (zac (zah (zca (zag za3 (zap (zai K) (pv 4) zad (λ_ _=>rfl)) zam (nomark _)) (zbd (by rfl) T.g_YES) (zan C_Leftovers_numbered T.cl_Leftovers hr (by omega) (pv 0) (pa_c (zbf (pa_c zam (pa_c (zap (zai K) (pv 4) zad (λ_ _=>rfl)) (pa_c (zap (zai K) (pv 4) zad (λ_ _=>rfl)) zaa)))) zaa))))))))))),?_⟩;refine za1 [some (.ref LA.p),some (nV (m+2)),some (.bl one),some (.bl other),none] rfl ?_;trivial;obtain⟨rs,ad,e6,el,nb⟩:=L.form em;have ev:H ad=some (.tup [.str wd,nV (2^i),nV (2^j)]):=fAt nb;have q1:∀v,¬wd="here"->bst wd 2 one other=v->¬v=3->∀H1,Same H H1->Q (nV (if v=2 then m+2 else v)) H1:=λv h1 h2 h3 H1 g=>by
  have:=q H1;rw[zk9 v h1 h2 h3]at this;exact this (Nf.same0 L g 1)
 refine fdm L.lg.e1 T.cl_Leftovers T.n_forms zbk (ixm (.of e6) (zak el) (ixm (.of ev) zat ⟨rfl,?_⟩));have nn:∀z:Str,¬wd=z->¬V.str wd=V.str z:=λz h e=>h (V.str.inj e);have hw:=L.T.at_ _ _ em;have hw':wd∈(["in","same","within","ahead","next","here"]:List Str):=by
  have all:∀a∈SM.rowWords,a∈(["in","same","within","ahead","next","here"]:List Str):=by decide+kernel
  rcases hw with h|h
  ·exact all _ h
  ·rw[h];decide+kernel
 simp only[y08,y0q,or_false]at hw';rcases hw' with rfl|rfl|rfl|rfl|rfl|rfl
 ·refine itF (nn _ (by decide+kernel)) (ixm (.of ev) zat ⟨rfl,itF (nn _ (by decide+kernel)) ?_⟩);cases one<;>cases other
  ·exact iteT (iteT (q1 2 (by decide+kernel) (by decide+kernel) (by decide) H (Same.refl _)))
  ·exact iteT (iteF (ixm (.of ev) zat ⟨rfl,itT rfl (q1 2 (by decide+kernel) (by decide+kernel) (by decide) H (Same.refl _))⟩))
  ·refine iteF (ixm (.of ev) zat (mkT λp1 H1 n1=>⟨_,.inr (.of n1.at'),rfl,rfl,itB (by decide+kernel) (iteT (iteF (q1 0 (by decide+kernel) (by decide+kernel) (by decide) H1 n1.g)))⟩))
  ·refine iteF (ixm (.of ev) zat (mkT λp1 H1 n1=>⟨_,.inr (.of n1.at'),rfl,rfl,itB (by decide+kernel) (iteT (iteT (q1 1 (by decide+kernel) (by decide+kernel) (by decide) H1 n1.g)))⟩))
 ·refine itF (nn _ (by decide+kernel)) (ixm (.of ev) zat ⟨rfl,itF (nn _ (by decide+kernel)) ?_⟩);cases one<;>cases other
  ·exact iteT (iteT (q1 2 (by decide+kernel) (by decide+kernel) (by decide) H (Same.refl _)))
  ·exact iteT (iteF (ixm (.of ev) zat ⟨rfl,itF (nn _ (by decide+kernel)) (ixm (.of ev) zat (mkT λp1 H1 n1=>⟨_,.inr (.of n1.at'),rfl,rfl,itB (by decide+kernel) (iteF (q1 0 (by decide+kernel) (by decide+kernel) (by decide) H1 n1.g))⟩))⟩))
  ·refine iteF (ixm (.of ev) zat (mkT λp1 H1 n1=>⟨_,.inr (.of n1.at'),rfl,rfl,itB (by decide+kernel) (iteT (iteF (q1 0 (by decide+kernel) (by decide+kernel) (by decide) H1 n1.g)))⟩))
  ·refine iteF (ixm (.of ev) zat (mkT λp1 H1 n1=>⟨_,.inr (.of n1.at'),rfl,rfl,itB (by decide+kernel) (iteT (iteT (q1 1 (by decide+kernel) (by decide+kernel) (by decide) H1 n1.g)))⟩))
 ·refine itT rfl ?_;cases one<;>cases other
  ·exact iteF (q1 2 (by decide+kernel) (by decide+kernel) (by decide) H (Same.refl _))
  ·exact iteF (q1 2 (by decide+kernel) (by decide+kernel) (by decide) H (Same.refl _))
  ·exact iteT (iteT (q1 0 (by decide+kernel) (by decide+kernel) (by decide) H (Same.refl _)))
  ·exact iteT (iteF (q1 2 (by decide+kernel) (by decide+kernel) (by decide) H (Same.refl _)))
 ·refine itF (nn _ (by decide+kernel)) (ixm (.of ev) zat ⟨rfl,itF (nn _ (by decide+kernel)) ?_⟩);cases one<;>cases other
  ·exact iteT (iteT (q1 2 (by decide+kernel) (by decide+kernel) (by decide) H (Same.refl _)))
  ·exact iteT (iteF (ixm (.of ev) zat ⟨rfl,itF (nn _ (by decide+kernel)) (ixm (.of ev) zat (mkT λp1 H1 n1=>⟨_,.inr (.of n1.at'),rfl,rfl,itC (by decide+kernel) (iteT (q1 0 (by decide+kernel) (by decide+kernel) (by decide) H1 n1.g))⟩))⟩))
  ·exact iteF (ixm (.of ev) zat (mkT λp1 H1 n1=>⟨_,.inr (.of n1.at'),rfl,rfl,itC (by decide+kernel) (iteF (ixm (.of (n1.g _ _ ev)) zat ⟨rfl,itT rfl (q1 1 (by decide+kernel) (by decide+kernel) (by decide) H1 n1.g)⟩))⟩))
  ·exact iteF (ixm (.of ev) zat (mkT λp1 H1 n1=>⟨_,.inr (.of n1.at'),rfl,rfl,itC (by decide+kernel) (iteT (q1 0 (by decide+kernel) (by decide+kernel) (by decide) H1 n1.g))⟩))
 ·refine itF (nn _ (by decide+kernel)) (ixm (.of ev) zat ⟨rfl,itF (nn _ (by decide+kernel)) ?_⟩);cases one<;>cases other
  ·exact iteT (iteT (q1 2 (by decide+kernel) (by decide+kernel) (by decide) H (Same.refl _)))
  ·exact iteT (iteF (ixm (.of ev) zat ⟨rfl,itF (nn _ (by decide+kernel)) (ixm (.of ev) zat (mkT λp1 H1 n1=>⟨_,.inr (.of n1.at'),rfl,rfl,itC (by decide+kernel) (iteT (q1 0 (by decide+kernel) (by decide+kernel) (by decide) H1 n1.g))⟩))⟩))
  ·refine iteF (ixm (.of ev) zat (mkT λp1 H1 n1=>⟨_,.inr (.of n1.at'),rfl,rfl,itC (by decide+kernel) (iteF (ixm (.of (n1.g _ _ ev)) zat ⟨rfl,itF (nn _ (by decide+kernel)) ?_⟩))⟩));have L1:=L.same n1.g;refine mtm L1.lg.e1 (za9 (by decide+kernel)) (ixm (.of (n1.g _ _ ev)) (zak (j:=2) rfl) (ixm (.of (n1.g _ _ ev)) (zak (j:=2) rfl) (mkT λp4 H4 n4=>?_)));refine⟨LA,p4,fs,sts,.bare "here" j j,rfl,L1.same n4.g,hlim,⟨_,n4.at',.cons rfl (.cons rfl (.cons rfl .nil))⟩,.inr rfl,λH5 N=>?_⟩;exact q H5 (N.bef (n1.g.trans n4.g))
  ·exact iteF (ixm (.of ev) zat (mkT λp1 H1 n1=>⟨_,.inr (.of n1.at'),rfl,rfl,itC (by decide+kernel) (iteT (q1 0 (by decide+kernel) (by decide+kernel) (by decide) H1 n1.g))⟩))
 ·refine itF (nn _ (by decide+kernel)) (ixm (.of ev) zat ⟨rfl,itT rfl ?_⟩);cases one
  ·exact q H (Nf.same0 L (Same.refl _) 1)
  ·exact q H (Nf.same0 L (Same.refl _) 1)
theorem zgx{lv:Nat}{LA:LA}{cc:Addr}{ks:List Nat}{fs B:List Fm}{sts:List (List Key×V)}{H1:Hp}{c' h0 t g0:Nat}{Ψ:Nat->List Nat->Prop}{tn:List Str}{cp:Y6}{te:TE}{σ0:L2.St}{Q:VK}(S:L2.St->Prop)
  (h0S:S (stB tn cp σ0)) (hS:∀σ v,S σ->S (σ.set 0 v)) (L:Lv P w cLeftovers LA fs sts H1) (ec:H1 cc=some (.tup (ks.map nV))) (J:∀k∈ks,Is fs B h0 (t+1) g0 (Ψ k) k) (hv:h0<lv) (hc:c'<32) (hk:ks.length<=1000) (hlf:fs.length+ks.length*g0<1000000) (hls:sts.length+ks.length*g0<1000000)
  (he:∀(k:Nat) σ H' QQ,S σ->TupS H1 H'->(∃fs' sts',Lv P w cLeftovers LA fs' sts' H')->zg7 P w cLeftovers lv [.ref LA.p,nV k,nV c'] H' QQ E0->te (σ.set 0 (some (nV k))) H' QQ)
  (hd:∀D ps fs' sts' H',H1 D=none->D≠LA.pf->Nf P w cLeftovers LA fs sts (ks.length*g0) H1 fs' sts' H'->iq (Stp fs fs' c') ks ps->H' D=some (.lst (ps.map nV))->Q (.ref D) H'):cBody tn cp (gName 0) tYes te σ0 Q (Itt K cc) H1:=by
 refine zko (K:=K) (a:=cc) (xs:=ks.map nV) (λD i ys σ H'=>S σ/\∃ps fs' sts',ys=ps.map nV/\iq (Stp fs fs' c') (ks.take i) ps/\Nf P w cLeftovers LA fs sts (i*g0) H1 fs' sts' H') (zaf (by rw[y00];exact hk)) (λD hD=>⟨h0S,[],fs,sts,rfl,.nil,?_⟩) (λD i ys σ H' hD hi hH ⟨_,ps,fs',sts',_,_,N⟩=>.of (Nf.ts L N _ _ ec)) ?_ ?_
 ·have N0:=Nf.same0 L (za8 hD (.lst [])) (0*g0);exact N0
 ·rintro D i ys σ H' x hD hi hx hH hl ⟨hσ,ps,fs',sts',rfl,pr,N⟩;rw[y0k]at hx;obtain⟨k,ek,rfl⟩:=y19.mp hx;have hk1:=(y05.mp ek).1;have hi1:(i+1)*g0<=ks.length*g0:=y18 _ hk1;rw[y32,y3e]at hi1;have n1:=N.ex.n;have n2:=N.ls;show te (σ.set 0 (some (nV k))) H' _;refine he k σ H' _ hσ (Nf.ts L N) ⟨_,_,N.lv⟩ ⟨LA,k,c',h0,t,g0,Ψ k,B,fs',sts',rfl,N.lv,⟨(J k (y0j ek)).ext N.ex.p,hv,hc,by omega,by omega⟩,λl' fs2 sts2 H2 N2 S2=>?_⟩;have nD:=L.nD hD;have eD:=Nf.lst N.lv N2 nD hH;refine cstep (zaf (by rw[y00];exact hk)) hi eD hl ⟨hS _ _ hσ,ps++[l'],fs2,sts2,by rw[y0r];rfl,?_,?_⟩
  ·rw[y1i,ek,y2d];exact SM.Paired.snoc (L2.Paired.mapP pr λ_ _ z=>z.ext N2.ex.p) (S2.pre N.ex.p)
  ·have:=(N.trans N2).wr hD eD nD (zs:=ps.map nV++[nV l']);rw[y32,y3e];exact this
 ·rintro D ys σ H' hD hH hl ⟨hσ,ps,fs',sts',rfl,pr,N⟩;rw[y00]at pr N;rw[y0o (y01 _)]at pr;exact hd D ps fs' sts' H' hD (L.nD hD) N pr hH
abbrev s_Leftovers_behind_form:Stmt:=inClass (top 37) 10
theorem sc_Leftovers_behind_form:FnScope ["self","left","letter","form","without","placed"] ["self","left","letter"] (defScope s_Leftovers_behind_form):={}
include T in
theorem zu3{lv:Nat}(d:DfnM K cLeftovers "behind_form" "Leftovers.behind_form" s_Leftovers_behind_form ["self","left","letter"])(C_Leftovers_behind_bare:CalM P w K mg base 2 cLeftovers "behind_bare" ["self","left","one","other"] (zmh P w cLeftovers))(C_Leftovers_of_not:CalM P w K mg base 2 cLeftovers "of_not" ["self","left"] (zeg P w cLeftovers))(C_Leftovers_of_and:CalM P w K mg base 2 cLeftovers "of_and" ["self","one","other"] (zeh P w cLeftovers))(C_Leftovers_of_some_set:CalM P w K mg base 2 cLeftovers "of_some_set" ["self","bit","lefts"] (zf2 P w cLeftovers))(C_Leftovers_of_some_place:CalM P w K mg base 2 cLeftovers "of_some_place" ["self","bit","unplaced","lefts"] (zf3 P w cLeftovers))(C_Leftovers_behind:CalM P w K mg base (3+2*lv) cLeftovers "behind" ["self","left","letter"] (zg7 P w cLeftovers lv)):CalM P w K mg base (3+2*lv+1) cLeftovers "behind_form" ["self","left","letter"] (zq8 P w cLeftovers (lv+1)):=by
 refine d.cal sc_Leftovers_behind_form (λvs H Q E h=>?_) (λf cdv A outer s H vs Q E hr h=>?_)
 ·obtain⟨A,l,c,h,t,g,φ,B,fs,sts,rfl,_⟩:=h;rfl
 obtain⟨LA,l,c,h,t,g,φ,B,fs,sts,rfl,L,b,h2,q⟩:=h;obtain⟨m,rfl⟩:∃m,l=m+2:=⟨l-2,by omega⟩;obtain⟨fm,em⟩:∃fm,fs[m]?=some fm:=⟨_,y0b (by have:=b.is.lt;omega)⟩;obtain⟨rs,ad,e6,el,nb⟩:=L.form em;have fa:=fAt nb;have hlf:=b.lf;have hls:=b.ls;have hgp:=b.is.pos;have hvv:=b.hv;refine⟨_,(zab (zas (i:=3) sc_Leftovers_behind_form.nd rfl (Or.inr rfl) (zap (zax K) (zce (pv 0) (by rfl)) (pv 1) (λ_ _=>rfl))) (zab (zay (zag za3 (zap (zai K) (pv 3) zad (λ_ _=>rfl)) zam (nomark _)) (zac (zah (zan C_Leftovers_of_not T.cl_Leftovers hr (by omega) (pv 0) (pa_c (zan C_Leftovers_behind T.cl_Leftovers hr (by omega) (pv 0) (pa_c (zap (zai K) (pv 3) zad (λ_ _=>rfl)) (pa_c (pv 2) zaa))) zaa)))) zal) (zab (zay (zag za3 (zap (zai K) (pv 3) zad (λ_ _=>rfl)) zam (nomark _)) (zac (zah (zan C_Leftovers_of_and T.cl_Leftovers hr (by omega) (pv 0) (pa_c (zan C_Leftovers_behind T.cl_Leftovers hr (by omega) (pv 0) (pa_c (zap (zai K) (pv 3) zad (λ_ _=>rfl)) (pa_c (pv 2) zaa))) (pa_c (zan C_Leftovers_behind T.cl_Leftovers hr (by omega) (pv 0) (pa_c (zap (zai K) (pv 3) zad (λ_ _=>rfl)) (pa_c (pv 2) zaa))) zaa))))) zal) (zab (zay (zag za3 (zap (zai K) (pv 3) zad (λ_ _=>rfl)) zam (nomark _)) (zab (ziu (i:=4) sc_Leftovers_behind_form.nd rfl (Or.inl rfl) ["inner"] [(2,"letter"),(0,"self")] (CompOk.of rfl (by rfl) (by rfl)) (by rfl) (zc1 K (zap (zai K) (pv 3) zad (λ_ _=>rfl))) (λ_ _ _ _ _=>(zau (i:=0) (show List.Nodup (["inner","letter","self"]:List Str) by decide+kernel) (by rfl) (Or.inl (by rfl)))) (λ_ _ _ _ _=>zbp) (λ_ _ _ _ _=>(zan C_Leftovers_behind T.cl_Leftovers hr (by omega) (pv 2) (pa_c (pv 0) (pa_c (pv 1) zaa))))) (zac (zah (zan C_Leftovers_of_some_set T.cl_Leftovers hr (by omega) (pv 0) (pa_c (zap (zai K) (pv 3) zad (λ_ _=>rfl)) (pa_c (zav zbj (pv 4) (za2 ["inner"] [(0,"self"),(2,"letter"),(3,"form")] (CompOk.of rfl (by rfl) (by rfl)) (by rfl) (zc1 K (zap (zai K) (pv 3) zad (λ_ _=>rfl))) (λ_ _ _ _ _=>(zau (i:=0) (show List.Nodup (["inner","self","letter","form"]:List Str) by decide+kernel) (by rfl) (Or.inl (by rfl)))) (λ_ _ _ _ _=>zbp) (λ_ _ _ _ _=>(zan C_Leftovers_behind T.cl_Leftovers hr (by omega) (pv 1) (pa_c (pv 0) (pa_c (zav zsz (pv 2) (zap (zai K) (pv 3) zad (λ_ _=>rfl))) zaa)))))) zaa)))))) zal) (zab (zay (zag za3 (zap (zai K) (pv 3) zad (λ_ _=>rfl)) zam (nomark _)) (zab (ziu (i:=5) sc_Leftovers_behind_form.nd rfl (Or.inl rfl) ["inner"] [(2,"letter"),(0,"self")] (CompOk.of rfl (by rfl) (by rfl)) (by rfl) (zc1 K (zap (zai K) (pv 3) zad (λ_ _=>rfl))) (λ_ _ _ _ _=>(zau (i:=0) (show List.Nodup (["inner","letter","self"]:List Str) by decide+kernel) (by rfl) (Or.inl (by rfl)))) (λ_ _ _ _ _=>zbp) (λ_ _ _ _ _=>(zan C_Leftovers_behind T.cl_Leftovers hr (by omega) (pv 2) (pa_c (pv 0) (pa_c (pv 1) zaa))))) (zab (zc0 (zhl K PySem.F.plainAttrs_list PySem.F.slot_list_append PySem.F.type_list_append zcm (pv 5) (pa_c (zan C_Leftovers_behind T.cl_Leftovers hr (by omega) (pv 0) (pa_c (zap (zai K) (pv 3) zad (λ_ _=>rfl)) (pa_c (zav zsz (pv 2) (zap (zai K) (pv 3) zad (λ_ _=>rfl))) zaa))) zaa))) (zac (zah (zan C_Leftovers_of_some_place T.cl_Leftovers hr (by omega) (pv 0) (pa_c (zap (zai K) (pv 3) zad (λ_ _=>rfl)) (pa_c (zan C_Leftovers_behind T.cl_Leftovers hr (by omega) (pv 0) (pa_c (zap (zai K) (pv 3) zad (λ_ _=>rfl)) (pa_c (pv 2) zaa))) (pa_c (pv 5) zaa)))))))) zal) (zac (zah (zan C_Leftovers_behind_bare T.cl_Leftovers hr (by omega) (pv 0) (pa_c (pv 1) (pa_c (za5 zgf (zav zj6 (pv 2) (zap (zai K) (pv 3) zad (λ_ _=>rfl))) zad (nomark _)) (pa_c (za5 zgf (zav zj6 (pv 2) (zap (zai K) (pv 3) zad (λ_ _=>rfl))) zad (nomark _)) zaa))))))))))),?_⟩;refine za1 [some (.ref LA.p),some (nV (m+2)),some (nV c),none,none,none] rfl ?_;trivial;refine fdm L.lg.e1 T.cl_Leftovers T.n_forms zbk (ixm (.of e6) (zak el) ?_);cases fm with
 |bare wd i j =>
  have ev:H ad=some (.tup [.str wd,nV (2^i),nV (2^j)]):=fa;have nn:∀z:Str,z∈(["not","and","some set","some place","yes","no"]:List Str)->¬V.str wd=V.str z:=λz hz e=>zgz (L.T.at_ _ _ em) z hz (V.str.inj e);refine ixm (.of ev) zat ⟨rfl,itF (nn _ (by decide+kernel)) (ixm (.of ev) zat ⟨rfl,itF (nn _ (by decide+kernel)) (ixm (.of ev) zat ⟨rfl,itF (nn _ (by decide+kernel)) (ixm (.of ev) zat ⟨rfl,itF (nn _ (by decide+kernel)) ?_⟩)⟩)⟩)⟩;obtain⟨hi,hj⟩:=b.is.bits em;refine mtm L.lg.e1 (za9 (by decide+kernel)) (ixm (.of ev) (zak (j:=1) rfl) ⟨_,rfl,ixm (.of ev) (zak (j:=2) rfl) ⟨_,rfl,?_⟩⟩);rw[zkq b.hc hi,zkq b.hc hj];refine⟨LA,m,i,j,wd,bit c i,bit c j,fs,sts,rfl,L,by omega,em,λH' N=>q _ _ sts H' (N.le hgp) (by omega) (zpf L.T em)⟩
 |neg n =>
  have ev:H ad=some (.tup [.str "not",nV n]):=fa;obtain⟨h0,g0,ψ,rfl,hg,J,_⟩:=b.is.i_neg em;refine ixm (.of ev) zat ⟨rfl,itT rfl (mtm L.lg.e1 (za9 (by decide+kernel)) (mtm L.lg.e1 (za9 (by decide+kernel)) (ixm (.of ev) (zak (j:=1) rfl) ?_)))⟩;refine⟨LA,n,c,h0,t,g0,ψ,B,fs,sts,rfl,L,⟨J,by omega,b.hc,by omega,by omega⟩,λl' fs' sts' H' N S=>?_⟩;have n1:=N.ex.n;have n2:=N.ls;exact⟨LA,l',fs',sts',rfl,N.lv,by omega,(S _ _ _ _ _ J).lt,λH2 N2=>q _ _ sts' H2 ((N.trans N2).le (by omega)) (by omega) (zr7 em N.lv.T S)⟩
 |two x y =>
  have ev:H ad=some (.tup [.str "and",nV x,nV y]):=fa;obtain⟨h0,ga,gb,ψ,χ,rfl,hg,Ja,Jb,_⟩:=b.is.i_two em;refine ixm (.of ev) zat ⟨rfl,itF (by decide+kernel) (ixm (.of ev) zat ⟨rfl,itT rfl (mtm L.lg.e1 (za9 (by decide+kernel)) (mtm L.lg.e1 (za9 (by decide+kernel)) (ixm (.of ev) (zak (j:=1) rfl) ?_)))⟩)⟩;refine⟨LA,x,c,h0,t,ga,ψ,B,fs,sts,rfl,L,⟨Ja,by omega,b.hc,by omega,by omega⟩,λl1 fs1 sts1 H1 N1 S1=>?_⟩;have n1:=N1.ex.n;have n2:=N1.ls;refine mtm N1.lv.lg.e1 (za9 (by decide+kernel)) (ixm (.of (Nf.ts L N1 _ _ ev)) (zak (j:=2) rfl) ?_);refine⟨LA,y,c,h0,t,gb,χ,B,fs1,sts1,rfl,N1.lv,⟨Jb.ext N1.ex.p,by omega,b.hc,by omega,by omega⟩,λl2 fs2 sts2 H2 N2 S2=>?_⟩;have n3:=N2.ex.n;have n4:=N2.ls;have T1:=S1.ext N2.ex.p;have T2:=S2.pre N1.ex.p;exact⟨LA,l1,l2,fs2,sts2,rfl,N2.lv,by omega,(T1 _ _ _ _ _ Ja).lt,(T2 _ _ _ _ _ Jb).lt,λH3 N3=>q _ _ sts2 H3 (((N1.trans N2).trans N3).le (by omega)) (by omega) (zr4 em N2.lv.T T1 T2)⟩
 |set i ks =>
  obtain⟨cc,ev,ec⟩:=fa;refine ixm (.of ev) zat ⟨rfl,itF (by decide+kernel) (ixm (.of ev) zat ⟨rfl,itF (by decide+kernel) (ixm (.of ev) zat ⟨rfl,itT rfl ?_⟩)⟩)⟩;obtain⟨h0,g0,Ψ,rfl,hg,hb,sm,J,_⟩:=b.is.i_set em;have okk:=L.T.at_ _ _ em;have hk:=zkd L.T okk.1 (λk hk=>(okk.2 k hk).1) J sm;have ha:2*(ks.length*g0)<=2*(ks.length*2^(t+1))*g0:=by
   rw[y40 2];exact y1a _ (y18 _ (y41 _ (y3r (by decide))))
  refine ixm (.of ev) (zak (j:=2) rfl) ⟨cc,rfl,⟨_,.of ec⟩,zgx (λσ=>∃v,σ=[v,some (nV c),some (.ref LA.p)]) ⟨_,rfl⟩ (λσ v ⟨_,e⟩=>⟨v,by rw[e];rfl⟩) L ec J (show h0<lv by omega) b.hc (by omega) (by omega) (by omega) ?_ ?_⟩
  ·rintro k σ H' QQ ⟨v,rfl⟩ ts ⟨fs',sts',L'⟩ sp;trivial;exact mtm L'.lg.e1 (za9 (by decide+kernel)) sp
  intro D ps fs1 sts1 H1 hD nD N1 P1 eD;have ev1:=Nf.ts L N1 _ _ ev;have ec1:=Nf.ts L N1 _ _ ec;have n1:=N1.ex.n;have n2:=N1.ls;obtain⟨lo,lc⟩:=zva b.hc hb;refine mtm N1.lv.lg.e1 (za9 (by decide+kernel)) (ixm (.of ev1) (zak (j:=1) rfl) (ixm (.of ev1) (zak (j:=2) rfl) ⟨cc,rfl,⟨_,.of ec1⟩,zgx (c':=c|||2^i) (λσ=>∃v,σ=[v,some (.ref LA.p),some (nV c),some (.ref ad)]) ⟨_,rfl⟩ (λσ v ⟨_,e⟩=>⟨v,by rw[e];rfl⟩) N1.lv ec1 (λk hk=>(J k hk).ext N1.ex.p) (show h0<lv by omega) lc (by omega) (by omega) (by omega) ?_ ?_⟩))
  ·rintro k σ H' QQ ⟨v,rfl⟩ ts ⟨fs',sts',L'⟩ sp;trivial;refine mtm L'.lg.e1 (za9 (by decide+kernel)) ⟨_,.of (ts _ _ ev1),_,zak (j:=1) rfl,_,rfl,?_⟩;rw[lo];exact sp
  intro D2 qs fs2 sts2 H2 hD2 nD2 N2 P2 eD2;have n3:=N2.ex.n;have n4:=N2.ls;have l1:=SS.Paired.len P1;have l2:=SS.Paired.len P2;have P1':=L2.Paired.mapP P1 λ_ _ z=>Stp.ext z N2.ex.p;have P2':=L2.Paired.mapP P2 λ_ _ z=>Stp.pre z N1.ex.p;have hI:∀x∈ps++qs,∃χ,Is fs2 B h0 t g0 χ x:=λx hx=>by
   rcases y0g.mp hx with hx|hx
   ·obtain⟨k,hk,S⟩:=zbn P1' hx;exact⟨_,S _ _ _ _ _ (J k hk)⟩
   ·obtain⟨k,hk,S⟩:=zbn P2' hx;exact⟨_,S _ _ _ _ _ (J k hk)⟩
  have ll:(ps++qs).length*2^t=ks.length*2^(t+1):=by rw[y0a,←l1,←l2,y2b];rw[show ks.length+ks.length=ks.length*2 by omega,y40,y47 2]
  obtain⟨F,hF,hFs⟩:=few N2.lv.T hI (t':=t) (by rw[ll];exact sm);have eD1:=Nf.lst N1.lv N2 nD eD;refine⟨D,rfl,D2,rfl,_,eD1,_,eD2,zaf (by rw[y00,y00];omega),λp3 H3 n3'=>?_⟩;have ep3:H3 p3=some (.lst ((ps++qs).map nV)):=by rw[n3'.at',y0r]
  refine⟨LA,p3,i,ps++qs,F,fs2,sts2,rfl,N2.lv.same n3'.g,by omega,ep3,by rw[y0a];omega,hF,hFs,(λx hx=>by obtain⟨_,I⟩:=hI x hx;exact I.lt),λkk H4 kp N3=>?_⟩;exact q _ _ sts2 H4 (((N1.trans (N2.aft n3'.g)).trans N3).le (by omega)) (by omega) (zr5 em N2.lv.T P1' P2' kp)
 |plc i u ks =>
  obtain⟨cc,ev,ec⟩:=fa;refine ixm (.of ev) zat ⟨rfl,itF (by decide+kernel) (ixm (.of ev) zat ⟨rfl,itF (by decide+kernel) (ixm (.of ev) zat ⟨rfl,itF (by decide+kernel) (ixm (.of ev) zat ⟨rfl,itT rfl ?_⟩)⟩)⟩)⟩;obtain⟨h0,g0,ψ,Ψ,rfl,hg,hb,sm,Ju,J,_⟩:=b.is.i_plc em;have ha:(ks.length+3)*g0<=(ks.length+(t+1)+2)*g0:=y18 _ (by omega);rw[y32]at ha;obtain⟨lo,lc⟩:=zva b.hc hb;refine ixm (.of ev) (zak (j:=3) rfl) ⟨cc,rfl,⟨_,.of ec⟩,zgx (λσ=>∃v,σ=[v,some (nV c),some (.ref LA.p)]) ⟨_,rfl⟩ (λσ v ⟨_,e⟩=>⟨v,by rw[e];rfl⟩) L ec J (show h0<lv by omega) b.hc (by omega) (by omega) (by omega) ?_ ?_⟩
  ·rintro k σ H' QQ ⟨v,rfl⟩ ts ⟨fs',sts',L'⟩ sp;trivial;exact mtm L'.lg.e1 (za9 (by decide+kernel)) sp
  intro D ps fs1 sts1 H1 hD nD N1 P1 eD;have ev1:=Nf.ts L N1 _ _ ev;have n1:=N1.ex.n;have n2:=N1.ls;refine⟨.inl ⟨_,.of eD⟩,mtm N1.lv.lg.e1 (za9 (by decide+kernel)) (ixm (.of ev1) (zak (j:=2) rfl) (ixm (.of ev1) (zak (j:=1) rfl) ⟨_,rfl,?_⟩))⟩;rw[lo];refine⟨LA,u,c|||2^i,h0,t,g0,ψ,B,fs1,sts1,rfl,N1.lv,⟨Ju.ext N1.ex.p,by omega,lc,by omega,by omega⟩,λq1 fs2 sts2 H2 N2 Sq=>?_⟩;have n3:=N2.ex.n;have n4:=N2.ls;have l1:=SS.Paired.len P1;have eD2:=Nf.lst N1.lv N2 nD eD;refine⟨D,rfl,_,eD2,zgj (by rw[y00];omega),?_⟩;have N12:=(N1.trans N2).wr hD eD2 nD (zs:=ps.map nV++[nV q1]);have eD3:upd H2 D (.lst (ps.map nV++[nV q1])) D=some (.lst ((ps++[q1]).map nV)):=by rw[zaw,y0r];rfl
  have ev2:=Nf.ts L N12 _ _ ev;refine mtm N12.lv.lg.e1 (za9 (by decide+kernel)) (ixm (.of ev2) (zak (j:=1) rfl) (mtm N12.lv.lg.e1 (za9 (by decide+kernel)) (ixm (.of ev2) (zak (j:=2) rfl) ?_)));refine⟨LA,u,c,h0,t,g0,ψ,B,fs2,sts2,rfl,N12.lv,⟨Ju.ext N12.ex.p,by omega,b.hc,by omega,by omega⟩,λu' fs3 sts3 H3 N3 Su=>?_⟩;have n5:=N3.ex.n;have n6:=N3.ls;have P1':=L2.Paired.mapP P1 λ_ _ z=>Stp.ext (Stp.ext z N2.ex.p) N3.ex.p;have Sq':=(Sq.ext N3.ex.p).pre N1.ex.p;have Su':=Su.pre N12.ex.p;have hI:∀x∈ps++[q1],∃χ,Is fs3 B h0 t g0 χ x:=λx hx=>by
   rcases y0g.mp hx with hx|hx
   ·obtain⟨k,hk,S⟩:=zbn P1' hx;exact⟨_,S _ _ _ _ _ (J k hk)⟩
   ·rw[y09.mp hx];exact⟨_,Sq' _ _ _ _ _ Ju⟩
  have eD4:=Nf.lst N12.lv N3 nD eD3;refine⟨LA,D,i,u',ps++[q1],ps++[q1],fs3,sts3,rfl,N3.lv,by omega,eD4,by rw[y0a,y0n];omega,by rw[y0a,y0n];omega,(λx hx _=>hx),(Su' _ _ _ _ _ Ju).lt,(λx hx=>by obtain⟨_,I⟩:=hI x hx;exact I.lt),λkk H4 kp N4=>?_⟩;exact q _ _ sts3 H4 (((N12.trans N3).trans N4).le (by omega)) (by omega) (zr6 em N3.lv.T P1' Sq' Su' kp)
abbrev s_Leftovers_behind:Stmt:=inClass (top 37) 9
theorem sc_Leftovers_behind:FnScope ["self","left","letter","step"] ["self","left","letter"] (defScope s_Leftovers_behind):={}
theorem zu4{lv:Nat}(hv30:lv<=40)(T:Txt K mg w tw rw fa cLeftovers)(d:DfnM K cLeftovers "behind" "Leftovers.behind" s_Leftovers_behind ["self","left","letter"])(C_Leftovers_behind_form:CalM P w K mg base (3+2*lv+1) cLeftovers "behind_form" ["self","left","letter"] (zq8 P w cLeftovers (lv+1))):CalM P w K mg base (3+2*(lv+1)) cLeftovers "behind" ["self","left","letter"] (zg7 P w cLeftovers (lv+1)):=by
 refine CalM.mono (j:=3+2*lv+1+1) ?_ (by omega);refine d.cal sc_Leftovers_behind (λvs H Q E h=>?_) (λf cdv A outer s H vs Q E hr h=>?_)
 ·obtain⟨A,l,c,h,t,g,φ,B,fs,sts,rfl,_⟩:=h;rfl
 obtain⟨LA,l,c,h,t,g,φ,B,fs,sts,rfl,L,b,q⟩:=h;have hu:=zex hr 8 (by omega);have hlf:=b.lf;have hls:=b.ls;have hlt:=b.is.lt;refine⟨_,(zab (zay (PW.pt (zb8 (zag za3 (pv 1) (zbd (by rfl) T.g_NO) (nomark _)) (zbv (zag za3 (pv 1) (zbd (by rfl) T.g_YES) (nomark _))))) (zac (zah (pv 1))) zal) (zab (zas (i:=3) sc_Leftovers_behind.nd rfl (Or.inl rfl) (zbf (pa_c (pv 1) (pa_c (pv 2) zaa)))) (zcz (zay (zag (zk7 hu) (pv 3) (zce (pv 0) (by rfl)) (by with_unfolding_all rfl)) (zac (zgd hu (zce (pv 0) (by rfl)) (pv 3) (zan C_Leftovers_behind_form T.cl_Leftovers hr (by omega) (pv 0) (pa_c (pv 1) (pa_c (pv 2) zaa))) rfl)) zal) (zac (zah (zd6 hu (zce (pv 0) (by rfl)) (pv 3) (λ_ _=>rfl))))))),?_⟩;refine za1 [some (.ref LA.p),some (nV l),some (nV c),none] rfl ?_;trivial;by_cases h0:l=0
 ·subst h0;exact iteT (q 0 fs sts H (Nf.same0 L (Same.refl _) _) (zmc (by decide)))
 refine itF (by omega) ?_;by_cases h1:l=1
 ·subst h1;exact iteT (q 1 fs sts H (Nf.same0 L (Same.refl _) _) (zmc (by decide)))
 refine itF (by omega) (mkT λp1 H1 n1=>?_);have L1:=L.same n1.g;refine⟨λσ' H'=>σ'=[some (.ref LA.p),some (nV l),some (nV c),some (.ref p1)]/\H' p1=some (.tup [nV l,nV c])/\∃l' fs' sts',Nf P w cLeftovers LA fs sts g H fs' sts' H'/\Stp fs fs' c l l'/\valV sts' [.inl (l:Int),.inl (c:Int)]=some (nV l'),?_,?_⟩
 ·trivial;refine fdm L1.lg.e1 T.cl_Leftovers T.n_steps zgm ⟨LA.ps,rfl,_,DGet.t (k:=[.inl (l:Int),.inl (c:Int)]) L1.lg.es n1.at',?_⟩;cases hv:valV sts [.inl (l:Int),.inl (c:Int)]with
  |some v =>
   obtain⟨l',rfl,_,_,S⟩:=L.S l c v hv;exact iteF ⟨n1.at',l',fs,sts,Nf.same0 L n1.g _,S,hv⟩
  |none =>
   refine iteT (mtm L1.lg.e1 (za9 (by decide+kernel)) ⟨LA,l,c,h,t,g,φ,B,fs,sts,rfl,L1,b,by omega,λl' fs' sts' H' N hs' S=>?_⟩);have ep1:=Nf.ts L1 N _ _ n1.at';have n2:=N.ls;have L':=N.lv;refine fdm L'.lg.e1 T.cl_Leftovers T.n_steps zgm ⟨LA.ps,rfl,_,DPut.t (k:=[.inl (l:Int),.inl (c:Int)]) L'.lg.es ep1 (zgj (by omega)),?_⟩;have u5:Up3 LA H' (upd H' LA.ps (.dT (putK sts' [.inl (l:Int),.inl (c:Int)] (nV l')))):=λb o _ _ hb e=>by rw[zar hb];exact e
   obtain⟨rs,e6,e7⟩:=L'.lg.ef;obtain⟨ys,e8,ky,ef,ev⟩:=L'.lg.en;have ts5:=L'.lg.tups u5;refine⟨ts5 _ _ ep1,l',fs',_,⟨(Same.up3 n1.g).trans (N.up.trans u5),⟨⟨?_,⟨rs,?_,L2.Paired.mapP e7 λ_ _ z=>z.ts ts5⟩,⟨ys,?_,ky.ts ts5,ef,ev⟩,zaw⟩,L'.T,?_⟩,N.ex,?_⟩,S,by rw[zb6,if_pos rfl]⟩
   ·exact L'.lg.ins u5 L'.lg.e1
   ·rw[zar (zdf e6 L'.lg.es (by intro z;cases z))];exact e6
   ·rw[zar (zdf e8 L'.lg.es (by intro z;cases z))];exact e8
   ·intro l1 c1 v1 e;rw[zb6]at e;split at e
    ·rename_i ee;simp only[List.cons.injEq,Sum.inl.injEq,and_true]at ee;obtain rfl:l1=l:=by omega
     obtain rfl:c1=c:=by omega
     cases e;exact⟨l',rfl,by have:=N.ex.len;omega,(S _ _ _ _ _ b.is).lt,λB h t g φ I=>S B h t g φ (I.cut L.T N.ex.p hlt)⟩
    ·exact L'.S l1 c1 v1 e
   ·have:=zby sts' [.inl (l:Int),.inl (c:Int)] (nV l');omega
 ·rintro σ' H' ⟨rfl,ep1,l',fs',sts',N,S,hv⟩;trivial;have z:=DGet.t (k:=[.inl (l:Int),.inl (c:Int)]) N.lv.lg.es ep1;rw[hv]at z;exact fdm N.lv.lg.e1 T.cl_Leftovers T.n_steps zgm ⟨LA.ps,rfl,_,z,q l' fs' sts' H' N S⟩
theorem zo7(T:Txt K mg w tw rw fa cLeftovers)(d:DfnM K cLeftovers "behind" "Leftovers.behind" s_Leftovers_behind ["self","left","letter"])(df:DfnM K cLeftovers "behind_form" "Leftovers.behind_form" s_Leftovers_behind_form ["self","left","letter"])(c1:CalM P w K mg base 2 cLeftovers "behind_bare" ["self","left","one","other"] (zmh P w cLeftovers))(c2:CalM P w K mg base 2 cLeftovers "of_not" ["self","left"] (zeg P w cLeftovers))(c3:CalM P w K mg base 2 cLeftovers "of_and" ["self","one","other"] (zeh P w cLeftovers))(c4:CalM P w K mg base 2 cLeftovers "of_some_set" ["self","bit","lefts"] (zf2 P w cLeftovers))(c5:CalM P w K mg base 2 cLeftovers "of_some_place" ["self","bit","unplaced","lefts"] (zf3 P w cLeftovers)):∀lv,lv<=40->CalM P w K mg base (3+2*lv) cLeftovers "behind" ["self","left","letter"] (zg7 P w cLeftovers lv)
 |0,_=>(d.never λvs H Q E z=>by obtain⟨_,_,_,_,_,_,_,_,_,_,_,_,b,_⟩:=z;exact absurd b.hv (y1q _)).mono (by omega)
 |lv+1,h=>zu4 (by omega) T d (zu3 T df c1 c2 c3 c4 c5 (zo7 T d df c1 c2 c3 c4 c5 lv (by omega)))
theorem zkk{lv:Nat}{LA:LA}{cc:Addr}{ks:List Nat}{fs B:List Fm}{sts:List (List Key×V)}{H1:Hp}{h0 t g0:Nat}{Ψ:Nat->List Nat->Prop}{tn:List Str}{cp:Y6}{te:TE}{σ0:L2.St}{Q:VK}(S:L2.St->Prop)
  (h0S:S (stB tn cp σ0)) (hS:∀σ v,S σ->S (σ.set 0 v)) (L:Lv P w cLeftovers LA fs sts H1) (ec:H1 cc=some (.tup (ks.map nV))) (J:∀k∈ks,Is fs B h0 t g0 (Ψ k) k) (hv:h0<lv) (hk:ks.length<=1000)
  (he:∀(k:Nat) σ H' QQ,S σ->Same H1 H'->zik P w cLeftovers lv [.ref LA.p,nV k] H' QQ E0->te (σ.set 0 (some (nV k))) H' QQ)
  (hd:∀D (bs:List Bool) H',Same H1 H'->(bs.any id=true↔∃k∈ks,Ψ k [])->H' D=some (.lst (bs.map V.bl))->Q (.ref D) H'):cBody tn cp (gName 0) tYes te σ0 Q (Itt K cc) H1:=by
 refine zko (K:=K) (a:=cc) (xs:=ks.map nV) (λD i ys σ H'=>S σ/\Same H1 H'/\∃bs:List Bool,ys=bs.map V.bl/\iq (λ(k:Nat) b=>b=true↔Ψ k []) (ks.take i) bs) (zaf (by rw[y00];exact hk)) (λD hD=>⟨h0S,za8 hD _,[],rfl,.nil⟩) (λD i ys σ H' hD hi hH ⟨_,g,_⟩=>.of (g _ _ ec)) ?_ ?_
 ·rintro D i ys σ H' x hD hi hx hH hl ⟨hσ,g,bs,rfl,pr⟩;rw[y0k]at hx;obtain⟨k,ek,rfl⟩:=y19.mp hx;show te (σ.set 0 (some (nV k))) H' _;refine he k σ H' _ hσ g ⟨LA,k,h0,t,g0,Ψ k,B,fs,sts,rfl,L.same g,J k (y0j ek),hv,λb H2 g2 hb=>?_⟩;refine cstep (zaf (by rw[y00];exact hk)) hi (g2 _ _ hH) hl ⟨hS _ _ hσ,(g.trans g2).wr hD _,bs++[b],by rw[y0r];rfl,?_⟩;rw[y1i,ek,y2d];exact SM.Paired.snoc pr hb
 ·rintro D ys σ H' hD hH hl ⟨hσ,g,bs,rfl,pr⟩;rw[y00,y0o (y01 _)]at pr;refine hd D bs H' g ?_ hH;rw[List.any_eq_true];constructor
  ·rintro⟨b,hb,e⟩;obtain⟨k,hk,z⟩:=zbn pr hb;exact⟨k,hk,z.mp e⟩
  ·rintro⟨k,hk,e⟩;obtain⟨b,hb,z⟩:=zd7 pr hk;exact⟨b,hb,z.mpr e⟩
abbrev s_Leftovers_at_end:Stmt:=inClass (top 37) 12
theorem sc_Leftovers_at_end:FnScope ["self","left","form"] ["self","left"] (defScope s_Leftovers_at_end):={}
theorem znq(T:Txt K mg w tw rw fa cLeftovers)(d:DfnM K cLeftovers "at_end" "Leftovers.at_end" s_Leftovers_at_end ["self","left"]):∀lv,CalM P w K mg base (1+lv) cLeftovers "at_end" ["self","left"] (zik P w cLeftovers lv)
 |0=>(d.never λvs H Q E z=>by obtain⟨_,_,_,_,_,_,_,_,_,_,_,_,h,_⟩:=z;exact absurd h (y1q _)).mono (by omega)
 |lv+1=>by
  have C_Leftovers_at_end:=znq T d lv;refine d.cal sc_Leftovers_at_end (λvs H Q E h=>?_) (λf cdv A outer s H vs Q E hr h=>?_)
  ·obtain⟨A,l,h,t,g,φ,B,fs,sts,rfl,_⟩:=h;rfl
  obtain⟨LA,l,h,t,g,φ,B,fs,sts,rfl,L,I,hv,q⟩:=h;change Room (1+lv) _ at hr;refine⟨_,(zab (zas (i:=2) sc_Leftovers_at_end.nd rfl (Or.inl rfl) (zap (zax K) (zce (pv 0) (by rfl)) (pv 1) (λ_ _=>rfl))) (zab (zay (zag za3 (zap (zai K) (pv 2) zad (λ_ _=>rfl)) zam (nomark _)) (zac (zah (zm7 (zan C_Leftovers_at_end T.cl_Leftovers hr (by omega) (pv 0) (pa_c (zap (zai K) (pv 2) zad (λ_ _=>rfl)) zaa))))) zal) (zab (zay (zag za3 (zap (zai K) (pv 2) zad (λ_ _=>rfl)) zam (nomark _)) (zac (zah (zb4 (zan C_Leftovers_at_end T.cl_Leftovers hr (by omega) (pv 0) (pa_c (zap (zai K) (pv 2) zad (λ_ _=>rfl)) zaa)) (zb1 (zan C_Leftovers_at_end T.cl_Leftovers hr (by omega) (pv 0) (pa_c (zap (zai K) (pv 2) zad (λ_ _=>rfl)) zaa)))))) zal) (zab (zay (zag za3 (zap (zai K) (pv 2) zad (λ_ _=>rfl)) zam (nomark _)) (zac (zah (za0 (zdt K rfl) (by rfl) T.b_any boot_any (pa_c (za2 ["inner"] [(0,"self")] (CompOk.of rfl (by rfl) (by rfl)) (by rfl) (zc1 K (zap (zai K) (pv 2) zad (λ_ _=>rfl))) (λ_ _ _ _ _=>(zau (i:=0) (show List.Nodup (["inner","self"]:List Str) by decide+kernel) (by rfl) (Or.inl (by rfl)))) (λ_ _ _ _ _=>zbp) (λ_ _ _ _ _=>(zan C_Leftovers_at_end T.cl_Leftovers hr (by omega) (pv 1) (pa_c (pv 0) zaa)))) zaa)))) zal) (zab (zay (zag za3 (zap (zai K) (pv 2) zad (λ_ _=>rfl)) zam (nomark _)) (zac (zah (za0 (zdt K rfl) (by rfl) T.b_any boot_any (pa_c (za2 ["inner"] [(0,"self")] (CompOk.of rfl (by rfl) (by rfl)) (by rfl) (zc1 K (zap (zai K) (pv 2) zad (λ_ _=>rfl))) (λ_ _ _ _ _=>(zau (i:=0) (show List.Nodup (["inner","self"]:List Str) by decide+kernel) (by rfl) (Or.inl (by rfl)))) (λ_ _ _ _ _=>zbp) (λ_ _ _ _ _=>(zan C_Leftovers_at_end T.cl_Leftovers hr (by omega) (pv 1) (pa_c (pv 0) zaa)))) zaa)))) zal) (zac (zah (za5 (zbg K) (zap (zai K) (pv 2) zad (λ_ _=>rfl)) (zbf (pa_c zam (pa_c zam zaa))) (by with_unfolding_all rfl))))))))),?_⟩;refine za1 [some (.ref LA.p),some (nV l),none] rfl ?_;trivial;refine atom λzG zk=>?_;have fin:∀(rs:List V) (a:Addr) (z:Str) (xs:List V),H LA.pf=some (.lst rs)->rs[l]?=some (.ref a)->H a=some (.tup (.str z::xs))->(∀y∈(["not","and","some set","some place"]:List Str),¬z=y)->(inV (V.str z) [V.str "yes",V.str "within"]=true↔φ [])->zG:=λrs a z xs e6 el ev hz hb=>zk (by
   refine fdm L.lg.e1 T.cl_Leftovers T.n_forms zbk (ixm (.of e6) (zak el) ?_);have nn:∀y∈(["not","and","some set","some place"]:List Str),¬V.str z=V.str y:=λy hy e=>hz y hy (V.str.inj e);refine ixm (.of ev) zat ⟨rfl,itF (nn _ (by decide+kernel)) (ixm (.of ev) zat ⟨rfl,itF (nn _ (by decide+kernel)) (ixm (.of ev) zat ⟨rfl,itF (nn _ (by decide+kernel)) (ixm (.of ev) zat ⟨rfl,itF (nn _ (by decide+kernel)) ?_⟩)⟩)⟩)⟩;exact ixm (.of ev) zat (mkT λp1 H1 n1=>⟨_,.inr (.of n1.at'),rfl,rfl,q _ H1 n1.g hb⟩))
  match l,I with
  |0,I =>
   obtain⟨rs,b0,b1,e,e0,e1,h0,h1⟩:=L.low;refine fin rs b0 "no" [] e e0 h0 (by decide+kernel) ?_;cases I with|no _ e=>exact iff_of_false (by decide+kernel) (e [])
  |1,I =>
   obtain⟨rs,b0,b1,e,e0,e1,h0,h1⟩:=L.low;refine fin rs b1 "yes" [] e e1 h1 (by decide+kernel) ?_;cases I with|yes _ e=>exact iff_of_true (by decide+kernel) (e [])
  |m+2,I =>
   obtain⟨fm,em⟩:∃fm,fs[m]?=some fm:=⟨_,y0b (by have:=I.lt;omega)⟩;obtain⟨rs,ad,e6,el,nb⟩:=L.form em;have fa:=fAt nb;have okk:=L.T.at_ _ _ em;cases fm with
   |bare wd i j =>
    refine fin rs ad wd _ e6 el fa (λy hy=>zgz okk y (by revert y;decide+kernel)) ?_;cases I with
    |bare _ em' hw _ _ _ _ e =>
     rw[em]at em';cases em';rw[e []];have all:∀w∈SM.rowWords,(inV (V.str w) [V.str "yes",V.str "within"]=true↔aend w 2=true):=by decide+kernel
     exact all _ hw
    |here _ em' _ _ e=>rw[em]at em';cases em';rw[e []];exact iff_of_false (by decide+kernel) id
    |neg _ em'=>rw[em]at em';cases em'
    |two _ em'=>rw[em]at em';cases em'
    |set _ _ em'=>rw[em]at em';cases em'
    |plc _ _ em'=>rw[em]at em';cases em'
   |neg n =>
    have ev:H ad=some (.tup [.str "not",nV n]):=fa;obtain⟨h0,g0,ψ,rfl,hg,J,e⟩:=I.i_neg em;refine zk (fdm L.lg.e1 T.cl_Leftovers T.n_forms zbk (ixm (.of e6) (zak el) (ixm (.of ev) zat ⟨rfl,itT rfl (mtm L.lg.e1 (za9 (by decide+kernel)) (ixm (.of ev) (zak (j:=1) rfl) ?_))⟩)));exact⟨LA,n,h0,t,g0,ψ,B,fs,sts,rfl,L,J,by omega,λb H1 g1 hb=>⟨b,rfl,q _ H1 g1 (by rw[e [],←hb];cases b<;>decide)⟩⟩
   |two x y =>
    have ev:H ad=some (.tup [.str "and",nV x,nV y]):=fa;obtain⟨h0,ga,gb,ψ,χ,rfl,hg,Ja,Jb,e⟩:=I.i_two em;refine zk (fdm L.lg.e1 T.cl_Leftovers T.n_forms zbk (ixm (.of e6) (zak el) (ixm (.of ev) zat ⟨rfl,itF (by decide+kernel) (ixm (.of ev) zat ⟨rfl,itT rfl (mtm L.lg.e1 (za9 (by decide+kernel)) (ixm (.of ev) (zak (j:=1) rfl) ?_))⟩)⟩)));refine⟨LA,x,h0,t,ga,ψ,B,fs,sts,rfl,L,Ja,by omega,λb H1 g1 hb=>⟨b,rfl,?_⟩⟩;cases b with
    |false=>exact iteF (q _ H1 g1 (by rw[e []];exact iff_of_false (by decide) λz=>by have:=hb.mpr z.1;cases this))
    |true=>exact iteT (mtm (g1 _ _ L.lg.e1) (za9 (by decide+kernel)) (ixm (.of (g1 _ _ ev)) (zak (j:=2) rfl) ⟨LA,y,h0,t,gb,χ,B,fs,sts,rfl,L.same g1,Jb,by omega,λb2 H2 g2 hb2=>q _ H2 (g1.trans g2) (by rw[e [],hb2];exact⟨λz=>⟨hb.mp rfl,z⟩,λz=>z.2⟩)⟩))
   |set i ks =>
    obtain⟨cc,ev,ec⟩:=fa;obtain⟨h0,g0,Ψ,rfl,hg,hb,sm,J,e⟩:=I.i_set em;have hk:=zkd L.T okk.1 (λk hk=>(okk.2 k hk).1) J sm;refine zk (fdm L.lg.e1 T.cl_Leftovers T.n_forms zbk (ixm (.of e6) (zak el) (ixm (.of ev) zat ⟨rfl,itF (by decide+kernel) (ixm (.of ev) zat ⟨rfl,itF (by decide+kernel) (ixm (.of ev) zat ⟨rfl,itT rfl (ixm (.of ev) (zak (j:=2) rfl) ⟨cc,rfl,⟨_,.of ec⟩,zkk (λσ=>∃v,σ=[v,some (.ref LA.p)]) ⟨_,rfl⟩ (λσ v ⟨_,e⟩=>⟨v,by rw[e];rfl⟩) L ec J (show h0<lv by omega) (by omega) ?_ ?_⟩)⟩)⟩)⟩)))
    ·rintro k σ H' QQ ⟨v,rfl⟩ g sp;trivial;exact mtm (g _ _ L.lg.e1) (za9 (by decide+kernel)) sp
    ·intro D bs H' g hbs eD;refine⟨D,rfl,_,.of eD,q _ H' g ?_⟩;rw[hbs,e []];exact⟨λ⟨k,hk,z⟩=>⟨k,hk,[],.nil,z⟩,λ⟨k,hk,r',c,z⟩=>⟨k,hk,by cases c;exact z⟩⟩
   |plc i u ks =>
    obtain⟨cc,ev,ec⟩:=fa;obtain⟨h0,g0,ψ,Ψ,rfl,hg,hb,sm,Ju,J,e⟩:=I.i_plc em;refine zk (fdm L.lg.e1 T.cl_Leftovers T.n_forms zbk (ixm (.of e6) (zak el) (ixm (.of ev) zat ⟨rfl,itF (by decide+kernel) (ixm (.of ev) zat ⟨rfl,itF (by decide+kernel) (ixm (.of ev) zat ⟨rfl,itF (by decide+kernel) (ixm (.of ev) zat ⟨rfl,itT rfl (ixm (.of ev) (zak (j:=3) rfl) ⟨cc,rfl,⟨_,.of ec⟩,zkk (λσ=>∃v,σ=[v,some (.ref LA.p)]) ⟨_,rfl⟩ (λσ v ⟨_,e⟩=>⟨v,by rw[e];rfl⟩) L ec J (show h0<lv by omega) (by omega) ?_ ?_⟩)⟩)⟩)⟩)⟩)))
    ·rintro k σ H' QQ ⟨v,rfl⟩ g sp;trivial;exact mtm (g _ _ L.lg.e1) (za9 (by decide+kernel)) sp
    ·intro D bs H' g hbs eD;refine⟨D,rfl,_,.of eD,q _ H' g ?_⟩;rw[hbs,e []];exact⟨.inl,λz=>z.elim id λ⟨r',c,_⟩=>by cases c⟩
abbrev s_check_frame:Stmt:=top 30
theorem zfb:FnScope ["frame"] ["frame"] (defScope s_check_frame):={}
include T in
theorem zix(d:Dfn K mg "check_frame" s_check_frame ["frame"])(C_is_frame:Cal P w K mg base 4 "is_frame" ["thing"] zsa):Cal P w K mg base 5 "check_frame" ["frame"] zfk:=by
 refine d.cal zfb (λvs H Q E h=>?_) (λf cdv A outer s H vs Q E hr h=>?_)
 ·obtain⟨b,tl,rfl,_⟩:=h;rfl
 obtain⟨b,tl,rfl,eb,h4,hl,hf,q⟩:=h;refine⟨_,(zac (zay (zb3 (zbe (zae C_is_frame hr (by omega) (by rfl) (pa_c (pv 0) zaa)))) (zac zgc) zal)),?_⟩;refine za1 [some (.ref b)] rfl ?_;trivial;refine⟨_,rfl,⟨⟨_,.lst eb⟩,λz e=>by cases e⟩,(λa xs ea e=>by cases ea;rw[eb]at e;cases e;exact zed (by omega) (λz hz=>by have:=hl z hz;omega)),λH1 g1=>⟨_,rfl,?_⟩⟩;rw[show frB H (.ref b)=true by unfold frB;simp only[eb];exact hf];exact iteF (q H1 g1)
abbrev s_check_let:Stmt:=top 31
theorem zhi:FnScope ["saying","frame"] ["saying","frame"] (defScope s_check_let):={}
include T in
theorem zqf(d:Dfn K mg "check_let" s_check_let ["saying","frame"])(C_check_frame:Cal P w K mg base 5 "check_frame" ["frame"] zfk)(C_is_saying:Cal P w K mg base 30 "is_saying" ["thing","frame"] (zjr treeWords 4)):Cal P w K mg base 31 "check_let" ["saying","frame"] zjq:=by
 refine d.cal zhi (λvs H Q E h=>?_) (λf cdv A outer s H vs Q E hr h=>?_)
 ·obtain⟨v,b,tl,sy,rfl,_⟩:=h;rfl
 obtain⟨v,b,tl,sy,rfl,r,eb,F,S,q⟩:=h;have h4:=F.h4;have hl:=F.hl;refine⟨_,(zab (zc0 (zae C_check_frame hr (by omega) (by rfl) (pa_c (pv 1) zaa))) (zac (zay (zb3 (zbe (zae C_is_saying hr (by omega) (by rfl) (pa_c (pv 0) (pa_c (pv 1) zaa))))) (zac zgc) zal))),?_⟩;refine za1 [some v,some (.ref b)] rfl ?_;trivial;refine⟨b,tl,rfl,eb,h4,hl,F.fr,λH1 g1=>?_⟩;have eb1:=g1 _ _ eb;have r1:=r.same g1;refine⟨v,.ref b,rfl,r1.exp S.wf 12,⟨⟨_,.lst eb1⟩,λz e=>by cases e⟩,(λa xs ea e=>by cases ea;rw[eb1]at e;cases e;exact zed (by omega) (λz hz=>by have:=hl z hz;omega)),λtb H2 g2 hb=>⟨_,rfl,?_⟩⟩;have:tb=true:=hb.mpr ⟨b,tl,_,rfl,eb1,F.fr,⟨r1,S.wf,by have:=S.dp;omega,S.np⟩,S.ok⟩;rw[this];exact iteF (q H2 (g1.trans g2))
abbrev s_holds_by:Stmt:=top 47
theorem sc_holds_by:FnScope ["saying","frame","row","leftovers","left","letter"] ["saying","frame","row"] (defScope s_holds_by):={}
include T in
theorem zu2(d:Dfn K mg "holds_by" s_holds_by ["saying","frame","row"])(C_Leftovers:CalI P w K mg base 1 cLeftovers "Leftovers" ["self"] (zju P w cLeftovers))(C_Leftovers_of_saying:CalM P w K mg base 12 cLeftovers "of_saying" ["self","saying","names"] (zmg P w cLeftovers 8))(C_Leftovers_behind:CalM P w K mg base 65 cLeftovers "behind" ["self","left","letter"] (zg7 P w cLeftovers 31))(C_Leftovers_at_end:CalM P w K mg base 32 cLeftovers "at_end" ["self","left"] (zik P w cLeftovers 31)):Cal P w K mg base 66 "holds_by" ["saying","frame","row"] zq7:=by
 refine d.cal sc_holds_by (λvs H Q E h=>?_) (λf cdv A outer s H vs Q E hr h=>?_)
 ·obtain⟨v,b,r,s,tl,row,B,rfl,_⟩:=h;rfl
 obtain⟨v,b,r,sy,tl,row,B,rfl,rp,eb,er,h100,hc,S,hd,hg,hbd,q⟩:=h;refine⟨_,(zab (zas (i:=3) sc_holds_by.nd rfl (Or.inl rfl) (zps C_Leftovers hr (by omega) (by rfl))) (zab (zas (i:=4) sc_holds_by.nd rfl (Or.inl rfl) (zan C_Leftovers_of_saying T.cl_Leftovers hr (by omega) (pv 3) (pa_c (pv 0) (pa_c (pv 1) zaa)))) (zab (zck PassesOwn.never rfl (zbb K (pv 2)) (zau (i:=5) sc_holds_by.nd (by rfl) (Or.inl (by rfl))) (zac (zas (i:=4) sc_holds_by.nd rfl (Or.inl rfl) (zan C_Leftovers_behind T.cl_Leftovers hr (by omega) (pv 3) (pa_c (pv 4) (pa_c (pv 5) zaa)))))) (zac (zah (zan C_Leftovers_at_end T.cl_Leftovers hr (by omega) (pv 3) (pa_c (pv 4) zaa))))))),?_⟩;refine za1 [some v,some (.ref b),some (.ref r),none,none,none] rfl ?_;trivial;intro p dx hp hdx ne;refine⟨p,dx,H,rfl,rfl,hp,hdx,ne,λA H1 eA L1 g1 z1 z2 z3=>⟨rfl,?_⟩⟩;subst eA;have nbf:∀{x:Addr} {o:HO},H x=some o->x≠A.pf:=λh=>zao h z1;refine mtm L1.lg.e1 (zgn (by decide+kernel) (by decide+kernel) (by decide+kernel)) ⟨A,b,v,sy,tl,B,row.length,[],[],rfl,L1,rp.same g1,hd,g1 _ _ eb,nbf eb,S,by show 0+cS sy<_;omega,λl0 fs0 H2 N0 I0=>?_⟩;have er2:∀{H':Hp} {fs' sts'} {k:Nat},Nf P w cLeftovers A [] [] k H1 fs' sts' H'->H' r=some (.lst (row.map nV)):=λN=>Nf.lst L1 N (nbf er) (g1 _ _ er);refine⟨⟨_,.of (er2 N0)⟩,?_⟩;refine zez (K:=K) (a:=r) (xs:=row.map nV) (λk σ H'=>∃fs sts l v5,σ=[some v,some (.ref b),some (.ref r),some (.ref A.p),some (nV l),v5]/\k<=row.length/\Nf P w cLeftovers A [] [] (cS sy+k*gS row.length sy) H1 fs sts H'/\Is fs B (hgS sy) (row.length-k) (gS row.length sy) (λz=>hs tl sy (row.take k++z)) l)
  ⟨fs0,[],l0,none,rfl,y14 _,by rw[Nat.zero_mul];exact N0,I0⟩ (λk σ H' _ z=>by obtain⟨_,_,_,_,_,_,N,_⟩:=z;exact .of (er2 N)) ?_ ?_
 ·rintro k y σ H' hy ⟨fs,sts,l,v5,rfl,hk,N,I⟩;rw[y0k]at hy;obtain⟨c,ec,rfl⟩:=y19.mp hy;have hk:=(y05.mp ec).1;trivial;have n1:fs.length<=0+_:=N.ex.n;have n2:sts.length<=0+_:=N.ls;have hm:(k+1)*gS row.length sy<=row.length*gS row.length sy:=y18 _ hk;rw[y32,y3e]at hm;rw[show row.length-k=(row.length-(k+1))+1 by omega]at I;refine mtm N.lv.lg.e1 (zgn (by decide+kernel) (by decide+kernel) (by decide+kernel)) ⟨A,l,c,hgS sy,_,_,_,B,fs,sts,rfl,N.lv,⟨I,by omega,hc c (y0j ec),by omega,by omega⟩,λl' fs' sts' H3 N3 S3=>?_⟩;refine⟨fs',sts',l',rfl,by omega,?_,(S3 _ _ _ _ _ I).cv λz=>?_⟩
  ·have:=N.trans N3;rw[y32,y3e,←y3h];exact this
  ·rw[y1i,ec,y2d,y2p];rfl
 ·rintro σ H' ⟨fs,sts,l,v5,rfl,hk,N,I⟩;rw[y00]at N I;rw[y0o (y01 _)]at I;trivial;refine mtm N.lv.lg.e1 (zgn (by decide+kernel) (by decide+kernel) (by decide+kernel)) ⟨A,l,hgS sy,_,_,_,B,fs,sts,rfl,N.lv,I,by omega,λt H3 g3 ht=>q t H3 (Same.trans (Up3.same z1 z2 z3 g1 N.up) g3) ?_⟩;rw[ht,y1s]
abbrev s_holds:Stmt:=top 48
theorem zpk:FnScope ["saying","frame","row"] ["saying","frame","row"] (defScope s_holds):={}
include T in
theorem znn(d:Dfn K mg "holds" s_holds ["saying","frame","row"])(C_check_let:Cal P w K mg base 31 "check_let" ["saying","frame"] zjq)(C_fits:Cal P w K mg base 5 "fits" ["frame","row"] zjt)(C_holds_by:Cal P w K mg base 66 "holds_by" ["saying","frame","row"] zq7):Cal P w K mg base 67 "holds" ["saying","frame","row"] zg6:=by
 refine d.cal zpk (λvs H Q E h=>?_) (λf cdv A outer s H vs Q E hr h=>?_)
 ·obtain⟨v,b,r,sy,tl,row,B,rfl,_⟩:=h;rfl
 obtain⟨v,b,r,sy,tl,row,B,rfl,rp,eb,F,er,h100,hc,S,q⟩:=h;refine⟨_,(zab (zc0 (zae C_check_let hr (by omega) (by rfl) (pa_c (pv 0) (pa_c (pv 1) zaa)))) (zac (zah (zb4 (zae C_fits hr (by omega) (by rfl) (pa_c (pv 1) (pa_c (pv 2) zaa))) (zb1 (zae C_holds_by hr (by omega) (by rfl) (pa_c (pv 0) (pa_c (pv 1) (pa_c (pv 2) zaa))))))))),?_⟩;refine za1 [some v,some (.ref b),some (.ref r)] rfl ?_;trivial;have h4:=F.h4;refine⟨v,b,tl,sy,rfl,rp,eb,F,⟨S.sf.ok,S.sf.wf,S.dp,S.np⟩,λH1 g1=>⟨b,r,tl,row,rfl,g1 _ _ eb,F.fo,g1 _ _ er,by omega,hc,λH2 g2=>⟨_,rfl,?_⟩⟩⟩;have g12:=g1.trans g2;cases hf:fitB tl row with
 |false=>exact iteF (q false H2 g12 (by rw[hf];exact iff_of_false (by decide) λz=>by cases z.1))
 |true =>
  have h32:∀l∈row,l<32:=λl ml=>by
   have:=hc l ml;have:=zhk h4;omega
  exact iteT ⟨v,b,r,sy,tl,row,B,rfl,rp.same g12,g12 _ _ eb,g12 _ _ er,h100,h32,S.sf,S.dp,S.hg,S.bd,λt H3 g3 ht=>q t H3 (g12.trans g3) (by rw[hf,ht];exact⟨λz=>⟨rfl,z⟩,λz=>z.2⟩)⟩
end
section
variable {P:ig}{w:World}{K:Frag}{mg:Y1}{base:Heap}{tw rw fa cLeftovers:Addr}{f:Addr}{fd:iH}
abbrev s_law_cell_at:Stmt:=top 50
theorem ze9:FnScope ["_law_script","_law_k"] ["_law_script","_law_k"] (defScope s_law_cell_at):={}
variable (T:Txt K mg w tw rw fa cLeftovers)
include T in
theorem ztc(d:Dfn K mg "_law_cell_at" s_law_cell_at ["_law_script","_law_k"]):Cal P w K mg base 1 "_law_cell_at" ["_law_script","_law_k"] (zmj K):=by
 refine d.cal ze9 (λvs H Q E h=>?_) (λf cdv A outer s H vs Q E hr h=>?_)
 ·obtain⟨a,ns,k,rfl,_⟩:=h;rfl
 obtain⟨a,ns,k,rfl,hS,h0,q⟩:=h;refine⟨_,(zab (zay (zag zp1 (pv 1) (za0 (zaj K) (by rfl) T.b_len im (pa_c (pv 0) zaa)) (nomark _)) (zac (zah (zap (zax K) (pv 0) (pv 1) (λ_ _=>rfl)))) zal) (zac (zah zad))),?_⟩;refine za1 [some (.ref a),some (.int k)] rfl ?_;trivial;refine⟨_,.inl hS,ite2 (λc=>?_) (λ_=>q 0)⟩;have c':=of_decide_eq_true c;rw[y00]at c';have hk:k.toNat<ns.length:=by omega
 have ek:k=((k.toNat:Nat):Int):=by omega
 have e:atI (ns.map V.int) ((k.toNat:Nat):Int)=some (.int ns[k.toNat]):=zak (by simp[hk]);rw[←ek]at e;exact⟨_,hS,_,e,q _⟩
theorem small8{a b:Int}(ha:0<=a)(ha':a<=1000)(hb:-1<=b)(hb':b<=1000):Builtin.Range.small a b 8=true/\0<=Builtin.Range.rangeSize a b 8:=by
 have hs:0<=Builtin.Range.rangeSize a b 8/\Builtin.Range.rangeSize a b 8<=1002:=by
  unfold Builtin.Range.rangeSize;rw[if_pos (by decide)];split<;>omega
 refine⟨?_,hs.1⟩;unfold Builtin.Range.small;generalize Builtin.Range.rangeSize a b 8=z at hs;simp only[Builtin.Range.rangeFitsLong,y04,y25,decide_eq_true_eq,beq_iff_eq];simp;omega
theorem cut8{α:Type}(xs:List α)(k:Nat):(cutL xs (some (k:Int)) (some ((k:Int)+8))).length<=8:=by
 unfold cutL;rw[show((k:Int)+8)=((k+8:Nat):Int) by omega,HT.sIx_nat,HT.sIx_nat,y13,y1v];omega
abbrev sp_law(K:Frag):Sp:=zr9 K
abbrev s_law:Stmt:=top 64
theorem sc_law:FnScope ["_law_script","_law_frame_here","_law_start","_law_cells","_law_saying","_law_rows_here","_law_row_here","_law_handed","_law_found"] ["_law_script"] (defScope s_law):={}
include T in
theorem zu0(F:Fun K "law" "law" s_law f fd)(C_law_cell_at:Cal P w K mg base 1 "_law_cell_at" ["_law_script","_law_k"] (zmj K))(C_law_frame:Cal P w K mg base 2 "_law_frame" ["_law_cell"] zfl)(C_law_drawn:Cal P w K mg base 6 "_law_drawn" ["_law_state","_law_frame_here","_law_deep","_law_room","_law_great"] (zfm 4))(C_law_rows:Cal P w K mg base 2 "_law_rows" ["_law_width","_law_most"] zg4)(C_law_row:Cal P w K mg base 2 "_law_row" ["_law_cells","_law_frame_here"] zjo)(C_holds:Cal P w K mg base 67 "holds" ["saying","frame","row"] zg6)(C_law_due:Cal P w K mg base 7 "_law_due" ["_law_saying","_law_frame_here","_law_row_here"] zjv):FnOk P w K mg base CX0 68 f fd ["_law_script"] (sp_law K):=by
 refine F.ok sc_law (λvs H Q E h=>?_) (λcdv A outer s H vs Q E hr h=>?_)
 ·obtain⟨a,ns,rfl,_⟩:=h;rfl
 obtain⟨a,ns,rfl,hS,h63,q⟩:=h;have hu:=zex hr 8 (by decide);refine⟨_,(zab (zas (i:=1) sc_law.nd rfl (Or.inl rfl) (zae C_law_frame hr (by omega) (by rfl) (pa_c (zae C_law_cell_at hr (by omega) (by rfl) (pa_c (pv 0) (pa_c zad zaa))) zaa))) (zab (zck PassesOwn.never rfl (zm4 (by rfl) T.b_range (pa_c zad (pa_c (za0 (ze4 rfl) (by rfl) T.b_max boot_max (pa_c zad (pa_c (za0 (zh4 rfl) (by rfl) T.b_min boot_min (pa_c (za0 (zaj K) (by rfl) T.b_len im (pa_c (pv 0) zaa)) (pa_c zad zaa))) zaa))) (pa_c zad zaa)))) (zau (i:=2) sc_law.nd (by rfl) (Or.inl (by rfl))) (zab (zas (i:=3) sc_law.nd rfl (Or.inl rfl) (zbm (zbu K) (pv 0) (zbw (pv 2)) (zbw (zav zep (pv 2) zad)))) (zab (zas (i:=4) sc_law.nd rfl (Or.inl rfl) (zae C_law_drawn hr (by omega) (by rfl) (pa_c (zaq (pa_c (zbx (za6 K) (by rfl) T.b_list boot_list (pa_c (pv 3) zaa)) zaa)) (pa_c (pv 1) (pa_c zad (pa_c (zav zcl zad (za0 (zaj K) (by rfl) T.b_len im (pa_c (pv 1) zaa))) (pa_c zad zaa))))))) (zab (zas (i:=5) sc_law.nd rfl (Or.inl rfl) (zae C_law_rows hr (by omega) (by rfl) (pa_c (za0 (zaj K) (by rfl) T.b_len im (pa_c (pv 1) zaa)) (pa_c zad zaa)))) (zab (zc0 (zhl K PySem.F.plainAttrs_list PySem.F.slot_list_append PySem.F.type_list_append zcm (pv 5) (pa_c (zae C_law_row hr (by omega) (by rfl) (pa_c (zbm (zbu K) (zav zbj (pv 3) (zaq (pa_c zad (pa_c zad (pa_c zad zaa))))) zb9 (zbw (zav zep zad (zav zb5 (za0 (zaj K) (by rfl) T.b_len im (pa_c (pv 3) zaa)) zad)))) (pa_c (pv 1) zaa))) zaa))) (zab (zck PassesOwn.never rfl (zbb K (pv 5)) (zau (i:=6) sc_law.nd (by rfl) (Or.inl (by rfl))) (zab (zas (i:=7) sc_law.nd rfl (Or.inl rfl) (zaq (pa_c (zbx (za6 K) (by rfl) T.b_list boot_list (pa_c (pv 1) zaa)) (pa_c (zbx (za6 K) (by rfl) T.b_list boot_list (pa_c (pv 6) zaa)) zaa)))) (zab (zas (i:=8) sc_law.nd rfl (Or.inl rfl) (zae C_holds hr (by omega) (by rfl) (pa_c (pv 4) (pa_c (zap (zax K) (pv 7) zad (λ_ _=>rfl)) (pa_c (zap (zax K) (pv 7) zad (λ_ _=>rfl)) zaa))))) (zac (zay (PW.pt (zb8 (zb3 (zbe (za0 zbs (by rfl) T.b_isinstance i5 (pa_c (pv 8) (pa_c (zcb (v:=.ty "bool") (by rfl) T.b_bool boot_bool (by rfl)) zaa))))) (zb8 (zag zgf (pv 8) (zae C_law_due hr (by omega) (by rfl) (pa_c (pv 4) (pa_c (pv 1) (pa_c (pv 6) zaa)))) (nomark _)) (zbv (zag (zus hu) (pv 7) (zaq (pa_c (pv 1) (pa_c (pv 6) zaa))) (nomark _)))))) (zac (zah zfc)) zal))))) (zab (zas (i:=4) sc_law.nd rfl (Or.inl rfl) (zae C_law_drawn hr (by omega) (by rfl) (pa_c (zaq (pa_c (zbx (za6 K) (by rfl) T.b_list boot_list (pa_c (pv 3) zaa)) zaa)) (pa_c (pv 1) (pa_c zad (pa_c (zav zcl zad (za0 (zaj K) (by rfl) T.b_len im (pa_c (pv 1) zaa))) (pa_c zad zaa))))))) (zab (zas (i:=6) sc_law.nd rfl (Or.inl rfl) (zae C_law_row hr (by omega) (by rfl) (pa_c (zbm (zbu K) (zav zbj (pv 3) (zaq (pa_c zad (pa_c zad (pa_c zad (pa_c zad (pa_c zad zaa))))))) zb9 (zbw (zav zep zad (za0 (zaj K) (by rfl) T.b_len im (pa_c (pv 3) zaa))))) (pa_c (pv 1) zaa)))) (zab (zay (zag zgf (zae C_holds hr (by omega) (by rfl) (pa_c (pv 4) (pa_c (zbx (za6 K) (by rfl) T.b_list boot_list (pa_c (pv 1) zaa)) (pa_c (zbx (za6 K) (by rfl) T.b_list boot_list (pa_c (pv 6) zaa)) zaa)))) (zae C_law_due hr (by omega) (by rfl) (pa_c (pv 4) (pa_c (pv 1) (pa_c (pv 6) zaa)))) (nomark _)) (zac (zah zfc)) zal) (zab (zas (i:=4) sc_law.nd rfl (Or.inl rfl) (zae C_law_drawn hr (by omega) (by rfl) (pa_c (zaq (pa_c (zbx (za6 K) (by rfl) T.b_list boot_list (pa_c (pv 3) zaa)) zaa)) (pa_c (pv 1) (pa_c zad (pa_c (zav zcl zad (za0 (zaj K) (by rfl) T.b_len im (pa_c (pv 1) zaa))) (pa_c zad zaa))))))) (zac (zay (zag zgf (zae C_holds hr (by omega) (by rfl) (pa_c (pv 4) (pa_c (zbx (za6 K) (by rfl) T.b_list boot_list (pa_c (pv 1) zaa)) (pa_c (zbm (zbu K) (pv 6) zb9 (zbw zad)) zaa)))) (zae C_law_due hr (by omega) (by rfl) (pa_c (pv 4) (pa_c (pv 1) (pa_c (zbm (zbu K) (pv 6) zb9 (zbw zad)) zaa)))) (nomark _)) (zac (zah zfc)) zal)))))))))))) (zac (zah zfc)))),?_⟩;refine za1 [some (.ref a),none,none,none,none,none,none,none,none] rfl ?_;trivial;refine⟨a,ns,0,rfl,hS,by decide,λc0=>⟨c0,rfl,λpb tl H1 hpb g1 eb T1 h2=>⟨_,.inl (g1.seq hS),by decide,?_⟩⟩⟩;rw[y00];have hmx:2<=(if(if(61:Int)<(ns.length:Int)then 61 else(ns.length:Int))>2 then if(61:Int)<(ns.length:Int)then 61 else(ns.length:Int)else 2)/\(if(if(61:Int)<(ns.length:Int)then 61 else(ns.length:Int))>2 then if(61:Int)<(ns.length:Int)then 61 else(ns.length:Int)else 2)<=63:=by split<;>split<;>omega
 generalize(if(if(61:Int)<(ns.length:Int)then 61 else(ns.length:Int))>2 then if(61:Int)<(ns.length:Int)then 61 else(ns.length:Int)else 2)=mx at hmx;obtain⟨sm1,sm2⟩:=small8 (a:=1) (b:=mx) (by decide) (by decide) (by omega) (by omega);refine⟨sm1,by omega,by decide,sm2,?_⟩;have h4:=T1.h4;refine zon (λi σ H'=>Same H1 H'/\∃v2 v3 v4 v5 v6 v7 v8,σ=[some (.ref a),some (.ref pb),v2,v3,v4,v5,v6,v7,v8]) ⟨Same.refl _,_,_,_,_,_,_,_,rfl⟩ ?_ ?_
 ·rintro i σ H' hi ⟨g,v2,v3,v4,v5,v6,v7,v8,rfl⟩;trivial;refine⟨_,(g1.trans g).seq hS,λpc H2 n2=>?_⟩;rw[zec,show(1:Int)+(i:Int)*8=((1+i*8:Nat):Int) by omega]at n2;have hc8:=cut8 ns (1+i*8);generalize cutL ns (some ((1+i*8:Nat):Int)) (some (((1+i*8:Nat):Int)+8))=cs at n2 hc8;refine⟨_,.inl (.of n2.at'),λl1 H3 n3=>mkT λst H4 n4=>⟨_,.inl (.of ((g.trans (n2.g.trans (n3.g.trans n4.g))) _ _ eb)),?_⟩⟩;rw[y00,show(4:Int)-(tl.length:Int)=((4-tl.length:Nat):Int) by omega];have g12:Same H1 H2:=g.trans n2.g;have g14:Same H1 H4:=g12.trans (n3.g.trans n4.g);have el1:H1 l1=none:=g12.free n3.nil;refine⟨st,l1,pb,cs,tl,3,4-tl.length,2,rfl,n4.at',n4.g _ _ n3.at',by omega,g14 _ _ eb,zao (g12 _ _ eb) n3.nil,(zao n3.at' n4.nil).symm,T1,by decide,by decide,by decide,by omega,(λh=>⟨by decide,by rw[h];decide⟩),λv sy cs5 H5 g5 ec5 hc5 rp D=>?_⟩;have g15:Same H1 H5:=Same.sb g14 g5 el1;have eb5:=g15 _ _ eb;have pc5:H5 pc=some (.lst (cs.map V.int)):=g5 _ _ (zao n2.at' n3.nil) ((n3.g.trans n4.g) _ _ n2.at');refine⟨_,.inl (.of eb5),tl.length,2,by rw[y00];rfl,by omega,by omega,by decide,λD6 ys H6 hD6 g6 eD6 hy6 R6 ne6=>⟨.inl ⟨_,.of eD6⟩,mkT λp7 H7 n7=>⟨_,(g6.trans n7.g) _ _ pc5,_,n7.at',zaf (by rw[y00];simp only[y0c,y1l];omega),λp8 H8 n8=>⟨_,.inl (.of ((g6.trans (n7.g.trans n8.g)) _ _ pc5)),by decide,_,.of n8.at',λp9 H9 n9=>?_⟩⟩⟩⟩;rw[y00,show cs.map V.int++[V.int 3,V.int 1,V.int 4]=(cs++[3,1,4]).map V.int by rw[y0r];rfl,zec,show(3:Int)+(cs.length:Int)%2=((3+cs.length%2:Nat):Int) by omega,zgp]at n9;have g59:=g6.trans (n7.g.trans (n8.g.trans n9.g));have hl9:((cs++[3,1,4]).take (3+cs.length%2)).length<=4:=by rw[y13];omega
  refine⟨p9,pb,_,tl,rfl,n9.at',by omega,g59 _ _ eb5,T1,h2,λD10 row10 H10 hD10 g10 eD10 hl10 lo10=>?_⟩;have g610:Same H6 H10:=n7.g.trans (n8.g.trans (n9.g.trans g10));have eD6':=g610 _ _ eD6;refine⟨D6,rfl,_,eD6',small1000 (by omega),?_⟩;have g510:Same H5 H10:=g59.trans g10;have g511:Same H5 (upd H10 D6 (.lst (ys++[.ref D10]))):=g510.wr hD6 _;have nD10:D10≠D6:=(zao ((n7.g.trans (n8.g.trans n9.g)) _ _ eD6) hD10).symm;have rows:∀y∈ys++[.ref D10],∃(ar:Addr) (row:List Nat),y=.ref ar/\upd H10 D6 (.lst (ys++[.ref D10])) ar=some (.lst (row.map nV))/\row.length<=4/\Lo tl.length row:=λy hy=>by
   rcases y0g.mp hy with hy|hy
   ·obtain⟨ar,row,rfl,er,hr1,hr2⟩:=R6 y hy;exact⟨ar,row,rfl,by rw[zar λz=>ne6 _ hy (by rw[z])];exact g610 _ _ er,hr1,hr2⟩
   ·rw[y09.mp hy];exact⟨D10,row10,rfl,by rw[zar nD10];exact eD10,by omega,lo10⟩
  generalize hH11:upd H10 D6 (.lst (ys++[.ref D10]))=H11 at g511 rows ⊢;have e11:H11 D6=some (.lst (ys++[.ref D10])):=by rw[←hH11,zaw]
  have g111:Same H1 H11:=g15.trans g511;refine⟨D6,rfl,⟨_,.of e11⟩,?_⟩;refine zez (K:=K) (a:=D6) (xs:=ys++[.ref D10]) (λk σ H'=>Same H11 H'/\∃v6 v7 v8,σ=[some (.ref a),some (.ref pb),some (.int (1+(i:Int)*8)),some (.ref pc),some v,some (.ref D6),v6,v7,v8]) ⟨Same.refl _,_,_,_,rfl⟩ (λk σ H' _ z=>.of (z.1 _ _ e11)) ?_ ?_
  ·rintro k y σ H12 hy ⟨g12',v6,v7,v8,rfl⟩;obtain⟨ar,row,rfl,er,hrl,lor⟩:=rows y (y0j hy);have gA:Same H1 H12:=g111.trans g12';trivial;refine⟨_,.inl (.of (gA _ _ eb)),λf1 H13 n13=>⟨_,.inl (.of ((g12'.trans n13.g) _ _ er)),λf2 H14 n14=>mkT λph H15 n15=>⟨_,.of n15.at',_,zat,_,.of n15.at',_,zak (j:=1) rfl,?_⟩⟩⟩;have gB:Same H12 H15:=n13.g.trans (n14.g.trans n15.g);have ef1:=(n14.g.trans n15.g) _ _ n13.at';have ef2:=n15.g _ _ n14.at';have rp15:=rp.same (g511.trans (g12'.trans gB));refine⟨v,f1,f2,sy,tl,row,bS tl sy,rfl,rp15,ef1,T1.fr,ef2,by omega,lor,zv4 D h4 hrl,λt H16 g16 ht=>⟨_,.bl _,by decide,iteF ?_⟩⟩;have gC:=gB.trans g16;refine⟨v,pb,ar,sy,tl,row,3,2,rfl,T1,rp15.same g16,D,by decide,(gA.trans gC) _ _ eb,(g12'.trans gC) _ _ er,by omega,lor,.inr (by omega),λu H17 g17 hu'=>⟨rfl,?_⟩⟩;rw[zl8 ht hu',decide_eq_true rfl];refine iteF (mkT λp18 H18 n18=>⟨false,?_,iteF (g12'.trans (gC.trans (g17.trans n18.g)))⟩);have gD:Same H15 H18:=g16.trans (g17.trans n18.g);have gE:Same H1 H18:=gA.trans (gB.trans gD);have r:=zlc (X:=(cxOf CX0 P w K mg base ["_law_script","_law_frame_here","_law_start","_law_cells","_law_saying","_law_rows_here","_law_row_here","_law_handed","_law_found"] "law" (defScope s_law) f cdv A outer s H E).nox) (k:=7) (H:=H18) (a:=ph) (b:=p18) (xs:=[.ref f1,.ref f2]) (ys:=[.ref pb,.ref ar]) (.of (gD _ _ n15.at')) (.of n18.at') rfl (λ_=>true) λj h1 h2=>by
    match j,h1 with
    |0,_=>exact zop (k:=6) (.of (gD _ _ ef1)) (.of (gE _ _ eb)) (zvn tl)
    |1,_=>exact zop (k:=6) (.of (gD _ _ ef2)) (.of ((g12'.trans (gB.trans gD)) _ _ er)) (zwa row)
    |j+2,h=>exact absurd h (by simp)
   exact r
  rintro σ H12 ⟨g12',v6,v7,v8,rfl⟩;trivial;have gA:Same H1 H12:=g111.trans g12';have pc12:=(g511.trans g12') _ _ pc5;refine⟨_,.inl (.of pc12),λl2 H13 n13=>mkT λst2 H14 n14=>⟨_,.inl (.of ((gA.trans (n13.g.trans n14.g)) _ _ eb)),?_⟩⟩;rw[y00,show(3:Int)-(tl.length:Int)=((3-tl.length:Nat):Int) by omega];have g114:Same H1 H14:=gA.trans (n13.g.trans n14.g);refine⟨st2,l2,pb,cs,tl,2,3-tl.length,0,rfl,n14.at',n14.g _ _ n13.at',by omega,g114 _ _ eb,zao (gA _ _ eb) n13.nil,(zao n13.at' n14.nil).symm,T1,by decide,by decide,by decide,by omega,(λh=>⟨by decide,by rw[h];decide⟩),λv2 sy2 cs6 H15 g15' ec15 hc15 rp2 D2=>?_⟩;have g115:Same H1 H15:=Same.sb g114 g15' (gA.free n13.nil);have pc15:H15 pc=some (.lst (cs.map V.int)):=g15' _ _ (zao pc12 n13.nil) ((n13.g.trans n14.g) _ _ pc12);refine mkT λp16 H16 n16=>⟨_,n16.g _ _ pc15,_,n16.at',zaf (by rw[y00];simp only[y0c,y1l];omega),λp17 H17 n17=>⟨_,.inl (.of ((n16.g.trans n17.g) _ _ pc15)),_,.of n17.at',λp18 H18 n18=>?_⟩⟩;rw[y00,show cs.map V.int++[V.int 3,V.int 1,V.int 4,V.int 1,V.int 5]=(cs++[3,1,4,1,5]).map V.int by rw[y0r];rfl,zec,show(5:Int)+(cs.length:Int)=((5+cs.length:Nat):Int) by omega,zgp]at n18;have hl18:((cs++[3,1,4,1,5]).take (5+cs.length)).length<=13:=by rw[y13];omega
  have g118:Same H15 H18:=n16.g.trans (n17.g.trans n18.g);refine⟨p18,pb,_,tl,rfl,n18.at',hl18,(g115.trans g118) _ _ eb,T1,h2,λD19 row H19 hD19 g19 eD19 hl19 lo19=>?_⟩;have g119:Same H1 H19:=g115.trans (g118.trans g19);have rp19:=rp2.same (g118.trans g19);refine⟨_,.inl (.of (g119 _ _ eb)),λf1 H20 n20=>⟨D19,rfl,_,.inl (.of (n20.g _ _ eD19)),λf2 H21 n21=>?_⟩⟩;have g21:=n20.g.trans n21.g;refine⟨v2,f1,f2,sy2,tl,row,bS tl sy2,rfl,rp19.same g21,n21.g _ _ n20.at',T1.fr,n21.at',by omega,lo19,zv3 D2 h4 (by omega),λt H22 g22 ht=>?_⟩;have gF:=g21.trans g22;refine⟨v2,pb,D19,sy2,tl,row,2,0,rfl,T1,rp19.same gF,D2,by decide,(g119.trans gF) _ _ eb,gF _ _ eD19,by omega,lo19,.inl rfl,λu H23 g23 hu'=>?_⟩;refine⟨rfl,?_⟩;rw[zl8 ht hu',decide_eq_true rfl];have gG:Same H19 H23:=gF.trans g23;have g123:Same H1 H23:=g119.trans gG;have pc23:=(g118.trans (g19.trans gG)) _ _ pc15;refine iteF ⟨_,.inl (.of pc23),λl3 H24 n24=>mkT λst3 H25 n25=>⟨_,.inl (.of ((g123.trans (n24.g.trans n25.g)) _ _ eb)),?_⟩⟩;rw[y00,show(3:Int)-(tl.length:Int)=((3-tl.length:Nat):Int) by omega];have g125:Same H1 H25:=g123.trans (n24.g.trans n25.g);refine⟨st3,l3,pb,cs,tl,1,3-tl.length,1,rfl,n25.at',n25.g _ _ n24.at',by omega,g125 _ _ eb,zao (g123 _ _ eb) n24.nil,(zao n24.at' n25.nil).symm,T1,by decide,by decide,by decide,by omega,(λh=>⟨by decide,by rw[h];decide⟩),λv3 sy3 cs7 H26 g26 ec26 hc26 rp3 D3=>?_⟩;have g126:Same H1 H26:=Same.sb g125 g26 (g123.free n24.nil);have eD23:=gG _ _ eD19;have eD26:H26 D19=some (.lst (row.map nV)):=g26 _ _ (zao eD23 n24.nil) ((n24.g.trans n25.g) _ _ eD23);refine⟨_,.inl (.of (g126 _ _ eb)),λf3 H27 n27=>⟨D19,rfl,_,.of (n27.g _ _ eD26),λf4 H28 n28=>?_⟩⟩;have e6:cutL (row.map nV) none (some 6)=(row.take 6).map nV:=by rw[zec,show(6:Int)=((6:Nat):Int)from rfl,zgp]
  rw[e6]at n28;have hl6:(row.take 6).length<=6:=by rw[y13];omega
  have lo6:Lo tl.length (row.take 6):=λc hc=>lo19 c (List.mem_of_mem_take hc);have g28:=n27.g.trans n28.g;refine⟨v3,f3,f4,sy3,tl,row.take 6,bS tl sy3,rfl,rp3.same g28,n28.g _ _ n27.at',T1.fr,n28.at',by omega,lo6,zv2 D3 h4 hl6,λt3 H29 g29 ht3=>⟨D19,rfl,_,.of ((g28.trans g29) _ _ eD26),λf5 H30 n30=>?_⟩⟩;rw[e6]at n30;have gH:Same H26 H30:=g28.trans (g29.trans n30.g);refine⟨v3,pb,f5,sy3,tl,row.take 6,1,1,rfl,T1,rp3.same gH,D3,by decide,(g126.trans gH) _ _ eb,n30.at',by omega,lo6,.inr hl6,λu3 H31 g31 hu3=>⟨rfl,?_⟩⟩;rw[zl8 ht3 hu3,decide_eq_true rfl];exact iteF (g126.trans (gH.trans g31))
 ·rintro σ H' ⟨g,v2,v3,v4,v5,v6,v7,v8,rfl⟩;trivial;exact q H'
end
section
variable {P:ig}{w:World}{K:Frag}{mg:Y1}{base:Heap}{f:Addr}{fd:iH}{tw rw fa cLeftovers:Addr}
variable (T:Txt K mg w tw rw fa cLeftovers)
include T in
theorem all(d_is_letter_with_figures:Dfn K mg "is_letter_with_figures" s_is_letter_with_figures ["thing","letters"])(d_is_place:Dfn K mg "is_place" s_is_place ["thing"])(d_is_set:Dfn K mg "is_set" s_is_set ["thing"])(d_is_name:Dfn K mg "is_name" s_is_name ["thing"])(d_is_frame:Dfn K mg "is_frame" s_is_frame ["thing"])(d_is_of_sort:Dfn K mg "is_of_sort" s_is_of_sort ["thing","sort","deepest"])(d_has_form:Dfn K mg "has_form" s_has_form ["thing","deepest"])(d_inner_sayings:Dfn K mg "inner_sayings" s_inner_sayings ["saying"])(d_is_bare:Dfn K mg "is_bare" s_is_bare ["saying"])(d_count_parts:Dfn K mg "count_parts" s_count_parts ["saying"])(d_is_any_saying:Dfn K mg "is_any_saying" s_is_any_saying ["thing"])(d_is_let:Dfn K mg "is_let" s_is_let ["saying","known","barred","most"])(d_is_saying:Dfn K mg "is_saying" s_is_saying ["thing","frame"])(d_check_frame:Dfn K mg "check_frame" s_check_frame ["frame"])(d_check_let:Dfn K mg "check_let" s_check_let ["saying","frame"])(d_bit_of:Dfn K mg "bit_of" s_bit_of ["name","names"])(d_worth_keeping:Dfn K mg "worth_keeping" s_worth_keeping ["lefts"])(d_Leftovers___init__:DfnI K cLeftovers "Leftovers.__init__" s_Leftovers___init__ ["self"])(d_Leftovers_numbered:DfnM K cLeftovers "numbered" "Leftovers.numbered" s_Leftovers_numbered ["self","form"])(d_Leftovers_of_not:DfnM K cLeftovers "of_not" "Leftovers.of_not" s_Leftovers_of_not ["self","left"])(d_Leftovers_of_and:DfnM K cLeftovers "of_and" "Leftovers.of_and" s_Leftovers_of_and ["self","one","other"])(d_Leftovers_of_or:DfnM K cLeftovers "of_or" "Leftovers.of_or" s_Leftovers_of_or ["self","one","other"])(d_Leftovers_of_some_set:DfnM K cLeftovers "of_some_set" "Leftovers.of_some_set" s_Leftovers_of_some_set ["self","bit","lefts"])(d_Leftovers_of_some_place:DfnM K cLeftovers "of_some_place" "Leftovers.of_some_place" s_Leftovers_of_some_place ["self","bit","unplaced","lefts"])(d_Leftovers_of_some:DfnM K cLeftovers "of_some" "Leftovers.of_some" s_Leftovers_of_some ["self","name","bit","left"])(d_Leftovers_of_saying:DfnM K cLeftovers "of_saying" "Leftovers.of_saying" s_Leftovers_of_saying ["self","saying","names"])(d_Leftovers_behind:DfnM K cLeftovers "behind" "Leftovers.behind" s_Leftovers_behind ["self","left","letter"])(d_Leftovers_behind_form:DfnM K cLeftovers "behind_form" "Leftovers.behind_form" s_Leftovers_behind_form ["self","left","letter"])(d_Leftovers_behind_bare:DfnM K cLeftovers "behind_bare" "Leftovers.behind_bare" s_Leftovers_behind_bare ["self","left","one","other"])(d_Leftovers_at_end:DfnM K cLeftovers "at_end" "Leftovers.at_end" s_Leftovers_at_end ["self","left"])(d_is_whole:Dfn K mg "is_whole" s_is_whole ["thing"])(d_is_below:Dfn K mg "is_below" s_is_below ["thing","bound"])(d_is_letter:Dfn K mg "is_letter" s_is_letter ["thing","tracks"])(d_check_row:Dfn K mg "check_row" s_check_row ["frame","row"])(d_count_with:Dfn K mg "count_with" s_count_with ["letters","track"])(d_each_place_once:Dfn K mg "each_place_once" s_each_place_once ["frame","letters"])(d_fits:Dfn K mg "fits" s_fits ["frame","row"])(d_holds_by:Dfn K mg "holds_by" s_holds_by ["saying","frame","row"])(d_holds:Dfn K mg "holds" s_holds ["saying","frame","row"])(d_law_cell_at:Dfn K mg "_law_cell_at" s_law_cell_at ["_law_script","_law_k"])(d_law_mixed:Dfn K mg "_law_mixed" s_law_mixed ["_law_cell"])(d_law_new:Dfn K mg "_law_new" s_law_new ["_law_frame_here","_law_number","_law_great"])(d_law_bare:Dfn K mg "_law_bare" s_law_bare ["_law_number","_law_frame_here"])(d_law_drawn:Dfn K mg "_law_drawn" s_law_drawn ["_law_state","_law_frame_here","_law_deep","_law_room","_law_great"])(d_law_stand:Dfn K mg "_law_stand" s_law_stand ["_law_frame_here","_law_row_here"])(d_law_choices:Dfn K mg "_law_choices" s_law_choices ["_law_name","_law_size"])(d_law_bare_holds:Dfn K mg "_law_bare_holds" s_law_bare_holds ["_law_saying","_law_stand_here"])(d_law_holds:Dfn K mg "_law_holds" s_law_holds ["_law_saying","_law_size","_law_stand_here"])(d_law_due:Dfn K mg "_law_due" s_law_due ["_law_saying","_law_frame_here","_law_row_here"])(d_law_frame:Dfn K mg "_law_frame" s_law_frame ["_law_cell"])(d_law_longer:Dfn K mg "_law_longer" s_law_longer ["_law_rows_here","_law_width"])(d_law_rows:Dfn K mg "_law_rows" s_law_rows ["_law_width","_law_most"])(d_law_row:Dfn K mg "_law_row" s_law_row ["_law_cells","_law_frame_here"])(F:Fun K "law" "law" s_law f fd):FnOk P w K mg base CX0 68 f fd ["_law_script"] (sp_law K):=by
 have c1:=zv7 (P:=P) (w:=w) (base:=base) T d_is_letter_with_figures;have c2:=zp3 T d_is_place c1;have c3:=zuy T d_is_set c1;have c4:=zv6 T d_is_name c2 c3;have c5:=zp9 T d_is_frame c4;have c6:=zkr T d_is_of_sort d_has_form c2 c3 c4 12;have c7:=zp7 (P:=P) (w:=w) (base:=base) T d_inner_sayings;have c8:=znm T d_is_bare c7;have c9:=zid T d_count_parts c7 13;have c10:=znv T d_is_any_saying c6.1 c9;have c11:=zo6 (bw:=treeWords) T d_is_let c7 c8 13;have c12:=zp6 T d_is_saying c5 c10 c11;have b1:=znh (P:=P) (w:=w) (base:=base) T d_is_whole;have b2:=znt T d_is_below b1;have r1:=ziw T d_is_letter b2;have r2:=zns T d_check_row r1;have r3:=znr (P:=P) (w:=w) (base:=base) T d_count_with;have r4:=zs5 T d_each_place_once c2 r3;have r5:=zqb T d_fits r2 r4;have k1:=zix T d_check_frame c5;have k2:=zqf T d_check_let k1 c12;have m0:=zqc (P:=P) (w:=w) (base:=base) T d_Leftovers___init__;have m1:=zs8 (P:=P) (w:=w) (base:=base) T d_Leftovers_numbered;have m2:=zqg (P:=P) (w:=w) (base:=base) T d_bit_of;have m3:=zqa (P:=P) (w:=w) (base:=base) T d_worth_keeping;have n1:=zs9 T d_Leftovers_of_not m1;have n2:=zta T d_Leftovers_of_and m1;have n3:=zu1 T d_Leftovers_of_or n1 n2;have n4:=zs6 T d_Leftovers_of_some_set m3 m1;have n5:=zs7 T d_Leftovers_of_some_place m3 m1;have n6:=zp8 T d_Leftovers_of_some c2 n5 n4;have m4:=zno T d_Leftovers_of_saying c8 m2 m1 n1 n2 n3 n6 8;have m5:=zu5 T d_Leftovers_behind_bare m1;have m6:=zo7 T d_Leftovers_behind d_Leftovers_behind_form m5 n1 n2 n4 n5 31 (by decide);have m7:=znq (P:=P) (w:=w) (base:=base) T d_Leftovers_at_end 31;have m8:=zu2 T d_holds_by m0 m4 m6 m7;have m9:=znn T d_holds k2 r5 m8;have l1:=ztc (P:=P) (w:=w) (base:=base) T d_law_cell_at;have l2:=zp5 (P:=P) (w:=w) (base:=base) T d_law_mixed;have l3:=zla T d_law_frame l2;have l4:=zp4 (P:=P) (w:=w) (base:=base) T d_law_new;have l5:=znu (P:=P) (w:=w) (base:=base) T d_law_bare;have l6:=zfu T d_law_drawn l2 l4 l5 4;have l7:=znk (P:=P) (w:=w) (base:=base) T d_law_longer;have l8:=znj T d_law_rows l7;have l9:=zp2 T d_law_row l2;have q1:=ztb (P:=P) (w:=w) (base:=base) T d_law_choices;have q2:=ztd (P:=P) (w:=w) (base:=base) T d_law_bare_holds;have q3:=znl T d_law_holds q1 q2 4;have q4:=zs4 (P:=P) (w:=w) (base:=base) T d_law_stand;have q5:=zqd T d_law_due q4 q3;exact zu0 T F l1 l3 l6 l8 l9 m9 q5
end
end K11
open PySem PySem.W PyProof.Rows
set_option hygiene false in
local macro_rules
| `(tactic|exact_mod_cast 0) => `(tactic|((try dsimp only[L2.KOf]);refine' L2.dfn_mk KX G ?a ?l ?c ?k (λ_ _ _ _ _ _=>by first|exact L2.fit1 λ_=>rfl|exact L2.fit2 λ_ _=>rfl|exact L2.fit3 λ_ _ _=>rfl|exact L2.fit4 λ_ _ _ _=>rfl|exact L2.fit5 λ_ _ _ _ _=>rfl);((case a=>k_is);(case l=>k_is);(case c=>k_is);(case k=>k_is))))
namespace PySem.W.Fast
def tw7390979216136619325:=True
def tw11847115516593640253:=True
def tw4686588690956441757:=True
def tw1111736168469282456:=True
def tw3534844860665746018:=True
def tw9274685466892273259:=True
def tw7074445058402300340:=True
def tw16266865410385279422:=True
def tw18352570848942165611:=True
def tw11879521580232278700:=True
def tw11887402151130637095:=True
def tw11024465247356696837:=True
def tw798577351206777040:=True
def tw2713585959548162506:=True
def tw8463405659231788138:=True
def tw2761973089036007096:=True
def tw18050166637361332613:=True
def tw17183743961905639186:=True
def tw6063759085415116475:=True
def tw4131883387498528990:=True
def tw17030539983688333075:=True
def tw11132553076680238008:=True
def tw8973491583027905982:=True
def tw14920143849631057341:=True
def tw13092561481386450905:=True
def tw14531205726872086281:=True
def tw1872498458076300029:=True
def tw12187055339244161128:=True
def tw9148833035528910169:=True
def tw5861494919190721853:=True
def tw16513779955393007389:=True
def tw16867602616803383499:=True
def tw14113692679283472941:=True
def tw17137902358844572715:=True
def tw17863398921991599460:=True
def tw17316563504125308730:=True
def tw8896626735653532284:=True
def tw3407860516605747292:=True
def tw2029211281540030975:=True
def tw8117522672076108282:=True
def tw9930008162790731324:=True
def tw9845603873721787740:=True
def tw5921006671173073857:=True
def tw9444404163863428736:=True
def tw10466854901289849022:=True
def tw7770379189826799331:=True
def tw2270295410980357840:=True
def tw18238976888637083894:=True
def tw2970411831898592192:=True
def tw10053968732831061158:=True
def tw8644312725296347421:=True
def tw3673522654638805648:=True
def tw17923761457293084054:=True
def tw11097740632452067582:=True
def tw7724882511702827981:=True
def tw1008133529521262481:=True
def tw15321715003020455327:=True
def tw17041809960593105569:=True
def tw16675491486027201499:=True
def tw12361957078988197666:=True
def tw5488607681650477073:=True
def tw12180214665931112103:=True
def tw10131746928954775782:=True
def tw11435632090368836849:=True
def tw2323801004461466345:=True
def tw1603947543234794684:=True
def tw133609206980765807:=True
def tw2388318248661627295:=True
def tw17121339641543948463:=True
def tw4808661774458936462:=True
def tw15297466604294150321:=True
def tw5911905224073303129:=True
def tw11791185113384995351:=True
def tw4766283770304655460:=True
def tw13758006840006165384:=True
def tw5371408763914589288:=True
def tw15987315409224460564:=True
def tw4155595316902917930:=True
def tw14430974843356984870:=True
def tw17588397112437725657:=True
def tw8669439182631141513:=True
def tw12814629875402507143:=True
def tw11187758119813921832:=True
def tw9987851461039779000:=True
def tw847259852839669518:=True
def tw2871255115857039184:=True
def tw4449808845506683569:=True
def tw972158500367079110:=True
def tw8294397519925214917:=True
def tw3367220921716649900:=True
def tw7870691829275320097:=True
def tw18074105799030666045:=True
def tw5348864307888626492:=True
def tw14402776905395664510:=True
def tw2907752605264027043:=True
def tw11061593845110384263:=True
def tw10991530197727683779:=True
def tw18150706848596766082:=True
def tw132142352400359703:=True
def tw13007657505540981983:=True
def tw10984871506027651360:=True
def tw12825743293754125018:=True
def tw18149878966771280808:=True
def tw15504599860389727201:=True
def tw721832583813633889:=True
def tw7876849337818997686:=True
def tw877020225544776930:=True
def tw6807960060070839607:=True
def tw15749770714883912317:=True
def tw8104454789723623847:=True
def tw2002228673497954743:=True
def tw16381584880737702898:=True
def tw13355722491535519159:=True
def tw15954868002686943030:=True
def tw12894931226975030472:=True
def tw14448998270056035542:=True
def tw10997487918306460882:=True
def tw14432590839505243666:=True
def tw7017752632572777814:=True
def tw12765770479544248285:=True
def tw1554865040651039963:=True
def tw7386212700706565217:=True
def tw8864862500798028693:=True
def tw3449760952567386804:=True
def tw6835406136198882030:=True
def tw13388293760187536777:=True
def tw1306407299487006553:=True
def tw7043971149531581250:=True
def tw10328897085439829463:=True
def tw1135222195292226917:=True
def tw16733761756772238107:=True
def tw14204745387052207801:=True
def tw7491492683019962696:=True
def tw3222067873253415820:=True
def tw885134370498153014:=True
def tw9222364772554404375:=True
def tw6010745958166427423:=True
def tw10991320529256664651:=True
def tw4125919621766913682:=True
def tw16997395817255152679:=True
def tw2030588503081836098:=True
def tw17917675164732616576:=True
def tw6860351710672829480:=True
def tw15945571313461652626:=True
def tw15539450627036926121:=True
def tw15162488287542492993:=True
def tw13922392846188090495:=True
def tw5525742747563049907:=True
def tw6707295522794867008:=True
def tw9868822744856758534:=True
def tw4044888921303949952:=True
def tw17097856000286565053:=True
def tw6063313963194839469:=True
def tw9064538771856404811:=True
def tw5737132174484814156:=True
def tw6494088562624617177:=True
def tw14548295415056369027:=True
def tw2891025925960134869:=True
def tw13040704923217079744:=True
def tw13255946088421775701:=True
def tw11988093619406648593:=True
def tw3249382279590332421:=True
def tw2468346421948327789:=True
def tw6189006583455264163:=True
def tw9559867985139932602:=True
def tw7448995769346288013:=True
def tw11265076989623356020:=True
def tw2924750920836150787:=True
def tw7780062244020686816:=True
def tw18164105927992432630:=True
def tw7555626050181509302:=True
def tw1599733689386931561:=True
def tw14389319662997903828:=True
def tw8260878748957580969:=True
def tw9072119259020908260:=True
def tw10792120052298908236:=True
def tw3251112756890079992:=True
def tw11783455769613618349:=True
def tw13331532163143594342:=True
def tw16806615152191607276:=True
def tw16215518783028205069:=True
def tw17240779138849215804:=True
def tw8747799706557615974:=True
def tw12328659610550186252:=True
def tw13138544950383352562:=True
def tw7656154835050392142:=True
def tw15792489913181821937:=True
def tw8981457807466357667:=True
def tw17010398104641980316:=True
def tw14477502869698850563:=True
def tw13611734740852510003:=True
def tw719036943215283600:=True
def tw12055820883750388827:=True
def tw6290457863153434709:=True
def tw3662285628381960805:=True
def tw1782685944471432622:=True
def tw11286520389554363470:=True
def tw14162616338167318310:=True
def tw4484015821825196791:=True
def tw2399374259335646806:=True
def tw1902306399117897167:=True
def tw5582900933698444996:=True
def tw601805257601751553:=True
def tw610099356976253920:=True
def tw4465044144199419997:=True
def tw13878814177094573261:=True
def tw578409345940848645:=True
def tw3763419128142164381:=True
def tw1666517711925305266:=True
def tw1065524391513539780:=True
def tw6432869341978830588:=True
def tw8293050123865780575:=True
def tw7832320086576485302:=True
def tw599077992781730622:=True
def tw16188988548210560175:=True
def tw10949982223243026675:=True
def tw1835300815353588367:=True
def tw12459260336046447558:=True
def tw4474824718387210091:=True
def tw13250811263979958319:=True
def tw7001716563321030129:=True
def tw14646998490211689381:=True
def tw5968911227007073684:=True
def tw2026212102638840749:=True
def tw10183962606061849827:=True
def tw16376387301091659892:=True
def tw2507751330313206746:=True
def tw5286116544160589325:=True
def tw3900706650422364080:=True
def tw12523240430966715385:=True
def tw5598388706633230382:=True
def tw6520546649560359759:=True
def tw15894915342221895608:=True
def tw3126892860779287648:=True
def tw10106752913837952478:=True
def tw8854303294165953660:=True
def tw7332795083237361636:=True
def tw5941187783575620504:=True
def tw3414416213048998982:=True
def tw11697032601043865875:=True
def tw16783404570914374347:=True
def tw5358728074446024764:=True
def tw8414424774298557749:=True
def tw17054679482232813732:=True
def tw3709898621266757581:=True
def tw6128127064567809696:=True
def tw13229230197716236952:=True
def tw10802609605794579964:=True
def tw5038897451318362464:=True
def tw6840634164772232630:=True
def tw7561080813745270430:=True
def tw15163341433222985118:=True
def tw5618274113186645418:=True
def tw18015170552677212649:=True
def tw15994695046509408:=True
def tw14207920150423401040:=True
def tw12255588934206408483:=True
def tw11578158511771844720:=True
def tw6583802918317240986:=True
def tw11189436860782657674:=True
def tw1319585347955885722:=True
def tw3886466097487781972:=True
def tw2081030626284386286:=True
def tw4313716845909442748:=True
def tw18098726468479931333:=True
def tw11443149743807684520:=True
def tw12460458724237507266:=True
def tw2854452606062668297:=True
def tw1567298728232886459:=True
def tw14396533289417990944:=True
def tw5171336761519854005:=True
def tw18118310767590594132:=True
def tw8892387346432537386:=True
def tw5425572596941799130:=True
def tw12043890476687706377:=True
def tw2571835003142258926:=True
def tw1241114786509059127:=True
def tw2440577535781734129:=True
def tw5649094745587031752:=True
def tw2090419425461263141:=True
def tw773832170476606796:=True
def tw2913751586843121214:=True
def tw11841347079854786029:=True
def tw5552931908824752456:=True
def tw10643033595283509308:=True
def tw13097786994675613341:=True
def tw7425748652779371174:=True
def tw6179502489844727195:=True
def tw16497675675280278561:=True
def tw7851056820971335345:=True
def tw1875438350479028342:=True
def tw3851212040565344827:=True
def tw4619725358506072063:=True
def tw10139838131383944330:=True
def tw2631894597327786493:=True
def tw9101221027810736923:=True
def tw2724822825370653493:=True
def tw11935551215138282648:=True
def tw12098961306818064514:=True
def tw18036495749084745232:=True
def tw13189669501395886591:=True
def tw4927508879567399374:=True
def tw3135809026394338280:=True
def tw1381166744205828336:=True
def tw3691535112291407420:=True
def tw13570299773735844983:=True
def tw17628872692518668605:=True
def tw7696558739603950791:=True
def tw7003275987484326053:=True
def tw17415436100519845312:=True
def tw8359038676184677697:=True
def tw12532854031259725704:=True
def tw12861812451548287033:=True
def tw9083930672840210181:=True
def tw7950178733174424885:=True
def tw18107752793027709605:=True
def tw16012498975668089690:=True
def tw1870621380727158867:=True
def tw3341875982494317208:=True
def tw2446434803689805832:=True
def tw14600497998654739236:=True
def tw14425475124689511605:=True
def tw10895702182463065094:=True
def tw4673222868991069402:=True
def tw8657184360513542590:=True
def tw3642480958488604077:=True
def tw12700342707432734063:=True
def tw8795914523015350945:=True
def tw3691327358968702899:=True
def tw1389214928644746603:=True
def tw15163671021087246961:=True
def tw14449459019846452883:=True
def tw3067300741778648440:=True
def tw15658885740885926361:=True
def tw14563715345395812744:=True
def tw17391306612740166513:=True
def tw273445387377550717:=True
def tw12510325319204755389:=True
def tw9285281465134051528:=True
def tw3738283759632924023:=True
def tw6841371765620962101:=True
def tw14054671237169558214:=True
def tw7150893319554135440:=True
def tw139426115281057521:=True
def tw7649716205277619227:=True
def tw14672696708151065945:=True
def tw11331305580262165060:=True
def tw14685079224353354143:=True
def tw15027557035244192363:=True
end PySem.W.Fast
set_option maxRecDepth 100000 in
set_option maxHeartbeats 0 in
theorem PySem.Challenge.cw_setsays_k11_whole_holds_plain_holds : PySem.Challenge.rw_setsays_k11_whole_holds_plain.Holds := by
 w_on;o_law;k_head;(case hw=>w_witness2)
 k_fill
 refine L2.walk_ofK (l:=PySem.Challenge.rw_setsays_k11_whole_holds_plain) (n:=63) (k:=68) (x:="_law_script") (CX:=L2.CX0) (sp:=K11.sp_law) rfl (by decide) rfl ⟨rfl,by decide,by decide⟩ (λw h Y=>PySem.W.kIn_of Y) ?F (λ_ _ a ns hl _ hS=>⟨a,ns,rfl,hS,hl,λ_=>rfl⟩) λ_ _ _ _ z=>z
 case F =>
  intro w mg fa h KX G hmg;obtain⟨tw,g_TELLING_WORDS,t_TELLING_WORDS⟩:∃q,L2.GlV mg "TELLING_WORDS" (.ref q)/\∀H,L2.SqT (L2.KOf KX) H q [.str "some",.str "all"]:=by
   dsimp only[L2.KOf];refine' L2.glt_mk KX G (by k_is) (by k_is) (by decide) (by exact .cons ⟨_,rfl⟩ (.cons ⟨_,rfl⟩ (.nil)))
  obtain⟨rw,g_TREE_WORDS,t_TREE_WORDS⟩:∃q,L2.GlV mg "TREE_WORDS" (.ref q)/\∀H,L2.SqT (L2.KOf KX) H q [.str "left",.str "right",.str "above"]:=by
   dsimp only[L2.KOf];refine' L2.glt_mk KX G (by k_is) (by k_is) (by decide) (by exact .cons ⟨_,rfl⟩ (.cons ⟨_,rfl⟩ (.cons ⟨_,rfl⟩ (.nil))))
  obtain⟨ff,g_FORMS,f_FORMS⟩:∃q,L2.GlV mg "FORMS" (.ref q)/\SS.Forms (L2.KOf KX) w q:=by
   dsimp only[L2.KOf];refine' SS.forms_mk KX G (by k_is) (by decide) (by k_is) (by exact⟨⟨_,_,rfl,rfl⟩,⟨⟨_,_,rfl,rfl⟩,⟨⟨_,_,rfl,rfl⟩,⟨⟨_,_,rfl,rfl⟩,⟨⟨_,_,rfl,rfl⟩,⟨⟨_,_,rfl,rfl⟩,⟨⟨_,_,rfl,rfl⟩,⟨⟨_,_,rfl,rfl⟩,⟨⟨_,_,rfl,rfl⟩,⟨⟨_,_,rfl,rfl⟩,⟨⟨_,_,rfl,rfl⟩,⟨⟨_,_,rfl,rfl⟩,⟨⟨_,_,rfl,rfl⟩,trivial⟩⟩⟩⟩⟩⟩⟩⟩⟩⟩⟩⟩⟩) ?he;refine' .cons ⟨⟨_,rfl⟩,_,rfl,SS.sqt_mk (by k_is) (by decide) (by exact .cons ⟨_,rfl⟩ (.cons ⟨_,rfl⟩ (.nil)))⟩ (.cons ⟨⟨_,rfl⟩,_,rfl,SS.sqt_mk (by k_is) (by decide) (by exact .cons ⟨_,rfl⟩ (.cons ⟨_,rfl⟩ (.nil)))⟩ (.cons ⟨⟨_,rfl⟩,_,rfl,SS.sqt_mk (by k_is) (by decide) (by exact .cons ⟨_,rfl⟩ (.cons ⟨_,rfl⟩ (.nil)))⟩ (.cons ⟨⟨_,rfl⟩,_,rfl,SS.sqt_mk (by k_is) (by decide) (by exact .cons ⟨_,rfl⟩ (.cons ⟨_,rfl⟩ (.nil)))⟩ (.cons ⟨⟨_,rfl⟩,_,rfl,SS.sqt_mk (by k_is) (by decide) (by exact .cons ⟨_,rfl⟩ (.cons ⟨_,rfl⟩ (.nil)))⟩ (.cons ⟨⟨_,rfl⟩,_,rfl,SS.sqt_mk (by k_is) (by decide) (by exact .cons ⟨_,rfl⟩ (.cons ⟨_,rfl⟩ (.nil)))⟩ (.cons ⟨⟨_,rfl⟩,_,rfl,SS.sqt_mk (by k_is) (by decide) (by exact .cons ⟨_,rfl⟩ (.cons ⟨_,rfl⟩ (.nil)))⟩ (.cons ⟨⟨_,rfl⟩,_,rfl,SS.sqt_mk (by k_is) (by decide) (by exact .cons ⟨_,rfl⟩ (.cons ⟨_,rfl⟩ (.nil)))⟩ (.cons ⟨⟨_,rfl⟩,_,rfl,SS.sqt_mk (by k_is) (by decide) (by exact .cons ⟨_,rfl⟩ (.nil))⟩ (.cons ⟨⟨_,rfl⟩,_,rfl,SS.sqt_mk (by k_is) (by decide) (by exact .cons ⟨_,rfl⟩ (.cons ⟨_,rfl⟩ (.nil)))⟩ (.cons ⟨⟨_,rfl⟩,_,rfl,SS.sqt_mk (by k_is) (by decide) (by exact .cons ⟨_,rfl⟩ (.cons ⟨_,rfl⟩ (.nil)))⟩ (.cons ⟨⟨_,rfl⟩,_,rfl,SS.sqt_mk (by k_is) (by decide) (by exact .cons ⟨_,rfl⟩ (.cons ⟨_,rfl⟩ (.nil)))⟩ (.cons ⟨⟨_,rfl⟩,_,rfl,SS.sqt_mk (by k_is) (by decide) (by exact .cons ⟨_,rfl⟩ (.cons ⟨_,rfl⟩ (.nil)))⟩ (.nil)))))))))))))
  obtain⟨cLeftovers,m_Leftovers,cl_Leftovers,n_forms,n_numbers,n_steps,d_Leftovers___init__,d_Leftovers_numbered,d_Leftovers_of_not,d_Leftovers_of_and,d_Leftovers_of_or,d_Leftovers_of_some_set,d_Leftovers_of_some_place,d_Leftovers_of_some,d_Leftovers_of_saying,d_Leftovers_behind,d_Leftovers_behind_form,d_Leftovers_behind_bare,d_Leftovers_at_end⟩:∃q:Addr,mg "Leftovers"=some (.ref q)/\L2.Cls (L2.KOf KX) q/\L2.NoAttr (L2.KOf KX) q "forms"/\L2.NoAttr (L2.KOf KX) q "numbers"/\L2.NoAttr (L2.KOf KX) q "steps"/\L2.DfnI (L2.KOf KX) q "Leftovers.__init__" K11.s_Leftovers___init__ ["self"]/\L2.DfnM (L2.KOf KX) q "numbered" "Leftovers.numbered" K11.s_Leftovers_numbered ["self","form"]/\L2.DfnM (L2.KOf KX) q "of_not" "Leftovers.of_not" K11.s_Leftovers_of_not ["self","left"]/\L2.DfnM (L2.KOf KX) q "of_and" "Leftovers.of_and" K11.s_Leftovers_of_and ["self","one","other"]/\L2.DfnM (L2.KOf KX) q "of_or" "Leftovers.of_or" K11.s_Leftovers_of_or ["self","one","other"]/\L2.DfnM (L2.KOf KX) q "of_some_set" "Leftovers.of_some_set" K11.s_Leftovers_of_some_set ["self","bit","lefts"]/\L2.DfnM (L2.KOf KX) q "of_some_place" "Leftovers.of_some_place" K11.s_Leftovers_of_some_place ["self","bit","unplaced","lefts"]/\L2.DfnM (L2.KOf KX) q "of_some" "Leftovers.of_some" K11.s_Leftovers_of_some ["self","name","bit","left"]/\L2.DfnM (L2.KOf KX) q "of_saying" "Leftovers.of_saying" K11.s_Leftovers_of_saying ["self","saying","names"]/\L2.DfnM (L2.KOf KX) q "behind" "Leftovers.behind" K11.s_Leftovers_behind ["self","left","letter"]/\L2.DfnM (L2.KOf KX) q "behind_form" "Leftovers.behind_form" K11.s_Leftovers_behind_form ["self","left","letter"]/\L2.DfnM (L2.KOf KX) q "behind_bare" "Leftovers.behind_bare" K11.s_Leftovers_behind_bare ["self","left","one","other"]/\L2.DfnM (L2.KOf KX) q "at_end" "Leftovers.at_end" K11.s_Leftovers_at_end ["self","left"]:=by
   dsimp only[L2.KOf];refine'⟨_,PySem.W.mg_of KX G (by k_is),⟨(by k_is),(by k_is),(by k_is),(by k_is)⟩,L2.noattr_mk (by k_is),L2.noattr_mk (by k_is),L2.noattr_mk (by k_is),L2.dfni_mk (by k_is) (by k_is) (by k_is) (by k_is) (by k_is) (by k_is) (by k_is) (λ_ _ _ _ _ _=>L2.fit1 λ_=>rfl),L2.dfnm_mk (by k_is) (by k_is) (by k_is) (by k_is) (by k_is) (λ_ _ _ _ _ _=>L2.fit2 λ_ _=>rfl),L2.dfnm_mk (by k_is) (by k_is) (by k_is) (by k_is) (by k_is) (λ_ _ _ _ _ _=>L2.fit2 λ_ _=>rfl),L2.dfnm_mk (by k_is) (by k_is) (by k_is) (by k_is) (by k_is) (λ_ _ _ _ _ _=>L2.fit3 λ_ _ _=>rfl),L2.dfnm_mk (by k_is) (by k_is) (by k_is) (by k_is) (by k_is) (λ_ _ _ _ _ _=>L2.fit3 λ_ _ _=>rfl),L2.dfnm_mk (by k_is) (by k_is) (by k_is) (by k_is) (by k_is) (λ_ _ _ _ _ _=>L2.fit3 λ_ _ _=>rfl),L2.dfnm_mk (by k_is) (by k_is) (by k_is) (by k_is) (by k_is) (λ_ _ _ _ _ _=>L2.fit4 λ_ _ _ _=>rfl),L2.dfnm_mk (by k_is) (by k_is) (by k_is) (by k_is) (by k_is) (λ_ _ _ _ _ _=>L2.fit4 λ_ _ _ _=>rfl),L2.dfnm_mk (by k_is) (by k_is) (by k_is) (by k_is) (by k_is) (λ_ _ _ _ _ _=>L2.fit3 λ_ _ _=>rfl),L2.dfnm_mk (by k_is) (by k_is) (by k_is) (by k_is) (by k_is) (λ_ _ _ _ _ _=>L2.fit3 λ_ _ _=>rfl),L2.dfnm_mk (by k_is) (by k_is) (by k_is) (by k_is) (by k_is) (λ_ _ _ _ _ _=>L2.fit3 λ_ _ _=>rfl),L2.dfnm_mk (by k_is) (by k_is) (by k_is) (by k_is) (by k_is) (λ_ _ _ _ _ _=>L2.fit4 λ_ _ _ _=>rfl),L2.dfnm_mk (by k_is) (by k_is) (by k_is) (by k_is) (by k_is) (λ_ _ _ _ _ _=>L2.fit2 λ_ _=>rfl)⟩
  have T:K11.Txt (L2.KOf KX) mg w tw rw ff cLeftovers:=by
   refine'⟨PySem.W.mg_none_of KX G (by k_is),PySem.W.mg_none_of KX G (by k_is),PySem.W.mg_none_of KX G (by k_is),PySem.W.mg_none_of KX G (by k_is),PySem.W.mg_none_of KX G (by k_is),PySem.W.mg_none_of KX G (by k_is),PySem.W.mg_none_of KX G (by k_is),PySem.W.mg_none_of KX G (by k_is),PySem.W.mg_none_of KX G (by k_is),PySem.W.mg_none_of KX G (by k_is),PySem.W.mg_none_of KX G (by k_is),PySem.W.mg_none_of KX G (by k_is),PySem.W.mg_none_of KX G (by k_is),PySem.W.mg_none_of KX G (by k_is),PySem.W.mg_none_of KX G (by k_is),PySem.W.mg_none_of KX G (by k_is),PySem.W.mg_none_of KX G (by k_is),PySem.W.mg_none_of KX G (by k_is),L2.glv_mk KX G (by k_is) (by exact⟨_,rfl⟩),L2.glv_mk KX G (by k_is) (by exact⟨_,rfl⟩),L2.glv_mk KX G (by k_is) (by exact⟨_,rfl⟩),L2.glv_mk KX G (by k_is) (by exact⟨_,rfl⟩),L2.glv_mk KX G (by k_is) (by exact⟨_,rfl⟩),L2.glv_mk KX G (by k_is) (by exact⟨_,rfl⟩),L2.glv_mk KX G (by k_is) (by exact⟨_,rfl⟩),L2.glv_mk KX G (by k_is) (by exact⟨_,rfl⟩),L2.glv_mk KX G (by k_is) (by exact⟨_,rfl⟩),g_TELLING_WORDS,t_TELLING_WORDS,g_TREE_WORDS,t_TREE_WORDS,g_FORMS,f_FORMS,m_Leftovers,cl_Leftovers,n_forms,n_numbers,n_steps⟩
  have L:∃fd:FuncData,(∀(s:Shared) (v:Value),BindsTo s fd ⟨[v],[]⟩ [("_law_script",v)])/\L2.Fun (L2.KOf KX) "law" "law" K11.s_law fa fd:=by
   dsimp only[L2.KOf];refine' L2.law_mk KX G hmg (by k_is) (by k_is) (by k_is) (by k_is) ?b
   exactλs u =>.of_eq rfl
  obtain⟨fd,hb,F⟩:=L;exact⟨fd,hb,λbase _ _=>K11.all T (by exact_mod_cast 0) (by exact_mod_cast 0) (by exact_mod_cast 0) (by exact_mod_cast 0) (by exact_mod_cast 0) (by exact_mod_cast 0) (by exact_mod_cast 0) (by exact_mod_cast 0) (by exact_mod_cast 0) (by exact_mod_cast 0) (by exact_mod_cast 0) (by exact_mod_cast 0) (by exact_mod_cast 0) (by exact_mod_cast 0) (by exact_mod_cast 0) (by exact_mod_cast 0) (by exact_mod_cast 0) d_Leftovers___init__ d_Leftovers_numbered d_Leftovers_of_not d_Leftovers_of_and d_Leftovers_of_or d_Leftovers_of_some_set d_Leftovers_of_some_place d_Leftovers_of_some d_Leftovers_of_saying d_Leftovers_behind d_Leftovers_behind_form d_Leftovers_behind_bare d_Leftovers_at_end (by exact_mod_cast 0) (by exact_mod_cast 0) (by exact_mod_cast 0) (by exact_mod_cast 0) (by exact_mod_cast 0) (by exact_mod_cast 0) (by exact_mod_cast 0) (by exact_mod_cast 0) (by exact_mod_cast 0) (by exact_mod_cast 0) (by exact_mod_cast 0) (by exact_mod_cast 0) (by exact_mod_cast 0) (by exact_mod_cast 0) (by exact_mod_cast 0) (by exact_mod_cast 0) (by exact_mod_cast 0) (by exact_mod_cast 0) (by exact_mod_cast 0) (by exact_mod_cast 0) (by exact_mod_cast 0) (by exact_mod_cast 0) (by exact_mod_cast 0) F⟩
