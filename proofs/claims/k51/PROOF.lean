import PyProof.Rows.All
import Wide.All
import OpenK.AllK
import Wide.FinOn
import Lean
import PyProof.EqAt
import PyProof.EqKinds
import PyProof.TupleCall
import PyProof.CodeObjX
import PyProof.NeKinds
import PyProof.ZipIter
import PyProof.EnumStmt
import PyProof.EnumMake
import KE.KDictOf
import PyProof.AttrMissHeap
import PyProof.Rows.SeqMore2
import PyProof.Rows.MinMaxN
import PyProof.DefMake
import PyProof.DefStmt
import PyProof.RaisesMany
import PyProof.ExcClass2
import PyProof.Rows.Own
import PyProof.Rows.CatchOwn
import PyProof.RulesDel
import KE.KIsAll
import PyProof.IsiH_list
import PyProof.ExcArgsOwn
import OpenK.KOwn
import PyProof.ExcBaseAll.ValueError
import PyProof.FString5
import PyProof.ListMulRoad
import PyProof.FactsAll.tuple_2
import PyProof.Rows.Range3
import PyProof.StrLawsReplace
import PyProof.StrBlockL
import PySem.SetOps
import PyProof.ListNew
import PyProof.AutoListH
import PySem.Challenge.RW_setsays_k51_tree_holds_refused
set_option Elab.async false
set_option linter.all false
set_option maxRecDepth 100000
open List renaming length_map → y00, mem_cons → y02, size_toArray → y03, length_append → y06, not_mem_nil → y07, mem_singleton → y08, mem_cons_of_mem → y09, length_cons → y0a, mem_cons_self → y0c, getElem?_eq_some_iff → y0f, mem_of_getElem? → y0g, mem_append → y0j, map_cons → y0k, mem_map → y0l, length_nil → y0m, getElem?_eq_getElem → y0n, getElem?_append_right → y0o, mem_append_right → y0p, all_eq_true → y0q, map_append → y0r, take_of_length_le → y0s, map_map → y0t, getElem?_append_left → y0u, getElem?_map → y0w, lookup_cons → y0x, nodup_cons → y11, length_take → y12, length_singleton → y16, append_nil → y1a, getD_eq_getElem?_getD → y1c, find?_cons → y1e, take_add_one → y1i, filterMap_cons → y1j, length_filter_le → y1l, mem_append_left → y1n, getElem_mem → y1q, mem_filter → y1t, length_replicate → y1u, getElem?_eq_none → y1v, length_range → y1y, all_cons → y1z, length_drop → y22, any_eq_true → y23, replicate_succ → y24, of_mem_zip → y26, getElem?_replicate → y27, filter_cons_of_pos → y28, filter_cons_of_neg → y29, getElem?_set_self → y2a, drop_eq_nil_of_le → y2b, append_assoc → y2c, mem_range → y2d, map_nil → y2e, any_cons → y2h, getElem_of_mem → y2j, filter_append → y2k, idxOf_lt_length_iff → y2o, getElem?_take_of_lt → y2p, flatten_cons → y2q, sum_cons → y2s, getElem?_cons_succ → y2t, cons_append → y2v, range_succ_eq_map → y2x, nil_append → y30, forIn_cons → y31, all_map → y32, getElem?_set_ne → y34, map_id → y35, take_sublist → y39, eraseIdx_eq_take_drop_succ → y3a, prefix_refl → y3d, range_succ → y3e, length_eraseIdx_of_lt → y3g, pairwise_iff_getElem → y3i, nodup_nil → y3j, pairwise_lt_range → y3l, getElem_cons_drop → y3m, take_append_drop → y3n
open PySem.Heap renaming get?_push_of_some → y01, get?_push_size → y0b, lt_size → y0d, size_push → y0v, get?_update_other → y1k, get?_update_self → y1m
open Nat renaming le_refl → y04, ne_of_lt → y0h, lt_of_lt_of_le → y0i, zero_le → y10, le_trans → y15, le_of_lt → y1d, lt_succ_self → y1g, lt_irrefl → y1h, lt_succ_of_lt → y1o, ne_of_gt → y1p, not_lt_zero → y1s, succ_le_succ → y21, le_add_right → y2f, mul_le_mul_right → y2g, le_succ → y2r, le_of_not_lt → y2u, le_of_succ_le_succ → y2w, lt_trans → y2z, not_succ_le_zero → y33, add_assoc → y36, le_of_eq → y3c
open Bool renaming and_eq_true → y05, false_ne_true → y0e, eq_false_iff → y0z, false_and → y14, true_and → y1b, false_eq_true → y1f, eq_iff_iff → y1w, not_true → y2i, and_false → y2l, or_false → y37, or_eq_true → y3f, false_or → y3k
open Int renaming emod_lt_of_pos → y0y, toNat_natCast → y13, emod_nonneg → y17, fdiv_eq_ediv_of_nonneg → y3h
open Array renaming getElem?_eq_getElem → y18, length_toList → y19, getElem?_toList → y1x, getElem?_eq_some_iff → y20, getElem?_eq_none → y2y, forIn_toList → y38, toList_push → y3b
open Option renaming map_eq_some_iff → y1r, map_some → y25, isSome_map → y2m, isSome_iff_exists → y2n
open PySem PySem.Spec PyProof.Rows
open PySem.W (Frag)
abbrev Y0:=Value->Shared->Prop
abbrev Y1:=Str->Option Value
abbrev Y2:=List (Addr×Obj)
abbrev Y3:=List (Pos×Str)
abbrev Y4:=List (Str×Addr)
abbrev Y6:=List (Nat×Str)
abbrev Y8:=Array (Option Value)
abbrev Y9:=Option Value->Shared->Prop
set_option hygiene false in
local macro_rules
| `(tactic|ac_rfl) => `(tactic|refine atom λzG zk=>?_)
set_option hygiene false in
local macro_rules
| `(tactic|infer_instance) => `(tactic|intro pins s σ H x y v u Q I rx ry h)
namespace L2
theorem ex5{α β:Type}{A B C:α->β->Prop}{G:Prop}(h:∃x y,A x y/\B x y/\C x y)(k:∀x y,A x y->B x y->C x y->G):G:=let⟨x,y,a,b,c⟩:=h;k x y a b c
abbrev Key:=Sum Int Str
def blI(b:Bool):Int:=if b=true then 1 else 0
def isBl(k:Int):Value->Bool
 |.bool b=>k==blI b
 |_=>false
def keyIs:Key->Value->Bool
 |.inl k,v=>Value.isInt k v||isBl k v
 |.inr x,v=>Value.isStrOf x v
def keyH(w:World):Key->Int
 |.inl k=>hashInt k
 |.inr x=>hashStr w x
theorem zl5:∀{v:Value},isBl k v=true->∃b,k=blI b/\v=Value.bool b:=by
 intro v h;cases v
 case bool b=>exact⟨b,eq_of_beq h,rfl⟩
 all_goals exact absurd h y0e
theorem za4:∀{k:Key} {v:Value},keyIs k v=true->(∃i t,k=Sum.inl i/\v=Value.int i t)\/(∃x t,k=Sum.inr x/\v=Value.str x t)\/∃b,k=Sum.inl (blI b)/\v=Value.bool b
 |.inl i,v,h=>by
  rcases(y3f _ _).mp (show(Value.isInt i v||isBl i v)=true from h)with h|h
  ·obtain⟨t,e⟩:=Value.isInt_shape (k:=i) (v:=v) h;exact .inl ⟨i,t,rfl,e⟩
  ·obtain⟨b,e,e'⟩:=zl5 h;exact .inr (.inr ⟨b,by rw[e],e'⟩)
 |.inr x,v,h=>by
  obtain⟨t,e⟩:=Value.isStrOf_shape (x:=x) (v:=v) h;exact .inr (.inl ⟨x,t,rfl,e⟩)
theorem zoq(i:Int)(t:Tok):keyIs (.inl i) (.int i t)=true:=by simp[keyIs,Value.isInt]
theorem zrh(b:Bool):keyIs (.inl (blI b)) (.bool b)=true:=by simp[keyIs,isBl]
theorem zuz(h:Q (hashInt (blI b)) {s with toks:=s.toks+1}):wpAny (model prog w) A (pyHash (.bool b)) Q E s:=by
 have hT:s.TypeIs (.bool b) "bool":=rfl;have hr:=rawHash_range (blI b);unfold pyHash;refine wpAny_bind ?_;rw[cRoomFor,if_neg (show¬[Value.bool b].any Value.onHeap=true from y0e)];refine wpAny_pure (wpAny_bind (wpAny_specialOf hT PySem.F.slot_bool_hash.lookup ?_));show wpAny _ _ (if(some (Value.builtin "int.__hash__")==some Value.none)=true then _ else _) Q E s;rw[if_neg (show¬(some (Value.builtin "int.__hash__")==some Value.none)=true from y0e)];refine wpAny_bind (wpAny_specialOf hT PySem.F.slot_bool_hash.lookup ?_);show wpAny _ _ (callSpecialIfBoundUnlessNone? (.bool b) "__hash__" _>>=_) Q E s;refine wpAny_bind (wpAny_callSpecialIfBoundUnlessNone?_slot hT PySem.F.slot_bool_hash (wpAny_call_entry PySem.F.slot_bool_hash hT PySem.F.entry_int_hash ?_ (PySem.F.args_int_hash_1 _)));refine(show wpAny _ _ (do ret (←mkInt (rawHash (blI b)))) _ _ s from wpAny_ret_mkInt ?_);show wpAny _ _ (if(decide (-(2:Int)^63<=rawHash (blI b))&&decide (rawHash (blI b)<2^63))=true then _ else _) Q E _;rw[if_pos (by rw[decide_eq_true hr.1,decide_eq_true hr.2];rfl)];exact wpAny_pure h
theorem zop(x:Str)(t:Tok):keyIs (.inr x) (.str x t)=true:=by simp[keyIs,Value.isStrOf]
theorem zkx(a b:Int):decide ((Sum.inl a:Key)=Sum.inl b)=(a==b):=by
 by_cases e:a=b
 ·subst e;simp
 ·have h:¬(Sum.inl a:Key)=Sum.inl b:=λq=>e (Sum.inl.inj q);rw[decide_eq_false h];exact(beq_eq_false_iff_ne.mpr e).symm
theorem zw5(a b:Str):decide ((Sum.inr a:Key)=Sum.inr b)=decide (a=b):=by
 by_cases e:a=b
 ·subst e;simp
 ·have h:¬(Sum.inr a:Key)=Sum.inr b:=λq=>e (Sum.inr.inj q);rw[decide_eq_false h,decide_eq_false e]
theorem zsn(a:Int)(b:Str):decide ((Sum.inl a:Key)=Sum.inr b)=false:=decide_eq_false (λq=>nomatch q)
theorem zsm(a:Str)(b:Int):decide ((Sum.inr a:Key)=Sum.inl b)=false:=decide_eq_false (λq=>nomatch q)
def mixKind(prog:Program)(w:World):PySem.KeyKind prog w Key where
 is:=keyIs
 hash:=keyH w
 inj:=λv a b ha hb=>by
  rcases za4 ha with⟨i,t,rfl,rfl⟩|⟨x,t,rfl,rfl⟩|⟨c,rfl,rfl⟩
  ·rcases za4 hb with⟨j,u,rfl,e⟩|⟨y,u,rfl,e⟩|⟨d,rfl,e⟩
   ·injection e with e1 _;rw[e1]
   ·exact nomatch e
   ·exact nomatch e
  ·rcases za4 hb with⟨j,u,rfl,e⟩|⟨y,u,rfl,e⟩|⟨d,rfl,e⟩
   ·exact nomatch e
   ·injection e with e1 _;rw[e1]
   ·exact nomatch e
  ·rcases za4 hb with⟨j,u,rfl,e⟩|⟨y,u,rfl,e⟩|⟨d,rfl,e⟩
   ·exact nomatch e
   ·exact nomatch e
   ·injection e with e1;rw[e1]
 byValue:=λk v h=>by
  rcases za4 h with⟨i,t,rfl,rfl⟩|⟨x,t,rfl,rfl⟩|⟨c,rfl,rfl⟩<;>rfl
 pyHash:=λhv h=>by
  rcases za4 hv with⟨i,t,rfl,rfl⟩|⟨x,t,rfl,rfl⟩|⟨c,rfl,rfl⟩
  ·exact wpAny_pyHash_int h
  ·exact wpAny_pyHash_str h
  ·exact zuz h
 eqBool:=λhu hv h=>by
  rcases za4 hu with⟨i,t,rfl,rfl⟩|⟨x,t,rfl,rfl⟩|⟨c,rfl,rfl⟩
  ·rcases za4 hv with⟨j,u,rfl,rfl⟩|⟨y,u,rfl,rfl⟩|⟨d,rfl,rfl⟩
   ·rw[zkx]at h;exact wpAny_eqBool_int h
   ·rw[zsn]at h;exact SeqAt.EqAt.int_str i t y u _ _ _ _ h
   ·rw[zkx]at h;exact SeqAt.EqAt.int_bool i t d _ _ _ _ h
  ·rcases za4 hv with⟨j,u,rfl,rfl⟩|⟨y,u,rfl,rfl⟩|⟨d,rfl,rfl⟩
   ·rw[zsm]at h;exact SeqAt.EqAt.str_int x t j u _ _ _ _ h
   ·rw[zw5]at h;exact wpAny_eqBool_str h
   ·rw[zsm]at h;exact SeqAt.EqAt.str_bool x t d _ _ _ _ h
  ·rcases za4 hv with⟨j,u,rfl,rfl⟩|⟨y,u,rfl,rfl⟩|⟨d,rfl,rfl⟩
   ·rw[zkx]at h;exact SeqAt.EqAt.bool_int c j u _ _ _ _ h
   ·rw[zsn]at h;exact SeqAt.EqAt.bool_str c y u _ _ _ _ h
   ·rw[zkx,show(blI c==blI d)=(c==d) by cases c<;>cases d<;>rfl]at h;exact SeqAt.EqAt.bool_bool c d _ _ _ _ h
 «strs»:=λk x t v h=>by
  rcases za4 h with⟨i,u,rfl,e⟩|⟨y,u,rfl,e⟩|⟨d,rfl,e⟩
  ·exact nomatch e
  ·injection e with e1 _
   subst e1;cases v<;>rfl
  ·exact nomatch e
theorem zjl(prog:Program)(w:World)(i:Int)(t:Tok):(mixKind prog w).is (.inl i) (.int i t)=true:=zoq i t
theorem zjk(prog:Program)(w:World)(x:Str)(t:Tok):(mixKind prog w).is (.inr x) (.str x t)=true:=zop x t
inductive V where
 |non|bl (b:Bool)|int (i:Int)|str (x:Str)|byt (b:Array UInt8)|flt (b:UInt64)|ref (a:Addr)|ty (n:String)
 deriving DecidableEq
def RelV:V->Value->Prop
 |.non,u=>u=Value.none
 |.bl b,u=>u=Value.bool b
 |.int i,u=>∃t,u=Value.int i t
 |.str x,u=>∃t,u=Value.str x t
 |.byt b,u=>∃t,u=Value.bytes b t
 |.flt b,u=>∃t,u=Value.float b t
 |.ref a,u=>u=Value.ref a
 |.ty n,u=>u=Value.type n
abbrev Vals:List V->List Value->Prop:=Paired RelV
theorem Vals.length(r:Vals xs us):xs.length=us.length:=Paired.length r
theorem Vals.get:∀{xs:List V} {us:List Value} {i:Nat} {x:V},Vals xs us->xs[i]?=some x->∃u,us[i]?=some u/\RelV x u
 |_,_,_,_,.nil,e=>by simp at e
 |_,_,0,_,.cons r _,e=>by simp at e;subst e;exact⟨_,rfl,r⟩
 |_,_,i+1,x,.cons _ t,e=>by
  obtain⟨u,h1,h2⟩:=Vals.get (i:=i) (x:=x) t (by simpa using e);exact⟨u,by simpa using h1,h2⟩
theorem Vals.append:∀{xs ys:List V} {us ws:List Value},Vals xs us->Vals ys ws->Vals (xs++ys) (us++ws)
 |_,_,_,_,.nil,s=>s
 |_,_,_,_,.cons r t,s=>.cons r (Vals.append t s)
theorem Vals.take:∀{xs:List V} {us:List Value} (n:Nat),Vals xs us->Vals (xs.take n) (us.take n)
 |_,_,0,_=>.nil
 |_,_,_+1,.nil=>.nil
 |_,_,n+1,.cons r t=>.cons r (Vals.take n t)
theorem Vals.drop:∀{xs:List V} {us:List Value} (n:Nat),Vals xs us->Vals (xs.drop n) (us.drop n)
 |_,_,0,r=>r
 |_,_,_+1,.nil=>.nil
 |_,_,n+1,.cons _ t=>Vals.drop n t
def RelO:Option V->Option Value->Prop
 |some v,some u=>RelV v u
 |none,none=>True
 |_,_=>False
def KV{κ:Type}:List (κ×V)->List (κ×Value)->Prop:=Paired λ(p:κ×V) (q:κ×Value)=>p.1=q.1/\RelV p.2 q.2
def kV:Key->V
 |.inl i=>.int i
 |.inr x=>.str x
inductive HO where
  |lst (xs:List V)
  |tup (xs:List V)
  |dK (kvs:List (Key×V))|dT (kvs:List (List Key×V))
  |set (S:Int->Bool) (n:Nat)
  |ins (C dx:Addr) (fs:List (Str×V))
  |own (x:Addr)
  |xd (fs:List (Str×V))
  |met (f x:Addr)
  |rng (lo hi:Int)
  |frz (o:Obj) (u:HO)
  |tbl (qs:Y3) (ps:Array Value)
  |ext (φ:Heap->Prop)
abbrev Hp:=Addr->Option HO
def upd(H:Hp)(a:Addr)(o:HO):Hp:=λb=>if b=a then some o else H b
theorem zao:upd H a o a=some o:=by unfold upd;rw[if_pos rfl]
theorem zan(h:b≠a):upd H a o b=H b:=by unfold upd;rw[if_neg h]
theorem zs3:upd (upd H a o) a u=upd H a u:=by
 funext b;unfold upd;split<;>rfl
theorem zcc{H:Hp}{a b:Addr}{o u:HO}(h:H a=some o)(h':H b=some u)(d:o≠u):a≠b:=by
 intro e;subst e;rw[h]at h';exact d (Option.some.inj h')
theorem zas{H:Hp}{a b:Addr}{o:HO}(h:H a=some o)(h':H b=none):a≠b:=by
 intro e;subst e;rw[h]at h';cases h'
section
variable (P:Program)(w:World)
def CodeObj(o:Obj)(q:Str):Prop:=∃vs t,o.data=.fields vs/\vs[1]?=some (.str q t)
def ObjOk(H:Hp)(h:Heap)(a:Addr):HO->Prop
 |.lst xs=>xs.length<=sizeLine/\∃(its:List Value) (n:Nat),Vals xs its/\h.get? a=some {cls:=.type "list",data:=.seq its.toArray n}
 |.tup xs=>xs.length<=sizeLine/\∃its:List Value,Vals xs its/\IsTup h a its.toArray
 |.dK kvs=>kvs.length<=sizeLine/\(a==sysModules)=false/\∃vs,KV kvs vs/\h.DictOf (mixKind P w) a vs
 |.dT kvs=>kvs.length<=sizeLine/\(a==sysModules)=false/\∃xs:List (List Key×Addr×Value),
   Paired (λ(p:List Key×V) (q:List Key×Addr×Value)=>p.1=q.1/\H q.2.1=some (.tup (p.1.map kV))/\RelV p.2 q.2.2) kvs xs/\
   ∃o es ep,h.get? a=some o/\o.ExactDict/\o.data=.dict es ep/\es.toList=xs.map (entryOfKey (tupleKind (mixKind P w)))/\(xs.map (·.1)).Nodup
 |.set S n=>h.SetOf (intKind P w) a S n
 |.ins C dx fs=>H dx=some (.own a)/\fs.length<=1000/\dx≠a/\h.get? a=some (PySem.W.instObj C dx)/\
   ∃mA,h.Ns1 dx mA/\(∀f,RelO (fs.lookup f) (mA f))/\PySem.Within mA (fs.map (·.1))
 |.own _=>∃o,h.get? a=some o
 |.xd fs=>∃mA,h.Ns1 a mA/\∀f,RelO (fs.lookup f) (mA f)
 |.rng lo hi=>∃t u v,h.get? a=some {cls:=.type "range",data:=.fields #[.int lo t,.int hi u,.int 1 v]}
 |.frz o u=>h.get? a=some o/\ObjOk H h a u
 |.tbl qs ps=>∃more:Array Value,h.get? a=some {cls:=.none,data:=.fields (ps++more)}/\TriplesOk (ps++more).toList/\∀p∈qs,∀v,codeAmong p.1 (ps++more).toList=some v->∃c o,v=.ref c/\H c=some (.frz o (.own c))/\CodeObj o p.2
 |.met f x=>h.get? a=some (PySem.W.methodObj (.ref f) (.ref x))
 |.ext φ=>φ h/\(∃o,h.get? a=some o)/\∀h1 h2:Heap,φ h1->(∀o,h1.get? a=some o->h2.get? a=some o)->φ h2
def HOk(H:Hp)(h:Heap):Prop:=∀a o,H a=some o->ObjOk P w H h a o
end
section
variable {P:Program}{w:World}{H H':Hp}{h h':Heap}{a:Addr}{o:HO}
theorem ObjOk.lt(x:ObjOk P w H h a o):a<h.objs.size:=by
 cases o with
 |lst xs=>obtain⟨_,_,_,_,e⟩:=x;exact y0d e
 |tup xs=>obtain⟨_,_,_,p⟩:=x;exact p.lt
 |dK kvs=>obtain⟨_,_,_,_,o,_,_,e,_⟩:=x;exact y0d e
 |dT kvs=>obtain⟨_,_,_,_,o,_,_,e,_⟩:=x;exact y0d e
 |set S n=>obtain⟨o,_,_,_,e,_⟩:=x;exact y0d e
 |ins C dx fs=>obtain⟨_,_,_,e,_⟩:=x;exact y0d e
 |own y=>obtain⟨_,e⟩:=x;exact y0d e
 |xd fs=>obtain⟨_,⟨_,_,_,e,_⟩,_⟩:=x;exact y0d e
 |rng lo hi=>obtain⟨_,_,_,e⟩:=x;exact y0d e
 |frz ob u=>obtain⟨e,_⟩:=x;exact y0d e
 |tbl qs ps=>obtain⟨_,e,_⟩:=x;exact y0d e
 |met f y=>exact y0d (show h.get? a=some _ from x)
 |ext φ=>obtain⟨_,⟨_,e⟩,_⟩:=x;exact y0d e
theorem Paired.mapP:∀{l₁:List α} {l₂:List β},Paired F l₁ l₂->(∀a b,F a b->G a b)->Paired G l₁ l₂
 |_,_,.nil,_=>.nil
 |_,_,.cons r t,f=>.cons (f _ _ r) (Paired.mapP t f)
theorem ObjOk.stay(x:ObjOk P w H h a o)(k:∀b u,(b=a\/H b=some (.own a))->h.get? b=some u->h'.get? b=some u)
  (ho:∀b,H b=some (.own a)->H' b=some (.own a)) (hf:∀b o u q,CodeObj o q->H b=some (.frz o u)->H' b=some (.frz o u)) (ht:∀b xs,H b=some (.tup xs)->H' b=some (.tup xs)):ObjOk P w H' h' a o:=by
 induction o with
 |lst xs=>obtain⟨z,its,n,r,e⟩:=x;exact⟨z,its,n,r,k _ _ (.inl rfl) e⟩
 |tup xs=>obtain⟨z,its,r,ob,e,c⟩:=x;exact⟨z,its,r,ob,k _ _ (.inl rfl) e,c⟩
 |dK kvs=>obtain⟨z,y,vs,r,ob,es,ep,e,c⟩:=x;exact⟨z,y,vs,r,ob,es,ep,k _ _ (.inl rfl) e,c⟩
 |dT kvs =>
  obtain⟨z,y,xs,r,ob,es,ep,e,c⟩:=x;exact⟨z,y,xs,Paired.mapP r λp q z=>⟨z.1,ht _ _ z.2.1,z.2.2⟩,ob,es,ep,k _ _ (.inl rfl) e,c⟩
 |set S n=>obtain⟨ob,es,ep,t,e,c⟩:=x;exact⟨ob,es,ep,t,k _ _ (.inl rfl) e,c⟩
 |ins C dx fs =>
  obtain⟨d,z,ne,e,mA,⟨od,es,ep,e2,c⟩,r⟩:=x;exact⟨ho _ d,z,ne,k _ _ (.inl rfl) e,mA,⟨od,es,ep,k _ _ (.inr d) e2,c⟩,r⟩
 |own y=>obtain⟨ob,e⟩:=x;exact⟨ob,k _ _ (.inl rfl) e⟩
 |xd fs=>obtain⟨mA,⟨od,es,ep,e,c⟩,r⟩:=x;exact⟨mA,⟨od,es,ep,k _ _ (.inl rfl) e,c⟩,r⟩
 |rng lo hi=>obtain⟨t,u,v,e⟩:=x;exact⟨t,u,v,k _ _ (.inl rfl) e⟩
 |frz ob u ih=>obtain⟨e,q⟩:=x;exact⟨k _ _ (.inl rfl) e,ih q⟩
 |tbl qs ps=>obtain⟨more,e,t,c⟩:=x;exact⟨more,k _ _ (.inl rfl) e,t,λp hp v q=>let⟨c1,o,r,z,co⟩:=c p hp v q;⟨c1,o,r,hf _ _ _ _ co z,co⟩⟩
 |met f y =>
  have e:h.get? a=some (PySem.W.methodObj (.ref f) (.ref y)):=x;show h'.get? a=some (PySem.W.methodObj (.ref f) (.ref y));exact k a _ (.inl rfl) e
 |ext φ=>obtain⟨p,⟨o,e⟩,st⟩:=x;exact⟨st _ _ p λo q=>k _ _ (.inl rfl) q,⟨o,k _ _ (.inl rfl) e⟩,st⟩
theorem HOk.lt(x:HOk P w H h)(e:H a=some o):a<h.objs.size:=(x a o e).lt
theorem HOk.fresh(x:HOk P w H h)(e:h.objs.size<=a):H a=none:=by
 cases q:H a with
 |none=>rfl
 |some u=>exact absurd (y0i (x.lt q) e) (y1h _)
theorem HOk.kept(x:HOk P w H h)(k:∀b u,h.get? b=some u->h'.get? b=some u):HOk P w H h':=λa o e =>
 (x a o e).stay (λb u _ q=>k b u q) (λ_ q=>q) (λ_ _ _ _ _ q=>q) λ_ _ q=>q
theorem HOk.laid(x:HOk P w H h)(k:∀b u,h.get? b=some u->h'.get? b=some u)(hp:h.objs.size<=a)(new:ObjOk P w (upd H a o) h' a o):HOk P w (upd H a o) h':=λb u e=>by
 have hn:=x.fresh hp;by_cases hb:b=a
 ·subst hb;rw[zao]at e;cases e;exact new
 ·rw[zan hb]at e;exact(x b u e).stay (λc v _ q=>k c v q) (λc q=>by rw[zan (zas q hn)];exact q) (λc _ _ _ _ q=>by rw[zan (zas q hn)];exact q) λc xs q=>by rw[zan (zas q hn)];exact q
end
def Rd(H:Hp)(a:Addr)(u:HO):Prop:=H a=some u\/∃o,H a=some (.frz o u)
theorem Rd.ok(r:Rd H a u)(x:HOk P w H h):ObjOk P w H h a u:=by
 rcases r with r|⟨o,r⟩
 ·exact x a u r
 ·obtain⟨_,q⟩:=x a _ r;exact q
def Mut:Option HO->Prop
 |some (.lst _)=>True
 |some (.dK _)=>True
 |some (.dT _)=>True
 |some (.set _ _)=>True
 |some (.ins _ _ _)=>True
 |some (.ext _)=>True
 |_=>False
section
variable {P:Program}{w:World}{H:Hp}{h h':Heap}{x e:Addr}{o':HO}
theorem HOk.write(ok:HOk P w H h)(mu:Mut (H x))(he:e=x\/H e=some (.own x))(k:∀b u,b≠e->h.get? b=some u->h'.get? b=some u)(heo:∃u,h'.get? e=some u)
  (new:ObjOk P w (upd H x o') h' x o'):HOk P w (upd H x o') h':=λb u q=>by
 have nown:∀c y,H c=some (.own y)->c≠x:=λc y r z=>by subst z;rw[r]at mu;exact mu
 have ntup:∀c xs,H c=some (.tup xs)->c≠x:=λc xs r z=>by subst z;rw[r]at mu;exact mu
 have nfrz:∀c o y,H c=some (.frz o y)->c≠x:=λc o y r z=>by subst z;rw[r]at mu;exact mu
 by_cases hb:b=x
 ·subst hb;rw[zao]at q;cases q;exact new
 ·rw[zan hb]at q;by_cases hbe:b=e
  ·have q':H b=some (.own x):=by
    rcases he with z|z
    ·exact absurd (hbe.trans z) hb
    ·rw[hbe];exact z
   rw[q]at q';cases q';obtain⟨v,hv⟩:=heo;exact⟨v,by rw[hbe];exact hv⟩
  ·refine(ok b u q).stay (λc v hc r=>k c v ?_ r) (λc r=>by rw[zan (nown c b r)];exact r) (λc o y _ _ r=>by rw[zan (nfrz c o y r)];exact r) λc xs r=>by rw[zan (ntup c xs r)];exact r
   rcases hc with rfl|hc
   ·exact hbe
   ·rintro rfl;rcases he with z|z
    ·exact nown c b hc z
    ·rw[hc]at z;cases z;exact hb rfl
end
structure Un(fs ex:List Addr)(H H':Hp)(h h':Heap):Prop where
 keep:∀b o,h.get? b=some o->H b=none->b∉fs->b∉ex->h'.get? b=some o
 slot:∀b o,h.get? b=some o->H b=none->b∈fs->b∉ex->∃sl,h'.get? b=some {o with slots:=sl}
 free:∀b o,h.get? b=some o->H b=none->b∉ex->H' b=none
 there:∀b o,h.get? b=some o->b∉ex->∃o',h'.get? b=some o'
 tups:∀b xs,H b=some (.tup xs)->H' b=some (.tup xs)
 frzs:∀b o u,H b=some (.frz o u)->H' b=some (.frz o u)
 tbls:∀b qs ps,H b=some (.tbl qs ps)->H' b=some (.tbl qs ps)
section
variable {fs fs' ex ex':List Addr}{H H1 H2:Hp}{h h1 h2 h':Heap}{a x e:Addr}{o:HO}
theorem Un.any(u:Un fs ex H H1 h h1)(q:h.get? b=some ob)(n:H b=none)(hx:b∉ex):∃sl,h1.get? b=some {ob with slots:=sl}:=by
 by_cases hb:b∈fs
 ·exact u.slot b ob q n hb hx
 ·exact⟨ob.slots,u.keep b ob q n hb hx⟩
theorem Un.kept(k:∀b u,h.get? b=some u->h'.get? b=some u):Un fs ex H H h h' :=
 ⟨λb ob q _ _ _=>k b ob q,λb ob q _ _ _=>⟨ob.slots,k b ob q⟩,λ_ _ _ n _=>n,λb ob q _=>⟨ob,k b ob q⟩,λ_ _ q=>q,λ_ _ _ q=>q,λ_ _ _ q=>q⟩
theorem Un.refl:Un fs ex H H h h:=Un.kept λ_ _ q=>q
theorem Un.laid(k:∀b u,h.get? b=some u->h'.get? b=some u)(hp:h.objs.size<=a)(hn:H a=none):Un fs ex H (upd H a o) h h' where
 keep:=λb u q _ _ _=>k b u q
 slot:=λb u q _ _ _=>⟨u.slots,k b u q⟩
 free:=λb u q n _=>by rw[zan (y0h (y0i (y0d q) hp))];exact n
 there:=λb u q _=>⟨u,k b u q⟩
 tups:=λb xs q=>by rw[zan (zas q hn)];exact q
 frzs:=λb u xs q=>by rw[zan (zas q hn)];exact q
 tbls:=λb qs ps q=>by rw[zan (zas q hn)];exact q
theorem Un.write(mu:Mut (H x))(he:e=x\/H e=some (.own x))(k:∀b u,b≠e->h.get? b=some u->h'.get? b=some u)(heo:∃u,h'.get? e=some u):Un fs ex H (upd H x o) h h':=by
 have hx:∀b,H b=none->b≠x:=λb n z=>by subst z;rw[n]at mu;exact mu
 have hb:∀b,H b=none->b≠e:=λb n z=>by
  subst z;rcases he with r|r
  ·exact hx b n r
  ·rw[n]at r;cases r
 have hm:∀b u,H b=some u->¬Mut (some u)->b≠x:=λb u q nm z=>by subst z;rw[q]at mu;exact nm mu
 refine⟨λb u q n _ _=>k b u (hb b n) q,λb u q n _ _=>⟨u.slots,k b u (hb b n) q⟩,λb u q n _=>by rw[zan (hx b n)];exact n,λb u q _=>?_,
  λb xs q=>by rw[zan (hm b _ q λz=>z)];exact q,λb u xs q=>by rw[zan (hm b _ q λz=>z)];exact q,λb qs ps q=>by rw[zan (hm b _ q λz=>z)];exact q⟩
 by_cases hbe:b=e
 ·subst hbe;exact heo
 ·exact⟨u,k b u hbe q⟩
end
def trk(h:Heap)(H:Hp):List Addr:=(List.range h.objs.size).filter λa=>(H a).isSome
def hidT(h:Heap)(H:Hp):Heap:=PySem.W.hideAll h (trk h H)
theorem zow(h:Heap)(H:Hp):(hidT h H).objs.size=h.objs.size:=PySem.W.hideAll_size _ _
theorem zrk(e:h.get? b=some o)(n:H b=none):(hidT h H).get? b=some o :=
 PySem.W.hideAll_get _ e λhm=>by
  have q:(H b).isSome=true:=(y1t.mp hm).2;rw[n]at q;simp at q
theorem zum(e:(hidT h H).get? b=some o):h.get? b=some o/\H b=none:=by
 have e':h.get? b=some o:=PySem.W.of_hideAll (trk h H) e;refine⟨e',?_⟩;cases q:H b with
 |none=>rfl
 |some x =>
  have hm:b∈trk h H:=y1t.mpr ⟨y2d.mpr (y0d e'),by simp[q]⟩;have z:(hidT h H).get? b=none:=PySem.W.hideAll_none (trk h H) hm;rw[z]at e;cases e
def allNews(g h:Heap)(L:Addr):List (Addr×Obj):=(List.range h.objs.size).filterMap λa=>if a=L\/(g.get? a).isSome=true then none else(h.get? a).map λo=>(a,o)
def rest(g h:Heap)(L d:Addr):List (Addr×Obj):=(allNews g h L).filter λp=>decide (p.1≠d)
structure Mod(K:Frag)(mg:Y1)(base:Heap):Prop where
 kin:K.In base
 glob:base.Ns mainGlobals mg
 blt:∃mb,base.Ns builtinsNs mb/\∀x:Str,x≠"__name__"->mb x=bootBuiltins x
 nolimit:base.NoLimit
structure Cx where
 prog:Program
 w:World
 K:Frag
 mg:Str->Option Value
 base:Heap
 A:Around
 N:List Str
 s₀:Shared
 H₀:Hp
 env:Env
 outer:List Env
 stack:List Env
 ex:List Addr
 fn:Str->Bool
 calm:Bool
 pn:List (Addr×Obj)
 xe:Value->Shared->Prop
def frs(l:List Env):List Addr:=l.filterMap (·.frame)
abbrev Cx.fs(X:Cx):List Addr:=frs X.outer
def Vis(sc:Scope)(x:Str):Prop:=sc.names.lookup x=some .local\/sc.names.lookup x=some .cell\/sc.names.lookup x=some .free
def Loc(sc:Scope)(x:Str):Prop:=sc.names.lookup x=some .local\/sc.names.lookup x=some .cell
def Look(env:Env)(h:Heap)(m:Y1)(x:Str)(u:Value):Prop :=
 (env.kindOf x=some .local/\m x=some u)\/((env.kindOf x=some .cell\/env.kindOf x=some .free)/\∃c,env.cells.lookup x=some c/\h.IsCell c (some u))
structure Cx.Ok(X:Cx):Prop where
 mod:Mod X.K X.mg X.base
 kind:X.env.scope.kind=.function
 glob:X.env.globals=mainGlobals
 blt:X.env.builtins=builtinsNs
 above:X.s₀.heap.objs.size<=X.env.locals
 inj:∀x y c,X.env.cells.lookup x=some c->X.env.cells.lookup y=some c->x=y
 has:∀x,(X.env.kindOf x=some .cell\/X.env.kindOf x=some .free)->∃c,X.env.cells.lookup x=some c
 cab:∀x c,X.fn x=true->X.env.cells.lookup x=some c->X.s₀.heap.objs.size<=c
 hd:X.calm=true->X.A.handled=none
 frames:X.A.frames=some X.stack
 stk:X.stack=X.outer\/(X.stack=X.env::X.outer/\X.env.frame=some X.env.locals)
 exf:∀b∈X.ex,b≠X.env.locals/\∀x c,X.env.cells.lookup x=some c->c≠b
 bs:∀b o,X.base.get? b=some o->X.s₀.heap.get? b=some o/\X.H₀ b=none
 bsz:X.base.objs.size<=X.s₀.heap.objs.size
 noex:∀b o,X.base.get? b=some o->b∉X.ex
 exfs:∀b∈X.ex,b∉X.fs
 funs:X.s₀.heap.FunFrames X.base X.outer
 frf:∀b∈X.fs,X.H₀ b=none
structure Inv(X:Cx)(pins:Y2)(σ:List (Option V))(H:Hp)(s:Shared):Prop where
 ok:X.Ok
 os:s.os=X.s₀.os
 bare:AllBare s.gens
 base:Un X.fs X.ex X.H₀ H X.s₀.heap s.heap
 loc:∃m,s.heap.Ns X.env.locals m/\∀(i:Nat) (x:Str) (v:V),X.N[i]?=some x->σ[i]?=some (some v)->Vis X.env.scope x->∃u,RelV v u/\Look X.env s.heap m x u
 cell:∀x c,X.env.cells.lookup x=some c->∃v,s.heap.IsCell c v
 free:H X.env.locals=none
 freeC:∀x c,X.env.cells.lookup x=some c->H c=none
 pin:∀p∈X.pn++pins,s.heap.get? p.1=some p.2/\H p.1=none/\p.1≠X.env.locals/\p.1∉X.fs/\∀v,p.2.data ≠ .cell v
 hok:HOk X.prog X.w H s.heap
 len:σ.length=X.N.length
section
variable {X:Cx}{pins:Y2}{σ:List (Option V)}{H H':Hp}{s:Shared}{h':Heap}
theorem Cx.Ok.nofr(ok:X.Ok)(e:X.base.get? b=some o):b∉X.fs:=λhb=>by
 have:=(ok.funs.mem hb).1;rw[e]at this;cases this
theorem Inv.bs(I:Inv X pins σ H s):∀b o,X.base.get? b=some o->s.heap.get? b=some o/\H b=none:=λb o e =>
 ⟨I.base.keep b o (I.ok.bs b o e).1 (I.ok.bs b o e).2 (I.ok.nofr e) (I.ok.noex b o e),I.base.free b o (I.ok.bs b o e).1 (I.ok.bs b o e).2 (I.ok.noex b o e)⟩
theorem Inv.bk(I:Inv X pins σ H s):∀b o,X.base.get? b=some o->s.heap.get? b=some o:=λb o e=>(I.bs b o e).1
theorem Inv.mod(I:Inv X pins σ H s):Mod X.K X.mg X.base:=I.ok.mod
theorem Inv.kIn(I:Inv X pins σ H s):X.K.In s.heap:=I.ok.mod.kin.keeps I.bk
theorem Inv.lt(I:Inv X pins σ H s):X.env.locals<s.heap.objs.size:=let⟨_,hn,_⟩:=I.loc;hn.lt
theorem Inv.sz(I:Inv X pins σ H s):X.s₀.heap.objs.size<=s.heap.objs.size:=y15 I.ok.above (y1d I.lt)
theorem Inv.nofs(I:Inv X pins σ H s){a:Addr}(h:s.heap.objs.size<=a):a∉X.fs:=λhb=>by
 obtain⟨_,o,ho,_⟩:=I.ok.funs.mem hb;exact absurd (y0i (y0d ho) (y15 I.sz h)) (y1h _)
theorem Inv.cne(I:Inv X pins σ H s):∀x c,X.env.cells.lookup x=some c->c≠X.env.locals:=λx c e z=>by
 obtain⟨v,o,ho,hd⟩:=I.cell x c e;obtain⟨m,⟨o',es,ep,ho',hd',_⟩,_⟩:=I.loc;rw[z,ho']at ho;cases ho;rw[hd']at hd;cases hd
theorem Inv.funs(I:Inv X pins σ H s):s.heap.FunFrames X.base X.outer:=by
 have all:∀(l:List Env),(∀b∈frs l,b∈X.fs)->X.s₀.heap.FunFrames X.base l->s.heap.FunFrames X.base l:=by
  intro l
  induction l with
  |nil=>intro _ _;trivial
  |cons env r ih =>
   intro hs hl;obtain⟨hk,⟨L,o,hf,hn,ho,hd⟩,hr⟩:=hl;have hL:L∈X.fs:=hs L (by unfold frs;rw[y1j,hf];exact y0c);obtain⟨sl,e⟩:=I.base.slot L o ho (I.ok.frf L hL) hL λz=>I.ok.exfs L z hL;exact⟨hk,⟨L,_,hf,hn,e,hd⟩,ih (λb hb=>hs b (by unfold frs;rw[y1j,hf];exact y09 _ hb)) hr⟩
 exact all X.outer (λ_ hb=>hb) I.ok.funs
theorem Inv.stack(I:Inv X pins σ H s):s.heap.FunFrames X.base X.stack:=by
 rcases I.ok.stk with e|⟨e,hf⟩
 ·rw[e];exact I.funs
 ·rw[e];obtain⟨m,hn,_⟩:=I.loc;refine .cons (by rw[I.ok.kind];decide) hf hn ?_ I.funs;exact Heap.get?_none_of_le (y15 I.ok.bsz I.ok.above)
theorem Inv.stkSub(I:Inv X pins σ H s):∀b∈frs X.stack,b∈X.env.locals::X.fs:=λb hb=>by
 rcases I.ok.stk with e|⟨e,hf⟩
 ·rw[e]at hb;exact y09 _ hb
 ·rw[e]at hb;unfold frs at hb;rw[y1j,hf]at hb;exact hb
theorem Inv.stkFree(I:Inv X pins σ H s):∀b∈frs X.stack,H b=none:=λb hb=>by
 rcases y02.mp (I.stkSub b hb)with e|hb
 ·rw[e];exact I.free
 ·obtain⟨_,o,ho,_⟩:=I.ok.funs.mem hb;exact I.base.free b o ho (I.ok.frf b hb) λz=>I.ok.exfs b z hb
theorem Inv.step{g':Array GenState}{t':Nat}{d':Drawn}{ch:List Addr}(I:Inv X pins σ H s)
  (hch:∀b∈ch,(b∈X.ex\/X.s₀.heap.objs.size<=b)/\b≠X.env.locals/\(∀x c,X.env.cells.lookup x=some c->c≠b)/\∀p∈X.pn++pins,p.1≠b)
  (keep:∀b o,b≠X.env.locals->b∉X.fs->b∉ch->s.heap.get? b=some o->H b=none->h'.get? b=some o)
  (slot:∀b o,b≠X.env.locals->b∈X.fs->b∉ch->s.heap.get? b=some o->H b=none->∃sl,h'.get? b=some {o with slots:=sl}) (free:∀b o,b∉ch->s.heap.get? b=some o->H b=none->H' b=none)
  (there:∀b o,b∉ch->s.heap.get? b=some o->∃o',h'.get? b=some o')
  (tups:∀b xs,H b=some (.tup xs)->H' b=some (.tup xs)) (frzs:∀b o u,H b=some (.frz o u)->H' b=some (.frz o u)) (tbls:∀b qs ps,H b=some (.tbl qs ps)->H' b=some (.tbl qs ps))
  (ns:∀m,s.heap.Ns X.env.locals m->h'.Ns X.env.locals m) (hok:HOk X.prog X.w H' h') (hg:AllBare g') :
  Inv X pins σ H' {s with heap:=h',gens:=g',drawn:=d',toks:=t'}:=by
 have neL:∀b o,X.s₀.heap.get? b=some o->b≠X.env.locals:=λb o e=>y0h (y0i (y0d e) I.ok.above);have neC:∀b o,X.s₀.heap.get? b=some o->b∉X.ex->b∉ch:=λb o e hx hb=>by
  rcases(hch b hb).1 with z|z
  ·exact hx z
  ·exact absurd (y0i (y0d e) z) (y1h _)
 have cellK:∀x c,X.env.cells.lookup x=some c->∀v,s.heap.IsCell c v->h'.IsCell c v:=λx c e v ⟨o,ho,hd⟩=>by
  have nch:c∉ch:=λz=>(hch c z).2.2.1 x c e rfl;by_cases hc:c∈X.fs
  ·obtain⟨sl,q⟩:=slot c o (I.cne x c e) hc nch ho (I.freeC x c e);exact⟨_,q,hd⟩
  ·exact⟨o,keep c o (I.cne x c e) hc nch ho (I.freeC x c e),hd⟩
 refine⟨I.ok,I.os,hg,⟨λb o e n hb hx=>?_,λb o e n hb hx=>?_,λb o e n hx=>?_,λb o e hx=>?_,λb xs e=>tups b xs (I.base.tups b xs e),λb o xs e=>frzs b o xs (I.base.frzs b o xs e),λb qs ps e=>tbls b qs ps (I.base.tbls b qs ps e)⟩,?_,λx c e=>?_,?_,λx c e=>?_,λp hp=>?_,hok,I.len⟩
 ·exact keep b o (neL b o e) hb (neC b o e hx) (I.base.keep b o e n hb hx) (I.base.free b o e n hx)
 ·obtain⟨sl,e1⟩:=I.base.slot b o e n hb hx;obtain⟨sl',e2⟩:=slot b _ (neL b o e) hb (neC b o e hx) e1 (I.base.free b o e n hx);exact⟨sl',e2⟩
 ·obtain⟨o',e1⟩:=I.base.there b o e hx;exact free b o' (neC b o e hx) e1 (I.base.free b o e n hx)
 ·obtain⟨o',e1⟩:=I.base.there b o e hx;exact there b o' (neC b o e hx) e1
 ·obtain⟨m,hn,hl⟩:=I.loc;refine⟨m,ns m hn,λi x v e1 e2 e3=>?_⟩;obtain⟨u,r,l⟩:=hl i x v e1 e2 e3;refine⟨u,r,?_⟩;rcases l with l|⟨k,c,e,z⟩
  ·exact .inl l
  ·exact .inr ⟨k,c,e,cellK x c e _ z⟩
 ·obtain⟨v,z⟩:=I.cell x c e;exact⟨v,cellK x c e v z⟩
 ·obtain⟨m,⟨o,_,_,ho,_⟩,_⟩:=I.loc;exact free _ o (λz=>(hch _ z).2.1 rfl) ho I.free
 ·obtain⟨v,o,ho,hd⟩:=I.cell x c e;exact free c o (λz=>(hch c z).2.2.1 x c e rfl) ho (I.freeC x c e)
 ·obtain⟨e,n,ne,nf,d⟩:=I.pin p hp;have nch:p.1∉ch:=λz=>(hch p.1 z).2.2.2 p hp rfl;exact⟨keep p.1 p.2 ne nf nch e n,free p.1 p.2 nch e n,ne,nf,d⟩
theorem Inv.un{t':Nat}(I:Inv X pins σ H s)(u:Un X.fs [] H H' s.heap h')(hok:HOk X.prog X.w H' h'):Inv X pins σ H' {s with heap:=h',toks:=t'}:=by
 obtain⟨m,⟨o,es,ep,ho,r⟩,_⟩:=id I.loc;obtain⟨sl,hL⟩:=u.any ho I.free (by simp);exact I.step (g':=s.gens) (d':=s.drawn) (ch:=[]) (λ_ z=>nomatch z) (λb o _ hb _ e n=>u.keep b o e n hb (by simp)) (λb o _ hb _ e n=>u.slot b o e n hb (by simp)) (λb o _ e n=>u.free b o e n (by simp)) (λb o _ e=>u.there b o e (by simp)) u.tups u.frzs u.tbls (λm' hm=>by
  obtain⟨o',es',ep',ho',r'⟩:=hm;rw[ho]at ho';cases ho';exact⟨_,es',ep',hL,r'⟩) hok I.bare
theorem Inv.call{g':Array GenState}{t':Nat}{d':Drawn}{ch:List Addr}(I:Inv X pins σ H s)(u:Un (frs X.stack) ch H H' s.heap h')(hok:HOk X.prog X.w H' h')(hg:AllBare g')
  (hch:∀b∈ch,(b∈X.ex\/X.s₀.heap.objs.size<=b)/\b≠X.env.locals/\(∀x c,X.env.cells.lookup x=some c->c≠b)/\∀p∈X.pn++pins,p.1≠b) :
  Inv X pins σ H' {s with heap:=h',gens:=g',drawn:=d',toks:=t'}:=by
 obtain⟨m,⟨o,es,ep,ho,r⟩,_⟩:=id I.loc;obtain⟨sl,hL⟩:=u.any ho I.free λz=>(hch _ z).2.1 rfl;exact I.step (ch:=ch) hch (λb o hL hb hc e n=>u.keep b o e n (λz=>(y02.mp (I.stkSub b z)).elim hL hb) hc) (λb o _ _ hc e n=>u.any e n hc) (λb o hc e n=>u.free b o e n hc) (λb o hc e=>u.there b o e hc) u.tups u.frzs u.tbls (λm' hm=>by
  obtain⟨o',es',ep',ho',r'⟩:=hm;rw[ho]at ho';cases ho';exact⟨_,es',ep',hL,r'⟩) hok hg
theorem Inv.turned{t':Nat}{it:Addr}(I:Inv X pins σ H s)(k:∀b o,b≠it->s.heap.get? b=some o->h'.get? b=some o)(hn:H it=none)(hL:it≠X.env.locals)
  (h1:it∈X.ex\/X.s₀.heap.objs.size<=it) (h2:∀x c,X.env.cells.lookup x=some c->c≠it) (h3:∀p∈X.pn++pins,p.1≠it):Inv X pins σ H {s with heap:=h',toks:=t'}:=by
 have nit:∀b u,H b=some u->b≠it:=λb u e z=>by rw[z,hn]at e;cases e
 refine I.step (g':=s.gens) (d':=s.drawn) (ch:=[it]) (λb hb=>?_) (λb o _ _ hc e _=>k b o (λz=>hc (by simp[z])) e) (λb o _ _ hc e _=>⟨o.slots,k b o (λz=>hc (by simp[z])) e⟩) (λ_ _ _ _ n=>n)
  (λb o hc e=>⟨o,k b o (λz=>hc (by simp[z])) e⟩) (λ_ _ e=>e) (λ_ _ _ e=>e) (λ_ _ _ e=>e) (λm hm=>?_) (λb u e=>?_) I.bare
 ·have e:b=it:=by simpa using hb
  subst e;exact⟨h1,hL,h2,h3⟩
 ·obtain⟨o,es,ep,ho,r⟩:=hm;exact⟨o,es,ep,k _ o (Ne.symm hL) ho,r⟩
 ·refine(I.hok b u e).stay (λc v hc q=>k c v ?_ q) (λ_ q=>q) (λ_ _ _ _ _ q=>q) λ_ _ q=>q;rcases hc with z|z
  ·rw[z];exact nit b u e
  ·exact nit c _ z
theorem Inv.tok(I:Inv X pins σ H s)(t:Nat):Inv X pins σ H {s with toks:=t}:=I.un (h':=s.heap) (t':=t) Un.refl I.hok
theorem Inv.kept(I:Inv X pins σ H s)(k:∀b u,s.heap.get? b=some u->h'.get? b=some u):Inv X pins σ H {s with heap:=h',toks:=t'}:=I.un (Un.kept k) (I.hok.kept k)
theorem Inv.laid{a:Addr}{o:HO}{t':Nat}(I:Inv X pins σ H s)(k:∀b u,s.heap.get? b=some u->h'.get? b=some u)(hp:s.heap.objs.size<=a)(new:ObjOk X.prog X.w (upd H a o) h' a o):
  Inv X pins σ (upd H a o) {s with heap:=h',toks:=t'}:=I.un (Un.laid k hp (I.hok.fresh hp)) (I.hok.laid k hp new)
theorem Inv.write(I:Inv X pins σ H s)(mu:Mut (H x))(he:e=x\/H e=some (.own x))(k:∀b u,b≠e->s.heap.get? b=some u->h'.get? b=some u)(heo:∃u,h'.get? e=some u)
  (new:ObjOk X.prog X.w (upd H x o) h' x o):Inv X pins σ (upd H x o) {s with heap:=h',toks:=t'}:=I.un (Un.write mu he k heo) (I.hok.write mu he k heo new)
theorem Inv.pins_of(I:Inv X pins σ H s)(h:∀p∈pins',s.heap.get? p.1=some p.2/\H p.1=none/\p.1≠X.env.locals/\p.1∉X.fs/\∀v,p.2.data ≠ .cell v):Inv X pins' σ H s :=
 ⟨I.ok,I.os,I.bare,I.base,I.loc,I.cell,I.free,I.freeC,λp hp=>(y0j.mp hp).elim (λz=>I.pin p (y1n _ z)) (h p),I.hok,I.len⟩
theorem zgx{N:List Str}(hN:N.Nodup){i j:Nat}{x:Str}(a:N[i]?=some x)(b:N[j]?=some x):i=j:=by
 obtain⟨h1,e1⟩:=y0f.mp a;obtain⟨h2,e2⟩:=y0f.mp b;exact(List.getElem_inj hN).mp (e1.trans e2.symm)
theorem zhk(I:Inv X pins σ H s)(hN:X.N.Nodup)(hi:X.N[i]?=some x)(hx:Loc X.env.scope x)(r:RelV v u)
  (h:∀s',Inv X pins (σ.set i (some v)) H s'->(∃a,Heap.SameBut a s.heap s'.heap/\(a=X.env.locals\/X.env.cells.lookup x=some a))->Q () s') (hf:X.fn x=true\/X.env.scope.names.lookup x=some .local:=by first|exact .inl rfl|exact .inr rfl|assumption):wpAny M A (storeName X.env x u) Q E s:=by
 obtain⟨m,hn,hl⟩:=id I.loc;have hcls:(X.env.scope.kind ==.class||(X.env.scope.kind ==.module&&X.env.locals !=X.env.globals))=false:=by rw[I.ok.kind];rfl
 have hiσ:i<σ.length:=by rw[I.len];exact(y0f.mp hi).1
 have cne:=I.cne;have tracked:∀{a:Addr} {h':Heap},(∃o,s.heap.get? a=some o/\H a=none)->Heap.SameBut a s.heap h'->HOk X.prog X.w H h':=λ{a h'} ha hs b ob e=>by
  obtain⟨_,_,hfree⟩:=ha;refine(I.hok b ob e).stay (λc w' hc q=>(hs.2 c ?_).trans q) (λ_ q=>q) (λ_ _ _ _ _ q=>q) λ_ _ q=>q;rintro rfl;rcases hc with rfl|hc
  ·rw[hfree]at e;cases e
  ·rw[hfree]at hc;cases hc
 rcases hx with hk|hk
 ·refine wpAny_storeName_local hk hn (λh' hn' hs=>?_) hcls;obtain⟨oL,_,_,hoL,_⟩:=id hn;refine h _ ⟨I.ok,I.os,I.bare,⟨λb o e n hb hx=>?_,λb o e n hb hx=>?_,I.base.free,λb o e hx=>?_,I.base.tups,I.base.frzs,I.base.tbls⟩,⟨_,hn',λj y v' e1 e2 e3=>?_⟩,λy c e=>?_,I.free,I.freeC,λp hp=>?_,tracked ⟨oL,hoL,I.free⟩ hs,by simpa using I.len⟩ ⟨_,hs,.inl rfl⟩
  ·exact(hs.2 b (y0h (y0i (y0d e) I.ok.above))).trans (I.base.keep b o e n hb hx)
  ·obtain⟨sl,e1⟩:=I.base.slot b o e n hb hx;exact⟨sl,(hs.2 b (y0h (y0i (y0d e) I.ok.above))).trans e1⟩
  ·obtain⟨o',e1⟩:=I.base.there b o e hx;exact⟨o',(hs.2 b (y0h (y0i (y0d e) I.ok.above))).trans e1⟩
  ·by_cases hj:j=i
   ·subst hj;rw[hi]at e1;cases e1;rw[y2a hiσ]at e2;cases e2;exact⟨u,r,.inl ⟨hk,by simp⟩⟩
   ·rw[y34 (Ne.symm hj)]at e2;obtain⟨u',r',q⟩:=hl j y v' e1 e2 e3;refine⟨u',r',?_⟩;rcases q with⟨k,e⟩|⟨k,c,e,z⟩
    ·refine .inl ⟨k,?_⟩;have:y≠x:=λe=>hj (zgx hN e1 (e▸hi));simp[this,e]
    ·exact .inr ⟨k,c,e,z.sameBut hs (cne y c e)⟩
  ·obtain⟨w',z⟩:=I.cell y c e;exact⟨w',z.sameBut hs (cne y c e)⟩
  ·obtain⟨e,n,ne,nf,d⟩:=I.pin p hp;exact⟨(hs.2 p.1 ne).trans e,n,ne,nf,d⟩
 ·have hfn:X.fn x=true:=by
   rcases hf with z|z
   ·exact z
   ·rw[z]at hk;cases hk
  obtain⟨c,hc⟩:=I.ok.has x (.inl hk);obtain⟨w',z⟩:=I.cell x c hc;refine wpAny_storeName_cell I.ok.kind hk hc z (λh' hc' hs=>?_);obtain⟨oc,hoc,hocd⟩:=id z;refine h {s with heap:=h'} ⟨I.ok,I.os,I.bare,⟨λb o e n hb hx=>?_,λb o e n hb hx=>?_,I.base.free,λb o e hx=>?_,I.base.tups,I.base.frzs,I.base.tbls⟩,⟨m,hn.sameBut hs (Ne.symm (cne x c hc)),λj y v' e1 e2 e3=>?_⟩,λy c' e=>?_,I.free,I.freeC,λp hp=>?_,tracked ⟨oc,hoc,I.freeC x c hc⟩ hs,by simpa using I.len⟩ ⟨c,hs,.inr hc⟩
  ·exact(hs.2 b (y0h (y0i (y0d e) (I.ok.cab x c hfn hc)))).trans (I.base.keep b o e n hb hx)
  ·obtain⟨sl,e1⟩:=I.base.slot b o e n hb hx;exact⟨sl,(hs.2 b (y0h (y0i (y0d e) (I.ok.cab x c hfn hc)))).trans e1⟩
  ·obtain⟨o',e1⟩:=I.base.there b o e hx;exact⟨o',(hs.2 b (y0h (y0i (y0d e) (I.ok.cab x c hfn hc)))).trans e1⟩
  ·by_cases hj:j=i
   ·subst hj;rw[hi]at e1;cases e1;rw[y2a hiσ]at e2;cases e2;exact⟨u,r,.inr ⟨.inl hk,c,hc,hc'⟩⟩
   ·rw[y34 (Ne.symm hj)]at e2;obtain⟨u',r',q⟩:=hl j y v' e1 e2 e3;refine⟨u',r',?_⟩;rcases q with q|⟨k,c',e,z'⟩
    ·exact .inl q
    ·refine .inr ⟨k,c',e,z'.sameBut hs ?_⟩;rintro rfl;exact hj (zgx hN e1 (I.ok.inj _ _ _ e hc▸hi))
  ·by_cases hcc:c'=c
   ·subst hcc;exact⟨_,hc'⟩
   ·obtain⟨w2,z2⟩:=I.cell y c' e;exact⟨w2,z2.sameBut hs hcc⟩
  ·obtain⟨e,n,ne,nf,d⟩:=I.pin p hp;refine⟨(hs.2 p.1 ?_).trans e,n,ne,nf,d⟩;intro q;rw[q,hoc]at e;have q':oc=p.2:=Option.some.inj e;exact d w' (by rw[←q'];exact hocd)
theorem zc1(I:Inv X pins σ H s)(hN:X.N.Nodup)(hi:X.N[i]?=some x)(hx:Loc X.env.scope x)(r:RelV v u)
  (h:∀s',Inv X pins (σ.set i (some v)) H s'->Q () s') (hf:X.fn x=true\/X.env.scope.names.lookup x=some .local:=by first|exact .inl rfl|exact .inr rfl|assumption):wpAny M A (storeName X.env x u) Q E s :=
 zhk I hN hi hx r (λs' I' _=>h s' I') hf
theorem Inv.call'{ch:List Addr}(I:Inv X pins σ H s)(ho:s'.os=s.os)(u:Un (frs X.stack) ch H H' s.heap s'.heap)(hok:HOk X.prog X.w H' s'.heap)(hg:AllBare s'.gens)
  (hch:∀b∈ch,(b∈X.ex\/X.s₀.heap.objs.size<=b)/\b≠X.env.locals/\(∀x c,X.env.cells.lookup x=some c->c≠b)/\∀p∈X.pn++pins,p.1≠b):Inv X pins σ H' s':=by
 obtain⟨h',g',d',t',o'⟩:=s';have e:o'=s.os:=ho;subst e;exact I.call (g':=g') (t':=t') (d':=d') u hok hg hch
end
abbrev XK:=Value->Option Addr->Hp->Prop
abbrev St:=List (Option V)
abbrev VK:=V->Hp->Prop
abbrev TE:=St->Hp->VK->Prop
abbrev TT:=St->Hp->(Bool->Hp->Prop)->Prop
abbrev TA:=St->Hp->(List V->Hp->Prop)->Prop
structure Ends where
 nx:St->Hp->Prop
 rt:VK
 bk:St->Hp->Prop:=λ_ _=>False
 ct:St->Hp->Prop:=λ_ _=>False
abbrev TS:=Ends->St->Hp->Prop
def EP(X:Cx)(pins:Y2)(σ:St)(Q:VK)(u:Value)(s':Shared):Prop:=∃v H',Inv X pins σ H' s'/\RelV v u/\Q v H'
def TP(X:Cx)(pins:Y2)(σ:St)(Q:Bool->Hp->Prop)(b:Bool)(s':Shared):Prop:=∃H',Inv X pins σ H' s'/\Q b H'
def AP(X:Cx)(pins:Y2)(σ:St)(Q:List V->Hp->Prop)(us:List Value)(s':Shared):Prop:=∃vs H',Inv X pins σ H' s'/\Vals vs us/\Q vs H'
def SP(X:Cx)(pins:Y2)(D:Ends)(f:Flow)(s':Shared):Prop :=
 match f with
 |.next=>∃σ' H',Inv X pins σ' H' s'/\D.nx σ' H'
 |.brk=>∃σ' H',Inv X pins σ' H' s'/\D.bk σ' H'
 |.cont=>∃σ' H',Inv X pins σ' H' s'/\D.ct σ' H'
 |.ret u=>∃v σ' H',Inv X pins σ' H' s'/\RelV v u/\D.rt v H'
def PE(X:Cx)(e:Expr)(t:TE):Prop :=
 ∀(pins:Y2) (s:Shared) (σ:St) (H:Hp) (Q:VK),Inv X pins σ H s->t σ H Q->wpAny (model X.prog X.w) X.A (eval e X.env) (EP X pins σ Q) X.xe s
def PT(X:Cx)(e:Expr)(t:TT):Prop :=
 ∀(pins:Y2) (s:Shared) (σ:St) (H:Hp) (Q:Bool->Hp->Prop),Inv X pins σ H s->t σ H Q->wpAny (model X.prog X.w) X.A (isTrue e X.env (eval e X.env)) (TP X pins σ Q) X.xe s
def PW(X:Cx)(e:Expr)(t:TT):Prop :=
 ∀(whole:Sem Value) (pins:Y2) (s:Shared) (σ:St) (H:Hp) (Q:Bool->Hp->Prop),Inv X pins σ H s->t σ H Q->wpAny (model X.prog X.w) X.A (isTrue e X.env whole) (TP X pins σ Q) X.xe s
theorem PW.pt(h:PW X e t):PT X e t:=h _
def PA(X:Cx)(es:List Expr)(t:TA):Prop :=
 ∀(pos:Pos) (pins:Y2) (s:Shared) (σ:St) (H:Hp) (Q:List V->Hp->Prop),Inv X pins σ H s->t σ H Q->wpAny (model X.prog X.w) X.A (spliced (backTo pos (starEach es X.env))) (AP X pins σ Q) X.xe s
def PS(X:Cx)(st:Stmt)(t:TS):Prop :=
 ∀(pins:Y2) (s:Shared) (σ:St) (H:Hp) (D:Ends),Inv X pins σ H s->t D σ H->wpAny (model X.prog X.w) X.A (exec st X.env) (SP X pins D) X.xe s
def PSs(X:Cx)(st:List Stmt)(t:TS):Prop :=
 ∀(pins:Y2) (s:Shared) (σ:St) (H:Hp) (D:Ends),Inv X pins σ H s->t D σ H->wpAny (model X.prog X.w) X.A (execs st X.env) (SP X pins D) X.xe s
theorem thn{α:Type}{t:Sem α}{Q Q':α->Shared->Prop}{M:Model}{A:Around}{E:Y0}{s:Shared}(h:wpAny M A t Q E s)(hQ:∀a s,Q a s->Q' a s):wpAny M A t Q' E s:=wpAny_mono h hQ λ_ _ x=>x
section
variable {X:Cx}
def tVar(i:Nat):TE:=λσ H Q=>match σ[i]? with
 |some (some v)=>Q v H
 |_=>False
theorem zs7(h:tVar i σ H Q):∃v,σ[i]?=some (some v)/\Q v H:=by
 unfold tVar at h;split at h
 ·rename_i e;exact⟨_,e,h⟩
 ·exact h.elim
theorem zs6(e:σ[i]?=some (some v))(h:Q v H):tVar i σ H Q:=by
 unfold tVar;rw[e];exact h
def tC(v:V):TE:=λ_ H Q=>Q v H
theorem zsf{i:Nat}{x:Str}{pos:Pos}(hN:X.N[i]?=some x)(hv:Vis X.env.scope x)(hd:(x==("__debug__":Str))=false:=by decide)(hcd:(x==("__classdict__":Str))=false:=by decide):PE X (.Name x pos) (tVar i):=by
 intro pins s σ H Q I h;obtain⟨v,e,h⟩:=zs7 h;obtain⟨m,hn,hl⟩:=I.loc;obtain⟨u,r,l⟩:=hl i x v hN e hv;have fin:EP X pins σ Q u s:=⟨v,H,I,r,h⟩;rcases l with⟨hk,hm⟩|⟨hk,c,hc,hcell⟩
 ·exact wpAny_Name (wpAny_loadName_local I.ok.kind hk hn hm fin) hd
 ·rcases hk with hk|hk
  ·exact wpAny_Name (wpAny_loadName_cell I.ok.kind hk hc hcell fin) hd
  ·exact wpAny_Name (wpAny_loadName_free I.ok.kind hk hc hcell fin hcd) hd
theorem zac:PE X (.Constant (.int i) j pos) (tC (.int i)):=λ_ _ _ H _ I h=>wpAny_Constant_int ⟨.int i,H,I.tok _,⟨_,rfl⟩,h⟩
theorem zdw:PE X (.Constant (.bool b) j pos) (tC (.bl b)):=λ_ _ _ H _ I h=>Constant_bool ⟨.bl b,H,I,rfl,h⟩
theorem zbw:PE X (.Constant .none j pos) (tC .non):=λ_ _ _ H _ I h=>Constant_none ⟨.non,H,I,rfl,h⟩
theorem zae:PE X (.Constant (.str x) j pos) (tC (.str x)):=λ_ _ _ H _ I h=>Calls.Constant_str ⟨.str x,H,I.tok _,⟨_,rfl⟩,h⟩
def Gl(X:Cx)(x:Str):Prop:=X.env.kindOf x=some .globalImplicit
theorem zde{E:Y0}{pins:Y2}{s:Shared}{σ:St}{H:Hp}{x:Str}{u:Value}{pos:Pos}{Q:Y0}(I:Inv X pins σ H s)(hg:Gl X x)(hm:X.mg x=some u)(h:Q u s)
  (hd:(x==("__debug__":Str))=false:=by decide):wpAny (model X.prog X.w) X.A (eval (.Name x pos) X.env) Q E s :=
 Calls.Name_function_global I.ok.kind hg (Calls.loadGlobal_global (by rw[I.ok.glob];exact I.mod.glob.keeps I.bk) hm h) hd
theorem zf7{E:Y0}{pins:Y2}{s:Shared}{σ:St}{H:Hp}{x:Str}{u:Value}{pos:Pos}{Q:Y0}(I:Inv X pins σ H s)(hg:Gl X x)(hm:X.mg x=none)(hv:bootBuiltins x=some u)(h:Q u s)
  (hn:x≠"__name__":=by decide) (hd:(x==("__debug__":Str))=false:=by decide):wpAny (model X.prog X.w) X.A (eval (.Name x pos) X.env) Q E s:=by
 obtain⟨mb,h1,h2⟩:=I.mod.blt;exact Calls.Name_function_global I.ok.kind hg (Calls.loadGlobal_builtin (by rw[I.ok.glob];exact I.mod.glob.keeps I.bk) hm (by rw[I.ok.blt];exact h1.keeps I.bk) ((h2 x hn).trans hv) h) hd
theorem znk(hg:Gl X x)(hm:X.mg x=some u)(r:RelV v u)(hd:(x==("__debug__":Str))=false:=by decide):PE X (.Name x pos) (tC v) :=
 λ_ _ _ H _ I h=>zde I hg hm ⟨v,H,I,r,h⟩ hd
theorem zb3{x:Str}{v:V}{u:Value}{pos:Pos}(hg:Gl X x)(hm:X.mg x=none)(hv:bootBuiltins x=some u)(r:RelV v u)(hn:x≠"__name__":=by decide)(hd:(x==("__debug__":Str))=false:=by decide):PE X (.Name x pos) (tC v) :=
 λ_ _ _ H _ I h=>zf7 I hg hm hv ⟨v,H,I,r,h⟩ hn hd
variable {a b:Expr}{ta tb:TE}{pos:Pos}
def tB(t:TE):TT:=λσ H Q=>t σ H λx H1=>∃c,x=.bl c/\Q c H1
theorem zbg(h:PE X e t)(he:∀whole,isTrue e X.env whole=(do let v ←whole;standAt e.pos;holding [v] (truthy v)):=by intro _;rfl):PT X e (tB t):=by
 intro pins s σ H Q I hw;refine isTrue_plain (thn (h pins s σ H _ I hw) λv s1 zz=>ex5 zz λx H1 I1 r1 q1=>?_) (he _);obtain⟨d,rfl,q⟩:=q1;cases r1;exact wpAny_truthy_bool ⟨H1,I1,q⟩
variable {tA tB':TT}{rest:List Expr}
def tAnd(t u:TT):TT:=λσ H Q=>t σ H λc H1=>if c=true then u σ H1 Q else Q false H1
def tOr(t u:TT):TT:=λσ H Q=>t σ H λc H1=>if c=true then Q true H1 else u σ H1 Q
def tNot(t:TT):TT:=λσ H Q=>t σ H λc H1=>Q (!c) H1
theorem zdd(ha:PT X a tA):PW X (.BoolOp .And [a] pos) tA:=by
 intro wh pins s σ H Q I h;refine isTrue_and (thn (ha pins s σ H Q I h) λc s1 e=>?_);cases c with
 |true=>exact isTrue_and_nil e
 |false=>exact e
theorem zcq(ha:PT X a tA):PW X (.BoolOp .Or [a] pos) tA:=by
 intro wh pins s σ H Q I h;refine isTrue_or (thn (ha pins s σ H Q I h) λc s1 e=>?_);cases c with
 |false=>exact isTrue_or_nil e
 |true=>exact e
theorem zes(ha:PT X a tA)(hb:PW X (.BoolOp .And (b::rest) pos) tB'):PW X (.BoolOp .And (a::b::rest) pos) (tAnd tA tB'):=by
 intro wh pins s σ H Q I h;refine isTrue_and (thn (ha pins s σ H _ I h) λc s1 ⟨H1,I1,q1⟩=>?_);cases c with
 |true=>exact hb wh pins s1 σ H1 Q I1 q1
 |false=>exact⟨H1,I1,q1⟩
theorem zdc(ha:PT X a tA)(hb:PW X (.BoolOp .Or (b::rest) pos) tB'):PW X (.BoolOp .Or (a::b::rest) pos) (tOr tA tB'):=by
 intro wh pins s σ H Q I h;refine isTrue_or (thn (ha pins s σ H _ I h) λc s1 ⟨H1,I1,q1⟩=>?_);cases c with
 |true=>exact⟨H1,I1,q1⟩
 |false=>exact hb wh pins s1 σ H1 Q I1 q1
theorem zcl(ha:PT X a tA):PT X (.UnaryOp .Not a pos) (tNot tA):=by
 intro pins s σ H Q I h;exact isTrue_not (ha pins s σ H (λc H1=>Q (!c) H1) I h)
def tAndV(ta tb:TE):TE:=λσ H Q=>ta σ H λx H1=>∃c,x=.bl c/\if c=true then tb σ H1 Q else Q (.bl false) H1
def tOrV(ta tb:TE):TE:=λσ H Q=>ta σ H λx H1=>∃c,x=.bl c/\if c=true then Q (.bl true) H1 else tb σ H1 Q
def tNotV(ta:TE):TE:=λσ H Q=>ta σ H λx H1=>∃c,x=.bl c/\Q (.bl (!c)) H1
theorem zb1(h:PE X a t):PE X (.BoolOp op [a] pos) t:=λpins s σ H Q I hw=>BoolOp_one (h pins s σ H Q I hw)
theorem zcb(ha:PE X a ta)(hb:PE X (.BoolOp .And (b::rest) pos) tb):PE X (.BoolOp .And (a::b::rest) pos) (tAndV ta tb):=by
 intro pins s σ H Q I h;refine BoolOp_and (thn (ha pins s σ H _ I h) λv s1 zz=>ex5 zz λx H1 I1 r1 q1=>?_);obtain⟨c,rfl,q1⟩:=q1;cases r1;refine wpAny_truthy_bool ?_;cases c with
 |true=>exact hb pins s1 σ H1 Q I1 q1
 |false=>exact⟨.bl false,H1,I1,rfl,q1⟩
theorem ztt(ha:PE X a ta)(hb:PE X (.BoolOp .Or (b::rest) pos) tb):PE X (.BoolOp .Or (a::b::rest) pos) (tOrV ta tb):=by
 intro pins s σ H Q I h;refine BoolOp_or (thn (ha pins s σ H _ I h) λv s1 zz=>ex5 zz λx H1 I1 r1 q1=>?_);obtain⟨c,rfl,q1⟩:=q1;cases r1;refine wpAny_truthy_bool ?_;cases c with
 |false=>exact hb pins s1 σ H1 Q I1 q1
 |true=>exact⟨.bl true,H1,I1,rfl,q1⟩
theorem zsg(ha:PE X a ta):PE X (.UnaryOp .Not a pos) (tNotV ta):=by
 intro pins s σ H Q I h;refine UnaryOp_ (thn (ha pins s σ H _ I h) λv s1 zz=>ex5 zz λx H1 I1 r1 q1=>?_);obtain⟨c,rfl,q1⟩:=q1;cases r1;exact not_of (wpAny_truthy_bool ⟨.bl (!c),H1,I1,rfl,q1⟩)
def tIf(t:TT)(ta tb:TE):TE:=λσ H Q=>t σ H λc H1=>if c=true then ta σ H1 Q else tb σ H1 Q
theorem zb6(hc:PT X c tA)(ha:PE X a ta)(hb:PE X b tb):PE X (.IfExp c a b pos) (tIf tA ta tb):=by
 intro pins s σ H Q I h;refine wpAny_IfExp (thn (hc pins s σ H _ I h) λd s1 ⟨H1,I1,q1⟩=>?_);cases d with
 |true=>exact ha pins s1 σ H1 Q I1 q1
 |false=>exact hb pins s1 σ H1 Q I1 q1
end
def SqL(K:Frag)(H:Hp)(a:Addr)(xs:List V):Prop :=
 Rd H a (.lst xs)\/
  ∃(o:Obj) (its:Array Value) (n:Nat),K.lookup a=some o/\o.cls=.type "list"/\o.dict=none/\o.data=.seq its n/\its.size<=sizeLine/\Vals xs its.toList
def SqT(K:Frag)(H:Hp)(a:Addr)(xs:List V):Prop :=
 Rd H a (.tup xs)\/
  ∃(o:Obj) (its:Array Value) (n:Nat),K.lookup a=some o/\o.cls=.type "tuple"/\o.data=.seq its n/\its.size<=sizeLine/\Vals xs its.toList
def absV:Value->Option V
 |.none=>some .non
 |.bool b=>some (.bl b)
 |.int i _=>some (.int i)
 |.str x _=>some (.str x)
 |.bytes b _=>some (.byt b)
 |.float b _=>some (.flt b)
 |.ref a=>some (.ref a)
 |.type n=>some (.ty n)
 |_=>none
theorem RelV.abs(r:RelV x u):absV u=some x:=by
 cases x with
 |non=>cases r;rfl
 |bl _=>cases r;rfl
 |int _=>obtain⟨t,rfl⟩:=r;rfl
 |str _=>obtain⟨t,rfl⟩:=r;rfl
 |byt _=>obtain⟨t,rfl⟩:=r;rfl
 |flt _=>obtain⟨t,rfl⟩:=r;rfl
 |ref _=>cases r;rfl
 |ty _=>cases r;rfl
theorem RelV.inj(r:RelV x u)(q:RelV y u):x=y:=Option.some.inj (r.abs.symm.trans q.abs)
theorem Vals.inj:∀{xs ys:List V} {us:List Value},Vals xs us->Vals ys us->xs=ys
 |_,_,_,.nil,.nil=>rfl
 |_,_,_,.cons r t,.cons r' t'=>by rw[r.inj r',Vals.inj t t']
section
variable {X:Cx}{pins:Y2}{σ:St}{H:Hp}{s:Shared}{a:Addr}{xs ys:List V}
theorem SqL.of{K:Frag}(h:H a=some (.lst xs)):SqL K H a xs:=.inl (.inl h)
theorem SqT.of{K:Frag}(h:H a=some (.tup xs)):SqT K H a xs:=.inl (.inl h)
theorem Inv.list(I:Inv X pins σ H s)(h:SqL X.K H a xs):∃its:List Value,Vals xs its/\PlainL s.heap a its.toArray/\xs.length<=sizeLine:=by
 rcases h with h|⟨o,its,n,hk,hc,hd,hs,hz,r⟩
 ·obtain⟨z,its,n,r,e⟩:=h.ok I.hok;exact⟨its,r,⟨_,n,e,rfl,rfl,rfl⟩,z⟩
 ·refine⟨its.toList,r,⟨o,n,I.kIn a o hk,hc,hd,by simpa using hs⟩,?_⟩;have e:=r.length;simp only[y19]at e;omega
theorem Inv.tuple(I:Inv X pins σ H s)(h:SqT X.K H a xs):∃its:List Value,Vals xs its/\IsTup s.heap a its.toArray/\xs.length<=sizeLine:=by
 rcases h with h|⟨o,its,n,hk,hc,hs,hz,r⟩
 ·obtain⟨z,its,r,p⟩:=h.ok I.hok;exact⟨its,r,p,z⟩
 ·refine⟨its.toList,r,⟨o,I.kIn a o hk,hc,n,by simpa using hs⟩,?_⟩;have e:=r.length;simp only[y19]at e;omega
theorem Inv.list_inj(I:Inv X pins σ H s)(h:SqL X.K H a xs)(h':SqL X.K H a ys):xs=ys:=by
 obtain⟨its,r,⟨o,n,e,_,_,d⟩,_⟩:=I.list h;obtain⟨its',r',⟨o',n',e',_,_,d'⟩,_⟩:=I.list h';rw[e]at e';cases e';rw[d]at d';injection d' with d1 _
 have:its=its':=by simpa using congrArg Array.toList d1
 subst this;exact r.inj r'
theorem Inv.tuple_inj(I:Inv X pins σ H s)(h:SqT X.K H a xs)(h':SqT X.K H a ys):xs=ys:=by
 obtain⟨its,r,⟨o,e,_,n,d⟩,_⟩:=I.tuple h;obtain⟨its',r',⟨o',e',_,n',d'⟩,_⟩:=I.tuple h';rw[e]at e';cases e';rw[d]at d';injection d' with d1 _
 have:its=its':=by simpa using congrArg Array.toList d1
 subst this;exact r.inj r'
end
abbrev Cx.wish(X:Cx)(E:Y0):Cx:={X with xe:=E}
abbrev Cx.nox(X:Cx):Cx:=X.wish λ_ _=>False
theorem Cx.Ok.wish{X:Cx}(ok:X.Ok)(E:Y0):(X.wish E).Ok :=
 ⟨ok.mod,ok.kind,ok.glob,ok.blt,ok.above,ok.inj,ok.has,ok.cab,ok.hd,ok.frames,ok.stk,ok.exf,ok.bs,ok.bsz,ok.noex,ok.exfs,ok.funs,ok.frf⟩
theorem Cx.Ok.unwish{X:Cx}(ok:(X.wish E).Ok):X.Ok :=
 ⟨ok.mod,ok.kind,ok.glob,ok.blt,ok.above,ok.inj,ok.has,ok.cab,ok.hd,ok.frames,ok.stk,ok.exf,ok.bs,ok.bsz,ok.noex,ok.exfs,ok.funs,ok.frf⟩
section
variable {X:Cx}{pins:Y2}{σ:St}{H:Hp}{s:Shared}{E:Y0}
theorem Inv.wish(I:Inv X pins σ H s)(E:Y0):Inv (X.wish E) pins σ H s:=⟨I.ok.wish E,I.os,I.bare,I.base,I.loc,I.cell,I.free,I.freeC,I.pin,I.hok,I.len⟩
theorem Inv.unwish(I:Inv (X.wish E) pins σ H s):Inv X pins σ H s:=⟨I.ok.unwish,I.os,I.bare,I.base,I.loc,I.cell,I.free,I.freeC,I.pin,I.hok,I.len⟩
theorem SP.unwish(h:SP (X.wish E) pins D f s'):SP X pins D f s':=by
 cases f with
 |next=>obtain⟨σ',H',I,q⟩:=h;exact⟨σ',H',I.unwish,q⟩
 |brk=>obtain⟨σ',H',I,q⟩:=h;exact⟨σ',H',I.unwish,q⟩
 |cont=>obtain⟨σ',H',I,q⟩:=h;exact⟨σ',H',I.unwish,q⟩
 |ret u=>obtain⟨v,σ',H',I,r,q⟩:=h;exact⟨v,σ',H',I.unwish,r,q⟩
theorem PSs.nox{st:List Stmt}{t:TS}(h:PSs X.nox st t):PSs X st t:=λpins s σ H D I hw =>
 wpAny_mono (h pins s σ H D (I.wish _) hw) (λ_ _ q=>q.unwish) λ_ _ z=>False.elim z
end
section
variable {X:Cx}{st:Stmt}{rest:List Stmt}{t u:TS}{e:Expr}{te:TE}{pos:Pos}
def tNext:TS:=λD σ H=>D.nx σ H
def tSeq(t u:TS):TS:=λD σ H=>t {D with nx:=u D} σ H
theorem zap:PSs X [] tNext:=λ_ _ σ H _ I h=>wpAny_execs_nil ⟨σ,H,I,h⟩
theorem zab(h1:PS X st t)(h2:PSs X rest u):PSs X (st::rest) (tSeq t u):=by
 intro pins s σ H D I h;refine wpAny_execs_cons (thn (h1 pins s σ H {D with nx:=u D} I h) λf s1 q=>?_);cases f with
 |next =>
  obtain⟨σ',H',I',q⟩:=q;exact h2 pins s1 σ' H' D I' q
 |ret v=>exact q
 |brk=>exact q
 |cont=>exact q
theorem zad(h1:PS X st t):PSs X [st] t:=by
 intro pins s σ H D I h;refine wpAny_execs_cons (thn (h1 pins s σ H D I h) λf s1 q=>?_);cases f with
 |next=>exact wpAny_execs_nil q
 |ret v=>exact q
 |brk=>exact q
 |cont=>exact q
def tBreak:TS:=λD σ H=>D.bk σ H
def tCont:TS:=λD σ H=>D.ct σ H
theorem Inv.quiet{pins:Y2}{σ:St}{H:Hp}{s:Shared}(I:Inv X pins σ H s):interactive X.env=false:=by simp[interactive,I.ok.kind]
def tDrop(te:TE):TS:=λD σ H=>te σ H λ_ H1=>D.nx σ H1
theorem zbj(he:PE X e te)(hs:swapsWith e none pos.line X.env=pure false:=by rfl):PS X (.Expr e pos) (tDrop te):=by
 intro pins s σ H D I h;exact wpAny_Expr_any (thn (he pins s σ H _ I h) λv s1 zz=>ex5 zz λx H1 I1 r1 q1=>⟨σ,H1,I1,q1⟩) I.quiet hs
def tRet(te:TE):TS:=λD σ H=>te σ H D.rt
theorem zaj(he:PE X e te):PS X (.Return (some e) pos) (tRet te):=by
 intro pins s σ H D I h;exact wpAny_Return_some (thn (he pins s σ H _ I h) λv s1 zz=>ex5 zz λx H1 I1 r1 q1=>⟨x,σ,H1,I1,r1,q1⟩)
def tRetN:TS:=λD _ H=>D.rt .non H
def tIfS(c:TT)(t u:TS):TS:=λD σ H=>c σ H λb H1=>if b=true then t D σ H1 else u D σ H1
theorem za0(hc:PT X c tc)(ha:PSs X a t)(hb:PSs X b u):PS X (.If c a b pos) (tIfS tc t u):=by
 intro pins s σ H D I h;refine wpAny_If (thn (hc pins s σ H _ I h) λd s1 ⟨H1,I1,q1⟩=>?_);cases d with
 |true=>exact ha pins s1 σ H1 D I1 q1
 |false=>exact hb pins s1 σ H1 D I1 q1
def tNever:TS:=λ_ _ _=>False
theorem zqd:PS X st tNever:=λ_ _ _ _ _ _ h=>h.elim
end
abbrev TG:=V->St->Hp->(St->Hp->Prop)->Prop
abbrev TGs:=List V->St->Hp->(St->Hp->Prop)->Prop
def PG(X:Cx)(target:Expr)(t:TG):Prop :=
 ∀(pins:Y2) (s:Shared) (σ:St) (H:Hp) (v:V) (u:Value) (Q:St->Hp->Prop),Inv X pins σ H s->RelV v u->t v σ H Q->
  wpAny (model X.prog X.w) X.A (assign target X.env u) (λ_ s'=>∃σ' H',Inv X pins σ' H' s'/\Q σ' H') X.xe s
def PGs(X:Cx)(ts:List Expr)(t:TGs):Prop :=
 ∀(pins:Y2) (s:Shared) (σ:St) (H:Hp) (vs:List V) (us:List Value) (Q:St->Hp->Prop),Inv X pins σ H s->Vals vs us->t vs σ H Q->
  wpAny (model X.prog X.w) X.A (assignInOrder ((assignEach ts X.env).map (·.2)) us) (λ_ s'=>∃σ' H',Inv X pins σ' H' s'/\Q σ' H') X.xe s
abbrev TSet:=V->V->V->Hp->(Hp->Prop)->Prop
abbrev TIp:=V->V->Hp->VK->Prop
section
variable {X:Cx}{pos:Pos}
def gName(i:Nat):TG:=λv σ H Q=>Q (σ.set i (some v)) H
theorem za2(hN:X.N.Nodup)(hi:X.N[i]?=some x)(hx:Loc X.env.scope x)(hf:X.fn x=true\/X.env.scope.names.lookup x=some .local:=by first|exact .inl rfl|exact .inr rfl|assumption):PG X (.Name x pos) (gName i):=by
 intro pins s σ H v u Q I r h;exact wpAny_assign_Name (zc1 I hN hi hx r (λs' I'=>⟨_,H,I',h⟩) hf)
def gNil:TGs:=λvs σ H Q=>vs=[]/\Q σ H
def gCons(t:TG)(u:TGs):TGs:=λvs σ H Q=>∃v r,vs=v::r/\t v σ H λσ' H'=>u r σ' H' Q
theorem zjb:PGs X [] gNil:=by
 intro pins s σ H vs us Q I r h;obtain⟨e,h⟩:=h;subst e;cases r;exact assignInOrder_nil ⟨σ,H,I,h⟩
theorem zc4(h1:PG X e t)(h2:PGs X es u)
  (hs:(assignEach (e::es) X.env).map (·.2)=assign e X.env::(assignEach es X.env).map (·.2):=by rfl):PGs X (e::es) (gCons t u):=by
 intro pins s σ H vs us Q I r h;obtain⟨v,vr,e1,h⟩:=h;subst e1;cases r with
 |cons r rr =>
  rw[hs];refine assignInOrder_cons (thn (h1 pins s σ H _ _ _ I r h) λ_ s1 ⟨σ1,H1,I1,q1⟩=>?_);exact h2 pins s1 σ1 H1 _ _ Q I1 rr q1
def gTup(K:Frag)(n:Nat)(t:TGs):TG:=λv σ H Q=>∃a xs,v=.ref a/\SqT K H a xs/\xs.length=n/\t xs σ H Q
theorem zv9{es:List Expr}{k:Nat}{t:TGs}{n:Nat}(hc:X.calm=true)(h:PGs X es t)
  (hn:(assignEach es X.env).length=n:=by rfl) (hst:(assignEach es X.env).findIdx? (·.1)=none:=by rfl):PG X (.Tuple es k pos) (gTup X.K n t):=by
 intro pins s σ H v u Q I r hw;obtain⟨a,xs,e1,hq,hl,hw⟩:=hw;subst e1;cases r;obtain⟨its,rv,ht,hz⟩:=I.tuple hq;refine assign_Tuple_tuple (I.ok.hd hc) ht (by simp[hn,←hl,rv.length]) hst λh' hx=>?_;have I1:Inv X pins σ H {s with heap:=h'}:=I.kept (t':=s.toks) λb o e=>hx b o (y0h (y0d e)) e;exact h pins _ σ H xs _ Q I1 (by simpa using rv) hw
def gSub(to ti:TE)(t:TSet):TG:=λv σ H Q=>to σ H λo H1=>ti σ H1 λi H2=>t o i v H2 λH3=>Q σ H3
def tAsg(te:TE)(g:TG):TS:=λD σ H=>te σ H λx H1=>g x σ H1 D.nx
theorem zv5(he:PE X e te)(hg:PG X tg g)(hs:swapsWithSole [tg] e pos.line X.env=pure false:=by rfl)(hw:swappedStores [tg] e X.env=pure none:=by rfl)
  (h1:(assignEach [tg] X.env).map (·.2)=[assign tg X.env]:=by rfl):PS X (.Assign [tg] e pos) (tAsg te g):=by
 intro pins s σ H D I h;refine wpAny_Assign_stores (thn (he pins s σ H _ I h) λv s1 zz=>ex5 zz λx H1 I1 r1 q1=>?_) hs hw;rw[h1];exact thn (hg pins s1 σ H1 x v _ I1 r1 q1) λ_ s2 q=>q
theorem zav(hN:X.N.Nodup)(hi:X.N[i]?=some x)(hx:Loc X.env.scope x)(he:PE X e te)(hs:swapsWith e (some (.Name x pos')) pos.line X.env=pure false:=by rfl)(hf:X.fn x=true\/X.env.scope.names.lookup x=some .local:=by first|exact .inl rfl|exact .inr rfl|assumption):
  PS X (.Assign [.Name x pos'] e pos) (tAsg te (gName i)):=by
 intro pins s σ H D I h;refine wpAny_Assign_Name (thn (he pins s σ H _ I h) λv s1 zz=>ex5 zz λy H1 I1 r1 q1=>?_) hs;exact zc1 I1 hN hi hx r1 (λs2 I2=>⟨_,H1,I2,q1⟩) hf
def tPar(i j:Nat)(ta:TA):TS:=λD σ H=>ta σ H λvs H1=>∃v w,vs=[v,w]/\D.nx ((σ.set i (some v)).set j (some w)) H1
def tAug(i:Nat)(te:TE)(ti:TIp):TS:=λD σ H=>∃x,σ[i]?=some (some x)/\te σ H λy H1=>ti x y H1 λz H2=>D.nx (σ.set i (some z)) H2
def ipI(f:Int->Int->Int):TIp:=λx y H Q=>∃i j,x=.int i/\y=.int j/\Q (.int (f i j)) H
end
section
variable {X:Cx}{pos:Pos}
def tWhile(c:TT)(tb:TS):TS:=λD σ H=>∃W:Nat->St->Hp->Prop,(∃m,W m σ H)/\∀m σ H,W m σ H->
 c σ H λb H1=>if b=true then∃N:St->Hp->Prop,(∀σ' H',N σ' H'->∃m',m'<m/\W m' σ' H')/\tb {D with nx:=N,ct:=N,bk:=D.nx} σ H1 else D.nx σ H1
theorem zqb(hp:PassesOwn (model X.prog X.w) X.A X.env X.xe)(hc:PT X c tc)(hb:PSs X body tb):PS X (.While c body [] pos) (tWhile tc tb):=by
 intro pins s σ H D I h;obtain⟨W,⟨m0,w0⟩,turn⟩:=h;refine wpAny_While (codeAny_whileLoop (λn s'=>∃σ' H',Inv X pins σ' H' s'/\W n σ' H') ?_ m0 ⟨σ,H,I,w0⟩);rintro n s1 ⟨σ1,H1,I1,w1⟩;refine wpAny_passesOwn hp (thn (hc pins s1 σ1 H1 _ I1 (turn n σ1 H1 w1)) λb s2 ⟨H2,I2,q2⟩=>?_);cases b with
 |true =>
  obtain⟨N,hN,q2⟩:=q2;rw[if_pos rfl];refine wpAny_passesOwn hp (thn (hb pins s2 σ1 H2 _ I2 q2) λf s3 q3=>?_);cases f with
  |next =>
   obtain⟨σ3,H3,I3,n3⟩:=q3;obtain⟨m',hm,w3⟩:=hN σ3 H3 n3;exact⟨m',hm,σ3,H3,I3,w3⟩
  |cont =>
   obtain⟨σ3,H3,I3,n3⟩:=q3;obtain⟨m',hm,w3⟩:=hN σ3 H3 n3;exact⟨m',hm,σ3,H3,I3,w3⟩
  |brk=>exact q3
  |ret v=>exact q3
 |false =>
  rw[if_neg y0e];exact wpAny_execs_nil ⟨σ1,H2,I2,q2⟩
end
structure It where
 go:Nat->Hp->Prop
 yld:Nat->Hp->V->Hp->Prop
 stop:Nat->Hp->Prop
def FpOk(X:Cx)(pins:Y2)(H:Hp)(b:Addr):Prop :=
 H b=none/\b≠X.env.locals/\b∉X.fs/\(b∈X.ex\/X.s₀.heap.objs.size<=b)/\(∀x c,X.env.cells.lookup x=some c->c≠b)/\∀p∈X.pn++pins,p.1≠b
theorem Inv.fpOk{X:Cx}{pins:Y2}{σ:St}{H H':Hp}{s:Shared}{b:Addr}(I:Inv X pins σ H s)(hb:s.heap.objs.size<=b)(hn:H' b=none):FpOk X pins H' b:=by
 refine⟨hn,y1p (y0i I.lt hb),I.nofs hb,.inr (y15 I.sz hb),λx c e z=>?_,λp hp z=>?_⟩
 ·obtain⟨v,q⟩:=I.cell x c e;exact absurd (y0i q.lt (by rw[z];exact hb)) (y1h _)
 ·exact absurd (y0i (y0d (I.pin p hp).1) (by rw[z];exact hb)) (y1h _)
structure Turn(P:Program)(w:World)(K:Frag)(tg:Expr)(J:It)(fp:List Addr)(it:Addr)(tn:Nat->Heap->Prop):Prop where
 mem:it∈fp
 obj:∀i h,tn i h->∀b∈fp,∃o,h.get? b=some o/\∀v,o.data ≠ .cell v
 keep:∀i h h',tn i h->(∀b∈fp,∀o,h.get? b=some o->h'.get? b=some o)->tn i h'
 item:∀(X:Cx),X.prog=P->X.w=w->X.K=K->X.calm=true->∀(i:Nat) (pins:Y2) (s:Shared) (σ:St) (H:Hp) (E:Y0),Inv X pins σ H s->(∀b∈fp,FpOk X pins H b)->tn i s.heap->J.go i H->
  wpAny (model P w) X.A (pyNext (.ref it)) (λr s1=>∃u,r=some u/\
   wpAny (model P w) X.A (letOwnedTupleGo tg (.ref it) u) (λ_ s2=>∃x H',Inv X pins σ H' s2/\RelV x u/\J.yld i H x H'/\tn (i+1) s2.heap/\∀b∈fp,H' b=none) E s1) E s
 done:∀(X:Cx),X.prog=P->X.w=w->X.K=K->X.calm=true->∀(i:Nat) (pins:Y2) (s:Shared) (σ:St) (H:Hp) (E:Y0),Inv X pins σ H s->(∀b∈fp,FpOk X pins H b)->tn i s.heap->J.stop i H->
  wpAny (model P w) X.A (pyNext (.ref it)) (λr s1=>r=none/\Inv X pins σ H s1) E s
 self:∀(A:Around) (i:Nat) (s:Shared) (Q:Y0) (E:Y0),tn i s.heap->Q (.ref it) s->wpAny (model P w) A (pyIter (.ref it)) Q E s
abbrev TI:=St->Hp->(It->Hp->Prop)->Prop
def PIE(X:Cx)(pins:Y2)(σ:St)(tg:Expr)(R:It->Hp->Prop)(itv:Value)(s2:Shared):Prop :=
 ∃(it:Addr) (fp:List Addr) (tn:Nat->Heap->Prop) (J:It) (H':Hp),itv=.ref it/\Inv X pins σ H' s2/\Turn X.prog X.w X.K tg J fp it tn/\tn 0 s2.heap/\(∀b∈fp,FpOk X pins H' b)/\R J H'
def PI(X:Cx)(tg iter:Expr)(wi:TI):Prop :=
 ∀(pins:Y2) (s:Shared) (σ:St) (H:Hp) (R:It->Hp->Prop),Inv X pins σ H s->wi σ H R->
  wpAny (model X.prog X.w) X.A (eval iter X.env) (λv s1=>wpAny (model X.prog X.w) X.A (pyIter v) (PIE X pins σ tg R) X.xe s1) X.xe s
theorem zrl(ho:s.heap.get? it=some o)(hc:o.cls=.type n)(hd:o.data=.fields vs)
  (hn:["enumerate","zip","dict_itemiterator","dict_reverseitemiterator","odict_iterator","itertools.zip_longest","itertools.pairwise"].contains n=false) (hQ:Q () s):wpAny M A (letOwnedTupleGo tg (.ref it) u) Q E s:=by
 unfold letOwnedTupleGo;cases tg<;>first
  |exact wpAny_pure hQ
  |(cases u<;>first
    |exact wpAny_pure hQ
    |(refine wpAny_bind (wpAny_load ho ?_)
      rw[hc,hd];show wpAny M A (if(["enumerate","zip","dict_itemiterator","dict_reverseitemiterator","odict_iterator","itertools.zip_longest","itertools.pairwise"].contains n&&vs[0]? ==some (rawInt _))=true then _ else _) Q E s;rw[if_neg (by intro h;rw[hn,y14]at h;cases h)];exact wpAny_pure hQ))
def Itl(K:Frag)(a:Addr):It :=
 ⟨λi H=>∃xs x,SqL K H a xs/\xs[i]?=some x,λi H x H'=>H'=H/\∀xs,SqL K H a xs->xs[i]?=some x,λi H=>∃xs,SqL K H a xs/\xs.length<=i⟩
def Itt(K:Frag)(a:Addr):It :=
 ⟨λi H=>∃xs x,SqT K H a xs/\xs[i]?=some x,λi H x H'=>H'=H/\∀xs,SqT K H a xs->xs[i]?=some x,λi H=>∃xs,SqT K H a xs/\xs.length<=i⟩
def Itr(lo:Int)(n:Nat):It:=⟨λi _=>i<n,λi H x H'=>H'=H/\x=.int (lo+i),λi _=>n<=i⟩
theorem zmn{P:Program}{w:World}{K:Frag}{tg:Expr}(a it:Addr):Turn P w K tg (Itl K a) [it] it (λi h=>h.IsListIter it a i) where
 mem:=by simp
 obj:=λi h st b hb=>by
  have e:b=it:=by simpa using hb
  subst e;obtain⟨o,e,c,d⟩:=st;exact⟨o,e,λv z=>by rw[d]at z;cases z⟩
 keep:=λi h h' st k=>st.at λo e=>k it (by simp) o e
 item:=by
  intro X hP hw hK hc i pins s σ H E I hf st hg;subst hP hw hK;obtain⟨xs,x,hq,hx⟩:=hg;obtain⟨its,rv,p,hz⟩:=I.list hq;obtain⟨u,hu,ru⟩:=rv.get hx;obtain⟨f0,f1,f2,f3,f4,f5⟩:=hf it (by simp);refine wpAny_pyNext_list_item st p.isList (x:=u) (by simpa using hu) λh' st' sb=>?_;have I1:Inv X pins σ H {s with heap:=h'}:=I.turned (t':=s.toks) (λb o hb e=>(sb.2 b hb).trans e) f0 f1 f3 f4 f5;obtain⟨o,e,c,d⟩:=id st';exact⟨u,rfl,zrl (s:={s with heap:=h'}) e c d (by decide) ⟨x,H,I1,ru,⟨rfl,λys hy=>by rw[I.list_inj hy hq];exact hx⟩,st',λb hb=>(hf b hb).1⟩⟩
 done:=by
  intro X hP hw hK hc i pins s σ H E I hf st hg;subst hP hw hK;obtain⟨xs,hq,hx⟩:=hg;obtain⟨its,rv,p,hz⟩:=I.list hq;obtain⟨f0,f1,f2,f3,f4,f5⟩:=hf it (by simp);have hl:=rv.length;exact wpAny_pyNext_list_end (I.ok.hd hc) st p.isList (by simp;omega) λh' eb=>⟨rfl,I.turned (t':=s.toks) (λb o hb e=>eb b o hb e) f0 f1 f3 f4 f5⟩
 self:=λ_ _ _ _ _ st h=>wpAny_pyIter_listiter st h
theorem zle{P:Program}{w:World}{K:Frag}{tg:Expr}(a it:Addr):Turn P w K tg (Itt K a) [it] it (λi h=>h.IsTupleIter it a i) where
 mem:=by simp
 obj:=λi h st b hb=>by
  have e:b=it:=by simpa using hb
  subst e;obtain⟨o,e,c,d⟩:=st;exact⟨o,e,λv z=>by rw[d]at z;cases z⟩
 keep:=λi h h' st k=>st.at λo e=>k it (by simp) o e
 item:=by
  intro X hP hw hK hc i pins s σ H E I hf st hg;subst hP hw hK;obtain⟨xs,x,hq,hx⟩:=hg;obtain⟨its,rv,p,hz⟩:=I.tuple hq;obtain⟨u,hu,ru⟩:=rv.get hx;obtain⟨f0,f1,f2,f3,f4,f5⟩:=hf it (by simp);refine wpAny_pyNext_tuple_item st (show s.heap.IsTuple a its.toArray from p) (x:=u) (by simpa using hu) λh' st' sb=>?_;have I1:Inv X pins σ H {s with heap:=h'}:=I.turned (t':=s.toks) (λb o hb e=>(sb.2 b hb).trans e) f0 f1 f3 f4 f5;obtain⟨o,e,c,d⟩:=id st';exact⟨u,rfl,zrl (s:={s with heap:=h'}) e c d (by decide) ⟨x,H,I1,ru,⟨rfl,λys hy=>by rw[I.tuple_inj hy hq];exact hx⟩,st',λb hb=>(hf b hb).1⟩⟩
 done:=by
  intro X hP hw hK hc i pins s σ H E I hf st hg;subst hP hw hK;obtain⟨xs,hq,hx⟩:=hg;obtain⟨its,rv,p,hz⟩:=I.tuple hq;obtain⟨f0,f1,f2,f3,f4,f5⟩:=hf it (by simp);have hl:=rv.length;exact wpAny_pyNext_tuple_end (I.ok.hd hc) st (show s.heap.IsTuple a its.toArray from p) (by simp;omega) λh' eb=>⟨rfl,I.turned (t':=s.toks) (λb o hb e=>eb b o hb e) f0 f1 f3 f4 f5⟩
 self:=λ_ _ _ _ _ st h=>wpAny_pyIter_tupleiter st h
theorem zlf{P:Program}{w:World}{K:Frag}{tg:Expr}(it:Addr)(lo:Int)(n:Nat):Turn P w K tg (Itr lo n) [it] it (λi h=>IsRangeIter h it (lo+(i:Nat)*1) ((n:Int)-(i:Nat)) 1) where
 mem:=by simp
 obj:=λi h st b hb=>by
  have e:b=it:=by simpa using hb
  subst e;exact⟨_,st,λv z=>by
   have z':Data.fields _=Data.cell v:=z;cases z'⟩
 keep:=λi h h' st k=>k it (by simp) _ st
 item:=by
  intro X hP hw hK hc i pins s σ H E I hf st hg;subst hP hw hK;obtain⟨f0,f1,f2,f3,f4,f5⟩:=hf it (by simp);have W:=Walks.range (prog:=X.prog) (w:=X.w) (I.ok.hd hc) it lo 1 n;refine W.item i s _ _ hg st λv h' tk hv st' kk=>?_;obtain⟨t,rfl⟩:=hv;have I1:Inv X pins σ H {s with heap:=h',toks:=tk}:=I.turned (λb o hb e=>kk b o (by simpa using hb) e) f0 f1 f3 f4 f5;refine⟨_,rfl,zrl (s:={s with heap:=h',toks:=tk}) (n:="range_iterator") st' rfl rfl (by decide) ⟨.int (lo+i),H,I1,⟨t,?_⟩,⟨rfl,rfl⟩,st',λb hb=>(hf b hb).1⟩⟩;rw[Int.mul_one]
 done:=by
  intro X hP hw hK hc i pins s σ H E I hf st hg;subst hP hw hK;obtain⟨f0,f1,f2,f3,f4,f5⟩:=hf it (by simp);exact wpAny_pyNext_range_end (I.ok.hd hc) st (by have:n<=i:=hg;omega) λh' eb=>⟨rfl,I.turned (t':=s.toks) (λb o hb e=>eb b o hb e) f0 f1 f3 f4 f5⟩
 self:=λ_ _ _ _ _ st h=>wpAny_pyIter_rangeiter st h
section
variable {X:Cx}{tg:Expr}
def iList(K:Frag)(tl:TE):TI:=λσ H R=>tl σ H λx H1=>∃a,x=.ref a/\(∃xs,SqL K H1 a xs)/\R (Itl K a) H1
def iTup(K:Frag)(tl:TE):TI:=λσ H R=>tl σ H λx H1=>∃a,x=.ref a/\(∃xs,SqT K H1 a xs)/\R (Itt K a) H1
theorem ztr{l:Expr}{tl:TE}(hl:PE X l tl):PI X tg l (iList X.K tl):=by
 intro pins s σ H R I h;refine thn (hl pins s σ H _ I h) λv s1 zz=>ex5 zz λx H1 I1 r1 q1=>?_;obtain⟨a,e,⟨xs,hq⟩,q⟩:=q1;subst e;cases r1;obtain⟨its,rv,p,hz⟩:=I1.list hq;refine wpAny_pyIter_list p.isList ?_;refine⟨s1.heap.objs.size,[s1.heap.objs.size],_,_,H1,rfl,I1.kept (t':=s1.toks) λb o e=>y01 _ e,zmn a _,⟨_,y0b _ rfl,rfl,rfl⟩,λb hb=>?_,q⟩;have e:b=s1.heap.objs.size:=by simpa using hb
 subst e;exact I1.fpOk (y04 _) (I1.hok.fresh (y04 _))
theorem zv7{l:Expr}{tl:TE}(hl:PE X l tl):PI X tg l (iTup X.K tl):=by
 intro pins s σ H R I h;refine thn (hl pins s σ H _ I h) λv s1 zz=>ex5 zz λx H1 I1 r1 q1=>?_;obtain⟨a,e,⟨xs,hq⟩,q⟩:=q1;subst e;cases r1;obtain⟨its,rv,p,hz⟩:=I1.tuple hq;refine wpAny_pyIter_tuple (show s1.heap.IsTuple a its.toArray from p) ?_;refine⟨s1.heap.objs.size,[s1.heap.objs.size],_,_,H1,rfl,I1.kept (t':=s1.toks) λb o e=>y01 _ e,zle a _,⟨_,y0b _ rfl,rfl,rfl⟩,λb hb=>?_,q⟩;have e:b=s1.heap.objs.size:=by simpa using hb
 subst e;exact I1.fpOk (y04 _) (I1.hok.fresh (y04 _))
theorem zp9{pins:Y2}{σ:St}{H:Hp}{s:Shared}{R:It->Hp->Prop}{E:Y0}{lo hi:Int}{t u v:Tok}{tk:Nat}(I:Inv X pins σ H s)(h1:-(2^62)<=lo)(h2:lo<2^62)(h3:-(2^62)<=hi)(h4:hi<2^62)
  (q:R (Itr lo (hi-lo).toNat) H):wpAny (model X.prog X.w) X.A (pyIter (.ref s.heap.objs.size)) (PIE X pins σ tg R) E {s with heap:=s.heap.push {cls:=.type "range",data:=.fields #[.int lo t,.int hi u,.int 1 v]},toks:=tk}:=by
 refine wpAny_pyIter_range (IsRange.new ..) (small_one h1 h2 h3 h4) ?_;have I1:Inv X pins σ H {s with heap:=s.heap.push {cls:=.type "range",data:=.fields #[.int lo t,.int hi u,.int 1 v]},toks:=tk}:=I.kept λb o e=>y01 _ e;refine⟨(s.heap.push {cls:=.type "range",data:=.fields #[.int lo t,.int hi u,.int 1 v]}).objs.size,[(s.heap.push {cls:=.type "range",data:=.fields #[.int lo t,.int hi u,.int 1 v]}).objs.size],_,_,H,rfl,
  I1.kept (t':=tk) λb o e=>y01 _ e,zlf _ lo (hi-lo).toNat,?_,λb hb=>?_,q⟩
 ·have e1:lo+((0:Nat):Int)*1=lo:=by simp
  have e2:(((hi-lo).toNat:Nat):Int)-((0:Nat):Int)=Builtin.Range.rangeSize lo hi 1:=by rw[rangeSize_one];split<;>omega
  show IsRangeIter _ _ (lo+((0:Nat):Int)*1) ((((hi-lo).toNat:Nat):Int)-((0:Nat):Int)) 1;rw[e1,e2];exact y0b _ rfl
 ·have e:b=(s.heap.push {cls:=.type "range",data:=.fields #[.int lo t,.int hi u,.int 1 v]}).objs.size:=by simpa using hb
  subst e;exact I1.fpOk (y04 _) (I1.hok.fresh (y04 _))
def iRng1(ta:TA):TI:=λσ H R=>ta σ H λvs H1=>∃j:Int,vs=[.int j]/\-(2^62)<=j/\j<2^62/\R (Itr 0 j.toNat) H1
def iRng2(ta:TA):TI:=λσ H R=>ta σ H λvs H1=>∃i j:Int,vs=[.int i,.int j]/\(-(2^62)<=i/\i<2^62/\-(2^62)<=j/\j<2^62)/\R (Itr i (j-i).toNat) H1
theorem zhy{a:Expr}{ta:TA}{p pos:Pos}(hg:Gl X "range")(hm:X.mg "range"=none)(ha:PA X [a] ta)(hs:starEach [a] X.env=[(false,eval a X.env)]:=by rfl):PI X tg (.Call (.Name "range" p) [a] [] pos) (iRng1 ta):=by
 intro pins s σ H R I h;refine Call_ (zf7 I hg hm boot_range (PyProof.Rows.callWith_type1 (thn (ha pos pins s σ H _ I h) λus s1 zz=>ex5 zz λvs H1 I1 r1 q1=>?_) hs rfl));obtain⟨j,e,q1,q2,q⟩:=q1;subst e;cases r1 with
 |cons r rr =>
  cases rr;obtain⟨t,rfl⟩:=r;exact call_range_1 (zp9 I1 (by omega) (by omega) q1 q2 (by simpa using q))
def tFor(wi:TI)(g:TG)(tb:TS):TS:=λD σ H=>wi σ H λJ H1=>∃W:Nat->Nat->St->Hp->Prop,(∃m,W 0 m σ H1)/\∀i m σ H,W i m σ H->
 (J.stop i H/\D.nx σ H)\/(J.go i H/\∃N:St->Hp->Prop,(∀σ' H',N σ' H'->∃m',m'<m/\W (i+1) m' σ' H')/\∀x H',J.yld i H x H'->g x σ H' λσ2 H2=>tb {D with nx:=N,ct:=N,bk:=D.nx} σ2 H2)
def pinsAt(fp:List Addr)(h:Heap):List (Addr×Obj):=fp.filterMap λb=>(h.get? b).map λo=>(b,o)
theorem zc5(hb:b∈fp)(e:h.get? b=some o):(b,o)∈pinsAt fp h:=List.mem_filterMap.mpr ⟨b,hb,by rw[e];rfl⟩
theorem zoc(hp:p∈pinsAt fp h):p.1∈fp/\h.get? p.1=some p.2:=by
 obtain⟨b,hb,e⟩:=List.mem_filterMap.mp hp;cases q:h.get? b with
 |none=>rw[q]at e;cases e
 |some o =>
  rw[q]at e;have e':(b,o)=p:=Option.some.inj e;subst e';exact⟨hb,q⟩
theorem Inv.pinned{pins:Y2}{σ:St}{H:Hp}{s:Shared}{fp:List Addr}(I:Inv X pins σ H s)(hf:∀b∈fp,FpOk X pins H b)(ho:∀b∈fp,∃o,s.heap.get? b=some o/\∀v,o.data ≠ .cell v):Inv X (pins++pinsAt fp s.heap) σ H s :=
 I.pins_of λp hp=>(y0j.mp hp).elim (λz=>I.pin p (y0p _ z)) λz=>by
  obtain⟨hb,e⟩:=zoc z;obtain⟨f0,f1,f2,_⟩:=hf p.1 hb;obtain⟨o,e',d⟩:=ho p.1 hb;rw[e]at e';cases e';exact⟨e,f0,f1,f2,d⟩
theorem Inv.unpinned{pins pl:Y2}{σ:St}{H:Hp}{s:Shared}(I:Inv X (pins++pl) σ H s):Inv X pins σ H s:=I.pins_of λp hp=>I.pin p (y0p _ (y1n _ hp))
theorem zet(hp:PassesOwn (model X.prog X.w) X.A X.env X.xe)(hc:X.calm=true)(hi:PI X tg iter wi)(hg:PG X tg g)(hb:PSs X body tb)
  (hs:∀x,foldedSetIterable iter X.env x=pure x:=by intro _;rfl):PS X (.For tg iter body [] pos) (tFor wi g tb):=by
 intro pins s σ H D I h;refine wpAny_For (thn (hi pins s σ H _ I h) λv s1 h1=>thn h1 λitv s2 h2=>?_) hs;obtain⟨it,fp,tn,J,H2,e,I2,T,st2,f2,W,⟨m0,w0⟩,turn⟩:=h2;subst e;have stat:∀{H':Hp},(∀b∈fp,H' b=none)->∀b∈fp,FpOk X pins H' b:=λhn b hb=>⟨hn b hb,(f2 b hb).2⟩;refine codeAny_forLoop_any (λn s'=>∃i σ' H',Inv X pins σ' H' s'/\tn i s'.heap/\(∀b∈fp,H' b=none)/\W i n σ' H') ?_ m0 ⟨0,σ,H2,I2,st2,λb hb=>(f2 b hb).1,w0⟩;rintro n s3 ⟨i,σ3,H3,I3,st3,fr3,w3⟩;rcases turn i n σ3 H3 w3 with⟨stop,qn⟩|⟨go,N,hN,step⟩
 ·refine wpAny_passesOwn hp (thn (T.done X rfl rfl rfl hc i pins s3 σ3 H3 X.xe I3 (stat fr3) st3 stop) λr s4 ⟨hr,I4⟩=>?_);subst hr;exact wpAny_execs_nil ⟨σ3,H3,I4,qn⟩
 ·refine wpAny_passesOwn hp (thn (T.item X rfl rfl rfl hc i pins s3 σ3 H3 X.xe I3 (stat fr3) st3 go) λr s4 ⟨u,hr,h4⟩=>?_);subst hr;refine wpAny_passesOwn hp (thn h4 λ_ s5 zz=>ex5 zz λx H5 I5 r5 zq=>?_);obtain⟨y5,st5,fr5⟩:=zq;have I5':=I5.pinned (stat fr5) (T.obj _ _ st5);refine wpAny_passesOwn hp (thn (hg _ s5 σ3 H5 x u _ I5' r5 (step x H5 y5)) λ_ s6 ⟨σ6,H6,I6,q6⟩=>?_);refine wpAny_passesOwn hp (thn (hb _ s6 σ6 H6 _ I6 q6) λf s7 q7=>?_);have again:∀{σ7:St} {H7:Hp},Inv X (pins++pinsAt fp s5.heap) σ7 H7 s7->N σ7 H7->∃m,m<n/\∃i σ' H',Inv X pins σ' H' s7/\tn i s7.heap/\(∀b∈fp,H' b=none)/\W i m σ' H':=λ{σ7 H7} I7 n7=>by
   obtain⟨m',hm,w7⟩:=hN σ7 H7 n7;refine⟨m',hm,i+1,σ7,H7,I7.unpinned,T.keep _ _ _ st5 λb hb o e=>(I7.pin (b,o) (y0p _ (y0p _ (zc5 hb e)))).1,λb hb=>?_,w7⟩;obtain⟨o,e,d⟩:=T.obj _ _ st5 b hb;exact(I7.pin (b,o) (y0p _ (y0p _ (zc5 hb e)))).2.1
  cases f with
  |next=>obtain⟨σ7,H7,I7,n7⟩:=q7;exact again I7 n7
  |cont=>obtain⟨σ7,H7,I7,n7⟩:=q7;exact again I7 n7
  |brk=>obtain⟨σ7,H7,I7,q7⟩:=q7;exact⟨σ7,H7,I7.unpinned,q7⟩
  |ret v=>obtain⟨x7,σ7,H7,I7,r7,q7⟩:=q7;exact⟨x7,σ7,H7,I7.unpinned,r7,q7⟩
end
theorem zrp{K:Frag}{a:Addr}{xs:List V}{g:TG}{tb:TS}{D:Ends}{σ:St}{H:Hp}(Pv:Nat->St->Hp->Prop)(h0:Pv 0 σ H)(hl:∀i σ H,i<=xs.length->Pv i σ H->SqL K H a xs)
  (hs:∀i x σ H,xs[i]?=some x->Pv i σ H->g x σ H λσ2 H2=>tb {D with nx:=Pv (i+1),ct:=Pv (i+1),bk:=D.nx} σ2 H2) (hd:∀σ H,Pv xs.length σ H->D.nx σ H) :
  ∃W:Nat->Nat->St->Hp->Prop,(∃m,W 0 m σ H)/\∀i m σ H,W i m σ H->
   ((Itl K a).stop i H/\D.nx σ H)\/((Itl K a).go i H/\∃N:St->Hp->Prop,(∀σ' H',N σ' H'->∃m',m'<m/\W (i+1) m' σ' H')/\∀x H',(Itl K a).yld i H x H'->g x σ H' λσ2 H2=>tb {D with nx:=N,ct:=N,bk:=D.nx} σ2 H2):=by
 refine⟨λi m σ H=>m=xs.length-i/\i<=xs.length/\Pv i σ H,⟨xs.length,by simp,y10 _,h0⟩,?_⟩;rintro i m σ H ⟨rfl,hi,p⟩;have q:=hl i σ H hi p;by_cases hlt:i<xs.length
 ·refine .inr ⟨⟨xs,xs[i],q,by simp[hlt]⟩,Pv (i+1),λσ' H' p'=>⟨xs.length-(i+1),by omega,rfl,hlt,p'⟩,λx H' y=>?_⟩;obtain⟨e,y⟩:=y;subst e;exact hs i x σ _ (y xs q) p
 ·have e:i=xs.length:=by omega
  subst e;exact .inl ⟨⟨xs,q,y04 _⟩,hd σ H p⟩
theorem zu1{K:Frag}{a:Addr}{xs:List V}{g:TG}{tb:TS}{D:Ends}{σ:St}{H:Hp}(Pv:Nat->St->Hp->Prop)(h0:Pv 0 σ H)(hl:∀i σ H,i<=xs.length->Pv i σ H->SqT K H a xs)
  (hs:∀i x σ H,xs[i]?=some x->Pv i σ H->g x σ H λσ2 H2=>tb {D with nx:=Pv (i+1),ct:=Pv (i+1),bk:=D.nx} σ2 H2) (hd:∀σ H,Pv xs.length σ H->D.nx σ H) :
  ∃W:Nat->Nat->St->Hp->Prop,(∃m,W 0 m σ H)/\∀i m σ H,W i m σ H->
   ((Itt K a).stop i H/\D.nx σ H)\/((Itt K a).go i H/\∃N:St->Hp->Prop,(∀σ' H',N σ' H'->∃m',m'<m/\W (i+1) m' σ' H')/\∀x H',(Itt K a).yld i H x H'->g x σ H' λσ2 H2=>tb {D with nx:=N,ct:=N,bk:=D.nx} σ2 H2):=by
 refine⟨λi m σ H=>m=xs.length-i/\i<=xs.length/\Pv i σ H,⟨xs.length,by simp,y10 _,h0⟩,?_⟩;rintro i m σ H ⟨rfl,hi,p⟩;have q:=hl i σ H hi p;by_cases hlt:i<xs.length
 ·refine .inr ⟨⟨xs,xs[i],q,by simp[hlt]⟩,Pv (i+1),λσ' H' p'=>⟨xs.length-(i+1),by omega,rfl,hlt,p'⟩,λx H' y=>?_⟩;obtain⟨e,y⟩:=y;subst e;exact hs i x σ _ (y xs q) p
 ·have e:i=xs.length:=by omega
  subst e;exact .inl ⟨⟨xs,q,y04 _⟩,hd σ H p⟩
theorem zo2{lo:Int}{n:Nat}{g:TG}{tb:TS}{D:Ends}{σ:St}{H:Hp}(Pv:Nat->St->Hp->Prop)(h0:Pv 0 σ H)
  (hs:∀i σ H,i<n->Pv i σ H->g (.int (lo+i)) σ H λσ2 H2=>tb {D with nx:=Pv (i+1),ct:=Pv (i+1),bk:=D.nx} σ2 H2) (hd:∀σ H,Pv n σ H->D.nx σ H) :
  ∃W:Nat->Nat->St->Hp->Prop,(∃m,W 0 m σ H)/\∀i m σ H,W i m σ H->
   ((Itr lo n).stop i H/\D.nx σ H)\/((Itr lo n).go i H/\∃N:St->Hp->Prop,(∀σ' H',N σ' H'->∃m',m'<m/\W (i+1) m' σ' H')/\∀x H',(Itr lo n).yld i H x H'->g x σ H' λσ2 H2=>tb {D with nx:=N,ct:=N,bk:=D.nx} σ2 H2):=by
 refine⟨λi m σ H=>m=n-i/\i<=n/\Pv i σ H,⟨n,by simp,y10 _,h0⟩,?_⟩;rintro i m σ H ⟨rfl,hi,p⟩;by_cases hlt:i<n
 ·refine .inr ⟨hlt,Pv (i+1),λσ' H' p'=>⟨n-(i+1),by omega,rfl,hlt,p'⟩,λx H' y=>?_⟩;obtain⟨e,y⟩:=y;subst e y;exact hs i σ _ hlt p
 ·have e:i=n:=by omega
  subst e;exact .inl ⟨y04 _,hd σ H p⟩
abbrev R2:=V->V->Hp->VK->Prop
def OpR(X:Cx)(f:Value->Value->Sem Value)(r:R2):Prop :=
 ∀(pins:Y2) (s:Shared) (σ:St) (H:Hp) (x y:V) (v u:Value) (Q:VK),Inv X pins σ H s->RelV x v->RelV y u->r x y H Q->
  wpAny (model X.prog X.w) X.A (f v u) (EP X pins σ Q) X.xe s
def UnR(X:Cx)(f:Value->Sem Value)(r:V->Hp->VK->Prop):Prop :=
 ∀(pins:Y2) (s:Shared) (σ:St) (H:Hp) (x:V) (v:Value) (Q:VK),Inv X pins σ H s->RelV x v->r x H Q->
  wpAny (model X.prog X.w) X.A (f v) (EP X pins σ Q) X.xe s
def CallR(X:Cx)(f:Value)(r:List V->Hp->VK->Prop):Prop :=
 ∀(pins:Y2) (s:Shared) (σ:St) (H:Hp) (xs:List V) (us:List Value) (Q:VK),Inv X pins σ H s->Vals xs us->r xs H Q->
  wpAny (model X.prog X.w) X.A (call f us) (EP X pins σ Q) X.xe s
def TruR(X:Cx)(r:V->Hp->(Bool->Hp->Prop)->Prop):Prop :=
 ∀(pins:Y2) (s:Shared) (σ:St) (H:Hp) (x:V) (v:Value) (Q:Bool->Hp->Prop),Inv X pins σ H s->RelV x v->r x H Q->
  wpAny (model X.prog X.w) X.A (truthy v) (TP X pins σ Q) X.xe s
def tOp(r:R2)(ta tb:TE):TE:=λσ H Q=>ta σ H λx H1=>tb σ H1 λy H2=>r x y H2 Q
def tUn(r:V->Hp->VK->Prop)(ta:TE):TE:=λσ H Q=>ta σ H λx H1=>r x H1 Q
def rI(C:Int->Int->Prop)(g:Int->Int->V):R2:=λx y H Q=>∃i,x=.int i/\∃j,y=.int j/\C i j/\Q (g i j) H
def rI0(g:Int->Int->V):R2:=λx y H Q=>∃i,x=.int i/\∃j,y=.int j/\Q (g i j) H
def rU(g:Int->V):V->Hp->VK->Prop:=λx H Q=>∃i,x=.int i/\Q (g i) H
section
variable {X:Cx}{a b c:Expr}{ta tb tc:TE}{pos:Pos}
theorem binT(ha:PE X a ta)(hb:PE X b tb){pins:Y2}{s:Shared}{σ:St}{H:Hp}{R:V->V->Hp->Prop}(I:Inv X pins σ H s)
  (h:ta σ H λx H1=>tb σ H1 λy H2=>R x y H2) {Q:Y0} {f:Value->Value->Sem Value}
  (hf:∀v u s2 x y H2,Inv X pins σ H2 s2->RelV x v->RelV y u->R x y H2->wpAny (model X.prog X.w) X.A (f v u) Q X.xe s2) :
  wpAny (model X.prog X.w) X.A (eval a X.env) (λv s₁=>wpAny (model X.prog X.w) X.A (eval b X.env) (λu s₂=>wpAny (model X.prog X.w) X.A (f v u) Q X.xe s₂) X.xe s₁) X.xe s:=by
 refine thn (ha pins s σ H _ I h) λv s1 zz=>ex5 zz λx H1 I1 r1 q1=>?_;refine thn (hb pins s1 σ H1 _ I1 q1) λu s2 zz=>ex5 zz λy H2 I2 r2 q2=>?_;exact hf v u s2 x y H2 I2 r1 r2 q2
theorem zaw(ho:OpR X (binaryOp op) r)(ha:PE X a ta)(hb:PE X b tb):PE X (.BinOp a op b pos) (tOp r ta tb):=by
 intro pins s σ H Q I h;exact wpAny_BinOp (binT ha hb I h λv u s2 x y H2 I2 rx ry q=>ho pins s2 σ H2 x y v u Q I2 rx ry q)
theorem zwa(ho:UnR X (unaryOp op) r)(ha:PE X a ta):PE X (.UnaryOp op a pos) (tUn r ta):=by
 intro pins s σ H Q I h;exact UnaryOp_ (thn (ha pins s σ H _ I h) λv s1 zz=>ex5 zz λx H1 I1 r1 q1=>ho pins s1 σ H1 x v Q I1 r1 q1)
theorem opI{f:Value->Value->Sem Value}{C:Int->Int->Prop}{g:Int->Int->Int}
  (rule:∀(i j:Int) (t u:Tok) (s:Shared) (Q:Y0) (E:Y0),C i j->Q (.int (g i j) s.toks) {s with toks:=s.toks+1}->wpAny (model X.prog X.w) X.A (f (.int i t) (.int j u)) Q E s) :
  OpR X f (rI C λi j=>.int (g i j)):=by
 infer_instance;obtain⟨i,rfl,j,rfl,hc,q⟩:=h;obtain⟨t,rfl⟩:=rx;obtain⟨t',rfl⟩:=ry;exact rule i j t t' s _ _ hc ⟨.int (g i j),H,I.tok _,⟨_,rfl⟩,q⟩
theorem opI0{f:Value->Value->Sem Value}{g:Int->Int->Int}
  (rule:∀(i j:Int) (t u:Tok) (s:Shared) (Q:Y0) (E:Y0),Q (.int (g i j) s.toks) {s with toks:=s.toks+1}->wpAny (model X.prog X.w) X.A (f (.int i t) (.int j u)) Q E s) :
  OpR X f (rI0 λi j=>.int (g i j)):=by
 infer_instance;obtain⟨i,rfl,j,rfl,q⟩:=h;obtain⟨t,rfl⟩:=rx;obtain⟨t',rfl⟩:=ry;exact rule i j t t' s _ _ ⟨.int (g i j),H,I.tok _,⟨_,rfl⟩,q⟩
theorem opB0{f:Value->Value->Sem Value}{g:Int->Int->Bool}
  (rule:∀(i j:Int) (t u:Tok) (s:Shared) (Q:Y0) (E:Y0),Q (.bool (g i j)) s->wpAny (model X.prog X.w) X.A (f (.int i t) (.int j u)) Q E s) :
  OpR X f (rI0 λi j=>.bl (g i j)):=by
 infer_instance;obtain⟨i,rfl,j,rfl,q⟩:=h;obtain⟨t,rfl⟩:=rx;obtain⟨t',rfl⟩:=ry;exact rule i j t t' s _ _ ⟨.bl (g i j),H,I,rfl,q⟩
def CDiv(i j:Int):Prop:=0<j/\j<1073741824
def CPow(i j:Int):Prop:=0<=j/\j<=1000000/\i.natAbs<2^64
def CMul(i j:Int):Prop:=(-(2^64)<i/\i<2^64)\/(-(2^64)<j/\j<2^64)
theorem CMul.ok(h:CMul i j):IntMulOk i j:=by
 rcases h with⟨h1,h2⟩|⟨h1,h2⟩
 ·exact .of_left (intBits_le_64 h1 h2)
 ·exact .of_right (intBits_le_64 h1 h2)
theorem zld(k:Nat):(0:Int)<=2^k:=by
 rw[two_pow_cast];exact Int.natCast_nonneg _
theorem zf1:OpR X (binaryOp .Add) (rI0 λi j=>.int (i+j)):=opI0 λ_ _ _ _ _ _ _ q=>add_int q
theorem zey:OpR X (binaryOp .Sub) (rI0 λi j=>.int (i-j)):=opI0 λ_ _ _ _ _ _ _ q=>sub_int q
theorem znu:OpR X (binaryOp .Mult) (rI CMul λi j=>.int (i*j)):=opI λ_ _ _ _ _ _ _ hc q=>mul_int q hc.ok
theorem zbk:OpR X (binaryOp .FloorDiv) (rI CDiv λi j=>.int (i/j)):=opI λi j _ _ _ _ _ hc q=>by
 have h1:(0:Int)<j:=hc.1;have h2:j<1073741824:=hc.2;exact floordiv_int (by omega) (by rw[y3h i (by omega)];exact q) (.inl (PyProof.noPylong_small (by omega)))
theorem zbf:OpR X (binaryOp .Mod) (rI (λ_ j=>0<j) λi j=>.int (i%j)):=opI λi j _ _ _ _ _ hc q=>by
 have h1:(0:Int)<j:=hc;exact mod_int' (by omega) (by rw[Int.fmod_eq_emod_of_nonneg i (by omega)];exact q)
theorem zsh:OpR X (binaryOp .Pow) (rI CPow λi j=>.int (i^j.toNat)):=opI λ_ _ _ _ _ _ _ hc q=>pow_int_small hc.1 hc.2.1 hc.2.2 q
theorem zko:OpR X (binaryOp .LShift) (rI CPow λi j=>.int (i*2^j.toNat)):=opI λ_ _ _ _ _ _ _ hc q=>lshift_int_small hc.1 hc.2.1 hc.2.2 q
theorem zwc:OpR X (binaryOp .RShift) (rI (λ_ j=>0<=j) λi j=>.int (i/2^j.toNat)):=opI λi j _ _ _ _ _ hc q =>
 rshift_int hc (by rw[y3h i (zld _)];exact q)
theorem zny:OpR X (binaryOp .BitAnd) (rI0 λi j=>.int (Builtin.bitAnd i j)):=opI0 λ_ _ _ _ _ _ _ q=>and_int q
theorem zwe:OpR X (binaryOp .BitOr) (rI0 λi j=>.int (Builtin.bitOr i j)):=opI0 λ_ _ _ _ _ _ _ q=>or_int q
theorem unI{f:Value->Sem Value}{g:Int->Int}
  (rule:∀(i:Int) (t:Tok) (s:Shared) (Q:Y0) (E:Y0),Q (.int (g i) s.toks) {s with toks:=s.toks+1}->wpAny (model X.prog X.w) X.A (f (.int i t)) Q E s) :
  UnR X f (rU λi=>.int (g i)):=by
 intro pins s σ H x v Q I rx h;obtain⟨i,rfl,q⟩:=h;obtain⟨t,rfl⟩:=rx;exact rule i t s _ _ ⟨.int (g i),H,I.tok _,⟨_,rfl⟩,q⟩
theorem zr5:UnR X (unaryOp .USub) (rU λi=>.int (-i)):=unI λ_ _ _ _ _ q=>neg_int q
end
def scal:V->V->Bool
 |.non,.non=>true|.non,.int _=>true|.int _,.non=>true|.non,.bl _=>true|.bl _,.non=>true|.non,.str _=>true|.str _,.non=>true
 |.int _,.int _=>true|.bl _,.bl _=>true|.str _,.str _=>true|.byt _,.byt _=>true
 |.int _,.str _=>true|.str _,.int _=>true|.bl _,.str _=>true|.str _,.bl _=>true
 |_,_=>false
def rEq:R2:=λx y H Q=>scal x y=true/\Q (.bl (decide (x=y))) H
def rNe:R2:=λx y H Q=>scal x y=true/\Q (.bl (!decide (x=y))) H
theorem zpd:decide (V.int i=V.int j)=(i==j):=by
 rw[y1w];simp
theorem zsw:decide (V.bl i=V.bl j)=(i==j):=by
 rw[y1w];simp
theorem zpc:decide (V.str i=V.str j)=(i==j):=by
 rw[y1w];simp
theorem zpe:decide (V.byt i=V.byt j)=(i.toList==j.toList):=by
 rw[y1w];cases i;cases j;simp
section
variable {X:Cx}{a b c:Expr}{ta tb tc:TE}{pos:Pos}
theorem za6{pins:Y2}{σ:St}{H:Hp}{s:Shared}{Q:VK}{k k':Bool}(I:Inv X pins σ H s)(q:Q (.bl k) H)(e:k=k'):EP X pins σ Q (.bool k') s:=by
 subst e;exact⟨.bl k,H,I,rfl,q⟩
theorem zbb:OpR X (compareOp .Eq) rEq:=by
 infer_instance;obtain⟨hs,q⟩:=h;cases x with
 |non =>
  cases rx;cases y with
  |non=>cases ry;exact PySem.EqNone.eq_none_none (za6 I q (by simp))
  |bl j=>cases ry;exact PySem.EqNone.eq_none_bool (za6 I q (by simp))
  |int j=>obtain⟨t',rfl⟩:=ry;exact PySem.EqNone.eq_none_int (za6 I q (by simp))
  |str j=>obtain⟨t',rfl⟩:=ry;exact PySem.EqNone.eq_none_str (za6 I q (by simp))
  |_=>exact absurd (show false=true from hs) y0e
 |bl i =>
  cases rx;cases y with
  |non=>cases ry;exact PySem.EqNone.eq_bool_none (za6 I q (by simp))
  |bl j=>cases ry;exact eq_bool (za6 I q zsw)
  |str j=>obtain⟨t',rfl⟩:=ry;exact PySem.EqMixed.eq_bool_str (za6 I q (by simp))
  |_=>exact absurd (show false=true from hs) y0e
 |int i =>
  obtain⟨t,rfl⟩:=rx;cases y with
  |non=>cases ry;exact PySem.EqNone.eq_int_none (za6 I q (by simp))
  |int j=>obtain⟨t',rfl⟩:=ry;exact eq_int (za6 I q zpd)
  |str j=>obtain⟨t',rfl⟩:=ry;exact PySem.EqMixed.eq_int_str (za6 I q (by simp))
  |_=>exact absurd (show false=true from hs) y0e
 |str i =>
  obtain⟨t,rfl⟩:=rx;cases y with
  |non=>cases ry;exact PySem.EqNone.eq_str_none (za6 I q (by simp))
  |bl j=>cases ry;exact PySem.EqMixed.eq_str_bool (za6 I q (by simp))
  |int j=>obtain⟨t',rfl⟩:=ry;exact PySem.EqMixed.eq_str_int (za6 I q (by simp))
  |str j=>obtain⟨t',rfl⟩:=ry;exact eq_str (za6 I q zpc)
  |_=>exact absurd (show false=true from hs) y0e
 |byt i =>
  obtain⟨t,rfl⟩:=rx;cases y with
  |byt j=>obtain⟨t',rfl⟩:=ry;exact PySem.W.eq_bytes (za6 I q zpe)
  |_=>exact absurd (show false=true from hs) y0e
 |_=>cases y<;>exact absurd (show false=true from hs) y0e
theorem znt:OpR X (compareOp .NotEq) rNe:=by
 infer_instance;obtain⟨hs,q⟩:=h;cases x with
 |non =>
  cases rx;cases y with
  |non=>cases ry;exact PySem.EqNone.ne_none_none (za6 I q (by simp))
  |bl j=>cases ry;exact PySem.EqNone.ne_none_bool (za6 I q (by simp))
  |int j=>obtain⟨t',rfl⟩:=ry;exact PySem.EqNone.ne_none_int (za6 I q (by simp))
  |str j=>obtain⟨t',rfl⟩:=ry;exact PySem.EqNone.ne_none_str (za6 I q (by simp))
  |_=>exact absurd (show false=true from hs) y0e
 |bl i =>
  cases rx;cases y with
  |non=>cases ry;exact PySem.EqNone.ne_bool_none (za6 I q (by simp))
  |bl j=>cases ry;exact ne_bool (za6 I q (congrArg not zsw))
  |str j=>obtain⟨t',rfl⟩:=ry;exact PySem.EqMixed.ne_bool_str (za6 I q (by simp))
  |_=>exact absurd (show false=true from hs) y0e
 |int i =>
  obtain⟨t,rfl⟩:=rx;cases y with
  |non=>cases ry;exact PySem.EqNone.ne_int_none (za6 I q (by simp))
  |int j=>obtain⟨t',rfl⟩:=ry;exact ne_int (za6 I q (congrArg not zpd))
  |str j=>obtain⟨t',rfl⟩:=ry;exact PySem.EqMixed.ne_int_str (za6 I q (by simp))
  |_=>exact absurd (show false=true from hs) y0e
 |str i =>
  obtain⟨t,rfl⟩:=rx;cases y with
  |non=>cases ry;exact PySem.EqNone.ne_str_none (za6 I q (by simp))
  |bl j=>cases ry;exact PySem.EqMixed.ne_str_bool (za6 I q (by simp))
  |int j=>obtain⟨t',rfl⟩:=ry;exact PySem.EqMixed.ne_str_int (za6 I q (by simp))
  |str j=>obtain⟨t',rfl⟩:=ry;exact ne_str (za6 I q (congrArg not zpc))
  |_=>exact absurd (show false=true from hs) y0e
 |byt i =>
  obtain⟨t,rfl⟩:=rx;cases y with
  |byt j=>obtain⟨t',rfl⟩:=ry;exact PySem.W.ne_bytes (za6 I q (congrArg not zpe))
  |_=>exact absurd (show false=true from hs) y0e
 |_=>cases y<;>exact absurd (show false=true from hs) y0e
theorem zqv:OpR X (compareOp .Lt) (rI0 λi j=>.bl (decide (i<j))):=opB0 λ_ _ _ _ _ _ _ q=>lt_int q
theorem zwg:OpR X (compareOp .LtE) (rI0 λi j=>.bl (decide (i<=j))):=opB0 λ_ _ _ _ _ _ _ q=>le_int q
theorem zh4:OpR X (compareOp .Gt) (rI0 λi j=>.bl (decide (j<i))):=opB0 λ_ _ _ _ _ _ _ q=>gt_int q
theorem zh3:OpR X (compareOp .In) (λx y H Q=>∃i j,x=.str i/\y=.str j/\Q (.bl (!(Builtin.Str.occurrences j i 0 j.length 1).isEmpty)) H):=by
 infer_instance;obtain⟨i,j,rfl,rfl,q⟩:=h;obtain⟨t,rfl⟩:=rx;obtain⟨t',rfl⟩:=ry;exact in_str (za6 I q rfl)
theorem zwh:OpR X (compareOp .Is) (λx y H Q=>y=.non/\Q (.bl (decide (x=.non))) H):=by
 infer_instance;obtain⟨rfl,q⟩:=h;cases ry;refine is_none_gen (za6 I q ?_);cases x<;>first
  |(cases rx;rfl)
  |(obtain⟨t,rfl⟩:=rx;rfl)
theorem ztz:OpR X (compareOp .IsNot) (λx y H Q=>y=.non/\Q (.bl (!decide (x=.non))) H):=by
 infer_instance;obtain⟨rfl,q⟩:=h;cases ry;refine isnot_none_gen (za6 I q ?_);cases x<;>first
  |(cases rx;rfl)
  |(obtain⟨t,rfl⟩:=rx;rfl)
theorem nomark(b:Expr)(h:op ≠ .In:=by decide)(h2:op ≠ .NotIn:=by decide):behindInMarks op b=false:=by
 have e1:(op==CmpOp.In)=false:=by cases op<;>first|rfl|exact absurd rfl h
 have e2:(op==CmpOp.NotIn)=false:=by cases op<;>first|rfl|exact absurd rfl h2
 cases b<;>simp[behindInMarks,e1,e2]
theorem za8(ho:OpR X (compareOp op) r)(ha:PE X a ta)(hb:PE X b tb)(hm:behindInMarks op b=false):PE X (.Compare a [op] [b] pos) (tOp r ta tb):=by
 intro pins s σ H Q I h;exact wpAny_Compare1 (binT ha hb I h λv u s2 x y H2 I2 rx ry q=>ho pins s2 σ H2 x y v u Q I2 rx ry q) hm
def tTest(t:TE):TT:=λσ H Q=>t σ H λx H'=>∃k,x=.bl k/\Q k H'
theorem zam(ho:OpR X (compareOp op) r)(ha:PE X a ta)(hb:PE X b tb)(hm:behindInMarks op b=false):PT X (.Compare a [op] [b] pos) (tTest (tOp r ta tb)):=by
 intro pins s σ H Q I h;refine wpAny_isTrue_Compare1 (thn (ha pins s σ H _ I h) λv s1 zz=>ex5 zz λx H1 I1 r1 q1=>thn (hb pins s1 σ H1 _ I1 q1) λu s2 zz=>ex5 zz λy H2 I2 r2 q2 =>
  thn (ho pins s2 σ H2 x y v u _ I2 r1 r2 q2) λc s3 ⟨z,H3,I3,r3,k,e,q3⟩=>?_) hm
 subst e;cases r3;exact wpAny_truthy_bool ⟨H3,I3,q3⟩
def tChain(r r':R2)(ta tb tc:TE):TE:=λσ H Q=>ta σ H λx H1=>tb σ H1 λy H2=>r x y H2 λz H3=>∃k,z=.bl k/\
 (if k=true then tc σ H3 λw' H4=>r' y w' H4 Q else Q (.bl false) H3)
theorem zqp(ho:OpR X (compareOp op) r)(ho':OpR X (compareOp op') r')(ha:PE X a ta)(hb:PE X b tb)(hc:PE X c tc)
  (hm:lastMarks [op,op'] [b,c]=false:=by with_unfolding_all rfl):PE X (.Compare a [op,op'] [b,c] pos) (tChain r r' ta tb tc):=by
 intro pins s σ H Q I h;refine Compare_chain (thn (ha pins s σ H _ I h) λv s1 zz=>ex5 zz λx H1 I1 r1 q1=>chain_link (thn (hb pins s1 σ H1 _ I1 q1) λu s2 zz=>ex5 zz λy H2 I2 r2 q2 =>
  thn (ho pins s2 σ H2 x y v u _ I2 r1 r2 q2) λd s3 ⟨z,H3,I3,r3,k,e,q3⟩=>?_)) hm
 subst e;cases r3;refine wpAny_truthy_bool ?_;cases k with
 |false=>exact ite_ff ⟨.bl false,H3,I3,rfl,q3⟩
 |true=>exact ite_tt (chain_last (thn (hc pins s3 σ H3 _ I3 q3) λw' s4 zz=>ex5 zz λz' H4 I4 r4 q4=>ho' pins s4 σ H4 y z' u w' Q I4 r2 r4 q4))
theorem zqa(ho:OpR X (compareOp op) r)(ho':OpR X (compareOp op') r')(ha:PE X a ta)(hb:PE X b tb)(hc:PE X c tc)
  (hm:lastMarks [op,op'] [b,c]=false:=by with_unfolding_all rfl):PT X (.Compare a [op,op'] [b,c] pos) (tTest (tChain r r' ta tb tc)):=by
 intro pins s σ H Q I h;refine isTrue_chain (thn (ha pins s σ H _ I h) λv s1 zz=>ex5 zz λx H1 I1 r1 q1=>test_link (thn (hb pins s1 σ H1 _ I1 q1) λu s2 zz=>ex5 zz λy H2 I2 r2 q2 =>
  thn (ho pins s2 σ H2 x y v u _ I2 r1 r2 q2) λd s3 ⟨z,H3,I3,r3,k,e,q3⟩=>?_)) hm
 subst e;cases r3;refine wpAny_truthy_bool ?_;cases k with
 |false =>
  obtain⟨k',e',q'⟩:=q3;cases e';exact ite_ff ⟨H3,I3,q'⟩
 |true =>
  refine ite_tt (test_last (thn (hc pins s3 σ H3 _ I3 q3) λw' s4 zz=>ex5 zz λz' H4 I4 r4 q4=>thn (ho' pins s4 σ H4 y z' u w' _ I4 r2 r4 q4) λd' s5 zz=>ex5 zz λz2 H5 I5 r5 zq=>?_));obtain⟨k2,e2,q5⟩:=zq;subst e2;cases r5;exact wpAny_truthy_bool ⟨H5,I5,q5⟩
def TruV(K:Frag)(x:V)(H:Hp)(k:Bool):Prop :=
 match x with
 |.non=>k=false
 |.bl b=>k=b
 |.int i=>k=(i !=0)
 |.str y=>y.length<=sizeLine/\k=((y.length:Int) !=0)
 |.byt y=>y.size<=sizeLine/\k=((y.size:Int) !=0)
 |.ref p=>(∃xs,SqL K H p xs/\k=!xs.isEmpty)\/(∃xs,SqT K H p xs/\k=!xs.isEmpty)\/∃kvs,H p=some (.dK kvs)/\k=!kvs.isEmpty
 |_=>False
theorem zl4{κ:Type}{kvs:List (κ×V)}{vs:List (κ×Value)}(r:KV kvs vs):(!vs.isEmpty)=!kvs.isEmpty:=by
 cases r<;>rfl
theorem zf9(r:Vals xs its):(!its.toArray.isEmpty)=!xs.isEmpty:=by
 cases r<;>simp
theorem line63:(sizeLine:Nat)<2^63:=by rw[sizeLine_eq];decide
theorem zvo:TruR X (λx H Q=>∃k,TruV X.K x H k/\Q k H):=by
 intro pins s σ H x v Q I rx h;obtain⟨k,e,q⟩:=h;have hl:=line63;have hs:sizeLine=16777216:=sizeLine_eq;cases x with
 |non =>
  cases rx;have e':k=false:=e;subst e';exact truthy_none ⟨H,I,q⟩
 |bl b =>
  cases rx;have e':k=b:=e;subst e';exact wpAny_truthy_bool ⟨H,I,q⟩
 |int i =>
  obtain⟨t,rfl⟩:=rx;have e':k=(i !=0):=e;subst e';exact PySem.P.truthy_int ⟨H,I,q⟩
 |str y =>
  obtain⟨t,rfl⟩:=rx;obtain⟨hy,e'⟩:y.length<=sizeLine/\k=((y.length:Int) !=0):=e;subst e';exact PySem.P.truthy_str (by omega) ⟨H,I.tok _,q⟩
 |byt y =>
  obtain⟨t,rfl⟩:=rx;obtain⟨hy,e'⟩:y.size<=sizeLine/\k=((y.size:Int) !=0):=e;subst e';exact PySem.W.truthy_bytes (by omega) ⟨H,I.tok _,q⟩
 |ref p =>
  cases rx;have e':(∃xs,SqL X.K H p xs/\k=!xs.isEmpty)\/(∃xs,SqT X.K H p xs/\k=!xs.isEmpty)\/∃kvs,H p=some (.dK kvs)/\k=!kvs.isEmpty:=e;rcases e' with⟨xs,hx,e'⟩|⟨xs,hx,e'⟩|⟨kvs,hx,e'⟩
  ·subst e';obtain⟨its,r,pl,hz⟩:=I.list hx;have hlen:=r.length;exact wpAny_truthy_list pl.isList (by simp only[y03];omega) ⟨H,I.tok _,by rw[zf9 r];exact q⟩
  ·subst e';obtain⟨its,r,pl,hz⟩:=I.tuple hx;have hlen:=r.length;exact truthy_tuple pl (by simp only[y03];omega) ⟨H,I.tok _,by rw[zf9 r];exact q⟩
  ·subst e';obtain⟨hz,hS,vs,r,m⟩:kvs.length<=sizeLine/\(p==sysModules)=false/\∃vs,KV kvs vs/\s.heap.DictOf (mixKind X.prog X.w) p vs:=I.hok p _ hx;have hlen:kvs.length=vs.length:=Paired.length r;exact wpAny_truthy_dict hS m (by omega) ⟨H,I.tok _,by rw[zl4 r];exact q⟩
 |_=>exact(show False from e).elim
theorem zgu(ha:PE X a ta)(he:∀whole,isTrue a X.env whole=(do let v ←whole;standAt a.pos;holding [v] (truthy v))):
  PT X a (λσ H Q=>ta σ H λx H'=>∃k,TruV X.K x H' k/\Q k H'):=by
 intro pins s σ H Q I h;exact isTrue_plain (thn (ha pins s σ H _ I h) λv s1 zz=>ex5 zz λx H1 I1 r1 q1=>zvo pins s1 σ H1 x v Q I1 r1 q1) (he _)
theorem zf0:OpR X (binaryOp .Add) (λx y H Q=>∃i j,x=.str i/\y=.str j/\i.length+j.length<=sizeLine/\Q (.str (i++j)) H):=by
 infer_instance;obtain⟨i,j,rfl,rfl,hz,q⟩:=h;obtain⟨t,rfl⟩:=rx;obtain⟨t',rfl⟩:=ry;exact add_str (λt' tk=>⟨.str (i++j),H,I.tok _,⟨_,rfl⟩,q⟩) hz
theorem vals1(r:Vals [x] us):∃u,us=[u]/\RelV x u:=by
 cases r with
 |cons r1 r2=>cases r2;exact⟨_,rfl,r1⟩
theorem vals2(r:Vals [x,y] us):∃u w',us=[u,w']/\RelV x u/\RelV y w':=by
 cases r with
 |cons r1 r2 =>
  cases r2 with
  |cons r3 r4=>cases r4;exact⟨_,_,rfl,r1,r3⟩
end
structure ObjM(h:Heap)(x dx C:Addr)(mA:Y1):Prop where
 obj:h.get? x=some (PySem.W.instObj C dx)
 ns:h.Ns1 dx mA
 ne:dx≠x
theorem zom{h:Heap}(n:h.Ns1 dx mA):∃od,h.get? dx=some od/\∀name,PySem.W.lookIn name od=some (mA name):=by
 obtain⟨o,es,ep,ho,hd,hk,_,hm⟩:=n;refine⟨o,ho,λname=>?_⟩;have e:=hm name;unfold nsFind findBy at e;rw[←Array.find?_toList]at e;unfold PySem.W.lookIn;rw[hd];dsimp only;split
 ·rename_i y q;rw[q]at e;exact congrArg some e
 ·rename_i q;rw[q]at e;have a:es.toList.any (·.refKey)=false:=by
   rw[List.any_eq_false];intro y hy;obtain⟨z,t,hkey⟩:=hk y (Array.mem_toList_iff.mp hy);simp[DictEntry.refKey,hkey]
  have a':¬es.toList.any (·.refKey)=true:=by rw[a];exact y0e
  rw[if_neg a'];exact congrArg some e
theorem ObjM.look(I:ObjM h x dx C mA):∃od,PySem.W.InstAt h x (PySem.W.instObj C dx) C (some od)/\∀name,PySem.W.lookIn name od=some (mA name) :=
 let⟨od,ho,hl⟩:=zom I.ns
 ⟨od,⟨I.obj,rfl,rfl,ho⟩,hl⟩
section
variable {prog:Program}{w:World}{A:Around}{E:Y0}{s:Shared}{K:Frag}{x dx C f:Addr}{mA:Y1}{name:Str}{v:Value}
theorem zu0(X:K.In s.heap)(I:ObjM s.heap x dx C mA)(hg:PySem.W.plainGet K C name=true)(hh:PySem.W.hasDictIn K C=true)
  (ha:PySem.W.findIn K (.ref C) name=some none) (hv:mA name=some v) (hv':PySem.W.handedIn v=true) (h:Q v {s with toks:=s.toks+1}) :
  wpAny (model prog w) A (getAttr (.ref x) name expr) Q E s:=by
 obtain⟨od,J,hl⟩:=I.look;exact PySem.W.get_value X J (PySem.W.plainGet_of hg).1 (PySem.W.findObj_own hh ha rfl (by rw[hl,hv])) hv' h
theorem zrm(X:K.In s.heap)(I:ObjM s.heap x dx C mA)(hg:PySem.W.plainGet K C name=true)
  (hf:PySem.W.findIn K (.ref C) name=some (some (.ref f))) (ht:PySem.W.isFn K (.ref f)=true) (hv:mA name=none) (h:Q (.ref f,[.ref x]) s) :
  wpAny (model prog w) A (getMethod (.ref x) name pl) Q E s:=by
 obtain⟨od,J,hl⟩:=I.look;exact PySem.W.method_fn X J (PySem.W.plainGet_of hg).1 (PySem.W.plainGet_of hg).2 hf (beq_iff_eq.mp ht) (by show(PySem.W.lookIn name od).map (·.isSome)=some false;rw[hl,hv];rfl) h
theorem zte(X:K.In s.heap)(I:ObjM s.heap x dx C mA)
  (hs:PySem.W.findIn K (.ref C) "__setattr__"=some (some (.builtin "object.__setattr__"))) (hp:PySem.W.plainOver K C=true) (ht:PySem.W.takerIn K C name=some none) (hh:PySem.W.hasDictIn K C=true)
  (hw:PySem.Within mA ns) (hsz:ns.length<=sizeLine)
  (h:∀h',ObjM h' x dx C (λy=>if y=name then some v else mA y)->Heap.SameBut dx s.heap h'->Q () {s with heap:=h',toks:=s.toks+2}) :
  wpAny (model prog w) A (setAttr (.ref x) name v) Q E s:=by
 obtain⟨od,J,hl⟩:=I.look;refine PySem.W.set_plain X J hs (PySem.W.osa_open (s:={s with toks:=s.toks+1}) (r:=none) X J hp ht λb=>?_);obtain⟨cd,hc,hd'⟩:=PySem.W.any_some hh;have hx:s.heap.get? x=some ⟨.ref C,some dx,.plain,#[]⟩:=I.obj;refine wpAny_bind (wpAny_pure (wpAny_bind (wpAny_bind (wpAny_loadPart hx (wpAny_bind (PySem.W.Looks.here (s:={s with toks:=s.toks+1}) (PySem.W.looks_clsIn X hc) ?_))))));rw[hd'];refine wpAny_pure (a:=some dx) (wpAny_bind (wpAny_pure (wpAny_bind ?_)));refine wpAny_nsSet1 (s:={s with toks:=s.toks+1}) I.ns λh' hn2 hs2=>?_;obtain⟨oD,esD,epD,hoD,hdD,hcD⟩:=hn2.count (PySem.Within.cons name v hw);refine wpAny_bind (wpAny_lookBehind hoD (by rw[hdD];exact pastItsLine_dict (y15 hcD (by rw[y0a];omega))) ?_);exact wpAny_pure (h _ ⟨(hs2.2 _ (Ne.symm I.ne)).trans I.obj,hn2,I.ne⟩ hs2)
theorem zrg(X:K.In s.heap)(hm:PySem.W.makesIn K C=true)
  (hi:PySem.W.findIn K (.ref C) "__init__"=some (some (.ref f))) (hf:PySem.W.typeIn K (.ref f)=some (.type "function"))
  (h:codeAny (model prog w) (A.under (.builtin "type.__call__" ⟨.ref C::vs,kw⟩)) (.call (.ref f) ⟨.ref (s.heap.objs.size+1)::vs,kw⟩) (PySem.W.InitBack (s.heap.objs.size+1) R)
   {s with heap:=(s.heap.push PySem.W.emptyDict).push (PySem.W.instObj C s.heap.objs.size)}) :
  codeAny (model prog w) A (.call (.ref C) ⟨vs,kw⟩) R s:=by
 obtain⟨hh,g,d,t,os⟩:=s;exact PySem.W.make_core (PySem.W.makes_of X hm) (PySem.W.looks_findIn X hi) (λself=>PySem.W.bind_fn X self hf) (.inl rfl) h
end
def putF(f:Str)(v:V):List (Str×V)->List (Str×V)
 |[]=>[(f,v)]
 |(g,x)::r=>if g=f then(g,v)::r else(g,x)::putF f v r
theorem ze1(f g:Str)(v:V):∀fs:List (Str×V),(putF f v fs).lookup g=if g=f then some v else fs.lookup g
 |[]=>by
  show List.lookup g [(f,v)]=_;by_cases h:g=f
  ·have hb:(g==f)=true:=beq_iff_eq.mpr h;simp only[List.lookup,hb,if_pos h]
  ·have hb:(g==f)=false:=beq_eq_false_iff_ne.mpr h;simp only[List.lookup,hb,if_neg h]
 |(k,x)::r=>by
  have ih:=ze1 f g v r;rw[show putF f v ((k,x)::r)=(if k=f then(k,v)::r else(k,x)::putF f v r)from rfl];by_cases hk:k=f
  ·rw[if_pos hk];by_cases h:g=k
   ·have hb:(g==k)=true:=beq_iff_eq.mpr h;simp only[List.lookup,hb,if_pos (h.trans hk)]
   ·have hb:(g==k)=false:=beq_eq_false_iff_ne.mpr h;simp only[List.lookup,hb,if_neg (λe:g=f=>h (e.trans hk.symm))]
  ·rw[if_neg hk];by_cases h:g=k
   ·have hb:(g==k)=true:=beq_iff_eq.mpr h;simp only[List.lookup,hb,if_neg (λe:g=f=>hk (h.symm.trans e))]
   ·have hb:(g==k)=false:=beq_eq_false_iff_ne.mpr h;simp only[List.lookup,hb];exact ih
theorem ze3(f:Str)(v:V):∀fs:List (Str×V),f∈(putF f v fs).map (·.1)/\∀g,g∈fs.map (·.1)->g∈(putF f v fs).map (·.1)
 |[]=>⟨by simp[putF],λg h=>by simp at h⟩
 |(k,x)::r=>by
  obtain⟨i1,i2⟩:=ze3 f v r;rw[show putF f v ((k,x)::r)=(if k=f then(k,v)::r else(k,x)::putF f v r)from rfl];by_cases hk:k=f
  ·rw[if_pos hk];subst hk;exact⟨by simp,λg h=>by simpa using h⟩
  ·rw[if_neg hk];refine⟨?_,λg h=>?_⟩
   ·rw[y0k];exact y09 _ i1
   ·rw[y0k]at h ⊢;rcases y02.mp h with e|e
    ·exact y02.mpr (.inl e)
    ·exact y09 _ (i2 g e)
theorem zb4(f:Str)(v:V):∀fs:List (Str×V),(putF f v fs).length<=fs.length+1
 |[]=>by simp[putF]
 |(k,x)::r=>by
  have ih:=zb4 f v r;rw[show putF f v ((k,x)::r)=(if k=f then(k,v)::r else(k,x)::putF f v r)from rfl];by_cases hk:k=f
  ·rw[if_pos hk,y0a,y0a];omega
  ·rw[if_neg hk,y0a,y0a];omega
theorem RelO.some_of(r:RelO (some v) o):∃u,o=some u/\RelV v u:=by
 cases o with
 |none=>exact(show False from r).elim
 |some u=>exact⟨u,rfl,r⟩
theorem RelO.none_of(r:RelO none o):o=none:=by
 cases o with
 |none=>rfl
 |some u=>exact(show False from r).elim
theorem zo0(r:RelV v u):PySem.W.handedIn u=true:=by
 cases v with
 |non=>cases(show u=Value.none from r);rfl
 |bl b=>cases(show u=Value.bool b from r);rfl
 |int i=>obtain⟨t,e⟩:=(show∃t,u=Value.int i t from r);cases e;rfl
 |str x=>obtain⟨t,e⟩:=(show∃t,u=Value.str x t from r);cases e;rfl
 |byt b=>obtain⟨t,e⟩:=(show∃t,u=Value.bytes b t from r);cases e;rfl
 |flt b=>obtain⟨t,e⟩:=(show∃t,u=Value.float b t from r);cases e;rfl
 |ref a=>cases(show u=Value.ref a from r);rfl
 |ty n=>cases(show u=Value.type n from r);rfl
section
variable {P:Program}{w:World}{H H':Hp}{h h':Heap}{a C dx:Addr}{fs fs':List (Str×V)}
theorem zg0(hok:HOk P w H h)(e:H a=some (.ins C dx fs)):∃mA,ObjM h a dx C mA/\(∀f,RelO (fs.lookup f) (mA f))/\PySem.Within mA (fs.map (·.1))/\fs.length<=1000/\H dx=some (.own a):=by
 obtain⟨d,z,ne,ob,mA,n,r,q⟩:=(show ObjOk P w H h a (.ins C dx fs)from hok a _ e);exact⟨mA,⟨ob,n,ne⟩,r,q,z,d⟩
end
structure Cls(K:Frag)(C:Addr):Prop where
 pg:PySem.W.plainGet K C Str.empty=true
 hd:PySem.W.hasDictIn K C=true
 po:PySem.W.plainOver K C=true
 sa:PySem.W.findIn K (.ref C) "__setattr__"=some (some (.builtin "object.__setattr__"))
theorem Cls.get{K:Frag}{C:Addr}(c:Cls K C)(f:Str):PySem.W.plainGet K C f=true:=c.pg
def NoAttr(K:Frag)(C:Addr)(f:Str):Prop:=PySem.W.findIn K (.ref C) f=some none
theorem NoAttr.taker{K:Frag}{C:Addr}{f:Str}(n:NoAttr K C f):PySem.W.takerIn K C f=some none:=by
 unfold PySem.W.takerIn;rw[show PySem.W.findIn K (.ref C) f=some none from n];rfl
structure Meth(K:Frag)(C:Addr)(m:Str)(f:Addr):Prop where
 at_:PySem.W.findIn K (.ref C) m=some (some (.ref f))
 fn:PySem.W.isFn K (.ref f)=true
 kp:PySem.W.keepIn K (.ref f)=true
section
variable {X:Cx}{pins:Y2}{σ:St}{H:Hp}{s:Shared}{a C dx:Addr}{fs:List (Str×V)}{f:Str}{v:V}{A:Around}{E:Y0}
theorem zl9(I:Inv X pins σ H s)(e:H a=some (.ins C dx fs))(c:Cls X.K C)(n:NoAttr X.K C f)(l:fs.lookup f=some v)
  (h:∀u s',Inv X pins σ H s'->RelV v u->Q u s'):wpAny (model X.prog X.w) A (getAttr (.ref a) f b) Q E s:=by
 obtain⟨mA,O,r,_,_,_⟩:=zg0 I.hok e;obtain⟨u,hu,ru⟩:=RelO.some_of (v:=v) (o:=mA f) (by rw[←l];exact r f);exact zu0 I.kIn O (c.get f) c.hd n hu (zo0 ru) (h u _ (I.tok _) ru)
theorem zl8(I:Inv X pins σ H s)(e:H a=some (.ins C dx fs))(c:Cls X.K C)(k:Meth X.K C m g)(l:fs.lookup m=none)
  (h:Q (.ref g,[.ref a]) s):wpAny (model X.prog X.w) A (getMethod (.ref a) m pl) Q E s:=by
 obtain⟨mA,O,r,_,_,_⟩:=zg0 I.hok e;have hn:mA m=none:=RelO.none_of (by rw[←l];exact r m);exact zrm I.kIn O (c.get m) k.at_ k.fn hn h
theorem zli(I:Inv X pins σ H s)(e:H a=some (.ins C dx fs))(c:Cls X.K C)(n:NoAttr X.K C f)(hl:fs.length<1000)(ry:RelV y u)
  (h:∀s',Inv X pins σ (upd H a (.ins C dx (putF f y fs))) s'->Q () s'):wpAny (model X.prog X.w) A (setAttr (.ref a) f u) Q E s:=by
 obtain⟨mA,O,r,wi,_,ho⟩:=zg0 I.hok e;have hz:(fs.map (·.1)).length<=sizeLine:=by rw[y00,sizeLine_eq];omega
 refine zte I.kIn O c.sa c.po n.taker c.hd wi hz λh' O' sb=>h _ ?_;have hd:∃o,h'.get? dx=some o:=let⟨o,_,_,e',_⟩:=O'.ns;⟨o,e'⟩;refine I.write (x:=a) (e:=dx) (by rw[e];exact True.intro) (.inr ho) (λb q hb z=>(sb.2 b hb).trans z) hd ?_;refine⟨by rw[zan O.ne];exact ho,?_,O.ne,O'.obj,_,O'.ns,λg=>?_,λg hg=>?_⟩
 ·have:=zb4 f y fs;omega
 ·show RelO ((putF f y fs).lookup g) (if g=f then some u else mA g);rw[ze1];by_cases q:g=f
  ·rw[if_pos q,if_pos q];exact ry
  ·rw[if_neg q,if_neg q];exact r g
 ·by_cases q:g=f
  ·rw[q];exact(ze3 f y fs).1
  ·refine(ze3 f y fs).2 g (wi g λz=>hg ?_);show(if g=f then some u else mA g)=none;rw[if_neg q];exact z
theorem Inv.made(I:Inv X pins σ H s):Inv X pins σ (upd (upd H s.heap.objs.size (.own (s.heap.objs.size+1))) (s.heap.objs.size+1) (.ins C s.heap.objs.size []))
  {s with heap:=(s.heap.push PySem.W.emptyDict).push (PySem.W.instObj C s.heap.objs.size)}:=by
 have e1:(s.heap.push PySem.W.emptyDict).get? s.heap.objs.size=some PySem.W.emptyDict:=y0b s.heap rfl;have e2:((s.heap.push PySem.W.emptyDict).push (PySem.W.instObj C s.heap.objs.size)).get? (s.heap.objs.size+1)=some (PySem.W.instObj C s.heap.objs.size):=by
  have:=y0b (s.heap.push PySem.W.emptyDict) (o:=PySem.W.instObj C s.heap.objs.size) rfl;rwa[y0v]at this
 have e3:(s.heap.push PySem.W.emptyDict).Ns s.heap.objs.size (λ_=>none):=⟨PySem.W.emptyDict,#[],_,e1,rfl,(λe he=>absurd he (by simp)),λ_=>rfl⟩;have I1:=I.laid (a:=s.heap.objs.size) (o:=.own (s.heap.objs.size+1)) (h':=s.heap.push PySem.W.emptyDict) (t':=s.toks) (λb u q=>y01 _ q) (y04 _) ⟨_,e1⟩;refine I1.laid (a:=s.heap.objs.size+1) (o:=.ins C s.heap.objs.size []) (t':=s.toks) (λb u q=>y01 _ q) (y3c (y0v _ _)) ?_;have ne:s.heap.objs.size≠s.heap.objs.size+1:=y0h (y1g _);refine⟨by rw[zan ne,zao],y10 _,ne,e2,λ_=>none,(Heap.Ns1.of_empty e3).at λo q=>y01 _ q,λ_=>True.intro,λy hy=>absurd rfl hy⟩
theorem zvj(hb:attributeBase e f env (eval e env)=eval e env)
  (h:wpAny (model prog w) A (eval e env) (λo s₁=>wpAny (model prog w) A (getAttr o f true) Q E s₁) E s):wpAny (model prog w) A (eval (.Attribute e f pos) env) Q E s :=
 Attribute_any_ h (by rw[arm_eval_Attribute,hb])
end
def tFld(K:Frag)(ta:TE)(f:Str):TE:=λσ H Q=>ta σ H λx H1=>∃a,x=.ref a/\∃C dx fs,H1 a=some (.ins C dx fs)/\Cls K C/\NoAttr K C f/\∃v,fs.lookup f=some v/\Q v H1
def sFld(K:Frag)(ta tv:TE)(f:Str):TS:=λD σ H=>tv σ H λy H1=>ta σ H1 λx H2=>∃a C dx fs,x=.ref a/\H2 a=some (.ins C dx fs)/\Cls K C/\NoAttr K C f/\fs.length<1000/\
 D.nx σ (upd H2 a (.ins C dx (putF f y fs)))
section
variable {X:Cx}{o e value:Expr}{f:Str}{pos pos' tpos:Pos}{ta tv:TE}
theorem zbo(he:PE X e ta)(hb:attributeBase e f X.env (eval e X.env)=eval e X.env):PE X (.Attribute e f pos) (tFld X.K ta f):=by
 intro pins s σ H Q I h;refine zvj hb (thn (he pins s σ H _ I h) λu s1 zz=>ex5 zz λx H1 I1 rx zq=>?_);obtain⟨a,ex,C,dx,fs,ea,c,n,v,l,q⟩:=zq;subst ex;obtain rfl:u=Value.ref a:=rx;exact zl9 I1 ea c n l λu' s2 I2 ru=>⟨v,H1,I2,ru,q⟩
theorem zkm(ha:PE X o ta)(hv:PE X value tv)(hs:swapsWith value (some (.Attribute o f pos')) pos.line X.env=pure false):PS X (.Assign [.Attribute o f pos'] value pos) (sFld X.K ta tv f):=by
 intro pins s σ H D I h;refine plainObj_wpAny_Assign_Attribute (thn (hv pins s σ H _ I h) λu s1 zz=>ex5 zz λy H1 I1 ry q=>thn (ha pins s1 σ H1 _ I1 q) λov s2 ⟨x,H2,I2,rx,a,C,dx,fs,ex,ea,c,n,l,q2⟩=>?_) hs;subst ex;obtain rfl:ov=Value.ref a:=rx;exact zli I2 ea c n l ry λs3 I3=>⟨σ,_,I3,q2⟩
end
section
variable {X:Cx}{pins:Y2}{σ:St}{H:Hp}{s:Shared}{A:Around}{E:Y0}{Q:Y0}{c:Value}{b:Bool}
inductive TyOf(K:Frag)(H:Hp):V->Value->Prop where
 |non:TyOf K H .non (.type "NoneType")
 |bl (x:Bool):TyOf K H (.bl x) (.type "bool")
 |int (i:Int):TyOf K H (.int i) (.type "int")
 |str (x:Str):TyOf K H (.str x) (.type "str")
 |flt (x:UInt64):TyOf K H (.flt x) (.type "float")
 |lst {a:Addr} {xs:List V} (e:H a=some (.lst xs)):TyOf K H (.ref a) (.type "list")
 |frz {a:Addr} {o:Obj} {xs:List V} (e:H a=some (.frz o (.lst xs))):TyOf K H (.ref a) (.type "list")
 |tup {a:Addr} {xs:List V} (e:H a=some (.tup xs)):TyOf K H (.ref a) (.type "tuple")
 |dK {a:Addr} {kvs:List (Key×V)} (e:H a=some (.dK kvs)):TyOf K H (.ref a) (.type "dict")
 |dT {a:Addr} {kvs:List (List Key×V)} (e:H a=some (.dT kvs)):TyOf K H (.ref a) (.type "dict")
 |ins {a C dx:Addr} {fs:List (Str×V)} (e:H a=some (.ins C dx fs)) (cl:Cls K C) (ha:PySem.W.findIn K (.ref C) "__class__"=some (some (.builtin "object.__class__")))
   (hn:PySem.W.specialIn K (.builtin "object.__class__") "__get__"=some (some (.builtin "getset_descriptor.__get__"))) (htk:PySem.W.takesIn K (.builtin "object.__class__")=some true)
   (hm:PySem.W.mroIn K C (.type "object")=some true):TyOf K H (.ref a) (.ref C)
theorem zot(I:Inv X pins σ H s)(rx:RelV x u)(ty:TyOf X.K H x t)(e:PySem.W.kitOne X.K t c=some b)(h:∀tk,Q (.bool b) {s with toks:=tk}):
  wpAny (model X.prog X.w) A (call (.builtin "isinstance") [u,c]) Q E s:=by
 cases ty with
 |non=>cases(show u=Value.none from rx);exact PySem.W.kia_one PySem.W.kitx_none I.kIn True.intro e (λz=>nomatch z) h
 |bl y=>cases(show u=Value.bool y from rx);exact PySem.W.kia_one PySem.W.kitx_bool I.kIn True.intro e (λz=>nomatch z) h
 |int i=>obtain⟨t,q⟩:=(show∃t,u=Value.int i t from rx);cases q;exact PySem.W.kia_one PySem.W.kitx_int I.kIn True.intro e (λz=>nomatch z) h
 |str y=>obtain⟨t,q⟩:=(show∃t,u=Value.str y t from rx);cases q;exact PySem.W.kia_one PySem.W.kitx_str I.kIn True.intro e (λz=>nomatch z) h
 |flt y=>obtain⟨t,q⟩:=(show∃t,u=Value.float y t from rx);cases q;exact PySem.W.kia_one PySem.W.kitx_float I.kIn True.intro e (λz=>nomatch z) h
 |@lst a xs ea =>
  cases(show u=Value.ref a from rx);obtain⟨_,_,n,_,h1⟩:=(show ObjOk X.prog X.w H s.heap a (.lst xs)from I.hok a _ ea);exact PySem.W.kia_one PySem.W.kitx_list I.kIn ⟨_,h1,rfl⟩ e (λz=>nomatch z) h
 |@frz a ob xs ea =>
  cases(show u=Value.ref a from rx);obtain⟨_,_,_,n,_,h1⟩:=(show ObjOk X.prog X.w H s.heap a (.frz ob (.lst xs))from I.hok a _ ea);exact PySem.W.kia_one PySem.W.kitx_list I.kIn ⟨_,h1,rfl⟩ e (λz=>nomatch z) h
 |@tup a xs ea =>
  cases(show u=Value.ref a from rx);obtain⟨_,_,_,p⟩:=(show ObjOk X.prog X.w H s.heap a (.tup xs)from I.hok a _ ea);obtain⟨o,h1,h2,_⟩:=p;exact PySem.W.kia_one PySem.W.kitx_tuple I.kIn ⟨o,h1,h2⟩ e (λz=>nomatch z) h
 |@dK a kvs ea =>
  cases(show u=Value.ref a from rx);obtain⟨_,_,vs,_,p⟩:=(show ObjOk X.prog X.w H s.heap a (.dK kvs)from I.hok a _ ea);obtain⟨o,es,ep,h1,h2,_⟩:=p;exact PySem.W.kia_one PySem.W.kitx_dict I.kIn ⟨o,h1,h2.1⟩ e (λz=>nomatch z) h
 |@dT a kvs ea =>
  cases(show u=Value.ref a from rx);obtain⟨_,_,xs,_,o,es,ep,h1,h2,_⟩:=(show ObjOk X.prog X.w H s.heap a (.dT kvs)from I.hok a _ ea);exact PySem.W.kia_one PySem.W.kitx_dict I.kIn ⟨o,h1,h2.1⟩ e (λz=>nomatch z) h
 |@ins a C dx fs ea cl ha hn htk hm =>
  cases(show u=Value.ref a from rx);obtain⟨mA,O,_⟩:=zg0 I.hok ea;obtain⟨od,J,_⟩:=O.look;exact PySem.W.kia_one (PySem.W.kitx_own (cl.get _) cl.hd ha hn htk hm) I.kIn J e (λz=>nomatch z) h
end
structure Room(k:Nat)(A:Around):Prop where
 hd:A.handled=none
 dp:A.depth+3*k+5<recursionLimit
 un:A.units+16*k+200<cLine
theorem Room.mono(r:Room k A)(h:j<=k):Room j A:=⟨r.hd,by have:=r.dp;omega,by have:=r.un;omega⟩
theorem Room.deeper(r:Room (k+1) A)(env:Env):Room k (A.deeper env) :=
 ⟨r.hd,by have:=r.dp;show A.depth+1+3*k+5<_;omega,by have:=r.un;show A.units+3+16*k+200<_;omega⟩
theorem zl1{A:Around}:(A.under (.builtin "type.__call__" ⟨.ref C::us,kw⟩)).depth=A.depth+1:=by
 first|rfl|simp[Around.under,Code.weight,Code.isCreation,Code.isGuard,Code.isCaller,Code.frames,Code.isFrame,guardIds]
theorem zl0{A:Around}:(A.under (.builtin "type.__call__" ⟨.ref C::us,kw⟩)).units=A.units+1:=by
 first|rfl|simp[Around.under,Code.cUnits,Code.frames,Code.isFrame]
theorem Room.make(r:Room (k+1) A)(C:Addr)(us:List Value)(kw:List (Str×Value)):Room k (A.under (.builtin "type.__call__" ⟨.ref C::us,kw⟩)) :=
 ⟨r.hd,by have:=r.dp;rw[zl1];omega,by have:=r.un;rw[zl0];omega⟩
theorem Room.depth(r:Room k A):A.depth<recursionLimit:=by have:=r.dp;omega
theorem Room.units(r:Room k A):A.units+64<cLine:=by have:=r.un;omega
def tNil:TA:=λ_ H Q=>Q [] H
def tCons(ta:TE)(tr:TA):TA:=λσ H Q=>ta σ H λx H1=>tr σ H1 λxs H2=>Q (x::xs) H2
section
variable {X:Cx}{e:Expr}{es:List Expr}{te:TE}{t:TA}{pos:Pos}
theorem zaa:PA X [] tNil:=λ_ _ _ _ H Q I h=>Calls.spliced_nil ⟨[],H,I,.nil,h⟩
theorem ztx(ha:PE X e te)(hr:PA X es t)(hs:starEach (e::es) X.env=(false,eval e X.env)::starEach es X.env:=by rfl):PA X (e::es) (tCons te t):=by
 intro pos pins s σ H Q I h;rw[hs];show wpAny _ _ (spliced ((false,eval e X.env)::backTo pos (starEach es X.env))) _ _ s;refine Calls.spliced_cons (thn (ha pins s σ H _ I h) λu s1 zz=>ex5 zz λx H1 I1 r1 q1=>?_);exact thn (hr pos pins s1 σ H1 _ I1 q1) λus s2 zz=>ex5 zz λxs H2 I2 r2 q2=>⟨x::xs,H2,I2,.cons r1 r2,q2⟩
def tTup(t:TA):TE:=λσ H Q=>t σ H λxs H1=>xs.length<=sizeLine/\∀p,H1 p=none->Q (.ref p) (upd H1 p (.tup xs))
def tLst(t:TA):TE:=λσ H Q=>t σ H λxs H1=>xs.length<=sizeLine/\∀p,H1 p=none->Q (.ref p) (upd H1 p (.lst xs))
end
abbrev Sp:=List V->Hp->VK->XK->Prop
abbrev CXT:=List Env->Hp->Shared->XK->Value->Shared->Prop
structure Env0(P:Program)(w:World)(K:Frag)(mg:Y1)(base:Heap)(A:Around)(outer:List Env)(s:Shared)(H:Hp):Prop where
 frames:A.frames=some outer
 mod:Mod K mg base
 bs:∀b o,base.get? b=some o->s.heap.get? b=some o/\H b=none
 bsz:base.objs.size<=s.heap.objs.size
 funs:s.heap.FunFrames base outer
 frf:∀b∈frs outer,H b=none
 hok:HOk P w H s.heap
 bare:AllBare s.gens
def CE(outer:List Env)(P:Program)(w:World)(H:Hp)(s:Shared)(Q:VK)(u:Value)(s':Shared):Prop :=
 ∃v H',s'.os=s.os/\AllBare s'.gens/\Un (frs outer) [] H H' s.heap s'.heap/\HOk P w H' s'.heap/\RelV v u/\Q v H'
def CR(CX:CXT)(outer:List Env)(P:Program)(w:World)(H:Hp)(s:Shared)(Q:VK)(E:XK)(r:Result)(s':Shared):Prop :=
 match r with
 |.ok (.ret u)=>CE outer P w H s Q u s'
 |.ok _=>False
 |.error e=>CX outer H s E e s'
structure FnOk(P:Program)(w:World)(K:Frag)(mg:Y1)(base:Heap)(CX:CXT)(k:Nat)(f:Addr)(fd:FuncData)(ps:List Str)(sp:Sp):Prop where
 len:∀vs H Q E,sp vs H Q E->vs.length=ps.length
 run:∀(A:Around) (outer:List Env) (s:Shared) (H:Hp) (args:Args) (us:List Value) (vs:List V) (Q:VK) (E:XK),Room k A->Env0 P w K mg base A outer s H->BindsTo s fd args (ps.zip us)->Vals vs us->sp vs H Q E->
  codeAny (model P w) A (.call (.ref f) args) (CR CX outer P w H s Q E) s
theorem FnOk.mono{P:Program}{w:World}{K:Frag}{mg:Y1}{base:Heap}{CX:CXT}{j k:Nat}{f:Addr}{fd:FuncData}{ps:List Str}{sp:Sp}(F:FnOk P w K mg base CX j f fd ps sp)(h:j<=k):
  FnOk P w K mg base CX k f fd ps sp:=⟨F.len,λA outer s H args us vs Q E hr=>F.run A outer s H args us vs Q E (hr.mono h)⟩
theorem Env0.make{P:Program}{w:World}{K:Frag}{mg:Y1}{base:Heap}{A:Around}{outer:List Env}{s:Shared}{H:Hp}(e:Env0 P w K mg base A outer s H)(C:Addr)(us:List Value)(kw:List (Str×Value)):
  Env0 P w K mg base (A.under (.builtin "type.__call__" ⟨.ref C::us,kw⟩)) outer s H:=⟨by first|exact e.frames|(simpa[Around.under,Code.envs,Code.isFrame,pushEnvs]using e.frames),e.mod,e.bs,e.bsz,e.funs,e.frf,e.hok,e.bare⟩
section
variable {X:Cx}{pins:Y2}{σ:St}{H:Hp}{s s':Shared}
theorem Inv.env0(I:Inv X pins σ H s):Env0 X.prog X.w X.K X.mg X.base X.A X.stack s H :=
 ⟨I.ok.frames,I.ok.mod,I.bs,y15 I.ok.bsz I.sz,I.stack,I.stkFree,I.hok,I.bare⟩
theorem Inv.after(I:Inv X pins σ H s)(h:CE X.stack X.prog X.w H s Q u s'):EP X pins σ Q u s':=by
 obtain⟨v,H',os,bare,un,hok,r,q⟩:=h;obtain⟨hh,g,d,t,os'⟩:=s';obtain rfl:os'=s.os:=os;exact⟨v,H',I.call (h':=hh) (g':=g) (d':=d) (t':=t) (ch:=[]) un hok bare (λb z=>absurd z (by simp)),r,q⟩
end
def tCall(sp:Sp)(dvs:List V)(E:XK)(t:TA):TE:=λσ H Q=>t σ H λvs H1=>sp (vs++dvs) H1 Q E
def tMeth(C:Addr)(m:Str)(sp:Sp)(dvs:List V)(E:XK)(ta:TE)(t:TA):TE:=λσ H Q=>ta σ H λx H1=>∃a,x=.ref a/\∃dx fs,H1 a=some (.ins C dx fs)/\fs.lookup m=none/\
 t σ H1 λvs H2=>sp (x::(vs++dvs)) H2 Q E
def tMake(C:Addr)(sp:Sp)(dvs:List V)(E:XK)(t:TA):TE:=λσ H Q=>t σ H λvs H1=>∀x dx,H1 x=none->H1 dx=none->dx≠x->
 sp (.ref x::(vs++dvs)) (upd (upd H1 dx (.own x)) x (.ins C dx [])) (λv H2=>v=.non/\Q (.ref x) H2) E
def Binds(K:Frag)(fd:FuncData)(ps:List Str)(ds:List Value):Prop :=
 ∀(s:Shared) (us:List Value),K.In s.heap->(us++ds).length=ps.length->BindsTo s fd ⟨us,[]⟩ (ps.zip (us++ds))
theorem Binds.all{K:Frag}{fd:FuncData}{ps:List Str}(h:∀us:List Value,us.length=ps.length->bindArgs fd ⟨us,[]⟩=pure (ps.zip us)):Binds K fd ps []:=λs us _ hl=>by
 rw[y1a]at hl ⊢;exact .of_eq (h us hl)
def Passes(CX:CXT)(X:Cx)(E:XK):Prop:=∀(pins:Y2) (σ:St) (H:Hp) (s:Shared) (e:Value) (s':Shared),Inv X pins σ H s->CX X.stack H s E e s'->X.xe e s'
section
variable {X:Cx}{CX:CXT}{k:Nat}{f C:Addr}{fd:FuncData}{ps:List Str}{sp:Sp}{dvs:List V}{ds:List Value}{E:XK}{x m:Str}{p pos apos:Pos}{e o:Expr}{es:List Expr}{ta:TE}{t:TA}
theorem znb{pins:Y2}{σ:St}{H:Hp}{s:Shared}{Q:VK}{us:List Value}{vs:List V}(F:FnOk X.prog X.w X.K X.mg X.base CX k f fd ps sp)(hr:Room k X.A)(hb:Binds X.K fd ps ds)(hd:Vals dvs ds)(hx:Passes CX X E)
  (I:Inv X pins σ H s) (r:Vals vs us) (h:sp (vs++dvs) H Q E):wpAny (model X.prog X.w) X.A (call (.ref f) us) (EP X pins σ Q) X.xe s:=by
 have r2:Vals (vs++dvs) (us++ds):=r.append hd;have hl:(us++ds).length=ps.length:=by rw[←r2.length];exact F.len _ _ _ _ h
 refine wpAny_call (codeAny_mono (F.run X.A X.stack s H ⟨us,[]⟩ (us++ds) (vs++dvs) Q E hr I.env0 (hb s us I.kIn hl) r2 h) λr s' hq=>?_);cases r with
 |error e=>exact hx pins σ H s e s' I hq
 |ok fl =>
  cases fl with
  |ret u=>exact I.after hq
  |next=>exact False.elim hq
  |brk=>exact False.elim hq
  |cont=>exact False.elim hq
theorem znq(F:FnOk X.prog X.w X.K X.mg X.base CX k f fd ps sp)(hr:Room k X.A)(hg:Gl X x)(hm:X.mg x=some (.ref f))(hk:PySem.W.keepIn X.K (.ref f)=true)(hb:Binds X.K fd ps ds)(hd:Vals dvs ds)(hx:Passes CX X E)
  (ha:PA X (e::es) t) (hdb:(x==("__debug__":Str))=false:=by decide) (he:starEach (e::es) X.env=(false,eval e X.env)::starEach es X.env:=by rfl) (hpl:(backTo pos (starEach es X.env)).any (·.1)=false:=by rfl) :
  PE X (.Call (.Name x p) (e::es) [] pos) (tCall sp dvs E t):=by
 intro pins s σ H Q I h;refine wpAny_Call_Name_kw (zde I hg hm ?_ hdb);refine PySem.W.callWith_K (h₀:=X.base) I.ok.mod.kin hk (thn (ha pos pins s σ H _ I h) λus s1 zz=>ex5 zz λvs H1 I1 r q=>⟨I1.kIn,?_⟩) he hpl;exact znb F hr hb hd hx I1 r q
theorem ztu{pl:Sem Bool}(he:PE X o ta)(c:Cls X.K C)(hm:Meth X.K C m f)(F:FnOk X.prog X.w X.K X.mg X.base CX k f fd ps sp)(hr:Room k X.A)(hb:Binds X.K fd ps ds)(hd:Vals dvs ds)(hx:Passes CX X E)(ha:PA X (e::es) t)
  (hst:starEach (e::es) X.env=(false,eval e X.env)::starEach es X.env:=by rfl) (hpl:(backTo pos (starEach es X.env)).any (·.1)=false:=by rfl)
  (ht:eval (.Call (.Attribute o m apos) (e::es) [] pos) X.env=(do
   let ov ←eval o X.env
   standAt apos.atName
   let(f,first) ←holding [ov] (getMethod ov m pl)
   callWith pos f first (backTo pos (starEach (e::es) X.env)) (backToKw pos (keywordEach [] X.env))):=by rfl) :
  PE X (.Call (.Attribute o m apos) (e::es) [] pos) (tMeth C m sp dvs E ta t):=by
 intro pins s σ H Q I h;refine PySem.W.methodCall_KW (pl:=pl) (thn (he pins s σ H _ I h) λu s1 ⟨x,H1,I1,rx,a,ex,dx,fs,ea,l,q⟩=>?_) ht;subst ex;obtain rfl:u=Value.ref a:=rx;refine zl8 I1 ea c hm l ?_;refine PySem.W.callWith_K (first:=[.ref a]) (h₀:=X.base) I.ok.mod.kin hm.kp (thn (ha pos pins s1 σ H1 _ I1 q) λus s2 zz=>ex5 zz λvs H2 I2 r q2=>⟨I2.kIn,?_⟩) hst hpl;exact znb (us:=.ref a::us) (vs:=.ref a::vs) F hr hb hd hx I2 (.cons rfl r) q2
structure Mk(K:Frag)(C f:Addr):Prop where
 makes:PySem.W.makesIn K C=true
 init:PySem.W.findIn K (.ref C) "__init__"=some (some (.ref f))
 fn:PySem.W.isFn K (.ref f)=true
 kp:PySem.W.keepIn K (.ref C)=true
theorem zp8{pins:Y2}{σ:St}{H:Hp}{s:Shared}{Q:VK}{us:List Value}{vs:List V}(M:Mk X.K C f)(F:FnOk X.prog X.w X.K X.mg X.base CX k f fd ps sp)(hr:Room (k+1) X.A)(hb:Binds X.K fd ps ds)(hd:Vals dvs ds)
  (hx:Passes CX X E) (I:Inv X pins σ H s) (r:Vals vs us)
  (h:∀x dx,H x=none->H dx=none->dx≠x->sp (.ref x::(vs++dvs)) (upd (upd H dx (.own x)) x (.ins C dx [])) (λv H2=>v=.non/\Q (.ref x) H2) E) :
  wpAny (model X.prog X.w) X.A (call (.ref C) us) (EP X pins σ Q) X.xe s:=by
 have hq:=h (s.heap.objs.size+1) s.heap.objs.size (I.hok.fresh (y2r _)) (I.hok.fresh (y04 _)) (y0h (y1g _));have I2:=Inv.made (C:=C) I;have r2:Vals (V.ref (s.heap.objs.size+1)::(vs++dvs)) (Value.ref (s.heap.objs.size+1)::(us++ds)):=.cons rfl (r.append hd);have hl:(Value.ref (s.heap.objs.size+1)::us++ds).length=ps.length:=by
  have e:=r2.length;rw[F.len _ _ _ _ hq]at e;exact e.symm
 refine wpAny_call (zrg (f:=f) I.kIn M.makes M.init (beq_iff_eq.mp M.fn) (codeAny_mono (F.run _ X.stack _ _ ⟨Value.ref (s.heap.objs.size+1)::us,[]⟩ (Value.ref (s.heap.objs.size+1)::(us++ds)) _ _ E (hr.make C us [])
  (I2.env0.make C us []) (hb _ (Value.ref (s.heap.objs.size+1)::us) I2.kIn hl) r2 hq) λr s' hq'=>?_))
 cases r with
 |error e=>exact hx pins σ _ _ e s' I2 hq'
 |ok fl =>
  cases fl with
  |ret u =>
   obtain⟨v,H',I3,rv,ev,q3⟩:=I2.after hq';subst ev;exact⟨rv,⟨V.ref (s.heap.objs.size+1),H',I3,rfl,q3⟩⟩
  |next=>exact False.elim hq'
  |brk=>exact False.elim hq'
  |cont=>exact False.elim hq'
theorem zqk(M:Mk X.K C f)(F:FnOk X.prog X.w X.K X.mg X.base CX k f fd ps sp)(hr:Room (k+1) X.A)(hg:Gl X x)(hm:X.mg x=some (.ref C))(hb:Binds X.K fd ps ds)(hd:Vals dvs ds)(hx:Passes CX X E)
  (hdb:(x==("__debug__":Str))=false:=by decide):PE X (.Call (.Name x p) [] [] pos) (tMake C sp dvs E tNil):=by
 intro pins s σ H Q I h;refine wpAny_Call_Name_kw (zde I hg hm ?_ hdb);exact PySem.W.callWith_K0 I.kIn M.kp (zp8 (us:=[]) M F hr hb hd hx I .nil h)
end
structure FnScope(N P:List Str)(sc:Scope):Prop where
 kind:sc.kind=.function:=by rfl
 co:sc.isCoroutine=false:=by rfl
 gen:sc.isGenerator=false:=by rfl
 nd:N.Nodup:=by decide+kernel
 pre:N.take P.length=P:=by rfl
 par:∀x∈P,sc.names.lookup x=some .local\/sc.names.lookup x=some .cell:=by decide+kernel
 nofree:∀y∈sc.names,y.2 ≠ .free:=by decide+kernel
theorem zir{kindOf:Str->Option NameKind}{x:Str}:∀{binds:List (Str×Value)} {m:Y1},(∀v,(x,v)∉binds)->bindL kindOf binds m x=m x
 |[],_,_=>rfl
 |(n,v)::r,m,h=>by
  unfold bindL;rw[zir λw hw=>h w (y09 _ hw)];split
  ·have:x≠n:=by rintro rfl;exact h v y0c
   simp[this]
  ·rfl
theorem zis{kindOf:Str->Option NameKind}{x:Str}:∀{binds:List (Str×Value)} {m:Y1},(∀v,(x,v)∉binds)->bindC kindOf binds m x=m x
 |[],_,_=>rfl
 |(n,v)::r,m,h=>by
  unfold bindC;rw[zis λw hw=>h w (y09 _ hw)];split
  ·rfl
  ·have:x≠n:=by rintro rfl;exact h v y0c
   simp[this]
theorem zfe{kindOf:Str->Option NameKind}{x:Str}{v:Value}:∀{P:List Str} {vs:List Value} {i:Nat} {m:Y1},P.Nodup->P[i]?=some x->vs[i]?=some v->kindOf x=some .local->
  bindL kindOf (P.zip vs) m x=some v
 |[],_,_,_,_,h,_,_=>by simp at h
 |_::_,[],_,_,_,_,h,_=>by simp at h
 |p::P,w::vs,0,m,nd,h1,h2,hk=>by
  simp at h1 h2;subst h1;subst h2;show bindL kindOf ((p,w)::P.zip vs) m p=_;unfold bindL;rw[zir λv hv=>(y11.mp nd).1 (y26 hv).1,if_pos hk];simp
 |p::P,w::vs,i+1,m,nd,h1,h2,hk=>by
  show bindL kindOf ((p,w)::P.zip vs) m x=_;unfold bindL;exact zfe (i:=i) (y11.mp nd).2 (by simpa using h1) (by simpa using h2) hk
theorem zff{kindOf:Str->Option NameKind}{x:Str}{v:Value}:∀{P:List Str} {vs:List Value} {i:Nat} {m:Y1},P.Nodup->P[i]?=some x->vs[i]?=some v->kindOf x≠some .local->
  bindC kindOf (P.zip vs) m x=some v
 |[],_,_,_,_,h,_,_=>by simp at h
 |_::_,[],_,_,_,_,h,_=>by simp at h
 |p::P,w::vs,0,m,nd,h1,h2,hk=>by
  simp at h1 h2;subst h1;subst h2;show bindC kindOf ((p,w)::P.zip vs) m p=_;unfold bindC;rw[zis λv hv=>(y11.mp nd).1 (y26 hv).1,if_neg hk];simp
 |p::P,w::vs,i+1,m,nd,h1,h2,hk=>by
  show bindC kindOf ((p,w)::P.zip vs) m x=_;unfold bindC;exact zff (i:=i) (y11.mp nd).2 (by simpa using h1) (by simpa using h2) hk
def start(N:List Str)(vs:List V):St:=vs.map some++List.replicate (N.length-vs.length) none
def cxOf(CX:CXT)(P:Program)(w:World)(K:Frag)(mg:Y1)(base:Heap)(N:List Str)(qual:Str)(scope:Scope)(f:Addr)(cd:Value)(A:Around)(outer:List Env)(s:Shared)(H:Hp)(E:XK):Cx where
 prog:=P
 w:=w
 K:=K
 mg:=mg
 base:=base
 A:=A.deeper (envOfC qual scope s.heap.objs.size f cd)
 N:=N
 s₀:=s
 H₀:=H
 env:=envOfC qual scope s.heap.objs.size f cd
 outer:=outer
 stack:=envOfC qual scope s.heap.objs.size f cd::outer
 ex:=[]
 calm:=true
 fn:=λ_=>true
 pn:=[]
 xe:=λe s'=>wpAny (model P w) (A.deeper (envOfC qual scope s.heap.objs.size f cd)) (leaving (envOfC qual scope s.heap.objs.size f cd) e) (λ_ s''=>CX outer H s E e s'') (λe' s''=>CX outer H s E e' s'') s'
theorem zek{sc:Scope}(h:sc.names.lookup x=some .cell):∃c,(cellsFrom n sc.names []).lookup x=some c:=by
 have q:=PySem.W.cellsFrom_some sc.names n [] (.inl h);exact y2n.mp q
theorem zou{CX:CXT}{P:Program}{w:World}{K:Frag}{mg:Y1}{base:Heap}{N ps:List Str}{qual:Str}{scope:Scope}{f:Addr}{cd:Value}{A:Around}{outer:List Env}{s s1:Shared}{H:Hp}{E:XK}{us:List Value}{vs:List V}
  (S:FnScope N ps scope) (hd:A.handled=none) (e0:Env0 P w K mg base A outer s H) (hl:vs.length=ps.length) (r:Vals vs us)
  (x:InCallC s s.heap.objs.size (bindL (envOfC qual scope s.heap.objs.size f cd).kindOf (ps.zip us) λ_=>none) (cellsFrom (s.heap.objs.size+1) scope.names []) (bindC (envOfC qual scope s.heap.objs.size f cd).kindOf (ps.zip us) λ_=>none) s1) :
  Inv (cxOf CX P w K mg base N qual scope f cd A outer s H E) [] (start N vs) H s1:=by
 have hpl:ps.length<=N.length:=by have:=congrArg List.length S.pre;rw[y12]at this;omega
 obtain⟨h1,tk,rfl,hk⟩:=x.done;have noA:∀b:Addr,b∉(cxOf CX P w K mg base N qual scope f cd A outer s H E).ex:=λb z=>absurd (show b∈([]:List Addr)from z) (by simp);refine⟨⟨e0.mod,S.kind,rfl,rfl,y04 _,λy z c h1 h2=>?_,λy hy=>?_,λy c _ h=>?_,λ_=>hd,Around.frames_deeper e0.frames,.inr ⟨rfl,rfl⟩,λb z=>absurd z (noA b),e0.bs,e0.bsz,λb _ _=>noA b,λb z=>absurd z (noA b),e0.funs,e0.frf⟩,
  rfl,e0.bare,Un.kept hk,⟨_,x.toInCall.ns,λi y v h1 h2 h3=>?_⟩,λy c h=>⟨_,x.cell y c h⟩,e0.hok.fresh (y04 _),λy c h=>?_,λp hp=>absurd (show p∈([]:Y2)from hp) (by simp),e0.hok.kept hk,?_⟩
 ·exact name_of_addr x.apart (PySem.mem_of_lookup h1) (PySem.mem_of_lookup h2)
 ·have hy:scope.names.lookup y=some .cell\/scope.names.lookup y=some .free:=hy;rcases hy with hy|hy
  ·exact zek hy
  ·exact absurd rfl (S.nofree _ (PySem.mem_of_lookup hy))
 ·exact y1d (x.above y c (PySem.mem_of_lookup h))
 ·have hi:i<vs.length:=by
   unfold start at h2;by_cases hi:i<vs.length
   ·exact hi
   ·rw[y0o (by simpa using hi)]at h2;rw[y27]at h2;split at h2<;>cases h2
  have ha:vs[i]?=some v:=by
   unfold start at h2;rw[y0u (by simpa using hi),y0w]at h2;cases e:vs[i]? with
   |none=>rw[e]at h2;cases h2
   |some a=>rw[e]at h2;cases h2;rfl
  obtain⟨u,hu,rv⟩:=r.get ha;have hp:ps[i]?=some y:=by
   rw[←S.pre,y2p (by omega)];exact h1
  have ndP:ps.Nodup:=by rw[←S.pre];exact S.nd.sublist (y39 _ _)
  refine⟨u,rv,?_⟩;rcases S.par y (y0g hp)with k|k
  ·exact .inl ⟨k,zfe ndP hp hu k⟩
  ·obtain⟨c,e⟩:=zek (n:=s.heap.objs.size+1) k;refine .inr ⟨.inl k,c,e,?_⟩;have q:=x.cell y c e;rw[zff ndP hp hu (by show scope.names.lookup y≠_;rw[k];decide)]at q;exact q
 ·exact e0.hok.fresh (y1d (x.above y c (PySem.mem_of_lookup h)))
 ·unfold start;show _=N.length;rw[y06,y00,y1u];omega
theorem zu2{CX:CXT}{P:Program}{w:World}{K:Frag}{mg:Y1}{base:Heap}{k:Nat}{f:Addr}{name qual:Str}{params:Arguments}{body:List Stmt}{scope:Scope}{dV kV doc pm cdv ct oc:Value}{an od:Option Addr}
  {osl:Y8} {N ps:List Str} {sp:Sp} (lk:K.lookup f=some ⟨oc,od,.func (PySem.W.fnOf name qual params body scope dV kV doc pm an cdv ct),osl⟩) (hcd:PySem.W.codeIn K cdv qual=true) (S:FnScope N ps scope)
  (len:∀vs H Q E,sp vs H Q E->vs.length=ps.length)
  (hbody:∀(A:Around) (outer:List Env) (s:Shared) (H:Hp) (vs:List V) (Q:VK) (E:XK),Room k (A.deeper (envOfC qual scope s.heap.objs.size f cdv))->sp vs H Q E->
   ∃t,PSs (cxOf CX P w K mg base N qual scope f cdv A outer s H E) body t/\t {nx:=λ_ H'=>Q .non H',rt:=Q} (start N vs) H) :
  FnOk P w K mg base CX (k+1) f (PySem.W.fnOf name qual params body scope dV kV doc pm an cdv ct) ps sp:=by
 refine⟨len,λA outer s H args us vs Q E hr e0 hb r hsp=>?_⟩;have hl:=len _ _ _ _ hsp;have KX:K.In s.heap:=e0.mod.kin.keeps λb o e=>(e0.bs b o e).1;have lim:s.heap.NoLimit:=e0.mod.nolimit.keeps λb o e=>(e0.bs b o e).1;have hkind:∀y∈ps.zip us,scope.names.lookup y.1=some .local\/(scope.names.lookup y.1=some .cell/\((cellsFrom (s.heap.objs.size+1) scope.names []).lookup y.1).isSome=true):=λ⟨n,v⟩ hy=>by
  rcases S.par n (y26 hy).1 with q|q
  ·exact .inl q
  ·exact .inr ⟨q,PySem.W.cellsFrom_some _ _ _ (.inl q)⟩
 refine codeAny_call_function hr.depth (KX _ _ lk) rfl S.co S.gen rfl (PySem.W.codeRec_of KX hcd) (hb _ _ _ _ ?_);refine wpAny_newFunctionEnv_cells S.kind hkind λenv he s1 x=>?_;subst he;refine⟨lim.keeps x.toInCall.keep,codeAny_func ?_⟩;obtain⟨t,ht,hq⟩:=hbody A outer s H vs Q E (hr.deeper _) hsp;have I:Inv (cxOf CX P w K mg base N qual scope f cdv A outer s H E) [] (start N vs) H s1:=zou S hr.hd e0 hl r x;refine wpAny_mono (ht [] s1 (start N vs) H _ I hq) (λfl s' hs=>?_) λe s' hs=>hs;have fin:∀{σ':St} {H':Hp} {v:V} {u:Value},Inv (cxOf CX P w K mg base N qual scope f cdv A outer s H E) [] σ' H' s'->RelV v u->Q v H'->CE outer P w H s Q u s' :=
  λ{σ' H' v u} J rv q=>⟨v,H',J.os,J.bare,J.base,J.hok,rv,q⟩
 cases fl with
 |ret u =>
  obtain⟨v,σ',H',J,rv,q⟩:=hs;exact fin J rv q
 |next =>
  obtain⟨σ',H',J,q⟩:=hs;exact fin (v:=V.non) (u:=Value.none) J rfl q
 |brk =>
  obtain⟨_,_,_,q⟩:=hs;exact False.elim q
 |cont =>
  obtain⟨_,_,_,q⟩:=hs;exact False.elim q
section
variable {X:Cx}{x:Str}{p pos:Pos}{e:Expr}{es:List Expr}{t:TA}{id T:String}{r:List V->Hp->VK->Prop}
def tCB(r:List V->Hp->VK->Prop)(t:TA):TE:=λσ H Q=>t σ H λvs H1=>r vs H1 Q
theorem zqt(hc:CallR X (.builtin id) r)(hg:Gl X x)(hm:X.mg x=none)(hv:bootBuiltins x=some (.builtin id))(ha:PA X (e::es) t)(hn:x≠"__name__":=by decide)(hdb:(x==("__debug__":Str))=false:=by decide)
  (he:starEach (e::es) X.env=(false,eval e X.env)::starEach es X.env:=by rfl) (hpl:(backTo pos (starEach es X.env)).any (·.1)=false:=by rfl):PE X (.Call (.Name x p) (e::es) [] pos) (tCB r t):=by
 intro pins s σ H Q I h;refine wpAny_Call_Name_kw (zf7 I hg hm hv ?_ hn hdb);exact PyProof.Rows.callWith_builtin1 (thn (ha pos pins s σ H _ I h) λus s1 zz=>ex5 zz λvs H1 I1 r1 q1=>hc pins s1 σ H1 vs us Q I1 r1 q1) he hpl
theorem znn(hc:CallR X (.type T) r)(hg:Gl X x)(hm:X.mg x=none)(hv:bootBuiltins x=some (.type T))(ha:PA X (e::es) t)(hn:x≠"__name__":=by decide)(hdb:(x==("__debug__":Str))=false:=by decide)
  (he:starEach (e::es) X.env=(false,eval e X.env)::starEach es X.env:=by rfl) (hpl:(backTo pos (starEach es X.env)).any (·.1)=false:=by rfl):PE X (.Call (.Name x p) (e::es) [] pos) (tCB r t):=by
 intro pins s σ H Q I h;refine wpAny_Call_Name_kw (zf7 I hg hm hv ?_ hn hdb);exact PyProof.Rows.callWith_type1 (thn (ha pos pins s σ H _ I h) λus s1 zz=>ex5 zz λvs H1 I1 r1 q1=>hc pins s1 σ H1 vs us Q I1 r1 q1) he hpl
end
end L2
namespace HT
open PySem PyProof.Rows
section
open PySem.SeqAt
open PySem.AutoSeq1 (wpAny_loadPart')
open PySem.MeetsSeq PySem.MeetsSeq2 PySem.MeetsSeq3
end
section
variable {prog:Program}{w:World}{A:Around}{E:Y0}{s:Shared}
theorem cat_tup(ht:IsTup s.heap t vs.toArray)(hb:IsTup s.heap b ws.toArray)(hv:vs≠[])
  (h1:ws=[]->Q (.ref t) s) (h2:ws≠[]->Q (.ref s.heap.objs.size) {s with heap:=s.heap.push {cls:=.type "tuple",data:=.seq (vs++ws).toArray} })
  (hsz:vs.length+ws.length<=sizeLine):wpAny (model prog w) A (binaryOp .Add (.ref t) (.ref b)) Q E s:=by
 obtain⟨⟨cls,dd,data,sl⟩,ho,hc,n,hd⟩:=id ht;obtain⟨⟨cls2,dd2,data2,sl2⟩,ho2,hc2,n2,hd2⟩:=id hb;simp only at hc hd hc2 hd2;subst hc hd hc2 hd2;have e:vs.toArray++ws.toArray=(vs++ws).toArray:=by simp
 by_cases hw:ws=[]
 ·exact concat_meets ⟨_,ho,rfl⟩ ⟨_,ho2,rfl⟩ noFill_tuple_add seq_tuple_add PySem.F.slot_tuple_add PySem.F.entry_tuple_add (PySem.F.args_tuple_add_2 _ _)
   (tuple_addW1 t b vs.toArray ws.toArray n n2 dd dd2 sl sl2 (by simpa using hv) (by simp[hw])) ⟨ho,ho2,h1 hw⟩
 ·refine concat_meets ⟨_,ho,rfl⟩ ⟨_,ho2,rfl⟩ noFill_tuple_add seq_tuple_add PySem.F.slot_tuple_add PySem.F.entry_tuple_add (PySem.F.args_tuple_add_2 _ _)
   (tuple_addW2 t b vs.toArray ws.toArray n n2 dd dd2 sl sl2 (by simpa using hv) (by simpa using hw) (by rw[y03,y03];exact hsz)) ⟨ho,ho2,?_⟩
  rw[e];exact h2 hw
def sIx(n d:Nat):Option Int->Nat
 |none=>d
 |some v=>if v<0 then(v+(n:Int)).toNat else min v.toNat n
theorem sIx_none(n d:Nat):sIx n d none=d:=rfl
theorem sIx_nat(n d k:Nat):sIx n d (some (k:Int))=min k n:=by
 show(if(k:Int)<0 then((k:Int)+(n:Int)).toNat else min (k:Int).toNat n)=min k n;rw[if_neg (by omega),y13]
theorem sIx_le(n d:Nat)(hd:d<=n)(o:Option Int):sIx n d o<=n:=by
 cases o with
 |none=>exact hd
 |some v =>
  show(if v<0 then(v+(n:Int)).toNat else min v.toNat n)<=n;by_cases hv:v<0
  ·rw[if_pos hv];omega
  ·rw[if_neg hv];exact Nat.min_le_right _ _
theorem clip_eq(v:Int)(n d:Nat):(if v<0 then max (v+(n:Int)) 0 else min v (n:Int))=((sIx n d (some v):Nat):Int):=by
 show(if v<0 then max (v+(n:Int)) 0 else min v (n:Int))=(((if v<0 then(v+(n:Int)).toNat else min v.toNat n):Nat):Int);by_cases hv:v<0
 ·simp only[if_pos hv];omega
 ·simp only[if_neg hv];omega
theorem zmk(lo hi:Option Int)(n:Nat):Builtin.Slice.sliceAdjust lo hi 1 (n:Int)=(((sIx n 0 lo:Nat):Int),((sIx n n hi:Nat):Int)):=by
 have h1:¬((1:Int)<0):=by omega
 unfold Builtin.Slice.sliceAdjust;simp only[h1,if_false];refine Prod.ext ?_ ?_
 ·cases lo with
  |none=>rfl
  |some v=>exact clip_eq v n 0
 ·cases hi with
  |none=>rfl
  |some v=>exact clip_eq v n n
theorem zlu(i j:Nat):Builtin.Slice.slicePlaces (i:Int) (j:Int) 1=j-i:=by
 unfold Builtin.Slice.slicePlaces;have h1:(1:Int)>0:=by omega
 simp only[h1,if_true,Int.ediv_one];split<;>omega
theorem zfw(p:IsPart v o)(h:Q o s):wpAny (model prog w) A (Builtin.Slice.slicePartIndex v) Q E s:=by
 cases p with
 |none=>exact slicePart_none h
 |int i t=>exact slicePart_int h
theorem zea{sl:Addr}{vl vu:Value}{lo hi:Option Int}{n:Nat}{Q:Int×Int×Nat->Shared->Prop}(hs:s.heap.IsSliceOf sl vl vu .none)(pl:IsPart vl lo)(pu:IsPart vu hi)
  (h:Q (((sIx n 0 lo:Nat):Int),1,sIx n n hi-sIx n 0 lo) s):wpAny (model prog w) A (Builtin.Slice.sliceApplied (.ref sl) (pure (n:Int))) Q E s:=by
 obtain⟨os,hos,hcs,hds⟩:=id hs;unfold Builtin.Slice.sliceApplied Builtin.Slice.sliceFields;refine wpAny_bind (wpAny_bind (wpAny_field hos hds (x:=vl) rfl (wpAny_bind (wpAny_field hos hds (x:=vu) rfl (wpAny_bind (wpAny_field hos hds (x:=.none) rfl (wpAny_pure ?_)))))));refine wpAny_bind (slicePart_none ?_);show wpAny _ _ (if((1:Int)==0)=true then _ else _) _ _ s;rw[if_neg (by decide)];refine wpAny_bind (zfw pl (wpAny_bind (zfw pu (wpAny_bind (wpAny_pure ?_)))));show wpAny _ _ (match Builtin.Slice.sliceAdjust lo hi 1 (n:Int)with|(lo,hi)=>pure (lo,(1:Int),Builtin.Slice.slicePlaces lo hi 1)) _ _ s;rw[zmk lo hi n];show wpAny _ _ (pure (((sIx n 0 lo:Nat):Int),(1:Int),Builtin.Slice.slicePlaces ((sIx n 0 lo:Nat):Int) ((sIx n n hi:Nat):Int) 1)) _ _ s;rw[zlu];exact wpAny_pure h
theorem zqh(xs:Array Value)(i k:Nat):((List.range k).filterMap λ(m:Nat)=>xs[((i:Int)+(m:Int)*1).toNat]?).toArray=((xs.toList.drop i).take k).toArray:=by
 have e:(λ(m:Nat)=>xs[((i:Int)+(m:Int)*1).toNat]?)=λm=>xs[i+m]?:=by
  funext m;have:((i:Int)+(m:Int)*1).toNat=i+m:=by omega
  rw[this]
 rw[e];have:=pick_run xs i k;rw[List.filterMap_map]at this;have e2:((λx=>xs[x]?)∘λx=>i+x)=λm=>xs[i+m]?:=rfl;rw[e2]at this;rw[this]
theorem getItem_tuple_cut{t sl:Addr}{items:Array Value}{vl vu:Value}{lo hi:Option Int}{Q:Y0}(ht:IsTup s.heap t items)(hs:s.heap.IsSliceOf sl vl vu .none)(pl:IsPart vl lo)(pu:IsPart vu hi)
  (hw:¬(sIx items.size 0 lo=0/\sIx items.size items.size hi=items.size))
  (h:Q (.ref s.heap.objs.size) {s with heap:=s.heap.push {cls:=.type "tuple",data:=.seq ((items.toList.drop (sIx items.size 0 lo)).take (sIx items.size items.size hi-sIx items.size 0 lo)).toArray} })
  (hsz:items.size<=sizeLine):wpAny (model prog w) A (getItem (.ref t) (.ref sl)) Q E s:=by
 have htake:sizeOk (.seq ((items.toList.drop (sIx items.size 0 lo)).take (sIx items.size items.size hi-sIx items.size 0 lo)).toArray):=by
  show((items.toList.drop (sIx items.size 0 lo)).take (sIx items.size items.size hi-sIx items.size 0 lo)).toArray.size<=sizeLine;rw[y03,y12,y22,y19];omega
 have hj:sIx items.size items.size hi<=items.size:=sIx_le _ _ (y04 _) hi;obtain⟨os,hos,hcs,hds⟩:=id hs;have hTs:s.TypeIs (.ref sl) "slice":=⟨os,hos,hcs⟩;unfold getItem
 try with_reducible refine wpAny_holding ?_
 first|refine wpAny_bind (wpAny_pure ?_)|skip
 refine wpAny_bind (wpAny_sequenceKey ht.typeIs (by decide) ?_);refine wpAny_bind (wpAny_callSpecial?_slot (name:=Str.ofString "__getitem__") ht.typeIs PyProof.Rows.slot_tuple_getitem
  (wpAny_call_entry PyProof.Rows.slot_tuple_getitem ht.typeIs entry_tuple_getitem ?_ (args_tuple_getitem _ _)))
 show wpAny _ _ (Builtin.Tuple.tupleItemsOf (.ref t)>>=_) _ _ s;refine wpAny_bind (tupleItemsOf_ ht ?_);refine wpAny_bind (wpAny_typeOf hTs ?_);rw[if_pos (by decide)];refine wpAny_bind (zea hs pl pu ?_);have hno:¬((((sIx items.size 0 lo:Nat):Int)==0&&(1:Int)==1&&(sIx items.size items.size hi-sIx items.size 0 lo)==items.size)=true):=by
  intro q;rw[y05,y05]at q;have q1:((sIx items.size 0 lo:Nat):Int)=0:=eq_of_beq q.1.1;have q2:sIx items.size items.size hi-sIx items.size 0 lo=items.size:=eq_of_beq q.2;exact hw ⟨by omega,by omega⟩
 show wpAny _ _ (if(((sIx items.size 0 lo:Nat):Int)==0&&(1:Int)==1&&(sIx items.size items.size hi-sIx items.size 0 lo)==items.size)=true then _ else _) _ _ s;rw[if_neg hno,zqh]
 first
  |exact wpAny_bind (m:=Builtin.Tuple.tupleExact _) (wpAny_newObj_type (wpAny_pure ⟨_,rfl,wpAny_pure h⟩) htake)
  |exact wpAny_bind (m:=Builtin.Tuple.tupleExact _) (wpAny_newObj_type (wpAny_bind (wpAny_pure (wpAny_pure ⟨_,rfl,wpAny_pure h⟩))) htake)
  |exact wpAny_bind (wpAny_bind (m:=Builtin.Tuple.tupleExact _) (wpAny_newObj_type (wpAny_pure (wpAny_pure ⟨_,rfl,wpAny_pure h⟩)) htake))
  |exact wpAny_bind (wpAny_bind (m:=Builtin.Tuple.tupleExact _) (wpAny_newObj_type (wpAny_pure ⟨_,rfl,wpAny_pure h⟩) htake))
end
end HT
namespace L2
abbrev TO:=St->Hp->(Option Int->Hp->Prop)->Prop
def PO(X:Cx)(e:Option Expr)(t:TO):Prop :=
 ∀(pins:Y2) (s:Shared) (σ:St) (H:Hp) (Q:Option Int->Hp->Prop),Inv X pins σ H s->t σ H Q->
  wpAny (model X.prog X.w) X.A (evalPart e X.env) (λu s'=>∃o H',Inv X pins σ H' s'/\IsPart u o/\Q o H') X.xe s
def tNoPart:TO:=λ_ H Q=>Q none H
def tPart(t:TE):TO:=λσ H Q=>t σ H λx H1=>∃i,x=.int i/\Q (some i) H1
theorem zl7:∀{us:List Value},Vals (ns.map V.int) us->IntsAre us ns:=by
 induction ns with
 |nil=>intro us r;rw[y2e]at r;cases r;exact .nil
 |cons n ns ih =>
  intro us r;rw[y0k]at r;cases r with
  |cons r1 r2 =>
   obtain⟨t,e⟩:=r1;subst e;exact .cons n t (ih r2)
section
variable {X:Cx}{e:Expr}{te:TE}{lo hi:Option Expr}{tl th:TO}{pos p2:Pos}
theorem zev:PO X none tNoPart:=by
 intro pins s σ H Q I h;rw[evalPart_none];exact wpAny_pure ⟨none,H,I,.none,h⟩
theorem zcg(h:PE X e te):PO X (some e) (tPart te):=by
 intro pins s σ H Q I hw;rw[evalPart_some];refine thn (h pins s σ H _ I hw) λu s1 zz=>ex5 zz λx H1 I1 r1 q1=>?_;obtain⟨i,rfl,q⟩:=q1;obtain⟨t,rfl⟩:=r1;exact⟨some i,H1,I1,.int i t,q⟩
def SlR(X:Cx)(r:V->Option Int->Option Int->Hp->VK->Prop):Prop :=
 ∀(pins:Y2) (s:Shared) (σ:St) (H:Hp) (x:V) (v vl vu:Value) (lo hi:Option Int) (sl:Addr) (Q:VK),Inv X pins σ H s->RelV x v->s.heap.IsSliceOf sl vl vu .none->IsPart vl lo->IsPart vu hi->r x lo hi H Q->
  ∃T id,typeLookup (.type T) "__getitem__"=pure (some (.builtin id))/\s.TypeIs v T/\wpAny (model X.prog X.w) X.A (getItem v (.ref sl)) (EP X pins σ Q) X.xe s
def tSl(r:V->Option Int->Option Int->Hp->VK->Prop)(te:TE)(tl th:TO):TE:=λσ H Q=>te σ H λx H1=>tl σ H1 λl H2=>th σ H2 λu H3=>r x l u H3 Q
theorem zch(hr:SlR X r)(he:PE X e te)(hl:PO X lo tl)(hu:PO X hi th):PE X (.Subscript e (.Slice lo hi none p2) pos) (tSl r te tl th):=by
 intro pins s σ H Q I h;refine Subscript_ (thn (he pins s σ H _ I h) λv s1 zz=>ex5 zz λx H1 I1 r1 q1=>?_);refine wpAny_Slice (thn (hl pins s1 σ H1 _ I1 q1) λvl s2 zz=>ex5 zz λl H2 I2 pl q2=>thn (hu pins s2 σ H2 _ I2 q2) λvu s3 zz=>ex5 zz λu H3 I3 pu q3=>?_);rw[evalPart_none];refine wpAny_pure ?_;have I4:Inv X pins σ H3 {s3 with heap:=s3.heap.push {cls:=.type "slice",data:=.fields #[vl,vu,.none]} }:=I3.kept (t':=s3.toks) λb ob q=>y01 _ q;obtain⟨T,id,hT,ht,hg⟩:=hr pins {s3 with heap:=s3.heap.push {cls:=.type "slice",data:=.fields #[vl,vu,.none]} } σ H3 x v vl vu l u s3.heap.objs.size Q I4 r1 (Heap.IsSliceOf.new ..) pl pu q3;show wpAny (model X.prog X.w) X.A (subscriptTail e (.Slice lo hi none p2) v (.ref s3.heap.objs.size)) (EP X pins σ Q) X.xe {s3 with heap:=s3.heap.push {cls:=.type "slice",data:=.fields #[vl,vu,.none]} };exact tail_any (ops:=[.ref s3.heap.objs.size,v]) ht hT hg (by with_unfolding_all rfl)
def cutV(xs:List V)(lo hi:Option Int):List V:=(xs.drop (HT.sIx xs.length 0 lo)).take (HT.sIx xs.length xs.length hi-HT.sIx xs.length 0 lo)
theorem zfb(xs:List V)(lo hi:Option Int):(cutV xs lo hi).length<=xs.length:=by
 unfold cutV;rw[y12,y22];omega
def rSlT(K:Frag):V->Option Int->Option Int->Hp->VK->Prop:=λx lo hi H Q=>∃a xs,x=.ref a/\SqT K H a xs/\
 ¬(HT.sIx xs.length 0 lo=0/\HT.sIx xs.length xs.length hi=xs.length)/\∀p,H p=none->Q (.ref p) (upd H p (.tup (cutV xs lo hi)))
theorem zvs:SlR X (rSlT X.K):=by
 intro pins s σ H x v vl vu lo hi sl Q I rx hs pl pu h;obtain⟨a,xs,rfl,hx,hw,q⟩:=h;cases rx;obtain⟨its,r,ht,hz⟩:=I.tuple hx;have hlen:its.toArray.size=xs.length:=by rw[y03];exact r.length.symm
 refine⟨"tuple",_,PyProof.Rows.slot_tuple_getitem.lookup,ht.typeIs,?_⟩;refine HT.getItem_tuple_cut ht hs pl pu (by rw[hlen];exact hw) ?_ (by rw[hlen];exact hz);rw[hlen];refine⟨.ref s.heap.objs.size,_,I.laid (t':=s.toks) (o:=.tup (cutV xs lo hi)) (λb ob q=>y01 _ q) (y04 _) ?_,rfl,q _ (I.hok.fresh (y04 _))⟩;exact⟨y15 (zfb xs lo hi) hz,_,(r.drop (HT.sIx xs.length 0 lo)).take (HT.sIx xs.length xs.length hi-HT.sIx xs.length 0 lo),IsTup.new _ _⟩
def rCatT(K:Frag):R2:=λx y H Q=>∃a b xs ys,x=.ref a/\y=.ref b/\SqT K H a xs/\SqT K H b ys/\xs≠[]/\xs.length+ys.length<=sizeLine/\
 (ys=[]->Q (.ref a) H)/\(ys≠[]->∀p,H p=none->Q (.ref p) (upd H p (.tup (xs++ys))))
theorem Vals.nil_iff(r:Vals xs us):us=[]↔xs=[]:=by
 cases r with
 |nil=>simp
 |cons _ _=>simp
theorem zt0:OpR X (binaryOp .Add) (rCatT X.K):=by
 infer_instance;obtain⟨a,b,xs,ys,rfl,rfl,ha,hb,hx,hz,q1,q2⟩:=h;cases rx;cases ry;obtain⟨its,r1,p1,_⟩:=I.tuple ha;obtain⟨its2,r2,p2,_⟩:=I.tuple hb;refine HT.cat_tup p1 p2 (λz=>hx (r1.nil_iff.mp z)) (λz=>⟨.ref a,H,I,rfl,q1 (r2.nil_iff.mp z)⟩) (λz=>?_) (by rw[←r1.length,←r2.length];exact hz);refine⟨.ref s.heap.objs.size,_,I.laid (t':=s.toks) (o:=.tup (xs++ys)) (λb ob q=>y01 _ q) (y04 _) ?_,rfl,q2 (λw=>z (r2.nil_iff.mpr w)) _ (I.hok.fresh (y04 _))⟩;exact⟨by rw[y06];exact hz,_,r1.append r2,IsTup.new _ _⟩
end
def ixN(n:Nat)(i:Int):Option Nat:=if 0<=i then(if i<n then some i.toNat else none)else if -(n:Int)<=i then some (i+n).toNat else none
def atI{α:Type}(xs:List α)(i:Int):Option α:=(ixN xs.length i).bind λj=>xs[j]?
theorem zuw(h:ixN n i=some j):seqIndex? i n=some j/\j<n/\-(n:Int)<=i/\i<n:=by
 unfold ixN at h;by_cases h0:0<=i
 ·rw[if_pos h0]at h;by_cases h1:i<n
  ·rw[if_pos h1]at h;have e:i.toNat=j:=Option.some.inj h;exact⟨by rw[seqIndex_of h0 h1,e],by omega,by omega,h1⟩
  ·rw[if_neg h1]at h;cases h
 ·rw[if_neg h0]at h;by_cases h1:-(n:Int)<=i
  ·rw[if_pos h1]at h;have e:(i+n).toNat=j:=Option.some.inj h;exact⟨by rw[seqIndex_neg (by omega) h1,e],by omega,h1,by omega⟩
  ·rw[if_neg h1]at h;cases h
theorem zj1{α:Type}{xs:List α}{i:Int}{v:α}(h:atI xs i=some v):∃j,seqIndex? i xs.length=some j/\xs[j]?=some v/\j<xs.length/\-(xs.length:Int)<=i/\i<xs.length:=by
 unfold atI at h;cases e:ixN xs.length i with
 |none=>rw[e]at h;cases h
 |some j =>
  rw[e]at h;obtain⟨h1,h2,h3,h4⟩:=zuw e;exact⟨j,h1,h,h2,h3,h4⟩
theorem zak{α:Type}{xs:List α}{j:Nat}{v:α}(h:xs[j]?=some v):atI xs (j:Int)=some v:=by
 have hj:j<xs.length:=(y0f.mp h).1;have e:ixN xs.length (j:Int)=some j:=by
  unfold ixN;rw[if_pos (by omega),if_pos (by omega)];simp
 unfold atI;rw[e];exact h
def PlainIx(b:Expr):Prop:=∀o i,subscripted b false o i=operate [o,i] (getItem o i)
def IxR(X:Cx)(r:R2):Prop :=
 ∀(value slice:Expr) (pins:Y2) (s:Shared) (σ:St) (H:Hp) (x y:V) (v u:Value) (Q:VK),Inv X pins σ H s->RelV x v->RelV y u->r x y H Q->
  subscripted slice false v u=operate [v,u] (getItem v u)->wpAny (model X.prog X.w) X.A (subscriptTail value slice v u) (EP X pins σ Q) X.xe s
def MtR(X:Cx)(id:String)(r:V->List V->Hp->VK->Prop):Prop :=
 ∀(pins:Y2) (s:Shared) (σ:St) (H:Hp) (x:V) (xs:List V) (v:Value) (us:List Value) (Q:VK),Inv X pins σ H s->RelV x v->Vals xs us->r x xs H Q->
  wpAny (model X.prog X.w) X.A (call (.builtin id) (v::us)) (EP X pins σ Q) X.xe s
section
variable {X:Cx}{a b:Expr}{ta tb:TE}{pos:Pos}
theorem zar(hr:IxR X r)(ha:PE X a ta)(hb:PE X b tb)(hs:PlainIx b):PE X (.Subscript a b pos) (tOp r ta tb):=by
 intro pins s σ H Q I h;exact Subscript_ (binT ha hb I h λv u s2 x y H2 I2 rx ry q=>hr a b pins s2 σ H2 x y v u Q I2 rx ry q (hs _ _))
def rIxL(K:Frag):R2:=λx y H Q=>∃p,x=.ref p/\∃xs i,y=.int i/\SqL K H p xs/\∃v,atI xs i=some v/\Q v H
def rIxT(K:Frag):R2:=λx y H Q=>∃p,x=.ref p/\∃xs i,y=.int i/\SqT K H p xs/\∃v,atI xs i=some v/\Q v H
def rIxS:R2:=λx y H Q=>∃z,x=.str z/\∃i,y=.int i/\z.length<=sizeLine/\∃c,atI z.cps.toList i=some c/\Q (.str ⟨#[c]⟩) H
theorem zuv:IxR X (rIxL X.K):=by
 intro value slice pins s σ H x y v u Q I rx ry h hs;obtain⟨p,rfl,xs,i,rfl,hq,z,he,q⟩:=h;cases rx;obtain⟨t,rfl⟩:=ry;obtain⟨its,r,pl,hz⟩:=I.list hq;obtain⟨j,h1,h2,h3,h4,h5⟩:=zj1 he;obtain⟨w,ew,rw'⟩:=r.get h2;have hl:=r.length;have hn:=line63;have fin:EP X pins σ Q w s:=⟨z,H,I,rw',q⟩;by_cases h0:0<=i
 ·have hj:i.toNat=j:=by
   rw[seqIndex_of h0 h5]at h1;exact Option.some.inj h1
  exact item_listR pl.isList h0 (by omega) (by rw[hj];simpa using ew) fin hs
 ·have hj:(i+(its.toArray.size:Int)).toNat=j:=by
   rw[seqIndex_neg (by omega) h4]at h1;rw[y03,←hl];exact Option.some.inj h1
  exact subscriptTail_builtinR (x:=w) pl.isList.typeIs slot_list_getitem.lookup
   (wpAny_getItem_list_neg (Q:=λr s'=>r=w/\EP X pins σ Q r s') pl.isList (by omega) (by rw[y03]<;>omega) (by omega) (by rw[hj];simpa using ew) ⟨rfl,fin⟩) hs
theorem zw7:IxR X (rIxT X.K):=by
 intro value slice pins s σ H x y v u Q I rx ry h hs;obtain⟨p,rfl,xs,i,rfl,hq,z,he,q⟩:=h;cases rx;obtain⟨t,rfl⟩:=ry;obtain⟨its,r,pl,hz⟩:=I.tuple hq;obtain⟨j,h1,h2,h3,h4,h5⟩:=zj1 he;obtain⟨w,ew,rw'⟩:=r.get h2;have hl:=r.length;have hn:=line63;have fin:EP X pins σ Q w s:=⟨z,H,I,rw',q⟩;exact subscriptTail_builtinR (x:=w) pl.typeIs slot_tuple_getitem.lookup
  (getItem_tuple (j:=j) (Q:=λr s'=>r=w/\EP X pins σ Q r s') pl (by omega) (by omega) (by rw[y03,←hl];exact h1) (by simpa using ew) ⟨rfl,fin⟩) hs
theorem zky:IxR X rIxS:=by
 intro value slice pins s σ H x y v u Q I rx ry h hs;obtain⟨z,rfl,i,rfl,hz,c,he,q⟩:=h;obtain⟨t,rfl⟩:=rx;obtain⟨t',rfl⟩:=ry;obtain⟨j,h1,h2,h3,h4,h5⟩:=zj1 he;have hl:z.cps.toList.length=z.length:=by simp[Str.length]
 rw[hl]at h1 h4 h5;have hn:=line63;exact tail_any (typeIs_str s z t) slot_str_getitem.lookup (getItem_str (c:=c) (by
  have e1:decide (i < -(2^63:Int))=false:=decide_eq_false (by omega);have e2:decide (i>=2^63)=false:=decide_eq_false (by omega);rw[e1,e2,y37]) (by rw[h1];simpa using h2) ⟨.str ⟨#[c]⟩,H,I.tok _,⟨_,rfl⟩,q⟩) hs
def rSetL:V->V->V->Hp->(Hp->Prop)->Prop:=λo i v H Q=>∃p xs k j,o=.ref p/\i=.int k/\H p=some (.lst xs)/\ixN xs.length k=some j/\Q (upd H p (.lst (xs.set j v)))
theorem zhs(lo hi:Option Int)(n:Nat):(sliceBounds lo hi none n).1=((HT.sIx n 0 lo:Nat):Int)/\(sliceBounds lo hi none n).2.1=((HT.sIx n n hi:Nat):Int)/\(sliceBounds lo hi none n).2.2=1:=by
 refine⟨?_,?_,rfl⟩
 ·cases lo with
  |none=>simp[sliceBounds,HT.sIx]
  |some i =>
   simp only[sliceBounds,HT.sIx,Option.getD_none,show(1:Int)>0 by decide,if_true];by_cases h:i<0
   ·simp only[h,if_true]<;>omega
   ·simp only[h,if_false]<;>omega
 ·cases hi with
  |none=>simp[sliceBounds,HT.sIx]
  |some i =>
   simp only[sliceBounds,HT.sIx,Option.getD_none,show(1:Int)>0 by decide,if_true];by_cases h:i<0
   ·simp only[h,if_true]<;>omega
   ·simp only[h,if_false]<;>omega
theorem zgm(its:List Value)(lo hi:Option Int):slicePick its.toArray lo hi none=((its.drop (HT.sIx its.length 0 lo)).take (HT.sIx its.length its.length hi-HT.sIx its.length 0 lo)).toArray:=by
 obtain⟨h1,h2,h3⟩:=zhs lo hi its.toArray.size;unfold slicePick;rw[h1,h2,h3];simp only[sliceRange_one,pick_run,y03]<;>rfl
def rSlL(K:Frag):V->Option Int->Option Int->Hp->VK->Prop:=λx lo hi H Q=>∃a xs,x=.ref a/\SqL K H a xs/\∀p,H p=none->Q (.ref p) (upd H p (.lst (cutV xs lo hi)))
theorem ztc:SlR X (rSlL X.K):=by
 intro pins s σ H x v vl vu lo hi sl Q I rx hs pl pu h;obtain⟨a,xs,rfl,hx,q⟩:=h;cases rx;obtain⟨its,r,ht,hz⟩:=I.list hx;have hlen:=r.length;refine⟨"list",_,slot_list_getitem.lookup,ht.isList.typeIs,?_⟩;refine wpAny_getItem_list_slice ht.isList hs pl pu .none (by simp) ?_ (by rw[y03]<;>omega);rw[zgm,←hlen];refine⟨.ref s.heap.objs.size,_,I.laid (t':=s.toks) (o:=.lst (cutV xs lo hi)) (λb ob q=>y01 _ q) (y04 _) ?_,rfl,q _ (I.hok.fresh (y04 _))⟩;exact⟨y15 (zfb xs lo hi) hz,_,0,(r.drop (HT.sIx xs.length 0 lo)).take (HT.sIx xs.length xs.length hi-HT.sIx xs.length 0 lo),y0b _ rfl⟩
def flatV:V->Bool
 |.non=>true
 |.bl _=>true
 |.int _=>true
 |.str _=>true
 |_=>false
def eqV:V->V->Bool
 |.non,.non=>true
 |.bl a,.bl b=>a==b
 |.bl a,.int b=>(if a then 1 else 0)==b
 |.int a,.bl b=>a==(if b then 1 else 0)
 |.int a,.int b=>a==b
 |.str a,.str b=>a==b
 |_,_=>false
theorem zo9(ry:RelV y u)(rx:RelV x v)(fy:flatV y=true)(fx:flatV x=true):SeqAt.EqAt A s u v (eqV y x):=by
 cases y with
 |non =>
  cases ry;cases x with
  |non=>cases rx;exact SeqAt.EqAt.same _
  |bl b=>cases rx;exact SeqAt.EqAt.none_bool b
  |int b=>obtain⟨t,rfl⟩:=rx;exact SeqAt.EqAt.none_int b t
  |str b=>obtain⟨t,rfl⟩:=rx;exact SeqAt.EqAt.none_str b t
  |_=>exact absurd (show false=true from fx) y0e
 |bl a =>
  cases ry;cases x with
  |non=>cases rx;exact SeqAt.EqAt.bool_none a
  |bl b=>cases rx;exact SeqAt.EqAt.bool_bool a b
  |int b=>obtain⟨t,rfl⟩:=rx;exact SeqAt.EqAt.bool_int a b t
  |str b=>obtain⟨t,rfl⟩:=rx;exact SeqAt.EqAt.bool_str a b t
  |_=>exact absurd (show false=true from fx) y0e
 |int a =>
  obtain⟨t',rfl⟩:=ry;cases x with
  |non=>cases rx;exact SeqAt.EqAt.int_none a t'
  |bl b=>cases rx;exact SeqAt.EqAt.int_bool a t' b
  |int b=>obtain⟨t,rfl⟩:=rx;exact SeqAt.EqAt.int_int a t' b t
  |str b=>obtain⟨t,rfl⟩:=rx;exact SeqAt.EqAt.int_str a t' b t
  |_=>exact absurd (show false=true from fx) y0e
 |str a =>
  obtain⟨t',rfl⟩:=ry;cases x with
  |non=>cases rx;exact SeqAt.EqAt.str_none a t'
  |bl b=>cases rx;exact SeqAt.EqAt.str_bool a t' b
  |int b=>obtain⟨t,rfl⟩:=rx;exact SeqAt.EqAt.str_int a t' b t
  |str b=>obtain⟨t,rfl⟩:=rx;exact SeqAt.EqAt.str_str a t' b t
  |_=>exact absurd (show false=true from fx) y0e
 |_=>exact absurd (show false=true from fy) y0e
def eqU(x:V)(u:Value):Bool:=match u with
 |.none=>eqV .non x
 |.bool b=>eqV (.bl b) x
 |.int i _=>eqV (.int i) x
 |.str z _=>eqV (.str z) x
 |_=>false
theorem zst(r:RelV y u)(f:flatV y=true):eqU x u=eqV y x:=by
 cases y with
 |non=>cases r;rfl
 |bl b=>cases r;rfl
 |int i=>obtain⟨t,rfl⟩:=r;rfl
 |str z=>obtain⟨t,rfl⟩:=r;rfl
 |_=>exact absurd (show false=true from f) y0e
theorem zfi:∀{xs:List V} {us:List Value},Vals xs us->xs.all flatV=true->us.any (eqU x)=xs.any λy=>eqV y x
 |_,_,.nil,_=>rfl
 |y::xs,u::us,.cons r t,f=>by
  rw[y1z,y05]at f;rw[y2h,y2h,zst r f.1,zfi t f.2]
theorem zdq(rx:RelV x v)(fx:flatV x=true):∀{xs:List V} {us:List Value},Vals xs us->xs.all flatV=true->∀u∈us,SeqAt.EqAt A s u v (eqU x u)
 |_,_,.nil,_=>λu hu=>by cases hu
 |y::xs,u::us,.cons r t,f=>λu' hu=>by
  rw[y1z,y05]at f;rcases y02.mp hu with rfl|hu
  ·rw[zst r f.1];exact zo9 r rx f.1 fx
  ·exact zdq rx fx t f.2 u' hu
def inV(x:V)(xs:List V):Bool:=xs.any λy=>eqV y x
def rIn(K:Frag)(neg:Bool):R2:=λx y H Q=>∃p xs,y=.ref p/\(SqL K H p xs\/SqT K H p xs)/\flatV x=true/\xs.all flatV=true/\Q (.bl (if neg then !inV x xs else inV x xs)) H
theorem znv:OpR X (compareOp .In) (rIn X.K false):=by
 infer_instance;obtain⟨p,xs,rfl,hq,fx,fs,q⟩:=h;cases ry;rcases hq with hq|hq
 ·obtain⟨its,r,pl,hz⟩:=I.list hq;refine SeqAt.in_listAt (eqU x) pl.isList (λw hw=>zdq rx fx r fs w (by simpa using hw)) ⟨.bl _,H,I,rfl,?_⟩;rw[show its.toArray.any (eqU x)=its.any (eqU x) by simp,zfi r fs];exact q
 ·obtain⟨its,r,pl,hz⟩:=I.tuple hq;refine SeqAt.in_tupleAt (eqU x) pl (λw hw=>zdq rx fx r fs w (by simpa using hw)) ⟨.bl _,H,I,rfl,?_⟩;rw[show its.toArray.any (eqU x)=its.any (eqU x) by simp,zfi r fs];exact q
theorem zh1:OpR X (compareOp .NotIn) (rIn X.K true):=by
 infer_instance;obtain⟨p,xs,rfl,hq,fx,fs,q⟩:=h;cases ry;rcases hq with hq|hq
 ·obtain⟨its,r,pl,hz⟩:=I.list hq;refine SeqAt.notIn_listAt (eqU x) pl.isList (λw hw=>zdq rx fx r fs w (by simpa using hw)) ⟨.bl _,H,I,rfl,?_⟩;rw[show its.toArray.any (eqU x)=its.any (eqU x) by simp,zfi r fs];exact q
 ·obtain⟨its,r,pl,hz⟩:=I.tuple hq;refine SeqAt.notIn_tupleAt (eqU x) pl (λw hw=>zdq rx fx r fs w (by simpa using hw)) ⟨.bl _,H,I,rfl,?_⟩;rw[show its.toArray.any (eqU x)=its.any (eqU x) by simp,zfi r fs];exact q
theorem zio:CallR X (.builtin "len") (λxs H Q=>∃p ys,xs=[.ref p]/\(SqL X.K H p ys\/SqT X.K H p ys)/\Q (.int ys.length) H):=by
 intro pins s σ H xs us Q I r h;obtain⟨p,ys,rfl,hq,q⟩:=h;obtain⟨u,rfl,rx⟩:=vals1 r;cases rx;have hn:=line63;rcases hq with hq|hq
 ·obtain⟨its,r',pl,hz⟩:=I.list hq;have hlen:=r'.length;exact Calls.call_len_list pl.isList (by simp only[y03]<;>omega) ⟨.int ys.length,H,I.tok _,⟨s.toks+1,by rw[y03,hlen]⟩,q⟩
 ·obtain⟨its,r',pl,hz⟩:=I.tuple hq;have hlen:=r'.length;exact len_tuple pl (by simp only[y03]<;>omega) ⟨.int ys.length,H,I.tok _,⟨s.toks+1,by rw[y03,hlen]⟩,q⟩
theorem zin:CallR X (.builtin "len") (λxs H Q=>∃z,xs=[.str z]/\z.length<=sizeLine/\Q (.int z.length) H):=by
 intro pins s σ H xs us Q I r h;obtain⟨z,rfl,hz,q⟩:=h;obtain⟨u,rfl,t,rfl⟩:=vals1 r;have hn:=line63;exact len_str (by omega) ⟨.int z.length,H,I.tok _,⟨_,rfl⟩,q⟩
theorem zim:CallR X (.type "list") (λxs H Q=>∃p ys,xs=[.ref p]/\(SqL X.K H p ys\/SqT X.K H p ys)/\∀l,H l=none->Q (.ref l) (upd H l (.lst ys))):=by
 intro pins s σ H xs us Q I r h;obtain⟨p,ys,rfl,hq,q⟩:=h;obtain⟨u,rfl,rx⟩:=vals1 r;cases rx;have fin:∀(its:List Value),Vals ys its->ys.length<=sizeLine->∀(h':Heap) (c':Nat),(∀b o',s.heap.get? b=some o'->h'.get? b=some o')->
   h'.get? s.heap.objs.size=some {cls:=.type "list",dict:=none,data:=.seq its.toArray c',slots:=#[]}->EP X pins σ Q (.ref s.heap.objs.size) {s with heap:=h'}:=λits r' hz h' c' kp e =>
  ⟨.ref s.heap.objs.size,_,I.laid (t':=s.toks) kp (y04 _) (show ObjOk X.prog X.w _ h' _ (.lst ys)from⟨hz,its,c',r',e⟩),rfl,q _ (I.hok.fresh (y04 _))⟩
 rcases hq with hq|hq
 ·obtain⟨its,r',pl,hz⟩:=I.list hq;have hlen:=r'.length;obtain⟨o,ho,hc,n,hd⟩:=pl.isList;exact call_list_seq p (.inl rfl) ho hc hd (λh' c' kp e=>fin its r' hz h' c' kp e) (by simp only[y03]<;>omega)
 ·obtain⟨its,r',pl,hz⟩:=I.tuple hq;have hlen:=r'.length;obtain⟨o,ho,hc,n,hd⟩:=pl;exact call_list_seq p (.inr rfl) ho hc hd (λh' c' kp e=>fin its r' hz h' c' kp e) (by simp only[y03]<;>omega)
theorem zha:CallR X (.type "tuple") (λxs H Q=>∃p ys,xs=[.ref p]/\((SqL X.K H p ys/\∀l,H l=none->Q (.ref l) (upd H l (.tup ys)))\/(SqT X.K H p ys/\Q (.ref p) H))):=by
 intro pins s σ H xs us Q I r h;obtain⟨p,ys,rfl,h⟩:=h;obtain⟨u,rfl,rx⟩:=vals1 r;cases rx;rcases h with⟨hq,q⟩|⟨hq,q⟩
 ·obtain⟨its,r',pl,hz⟩:=I.list hq;have hlen:=r'.length;refine call_tuple_list pl.isList (λh' kp=>?_) (by simp only[y03]<;>omega);have I1:Inv X pins σ H {s with heap:=h'}:=I.kept (t':=s.toks) kp;have I2:Inv X pins σ (upd H h'.objs.size (.tup ys)) {s with heap:=h'.push {cls:=.type "tuple",data:=.seq its.toArray} } :=
   I1.laid (t':=s.toks) (λb o e=>y01 _ e) (y04 _) (show ObjOk X.prog X.w _ _ _ (.tup ys)from⟨hz,its,r',IsTup.new _ _⟩)
  exact⟨.ref h'.objs.size,_,I2,rfl,q _ (I1.hok.fresh (y04 _))⟩
 ·obtain⟨its,r',pl,hz⟩:=I.tuple hq;exact call_tuple_same pl ⟨.ref p,H,I,rfl,q⟩
def tyV(K:Frag)(T:String)(x:V)(H:Hp):Prop:=match x with
 |.str _=>T="str"
 |.int _=>T="int"
 |.ref p=>(T="list"/\∃xs,SqL K H p xs)\/(T="tuple"/\∃o,K.lookup p=some o/\o.cls=.type "tuple"/\o.dict=none)\/
   (T="dict"/\((∃kvs,H p=some (.dK kvs))\/∃kvs,H p=some (.dT kvs)))\/(T="set"/\∃S n,H p=some (.set S n))
 |_=>False
theorem zr6{pins:Y2}{σ:St}{H:Hp}{s:Shared}{T:String}{x:V}{v:Value}(I:Inv X pins σ H s)(r:RelV x v)(ty:tyV X.K T x H):
  s.TypeIs v T/\∀a,v=.ref a->∃ob,s.heap.get? a=some ob/\ob.dict=none:=by
 cases x with
 |str z =>
  obtain⟨t,rfl⟩:=r;cases(show T="str" from ty);exact⟨typeIs_str s z t,λ_ e=>nomatch e⟩
 |int i =>
  obtain⟨t,rfl⟩:=r;cases(show T="int" from ty);exact⟨typeIs_int s i t,λ_ e=>nomatch e⟩
 |ref p =>
  cases r;rcases ty with⟨rfl,xs,hq⟩|⟨rfl,o,hk,hc,hd⟩|⟨rfl,hk⟩|⟨rfl,S,n,hk⟩
  ·obtain⟨its,_,pl,_⟩:=I.list hq;refine⟨pl.isList.typeIs,λa e=>?_⟩;cases e;obtain⟨o,n,e,c,hd,_⟩:=pl;exact⟨o,e,hd⟩
  ·refine⟨⟨o,I.kIn p o hk,hc⟩,λa e=>?_⟩;cases e;exact⟨o,I.kIn _ o hk,hd⟩
  ·have z:∃o,s.heap.get? p=some o/\o.ExactDict:=by
    rcases hk with⟨kvs,hk⟩|⟨kvs,hk⟩
    ·obtain⟨_,_,_,_,o,_,_,e,ex,_⟩:=I.hok p _ hk;exact⟨o,e,ex⟩
    ·obtain⟨_,_,_,_,o,_,_,e,ex,_⟩:=I.hok p _ hk;exact⟨o,e,ex⟩
   obtain⟨o,e,ex⟩:=z;refine⟨⟨o,e,ex.1⟩,λa e2=>?_⟩;cases e2;exact⟨o,e,ex.2.1⟩
  ·obtain⟨o,_,_,_,e,ex,_⟩:=I.hok p _ hk;refine⟨⟨o,e,ex.1⟩,λa e2=>?_⟩;cases e2;exact⟨o,e,ex.2.1⟩
 |_=>exact False.elim ty
def tBM0(K:Frag)(T:String)(r:V->List V->Hp->VK->Prop)(to:TE):TE:=λσ H Q=>to σ H λx H1=>tyV K T x H1/\r x [] H1 Q
def tBM(K:Frag)(T:String)(r:V->List V->Hp->VK->Prop)(to:TE)(t:TA):TE:=λσ H Q=>to σ H λx H1=>tyV K T x H1/\t σ H1 λxs H2=>r x xs H2 Q
variable {o e:Expr}{es:List Expr}{to:TE}{t:TA}{name:Str}{apos cpos:Pos}{T id:String}{r:V->List V->Hp->VK->Prop}
theorem zwb(pa:PlainAttrs T)(slot:Slot T name id)(hty:typeOf (.builtin id)=pure (.type "method_descriptor"))(hm:MtR X id r)(ho:PE X o to)
  (hbase:attributeBase o name X.env (eval o X.env)=eval o X.env:=by rfl) (hline:(apos.endLine==cpos.line)=true:=by rfl):PE X (.Call (.Attribute o name apos) [] [] cpos) (tBM0 X.K T r to):=by
 intro pins s σ H Q I h;refine wpAny_Call_method0_late hbase hline (thn (ho pins s σ H _ I h) λv s1 zz=>ex5 zz λx H1 I1 r1 zq=>?_);obtain⟨ty,q1⟩:=zq;obtain⟨h1,h2⟩:=zr6 I1 r1 ty;exact⟨T,id,pa,slot,hty,h1,h2,Calls.callWith_builtin rfl (PySem.evalArgs_none (hm pins s1 σ H1 x [] v [] Q I1 r1 .nil q1))⟩
theorem zxq(pa:PlainAttrs T)(slot:Slot T name id)(hty:typeOf (.builtin id)=pure (.type "method_descriptor"))(hm:MtR X id r)(ho:PE X o to)(ha:PA X (e::es) t)
  (hbase:attributeBase o name X.env (eval o X.env)=eval o X.env:=by rfl)
  (hfew:((backTo cpos (starEach (e::es) X.env)).all (λx=>!x.1)&&(backToKw cpos (keywordEach [] X.env)).all (λx=>x.1.isSome)
   && decide ((e::es).length+([]:List Keyword).length+(if([]:List Keyword).isEmpty then 0 else 1)<30))=true:=by rfl)
  (hline:(apos.endLine==cpos.line)=true:=by rfl) (hs:starEach (e::es) X.env=(false,eval e X.env)::starEach es X.env:=by rfl) (hplain:(backTo cpos (starEach es X.env)).any (·.1)=false:=by rfl) :
  PE X (.Call (.Attribute o name apos) (e::es) [] cpos) (tBM X.K T r to t):=by
 intro pins s σ H Q I h;refine wpAny_Call_method_late hbase hfew hline rfl (thn (ho pins s σ H _ I h) λv s1 zz=>ex5 zz λx H1 I1 r1 zq=>?_);obtain⟨ty,q1⟩:=zq;obtain⟨h1,h2⟩:=zr6 I1 r1 ty;refine⟨T,id,pa,slot,hty,h1,h2,?_⟩;have hA:=ha cpos pins s1 σ H1 _ I1 q1;rw[hs]at hA ⊢;refine Calls.callWith_builtin (by show(false||(backTo cpos (starEach es X.env)).any (·.1))=false;rw[hplain]<;>rfl) (Calls.evalArgs_plain ?_);exact thn hA λus s2 zz=>ex5 zz λvs H2 I2 r2 q2=>hm pins s2 σ H2 x vs v us Q I2 r1 r2 q2
end
def MtM(X:Cx)(id:String)(r:V->List V->Hp->VK->Prop):Prop :=
 ∀(pins:Y2) (s:Shared) (σ:St) (H:Hp) (x:V) (xs:List V) (v:Value) (us:List Value) (Q:VK),Inv X pins σ H s->RelV x v->Vals xs us->r x xs H Q->
  wpAny (model X.prog X.w) X.A (call (.builtin id) (v::us)) (EP X pins σ Q) X.xe s
theorem Vals.one:∀{x:V} {us:List Value},Vals [x] us->∃u,us=[u]/\RelV x u:=λh=>vals1 h
theorem Vals.zero:∀{us:List Value},Vals [] us->us=[]
 |_,.nil=>rfl
theorem Vals.dropLast(h:Vals xs us):Vals xs.dropLast us.dropLast:=by
 induction h with
 |nil=>exact .nil
 |cons r t ih =>
  cases t with
  |nil=>exact .nil
  |cons q t'=>exact .cons r ih
theorem Vals.rep(h:Vals xs us):∀k:Nat,Vals (List.replicate k xs).flatten (List.replicate k us).flatten
 |0=>.nil
 |k+1=>by
  rw[y24,y24,y2q,y2q];exact Vals.append h (Vals.rep h k)
theorem zmf{α:Type}(l:List α):l.eraseIdx (l.length-1)=l.dropLast:=by
 induction l with
 |nil=>rfl
 |cons a r ih =>
  cases r with
  |nil=>rfl
  |cons b r =>
   have e:(a::b::r).length-1=((b::r).length-1)+1:=by
    have h1:(a::b::r).length=r.length+2:=rfl;have h2:(b::r).length=r.length+1:=rfl;omega
   rw[e,List.eraseIdx_cons_succ,ih]
   all_goals rfl
theorem zic(its:List Value):∀(k:Nat) (acc:List Value),
  List.foldl (λx1 x2=>x1++x2) acc.toArray (List.replicate k its.toArray)=(acc++(List.replicate k its).flatten).toArray
 |0,acc=>by simp
 |k+1,acc=>by
  have e:acc.toArray++its.toArray=(acc++its).toArray:=by simp
  have e2:(acc++its)++(List.replicate k its).flatten=acc++(List.replicate (k+1) its).flatten:=by
   rw[y24,y2q,y2c]
  rw[←e2,←zic its k (acc++its),←e,y24,List.foldl_cons]
section
variable {X:Cx}{pins:Y2}{σ:St}{H:Hp}{s:Shared}{l b:Addr}{xs ys zs:List V}
theorem Inv.lset{its its':List Value}(I:Inv X pins σ H s)(hH:H l=some (.lst xs))
  (e:s.heap.get? l=some {cls:=.type "list",data:=.seq its.toArray n}) (hf:f its.toArray=its'.toArray) (hv:Vals ys its') (hz:ys.length<=sizeLine) :
  Inv X pins σ (upd H l (.lst ys)) {s with heap:=s.heap.update l (Obj.mapSeq f),toks:=t'}:=by
 have q:=PySem.IsL.update e f;rw[hf]at q;refine I.write (x:=l) (e:=l) (by rw[hH];exact trivial) (.inl rfl) (λb' u hb hu=>(y1k s.heap (Obj.mapSeq f) (Ne.symm hb)).trans hu) ⟨_,q⟩ ?_;exact⟨hz,its',_,hv,q⟩
theorem Inv.lnew(I:Inv X pins σ H s)(hv:Vals ys its)(hz:ys.length<=sizeLine):
  Inv X pins σ (upd H s.heap.objs.size (.lst ys)) {s with heap:=s.heap.push {cls:=.type "list",data:=.seq its.toArray},toks:=t'} :=
 I.laid (λ_ _ q=>y01 _ q) (y04 _) ⟨hz,its,0,hv,y0b _ rfl⟩
theorem Inv.fresh(I:Inv X pins σ H s):H s.heap.objs.size=none:=I.hok.fresh (y04 _)
theorem Inv.lstM(I:Inv X pins σ H s)(hH:H l=some (.lst xs)):xs.length<=sizeLine/\∃(its:List Value) (n:Nat),Vals xs its/\xs.length=its.length/\s.heap.get? l=some {cls:=.type "list",data:=.seq its.toArray n}:=by
 obtain⟨z,its,n,r,e⟩:=I.hok l _ hH;exact⟨z,its,n,r,r.length,e⟩
theorem notLongL(h:n<=sizeLine):Builtin.List.listTooLong n=false:=by
 unfold Builtin.List.listTooLong;exact decide_eq_false (by omega)
end
section
variable {X:Cx}
def rAppend:V->List V->Hp->VK->Prop:=λx vs H Q=>∃l xs y,x=.ref l/\vs=[y]/\H l=some (.lst xs)/\xs.length<sizeLine/\Q .non (upd H l (.lst (xs++[y])))
theorem zbe:MtM X "list.append" rAppend:=by
 intro pins s σ H x vs v us Q I rx rv h;obtain⟨l,xs,y,rfl,rfl,hH,hz,q⟩:=h;cases rx;obtain⟨u,rfl,ru⟩:=rv.one;obtain⟨z,its,n,r,hl,e⟩:=I.lstM hH;refine call_meets F.slot_list_append ⟨_,e,rfl⟩ F.entry_list_append (F.args_list_append_2 _ _) (PySem.list_append l its.toArray n u (by rw[y03];omega)) ⟨e,?_⟩;refine⟨.non,_,I.lset (its':=its++[u]) hH e (by simp) (r.append (.cons ru .nil)) ?_,rfl,q⟩;rw[y06,y16];omega
def rExtend:V->List V->Hp->VK->Prop:=λx vs H Q=>∃l b xs zs,x=.ref l/\vs=[.ref b]/\H l=some (.lst xs)/\H b=some (.lst zs)/\xs.length+zs.length<=sizeLine/\Q .non (upd H l (.lst (xs++zs)))
theorem zoj:MtM X "list.extend" rExtend:=by
 intro pins s σ H x vs v us Q I rx rv h;obtain⟨l,b,xs,zs,rfl,rfl,hH,hB,hz,q⟩:=h;cases rx;obtain⟨u,rfl,ru⟩:=rv.one;cases ru;obtain⟨z,its,n,r,hl,e⟩:=I.lstM hH;obtain⟨z2,its2,n2,r2,hl2,e2⟩:=I.lstM hB;have hsz:its.toArray.size+its2.toArray.size<=sizeLine:=by rw[y03,y03];omega
 have hlong:¬(!its.toArray.isEmpty&&Builtin.List.listTooLong (its.toArray.size+its2.toArray.size))=true:=by
  rw[notLongL hsz,y2l];exact y0e
 refine call_meets F.slot_list_extend ⟨_,e,rfl⟩ F.entry_list_extend (F.args_list_extend_2 _ _)
  (AutoSeq1.list_extend_list_list_0 l its.toArray n b its2.toArray n2 hlong (by rw[y03];omega) (by omega)) ⟨e,e2,?_⟩
 refine⟨.non,_,I.lset (its':=its++its2) hH e (by simp) (r.append r2) ?_,rfl,q⟩;rw[y06];omega
def rPop:V->List V->Hp->VK->Prop:=λx vs H Q=>∃l xs y,x=.ref l/\vs=[]/\H l=some (.lst xs)/\xs[xs.length-1]?=some y/\Q y (upd H l (.lst xs.dropLast))
theorem zsk:MtM X "list.pop" rPop:=by
 intro pins s σ H x vs v us Q I rx rv h;obtain⟨l,xs,y,rfl,rfl,hH,hy,q⟩:=h;cases rx;have hus:=rv.zero;subst hus;obtain⟨z,its,n,r,hl,e⟩:=I.lstM hH;obtain⟨u,hu,ru⟩:=r.get hy;have hy':its.toArray[its.toArray.size-1]?=some u:=by
  show its.toArray[its.length-1]?=some u;rw[←y1x,←hl];exact hu
 refine call_meets F.slot_list_pop ⟨_,e,rfl⟩ F.entry_list_pop (F.args_list_pop_1 _) (MeetsSeq.list_pop_last l its.toArray n u hy' (by rw[y03];omega)) ⟨e,?_⟩;refine⟨y,_,I.lset (its':=its.dropLast) hH e ?_ r.dropLast ?_,ru,q⟩
 ·show its.toArray.eraseIdxIfInBounds (its.toArray.size-1)=its.dropLast.toArray;rw[y03,List.eraseIdxIfInBounds_toArray,zmf]
 ·rw[List.length_dropLast];omega
def rPopAt:V->List V->Hp->VK->Prop:=λx vs H Q=>∃l xs i k y,x=.ref l/\vs=[.int i]/\H l=some (.lst xs)/\-(2^63)<=i/\i<2^63/\seqIndex? i xs.length=some k/\xs[k]?=some y/\Q y (upd H l (.lst (xs.eraseIdx k)))
def rCat:R2:=λx y H Q=>∃l b xs zs,x=.ref l/\y=.ref b/\H l=some (.lst xs)/\H b=some (.lst zs)/\xs.length+zs.length<=sizeLine/\∀p,H p=none->Q (.ref p) (upd H p (.lst (xs++zs)))
theorem zwi:OpR X (binaryOp .Add) rCat:=by
 infer_instance;obtain⟨l,b,xs,zs,rfl,rfl,hH,hB,hz,q⟩:=h;cases rx;cases ry;obtain⟨z,its,n,r,hl,e⟩:=I.lstM hH;obtain⟨z2,its2,n2,r2,hl2,e2⟩:=I.lstM hB;refine PySem.P.add_list e e2 ?_ (by rw[y03,y03];omega);have ea:its.toArray++its2.toArray=(its++its2).toArray:=by simp
 rw[ea];exact⟨.ref _,_,I.lnew (t':=s.toks) (r.append r2) (by rw[y06];omega),rfl,q _ I.fresh⟩
def rRep:R2:=λx y H Q=>∃l k xs,x=.ref l/\y=.int k/\H l=some (.lst xs)/\-(2^63)<=k/\k<2^63/\xs.length*k.toNat<=sizeLine/\
 ∀p,H p=none->Q (.ref p) (upd H p (.lst (List.replicate k.toNat xs).flatten))
theorem zuu{α:Type}(xs:List α)(k:Nat):(List.replicate k xs).flatten.length=k*xs.length:=by
 induction k with
 |zero=>simp
 |succ k ih=>rw[y24,y2q,y06,ih,Nat.succ_mul,Nat.add_comm]
theorem zwd:OpR X (binaryOp .Mult) rRep:=by
 infer_instance;obtain⟨l,k,xs,rfl,rfl,hH,h1,h2,hz,q⟩:=h;cases rx;obtain⟨t,rfl⟩:=ry;obtain⟨z,its,n,r,hl,e⟩:=I.lstM hH;have hlen:its.toArray.size*k.toNat<=sizeLine:=by rw[y03,←hl];exact hz
 have hcap:¬its.toArray.size*k.toNat>(2^63-1)/8:=by
  have:(sizeLine:Nat)<=(2^63-1)/8:=by decide
  omega
 have hfit:¬(!Builtin.List.listFitsIndex k)=true:=by
  rw[fitsIndex_both h1 h2];exact y0e
 have hlong:¬Builtin.List.listTooLong (its.toArray.size*k.toNat)=true:=by
  rw[notLongL hlen];exact y0e
 have hnew:List.foldl (λx1 x2=>x1++x2) #[] (List.replicate (if its.toArray.isEmpty=true then 0 else k.toNat) its.toArray)=(List.replicate k.toNat its).flatten.toArray:=by
  have f0:∀m:Nat,List.foldl (λx1 x2=>x1++x2) #[] (List.replicate m its.toArray)=(List.replicate m its).flatten.toArray:=λm=>by
   have:=zic its m [];rw[y30]at this;exact this
  rw[f0];cases its with
  |nil=>simp
  |cons a r'=>rw[if_neg (by simp)]
 refine wpAny_binaryOp_repeat_ref (T:="list") (U:="int") (by decide) ⟨_,e,rfl⟩ (λs'=>typeIs_int s' k t) noFill_list_mul F.fills_int_mul F.slot_int_rmul repeat_list F.slot_int_index.lookup
  (call_meets F.slot_int_rmul (typeIs_int s k t) F.entry_int_rmul (F.args_int_rmul_2 _ _) (int___rmul___int_list k t l its.toArray n)
   ⟨e,rfl,⟨_,e,rfl⟩,call_meets F.slot_list_mul ⟨_,e,rfl⟩ F.entry_list_mul (F.args_list_mul_2 _ _) (AutoListH.list___mul___list_int_3 l its.toArray n k t hfit hcap hlong) ⟨e,?_⟩⟩)
 rw[hnew];exact⟨.ref _,_,I.lnew (t':=s.toks) (r.rep k.toNat) (by rw[zuu,Nat.mul_comm];exact hz),rfl,q _ I.fresh⟩
end
end L2
namespace Att
open PySem PySem.W PySem.Calls PyProof.Rows
theorem ze4:∀(ns:List Int) (vs:List Value),WellAll P h vs (ns.map WData.int)->IntsAre vs ns:=by
 intro ns
 induction ns with
 |nil =>
  intro vs w;rw[y2e]at w;cases w;exact .nil
 |cons n ns ih =>
  intro vs w;rw[y0k]at w;cases w with
  |cons a b =>
   cases a;exact .cons _ _ (ih _ b)
theorem zm7{l:OpenLaw}(hn:l.most=some n){h:Heap}
  (hpre:l.row.toRowW.claim.pre args=true) (hwl:WellAll P h vals args) :
  ∃a vs ns,vals=[Value.ref a]/\args=[WData.list (ns.map WData.int)]/\h.get? a=some {cls:=.type "list",data:=.seq vs.toArray}/\IntsAre vs ns/\ns.length<=n:=by
 have hsh:WShape.hasAll [] args [.list .int]=true:=(pre_splitW hpre).1;have hc:l.pre.holds [] {args:=args}=true:=(pre_splitW hpre).2;obtain⟨d,r,rfl,h1,h2⟩:=hasAllW_cons hsh;obtain rfl:=hasAllW_nil h2;obtain⟨xs,rfl,h3⟩:=hasW_list h1;obtain⟨ns,rfl⟩:=items_int h3;have hlen:ns.length<=n:=by
  unfold OpenLaw.pre at hc;have h4:(WTm.not (.lt (.lit (.int (n:Int))) (.len (.arg 0)))).holds [] {args:=[.list (ns.map .int)]}=true:=by
   have h4:=(holds_andW hc).1;rw[hn]at h4;exact h4
  have h5:=condW_of h4 (w_not (w_lt w_lit (w_len_list (w_arg rfl))));rw[y00]at h5;refine y2u λq=>?_;have q':(n:Int)<((ns.length:Nat):Int):=by omega
  first
   |(rw[decide_eq_true q']at h5;exact absurd h5 (by decide))
   |(simp at h5;omega)
 cases hwl with
 |cons w1 w2 =>
  cases w2;cases w1 with
  |list ho hall=>exact⟨_,_,ns,rfl,rfl,ho,ze4 ns _ hall,hlen⟩
theorem znh(l:OpenLaw)(args:List WData):l.row.toRowW.claim.post args (.bool true) args=true :=
 postW_of (r:=l.row.toRowW) (X:=(true==true))
  (show WShape.has [] (.bool true) .bool=true by first|rfl|decide|simp[WShape.has,WShape.arms,WShape.armsAll])
  (show(WTm.eq .res (.lit (.bool true))).value [] {args:=args,res:=some (.bool true),after:=args}=some (.bool (true==true))from w_eq_bool (w_res rfl) w_lit) rfl
theorem attach_call{l:OpenLaw}{d:DefRec}
  (hn:l.most=some n) (hdf:d.params.defaults=[])
  (call:∀(w:World) (s₀ s₁:Shared) (mg mb:Y1) (fa:Addr) (o:Obj) (pm cd doc:Value) (a:Addr) (vs:List Value) (ns:List Int),
   Ground q loose [] XP w s₀ mg mb s₁.heap->YP w s₁.heap->
   s₁.heap.get? fa=some o->o.data=.func (docDef d.name d.params d.body d.scope pm cd doc)->s₁.heap.CodeRec cd d.name->mg d.name=some (.ref fa)->
   s₁.heap.get? a=some {cls:=.type "list",data:=.seq vs.toArray}->IntsAre vs ns->ns.length<=n->s₁.gens=#[]->
   codeAny (model l.prog w) callerA (.call (.ref fa) ⟨[.ref a],[]⟩) (λr s'=>r=.ok (.ret (.bool true))/\OldK s₁.heap s'.heap/\s'.os=s₁.os/\AllBare s'.gens) s₁) :
  WalkO q loose XP YP l.row.toRowW d [] (λf vs=>PySem.call f vs):=by
 intro w s₀ s₁ mg mb G Y fa o pm cd doc dV kV ho hd hcd hD hmg hg args vals as hpre hlay hrd hwl hlo;obtain rfl:dV=.none:=Dflts.none hD hdf;obtain rfl:kV=.none:=Dflts.noKw hD;obtain⟨a,vs,ns,rfl,rfl,hobj,hints,hlen⟩:=zm7 hn hpre hwl;refine enter_call (codeAny_mono (call w s₀ s₁ mg mb fa o pm cd doc a vs ns G Y ho (fd_plain hd) hcd hmg hobj hints hlen hg) λr s' hq=>?_);obtain⟨rfl,h2,h3,h4⟩:=hq;exact⟨.inl ⟨.bool true,.bool true,[],rfl,λ_=>rfl,.bool true,znh l _,λ_=>⟨List.Pairwise.nil,λ_ hm=>(nomatch hm)⟩⟩,h2,h3,h4⟩
end Att
namespace L2
theorem zhi:∀{vs:List Value} {ns:List Int},IntsAre vs ns->Vals (ns.map V.int) vs
 |_,_,.nil=>.nil
 |_,_,.cons n t h=>.cons ⟨t,rfl⟩ (zhi h)
abbrev KOf{K:Frag}{h:Heap}(_:K.In h):Frag:=K
def inClass(s:Stmt)(j:Nat):Stmt:=match s with
 |.ClassDef _ _ _ body _ _ _ _ _ _ _=>body.getD j (.Pass ⟨0,0,0,0⟩)
 |_=>.Pass ⟨0,0,0,0⟩
def defArgs(s:Stmt):Arguments:=match s with
 |.FunctionDef _ a _ _ _ _ _ _ _ _=>a
 |_=>{posonlyargs:=[],args:=[],vararg:=none,kwonlyargs:=[],kw_defaults:=[],kwarg:=none,defaults:=[]}
def defBody(s:Stmt):List Stmt:=match s with
 |.FunctionDef _ _ b _ _ _ _ _ _ _=>b
 |_=>[]
def defScope(s:Stmt):Scope:=match s with
 |.FunctionDef _ _ _ _ _ _ sc _ _ _=>sc
 |_=>{kind:=.function,names:=[],isGenerator:=false,isCoroutine:=false}
abbrev CX0:CXT:=λ_ _ _ _ _ _=>False
abbrev E0:XK:=λ_ _ _=>False
theorem pass0:Passes CX0 X E0:=λ_ _ _ _ _ _ _ h=>h.elim
structure Fun(K:Frag)(x qual:Str)(st:Stmt)(f:Addr)(fd:FuncData):Prop where
 ex:∃(oc:Value) (od:Option Addr) (kV doc pm:Value) (an:Option Addr) (cdv ct:Value) (osl:Y8),
  fd=PySem.W.fnOf x qual (defArgs st) (defBody st) (defScope st) .none kV doc pm an cdv ct/\K.lookup f=some ⟨oc,od,.func fd,osl⟩/\PySem.W.codeIn K cdv qual=true
 kp:PySem.W.keepIn K (.ref f)=true
section
variable {P:Program}{w:World}{K:Frag}{mg:Y1}{base:Heap}
theorem Fun.ok{x qual:Str}{st:Stmt}{f:Addr}{fd:FuncData}{N ps:List Str}{k:Nat}{sp:Sp}(F:Fun K x qual st f fd)(S:FnScope N ps (defScope st))(len:∀vs H Q E,sp vs H Q E->vs.length=ps.length)
  (hbody:∀(cdv:Value) (A:Around) (outer:List Env) (s:Shared) (H:Hp) (vs:List V) (Q:VK) (E:XK),Room k (A.deeper (envOfC qual (defScope st) s.heap.objs.size f cdv))->sp vs H Q E->
   ∃t,PSs (cxOf CX0 P w K mg base N qual (defScope st) f cdv A outer s H E).nox (defBody st) t/\t {nx:=λ_ H'=>Q .non H',rt:=Q} (start N vs) H):FnOk P w K mg base CX0 (k+1) f fd ps sp:=by
 obtain⟨oc,od,kV,doc,pm,an,cdv,ct,osl,rfl,lk,hcd⟩:=F.ex;refine zu2 lk hcd S len λA outer s H vs Q E hr hsp=>?_;obtain⟨t,h,q⟩:=hbody cdv A outer s H vs Q E hr hsp;exact⟨t,h.nox,q⟩
theorem Fun.binds{x qual:Str}{st:Stmt}{f:Addr}{fd:FuncData}{ps:List Str}(F:Fun K x qual st f fd)
  (h:∀(kV doc pm:Value) (an:Option Addr) (cdv ct:Value) (us:List Value),us.length=ps.length->bindArgs (PySem.W.fnOf x qual (defArgs st) (defBody st) (defScope st) .none kV doc pm an cdv ct) ⟨us,[]⟩=pure (ps.zip us)):Binds K fd ps []:=by
 obtain⟨oc,od,kV,doc,pm,an,cdv,ct,osl,rfl,lk,hcd⟩:=F.ex;exact .all (h kV doc pm an cdv ct)
theorem zd8{x qual:Str}{st:Stmt}{f:Addr}{oc:Value}{od an:Option Addr}{osl:Y8}{kV doc pm cdv ct:Value}(l:K.lookup f=some ⟨oc,od,.func (PySem.W.fnOf x qual (defArgs st) (defBody st) (defScope st) .none kV doc pm an cdv ct),osl⟩)
  (c:PySem.W.codeIn K cdv qual=true) (k:PySem.W.keepIn K (.ref f)=true):Fun K x qual st f (PySem.W.fnOf x qual (defArgs st) (defBody st) (defScope st) .none kV doc pm an cdv ct):=⟨⟨oc,od,kV,doc,pm,an,cdv,ct,osl,rfl,l,c⟩,k⟩
end
theorem small1000(h:n<=1000):n<sizeLine:=Nat.lt_of_le_of_lt h (by decide)
section
variable {X:Cx}
theorem pv(i:Nat){x:Str}{pos:Pos}(hN:X.N[i]?=some x:=by rfl)(hv:Vis X.env.scope x:=by first|exact Or.inl rfl|exact Or.inr (Or.inl rfl)|exact Or.inr (Or.inr rfl))(hd:(x==("__debug__":Str))=false:=by decide)
  (hcd:(x==("__classdict__":Str))=false:=by decide):PE X (.Name x pos) (tVar i):=zsf hN hv hd hcd
end
theorem iteF{A B:Prop}(h:B):if false=true then A else B:=by
 rw[if_neg y0e];exact h
theorem iteT{A B:Prop}(h:A):if true=true then A else B:=by
 rw[if_pos rfl];exact h
theorem itT{c A B:Prop}[Decidable c](e:c)(h:A):if decide c=true then A else B:=by
 rw[decide_eq_true e];exact iteT h
theorem itF{c A B:Prop}[Decidable c](e:¬c)(h:B):if decide c=true then A else B:=by
 rw[decide_eq_false e];exact iteF h
theorem ite2{c A B:Prop}[Decidable c](h1:c->A)(h2:¬c->B):if c then A else B:=by
 by_cases h:c
 ·rw[if_pos h];exact h1 h
 ·rw[if_neg h];exact h2 h
def Same(H H':Hp):Prop:=∀b o,H b=some o->H' b=some o
theorem Same.refl(H:Hp):Same H H:=λ_ _ h=>h
theorem Same.trans(a:Same H H1)(b:Same H1 H2):Same H H2:=λc o h=>b c o (a c o h)
theorem Same.free(e:Same H H')(h:H' l=Option.none):H l=Option.none:=by
 cases q:H l with
 |none=>rfl
 |some o =>
  rw[e l o q]at h;cases h
theorem Same.seq{K:Frag}{H H':Hp}{a:Addr}{xs:List V}(e:Same H H')(h:SqL K H a xs):SqL K H' a xs:=by
 rcases h with(h|⟨o,h⟩)|h
 ·exact .inl (.inl (e _ _ h))
 ·exact .inl (.inr ⟨o,e _ _ h⟩)
 ·exact .inr h
theorem ixm{a:Addr}{S:Addr->List V->Prop}{xs:List V}{i:Int}{v:V}{R:V->Prop}(e:S a xs)(h:atI xs i=some v)(r:R v):∃p,V.ref a=V.ref p/\∃xs,S p xs/\∃v,atI xs i=some v/\R v:=⟨a,rfl,xs,e,v,h,r⟩
theorem fdm{H:Hp}{a C dx:Addr}{fs:List (Str×V)}{K:Frag}{f:Str}{v:V}{R:V->Prop}(e:H a=some (.ins C dx fs))(c:Cls K C)(n:NoAttr K C f)(l:fs.lookup f=some v)(r:R v):∃C dx fs,H a=some (.ins C dx fs)/\Cls K C/\NoAttr K C f/\∃v,fs.lookup f=some v/\R v:=⟨C,dx,fs,e,c,n,v,l,r⟩
theorem mtm{H:Hp}{a C dx:Addr}{fs:List (Str×V)}{m:Str}{R:Prop}(e:H a=some (.ins C dx fs))(l:fs.lookup m=none)(r:R):∃dx fs,H a=some (.ins C dx fs)/\fs.lookup m=none/\R:=⟨dx,fs,e,l,r⟩
theorem mkT{xs:List V}{R:Prop}(k:R)(h:Nat.ble xs.length sizeLine=true:=by rfl):xs.length<=sizeLine/\R:=⟨Nat.le_of_ble_eq_true h,k⟩
theorem atom{A:Prop}(h:∀G:Prop,(A->G)->G):A:=h A id
theorem zd0(env:Env):∀(names:List (Str×NameKind)) (cs:Y4),
  (∀p∈names,p.2=.free->∃c,env.cells.lookup p.1=some c)->(∀x c,cs.lookup x=some c->env.cells.lookup x=some c)->
  ∃cl:List (Str×Addr),(forIn names cs λ(p:Str×NameKind) (r:Y4)=>(if(p.2==NameKind.free)=true then(do let c ←cellOf env p.1;pure (ForInStep.yield ((p.1,c)::r)))else pure (ForInStep.yield r):Sem (ForInStep (List (Str×Addr)))))=(pure cl:Sem (List (Str×Addr)))/\
   (∀x c,cl.lookup x=some c->env.cells.lookup x=some c)/\(∀x,(cs.lookup x).isSome=true->(cl.lookup x).isSome=true)/\(∀p∈names,p.2=.free->(cl.lookup p.1).isSome=true)
 |[],cs,_,h2=>⟨cs,rfl,h2,λ_ h=>h,λ_ h=>nomatch h⟩
 |(n,k)::r,cs,h1,h2=>by
  have h1':∀p∈r,p.2=.free->∃c,env.cells.lookup p.1=some c:=λp hp=>h1 p (y09 _ hp);by_cases hk:(k==NameKind.free)=true
  ·have hk':k=.free:=by simpa using hk
   obtain⟨c,hc⟩:=h1 (n,k) y0c hk';have h2':∀x c',((n,c)::cs).lookup x=some c'->env.cells.lookup x=some c':=λx c' e=>by
    rw[y0x]at e;cases hx:x==n with
    |true =>
     rw[hx]at e;have e1:x=n:=by simpa using hx
     rw[e1,hc];exact e
    |false=>rw[hx]at e;exact h2 x c' e
   obtain⟨cl,e1,e2,e3,e4⟩:=zd0 env r ((n,c)::cs) h1' h2';have hn:(((n,c)::cs).lookup n).isSome=true:=by rw[y0x,beq_self_eq_true];rfl
   refine⟨cl,?_,e2,λx hx=>e3 x ?_,λp hp hf=>?_⟩
   ·rw[y31];have q:cellOf env n=pure c:=by unfold cellOf;rw[hc]
    simp only[hk,if_true,q];exact e1
   ·rw[y0x];cases x==n with
    |true=>rfl
    |false=>exact hx
   ·rcases y02.mp hp with e|hp
    ·rw[e];exact e3 n hn
    ·exact e4 p hp hf
  ·obtain⟨cl,e1,e2,e3,e4⟩:=zd0 env r cs h1' h2;refine⟨cl,?_,e2,e3,λp hp hf=>?_⟩
   ·rw[y31];have hkf:(k==NameKind.free)=false:=by simpa using hk
    simp only[hkf,y1f,if_false];exact e1
   ·rcases y02.mp hp with e|hp
    ·rw[e]at hf;exact absurd (by simpa using hf) hk
    ·exact e4 p hp hf
theorem zga(h:∀p∈scope.names,p.2=.free->∃c,env.cells.lookup p.1=some c):
  ∃cl,closureFor scope env=pure cl/\(∀x c,cl.lookup x=some c->env.cells.lookup x=some c)/\(∀p∈scope.names,p.2=.free->∃c,cl.lookup p.1=some c):=by
 obtain⟨cl,e1,e2,_,e4⟩:=zd0 env scope.names [] h (λx c e=>by simp at e);refine⟨cl,?_,e2,λp hp hf=>y2n.mp (e4 p hp hf)⟩;have q:closureFor scope env=(forIn scope.names [] λ(p:Str×NameKind) (r:Y4)=>(if(p.2==NameKind.free)=true then(do let c ←cellOf env p.1;pure (ForInStep.yield ((p.1,c)::r)))else pure (ForInStep.yield r):Sem (ForInStep (List (Str×Addr)))))>>=pure:=by
  unfold closureFor;rfl
 rw[q,e1];rfl
theorem zd6{env:Env}:∀{names:List (Str×NameKind)} {x:Str},(∀y∈names,y.2 ≠ .cell)->
  ((names.map λ(n,k)=>if(k==NameKind.free&&env.scope.kind ==.function&&env.kindOf n==some .cell)then(n,NameKind.cell)else(n,k)).lookup x=some .cell\/
   (names.map λ(n,k)=>if(k==NameKind.free&&env.scope.kind ==.function&&env.kindOf n==some .cell)then(n,NameKind.cell)else(n,k)).lookup x=some .free)->(x,NameKind.free)∈names
 |[],_,_,h=>by simp at h
 |(n,k)::r,x,hc,h=>by
  have ih:=@zd6 env r x (λy hy=>hc y (y09 _ hy));simp only[y0k]at h;cases hx:x==n with
  |true =>
   have e:x=n:=by simpa using hx
   subst e;by_cases hh:(k==NameKind.free&&env.scope.kind ==.function&&env.kindOf x==some .cell)=true
   ·have:k=.free:=by
     simp only[y05]at hh;simpa using hh.1.1
    subst this;exact y0c
   ·rw[if_neg hh]at h;simp only[y0x,hx]at h;rcases h with h|h
    ·have:k=.cell:=Option.some.inj h;exact absurd this (hc (x,k) y0c)
    ·have:k=.free:=Option.some.inj h;subst this;exact y0c
  |false =>
   refine y09 _ (ih ?_);by_cases hh:(k==NameKind.free&&env.scope.kind ==.function&&env.kindOf n==some .cell)=true
   ·rw[if_pos hh]at h;simpa only[y0x,hx]using h
   ·rw[if_neg hh]at h;simpa only[y0x,hx]using h
theorem zd5{env:Env}:∀{names:List (Str×NameKind)} {x:Str},names.lookup x=some .free->
  ((names.map λ(n,k)=>if(k==NameKind.free&&env.scope.kind ==.function&&env.kindOf n==some .cell)then(n,NameKind.cell)else(n,k)).lookup x=some .cell\/
   (names.map λ(n,k)=>if(k==NameKind.free&&env.scope.kind ==.function&&env.kindOf n==some .cell)then(n,NameKind.cell)else(n,k)).lookup x=some .free)
 |[],_,h=>by simp at h
 |(n,k)::r,x,h=>by
  have ih:=@zd5 env r x;simp only[y0k];cases hx:x==n with
  |true =>
   simp only[y0x,hx]at h;have e:k=.free:=Option.some.inj h;subst e;by_cases hh:(NameKind.free==NameKind.free&&env.scope.kind ==.function&&env.kindOf n==some .cell)=true
   ·rw[if_pos hh];left;simp only[y0x,hx]
   ·rw[if_neg hh];right;simp only[y0x,hx]
  |false =>
   simp only[y0x,hx]at h;by_cases hh:(k==NameKind.free&&env.scope.kind ==.function&&env.kindOf n==some .cell)=true
   ·rw[if_pos hh];simpa only[y0x,hx]using ih h
   ·rw[if_neg hh];simpa only[y0x,hx]using ih h
def cxB(X:Cx)(scope:Scope)(tn:List Str)(cp:Y6)(cl:Y4)(C:Addr)(s:Shared)(H:Hp)(fp:List Addr):Cx :=
 {X with N:=tn++cp.map (·.2),s₀:=s,H₀:=H,env:=compEnvC scope cl C X.env,outer:=X.stack,ex:=fp,fn:=λ_=>false,pn:=[],xe:=λ_ _=>False}
def stB(tn:List Str)(cp:Y6)(σ:St):St:=List.replicate tn.length none++cp.map λp=>(σ[p.1]?).getD none
structure CompOk(X:Cx)(scope:Scope)(cp:Y6):Prop where
 kind:scope.kind=.function
 nocell:∀y∈scope.names,y.2 ≠ .cell
 names:∀y∈scope.names,y.2=.local->scope.names.lookup y.1=some .local
 free:∀y∈scope.names,y.2=.free->X.env.kindOf y.1=some .cell\/X.env.kindOf y.1=some .free
 cap:∀p∈cp,X.N[p.1]?=some p.2/\scope.names.lookup p.2=some .free
section
variable {X:Cx}{pins:Y2}{σ:St}{H:Hp}{s:Shared}{scope:Scope}{tn:List Str}{cp:Y6}{cl:Y4}{fp:List Addr}
theorem mem_of_lookup'{α:Type}:∀{l:List (Str×α)} {x:Str} {v:α},l.lookup x=some v->(x,v)∈l
 |[],_,_,h=>by simp at h
 |(n,k)::r,x,v,h=>by
  rw[y0x]at h;cases hx:x==n with
  |true =>
   rw[hx]at h;have e:x=n:=by simpa using hx
   have e2:k=v:=Option.some.inj h;subst e e2;exact y0c
  |false=>rw[hx]at h;exact y09 _ (mem_of_lookup' h)
theorem zj0(I:Inv X pins σ H s)(O:CompOk X scope cp)(hcl1:∀x c,cl.lookup x=some c->X.env.cells.lookup x=some c)(hcl2:∀p∈scope.names,p.2=.free->∃c,cl.lookup p.1=some c)
  (hf:∀b∈fp,FpOk X pins H b/\b<s.heap.objs.size) (hns:h₁.Ns s.heap.objs.size m0) (hk:∀b o,s.heap.get? b=some o->h₁.get? b=some o) :
  Inv (cxB X scope tn cp cl s.heap.objs.size s H fp) [] (stB tn cp σ) H {s with heap:=h₁,toks:=t'}:=by
 have ok:(cxB X scope tn cp cl s.heap.objs.size s H fp).Ok:=by
  refine⟨I.ok.mod,O.kind,I.ok.glob,I.ok.blt,y04 _,λx y c e1 e2=>I.ok.inj x y c (hcl1 x c e1) (hcl1 y c e2),λx hx=>?_,λx c hx=>(by cases hx),I.ok.hd,I.ok.frames,.inl rfl,λb hb=>⟨y0h (hf b hb).2,λx c e=>?_⟩,
   λb o e=>I.bs b o e,y15 I.ok.bsz I.sz,λb o e hb=>?_,λb hb hb'=>?_,I.stack,I.stkFree⟩
  ·exact hcl2 (x,.free) (zd6 O.nocell hx) rfl
  ·exact(hf b hb).1.2.2.2.2.1 x c (hcl1 x c e)
  ·rcases(hf b hb).1.2.2.2.1 with z|z
   ·exact I.ok.noex b o e z
   ·exact absurd (y0i (y0d e) (y15 I.ok.bsz z)) (y1h _)
  ·rcases y02.mp (I.stkSub b hb')with z|z
   ·exact(hf b hb).1.2.1 z
   ·exact(hf b hb).1.2.2.1 z
 refine⟨ok,rfl,I.bare,Un.kept hk,⟨m0,hns,λi x v e1 e2 e3=>?_⟩,λx c e=>?_,I.hok.fresh (y04 _),λx c e=>I.freeC x c (hcl1 x c e),λp hp=>by simp[cxB]at hp,I.hok.kept hk,?_⟩
 ·-- a captured name
  have e1':(tn++cp.map (·.2))[i]?=some x:=e1;have e2':(List.replicate tn.length none++cp.map λp=>(σ[p.1]?).getD none)[i]?=some (some v):=e2;by_cases hi:i<tn.length
  ·rw[y0u (by simpa using hi)]at e2';rw[y27,if_pos hi]at e2';cases e2'
  ·rw[y0o (by simpa using y2u hi),y1u,y0w]at e2';rw[y0o (y2u hi),y0w]at e1';cases hp:cp[i-tn.length]? with
   |none=>rw[hp]at e1';cases e1'
   |some p =>
    rw[hp]at e1' e2';have e1'':p.2=x:=Option.some.inj e1';have e2'':(σ[p.1]?).getD none=some v:=Option.some.inj e2';obtain⟨c1,c2⟩:=O.cap p (y0g hp);rw[e1'']at c1 c2;have hs:σ[p.1]?=some (some v):=by
     cases q:σ[p.1]? with
     |none=>rw[q]at e2'';cases e2''
     |some z=>rw[q]at e2'';exact congrArg some e2''
    have hk':=O.free (x,.free) (mem_of_lookup' c2) rfl;have hvis:Vis X.env.scope x:=by
     rcases hk' with z|z
     ·exact .inr (.inl z)
     ·exact .inr (.inr z)
    obtain⟨m,hn,hl⟩:=I.loc;obtain⟨u,r,l⟩:=hl p.1 x v c1 hs hvis;refine⟨u,r,.inr ?_⟩;rcases l with⟨z,_⟩|⟨_,c,hc,o,ho,hd⟩
    ·rcases hk' with y|y<;>(rw[z]at y;cases y)
    ·obtain⟨c',hc'⟩:=hcl2 (x,.free) (mem_of_lookup' c2) rfl;have:c'=c:=Option.some.inj ((hcl1 x c' hc').symm.trans hc);subst this;exact⟨zd5 c2,c',hc',o,hk c' o ho,hd⟩
 ·obtain⟨v,o,ho,hd⟩:=I.cell x c (hcl1 x c e);exact⟨v,o,hk c o ho,hd⟩
 ·show(stB tn cp σ).length=(tn++cp.map (·.2)).length;unfold stB;simp
theorem zpp{σ':St}{H':Hp}{s':Shared}{h':Heap}{pinsB:Y2}(I:Inv X pins σ H s)(hf:∀b∈fp,FpOk X pins H b)
  (J:Inv (cxB X scope tn cp cl s.heap.objs.size s H fp) pinsB σ' H' s') (hs:Heap.SameBut s.heap.objs.size s'.heap h'):Inv X pins σ H' {s' with heap:=h'}:=by
 have ne:∀b o,s.heap.get? b=some o->b≠s.heap.objs.size:=λb o e=>y0h (y0d e);have U:Un (frs X.stack) fp H H' s.heap h':=by
  have u:Un (frs X.stack) fp H H' s.heap s'.heap:=J.base;refine⟨λb o e n h1 h2=>(hs.2 b (ne b o e)).trans (u.keep b o e n h1 h2),λb o e n h1 h2=>?_,u.free,λb o e h2=>?_,u.tups,u.frzs,u.tbls⟩
  ·obtain⟨sl,q⟩:=u.slot b o e n h1 h2;exact⟨sl,(hs.2 b (ne b o e)).trans q⟩
  ·obtain⟨o',q⟩:=u.there b o e h2;exact⟨o',(hs.2 b (ne b o e)).trans q⟩
 have fr:H' s.heap.objs.size=none:=J.free;have hok:HOk X.prog X.w H' h':=λb ob e=>by
  refine(J.hok b ob e).stay (λc v hc q=>(hs.2 c ?_).trans q) (λ_ q=>q) (λ_ _ _ _ _ q=>q) λ_ _ q=>q;rintro rfl;rcases hc with z|z
  ·rw[←z,fr]at e;cases e
  ·rw[fr]at z;cases z
 refine I.call' (s':={s' with heap:=h'}) (ch:=fp) J.os U hok J.bare λb hb=>?_;obtain⟨_,f1,_,f3,f4,f5⟩:=hf b hb;exact⟨f3,f1,f4,f5⟩
end
def PIfs(X:Cx)(ifs:List Expr)(t:TT):Prop :=
 ∀(pins:Y2) (s:Shared) (σ:St) (H:Hp) (Q:Bool->Hp->Prop),Inv X pins σ H s->t σ H Q->
  wpAny (model X.prog X.w) X.A (forIn ifs true λc r=>if r=true then do let ok ←isTrue c X.env (eval c X.env);pure (ForInStep.yield ok)else pure (ForInStep.yield r)) (TP X pins σ Q) X.xe s
def tYes:TT:=λ_ H Q=>Q true H
theorem zb5:PIfs X [] tYes:=λ_ _ _ H _ I h=>wpAny_tests_nil ⟨H,I,h⟩
theorem zhz(h:PT X c t):PIfs X [c] t:=λpins s σ H Q I hw=>wpAny_tests_one (h pins s σ H Q I hw)
theorem zif(I:Nat->Shared->Prop)
  (turn:∀n s,I n s->wpAny (model prog w) A (pyNext it) (λr s₁=>match r with
   |none=>R (.ok .next) s₁
   |some v=>wpAny (model prog w) A (letOwnedTupleGo target it v) (λ_ s₂=>wpAny (model prog w) A (assign target env v) (λ_ s₃ =>
     wpAny (model prog w) A (forIn ifs true λc r=>if r=true then do let ok ←isTrue c env (eval c env);pure (ForInStep.yield ok)else pure (ForInStep.yield r)) (λok s₄ =>
      if ok=true then wpAny (model prog w) A (eval elt env) (λx s₅ =>
       wpAny (model prog w) A (call (.builtin "list.append") [acc,x]) (λ_ s₆=>∃m,m<n/\I m s₆) (λ_ _=>False) s₅) (λ_ _=>False) s₄
      else∃m,m<n/\I m s₄) (λ_ _=>False) s₃) (λ_ _=>False) s₂) (λ_ _=>False) s₁) (λ_ _=>False) s)
  (n:Nat) (h:I n s) :
  codeAny (model prog w) A (.compLoop (.ListComp elt [⟨target,iter,ifs,0⟩] scope pos) 0 it acc env) R s:=by
 refine codeAny_loop rfl I (λn s hI=>?_) n h;show wpAny _ A ((compTurn (.ListComp elt [⟨target,iter,ifs,0⟩] scope pos) 0 it acc env).onRaise (λx=>do noteFrame x env;theTreesLotGoes x)) _ _ s;refine wpAny_noted ?_;rw[compTurn_list];refine wpAny_bind (wpAny_standAt (wpAny_bind (wpAny_mono (turn n s hI) (λr s₁ h₁=>?_) λ_ _ f=>f.elim)));cases r with
 |none=>exact wpAny_pure h₁
 |some v =>
  refine wpAny_bind (wpAny_mono h₁ (λ_ s₂ h₂=>?_) λ_ _ f=>f.elim);refine wpAny_bind (wpAny_mono h₂ (λ_ s₃ h₃=>wpAny_bind (wpAny_mono h₃ (λok s₄ h₄=>?_) λ_ _ f=>f.elim)) λ_ _ f=>f.elim);cases ok with
  |false=>exact wpAny_pure ⟨rfl,h₄⟩
  |true =>
   exact wpAny_bind (wpAny_bind (wpAny_mono h₄ (λx s₅ h₅=>wpAny_bind (wpAny_mono h₅ (λ_ s₆ h₆=>wpAny_pure (wpAny_pure ⟨rfl,h₆⟩)) λ_ _ f=>f.elim)) λ_ _ f=>f.elim))
def tComp(tn:List Str)(cp:Y6)(wi:TI)(g:TG)(tif:TT)(te:TE):TE:=λσ H Q=>wi σ H λJ H1=>∀D,H1 D=none->∃W:Nat->Nat->St->Hp->Prop,
 (∃m,W 0 m (stB tn cp σ) (upd H1 D (.lst [])))/\∀i m σb Hb,W i m σb Hb->
  (J.stop i Hb/\Q (.ref D) Hb)\/(J.go i Hb/\∀x H',J.yld i Hb x H'->g x σb H' λσ2 H2=>tif σ2 H2 λc H3 =>
   if c=true then te σ2 H3 λy H4=>∃ys,H4 D=some (.lst ys)/\ys.length<sizeLine/\∃m',m'<m/\W (i+1) m' σ2 (upd H4 D (.lst (ys++[y])))
   else∃m',m'<m/\W (i+1) m' σ2 H3)
theorem zf8{X:Cx}{elt tg iter:Expr}{ifs:List Expr}{scope:Scope}{pos cpos:Pos}{wi:TI}{g:TG}{tif:TT}{te:TE}(tn:List Str)(cp:Y6)(O:CompOk X scope cp)(hc:X.calm=true)(hi:PI X tg iter wi)
  (hg:∀cl C s H fp,PG (cxB X scope tn cp cl C s H fp) tg g) (hif:∀cl C s H fp,PIfs (cxB X scope tn cp cl C s H fp) ifs tif) (he:∀cl C s H fp,PE (cxB X scope tn cp cl C s H fp) elt te)
  (hs:∀x,foldedSetIterable iter X.env x=pure x) {pins:Y2} {s:Shared} {σ:St} {H:Hp} {Q:VK} {R:Y0} {use:Option (Value->Sem Unit)} (I:Inv X pins σ H s) (h:tComp tn cp wi g tif te σ H Q)
  (fin:∀(D C:Addr) (H5:Hp) (s5:Shared) (m:Y1),Inv X pins σ H5 s5->FpOk X pins H5 C->s5.heap.Ns C m->Q (.ref D) H5->compPost (model X.prog X.w) X.A X.xe use R (.ref D) C (.ok .next) s5) :
  wpAny (model X.prog X.w) X.A (comprehension (.ListComp elt [⟨tg,iter,ifs,0⟩] scope pos) scope X.env cpos (newList []) false (eval iter X.env) use) R X.xe s:=by
 obtain⟨cl,hcl,hcl1,hcl2⟩:=zga (scope:=scope) (env:=X.env) λp hp hf=>I.ok.has p.1 (O.free p hp hf);refine wpAny_comprehension_free (use:=use) rfl hs hcl O.kind O.names (thn (hi pins s σ H _ I h) λv s1 h1=>thn h1 λitv s2 h2=>?_);obtain⟨it,fp,tn',J,H2,rfl,I2,T,st2,f2,rest⟩:=h2;refine wpAny_newObj_type ?_;have I3:Inv X pins σ (upd H2 s2.heap.objs.size (.lst [])) {s2 with heap:=s2.heap.push {cls:=.type "list",data:=.seq ([]:List Value).toArray} }:=I2.lnew (its:=[]) (t':=s2.toks) .nil (y10 _);obtain⟨W,⟨m0,w0⟩,turn⟩:=rest s2.heap.objs.size I2.fresh;have fpl:∀b∈fp,b<s2.heap.objs.size:=λb hb=>by
  obtain⟨o,e,_⟩:=T.obj _ _ st2 b hb;exact y0d e
 have f3:∀b∈fp,FpOk X pins (upd H2 s2.heap.objs.size (.lst [])) b:=λb hb=>⟨by rw[zan (y0h (fpl b hb))];exact(f2 b hb).1,(f2 b hb).2⟩;have sz3:(s2.heap.push {cls:=.type "list",data:=.seq ([]:List Value).toArray}).objs.size=s2.heap.objs.size+1:=y0v ..;refine wpAny_newFunctionEnv O.nocell (by intro y hy;simp at hy) (λh₁ hns hsb=>?_) O.kind;have hk1:∀b o,(s2.heap.push {cls:=.type "list",data:=.seq ([]:List Value).toArray}).get? b=some o->h₁.get? b=some o:=λb o e =>
  hsb.extBut b o (y0h (y0d e)) (y01 _ e)
 have J3:=zj0 (tn:=tn) (cp:=cp) (t':=s2.toks+([]:List (Str×Value)).length) I3 O hcl1 hcl2 (λb hb=>⟨f3 b hb,by rw[sz3];exact y1o (fpl b hb)⟩) hns hk1;have st3:tn' 0 h₁:=T.keep _ _ _ st2 λb hb o e=>hk1 b o (y01 _ e);show codeAny _ _ (.compStart _ 0 (.ref it) (.ref s2.heap.objs.size) (compEnvC scope cl (s2.heap.push {cls:=.type "list",data:=.seq ([]:List Value).toArray}).objs.size X.env)) _ _;generalize hXB:cxB X scope tn cp cl (s2.heap.push {cls:=.type "list",data:=.seq ([]:List Value).toArray}).objs.size {s2 with heap:=s2.heap.push {cls:=.type "list",data:=.seq ([]:List Value).toArray} } (upd H2 s2.heap.objs.size (.lst [])) fp=XB at J3;have hprog:XB.prog=X.prog:=by rw[←hXB];rfl
 have hw:XB.w=X.w:=by rw[←hXB];rfl
 have hK:XB.K=X.K:=by rw[←hXB];rfl
 have hA:XB.A=X.A:=by rw[←hXB];rfl
 have henv:XB.env=compEnvC scope cl (s2.heap.push {cls:=.type "list",data:=.seq ([]:List Value).toArray}).objs.size X.env:=by rw[←hXB];rfl
 have hcalm:XB.calm=true:=by rw[←hXB];exact hc
 have hxe:XB.xe=λ_ _=>False:=by rw[←hXB];rfl
 have hgB:PG XB tg g:=by rw[←hXB];exact hg _ _ _ _ _
 have hifB:PIfs XB ifs tif:=by rw[←hXB];exact hif _ _ _ _ _
 have heB:PE XB elt te:=by rw[←hXB];exact he _ _ _ _ _
 have fB:∀(pb:Y2) (Hb:Hp),(∀b∈fp,Hb b=none)->(∀b∈fp,∀p∈XB.pn++pb,p.1≠b)->∀b∈fp,FpOk XB pb Hb b:=λpb Hb hn hp b hb=>by
  refine⟨hn b hb,?_,?_,.inl (by rw[←hXB];exact hb),λx c e=>?_,hp b hb⟩
  ·rw[henv];show b≠(s2.heap.push {cls:=.type "list",data:=.seq ([]:List Value).toArray}).objs.size;rw[sz3];exact y0h (y1o (fpl b hb))
  ·rw[←hXB];show b∉frs X.stack;intro z;rcases y02.mp (I2.stkSub b z)with y|y
   ·exact(f2 b hb).2.1 y
   ·exact(f2 b hb).2.2.1 y
  ·rw[henv]at e;exact(f2 b hb).2.2.2.2.1 x c (hcl1 x c e)
 have pn0:XB.pn=[]:=by rw[←hXB];rfl
 have loop:∀s₃:Shared,s₃={s2 with heap:=h₁,toks:=s2.toks+([]:List (Str×Value)).length}->
   codeAny (model X.prog X.w) X.A (.compLoop (.ListComp elt [⟨tg,iter,ifs,0⟩] scope pos) 0 (.ref it) (.ref s2.heap.objs.size) XB.env)
    (compPost (model X.prog X.w) X.A X.xe use R (.ref s2.heap.objs.size) (s2.heap.push {cls:=.type "list",data:=.seq ([]:List Value).toArray}).objs.size) s₃:=by
  rintro s₃ rfl;refine zif (λn s'=>∃i σb Hb,Inv XB [] σb Hb s'/\tn' i s'.heap/\(∀b∈fp,Hb b=none)/\W i n σb Hb) ?_ m0 ⟨0,stB tn cp σ,_,J3,st3,λb hb=>(f3 b hb).1,w0⟩;rintro n s4 ⟨i,σ4,H4,I4,st4,fr4,w4⟩;rcases turn i n σ4 H4 w4 with⟨stop,qn⟩|⟨go,step⟩
  ·have d:=T.done XB hprog hw hK hcalm i [] s4 σ4 H4 (λ_ _=>False) I4 (fB [] H4 fr4 (λb hb p hp=>by rw[pn0]at hp;simp at hp)) st4 stop;rw[hA]at d;refine thn d λr s5 ⟨hr,I5⟩=>?_;subst hr;obtain⟨mm,hn5,_⟩:=id I5.loc;have fr5:H4 (s2.heap.push {cls:=.type "list",data:=.seq ([]:List Value).toArray}).objs.size=none:=by
    have z:=I5.free;rw[henv]at z;exact z
   have J5:Inv X pins σ H4 s5:=by
    rw[←hXB]at I5;exact zpp (h':=s5.heap) I3 f3 I5 ⟨rfl,λ_ _=>rfl⟩
   exact fin _ _ H4 s5 mm J5 (I3.fpOk (y04 _) fr5) (by rw[henv]at hn5;exact hn5) qn
  ·have d:=T.item XB hprog hw hK hcalm i [] s4 σ4 H4 (λ_ _=>False) I4 (fB [] H4 fr4 (λb hb p hp=>by rw[pn0]at hp;simp at hp)) st4 go;rw[hA]at d;refine thn d λr s5 ⟨u,hr,h5⟩=>?_;subst hr;refine thn h5 λ_ s6 zz=>ex5 zz λx H6 I6 r6 zq=>?_;obtain⟨y6,st6,fr6⟩:=zq;have I6':=I6.pinned (fB [] H6 fr6 (λb hb p hp=>by rw[pn0]at hp;simp at hp)) (T.obj _ _ st6);have q6:=step x H6 y6;have a1:=hgB _ s6 σ4 H6 x u _ I6' r6 q6;rw[hxe,hprog,hw,hA]at a1;refine thn a1 λ_ s7 ⟨σ7,H7,I7,q7⟩=>?_;have a2:=hifB _ s7 σ7 H7 _ I7 q7;rw[hxe,hprog,hw,hA]at a2;refine thn a2 λok s8 ⟨H8,I8,q8⟩=>?_;have again:∀{σ9:St} {H9:Hp} {s9:Shared},Inv XB ([]++pinsAt fp s6.heap) σ9 H9 s9->(∃m',m'<n/\W (i+1) m' σ9 H9)->∃m,m<n/\∃i σb Hb,Inv XB [] σb Hb s9/\tn' i s9.heap/\(∀b∈fp,Hb b=none)/\W i m σb Hb:=λ{σ9 H9 s9} I9 n9=>by
    obtain⟨m',hm,w9⟩:=n9;refine⟨m',hm,i+1,σ9,H9,I9.unpinned,T.keep _ _ _ st6 λb hb o e=>(I9.pin (b,o) (y0p _ (y0p _ (zc5 hb e)))).1,λb hb=>?_,w9⟩;obtain⟨o,e,d⟩:=T.obj _ _ st6 b hb;exact(I9.pin (b,o) (y0p _ (y0p _ (zc5 hb e)))).2.1
   cases ok with
   |false=>exact again I8 q8
   |true =>
    show wpAny _ _ _ _ _ _;have a3:=heB _ s8 σ7 H8 _ I8 q8;rw[hxe,hprog,hw,hA]at a3;refine thn a3 λyv s9 zz=>ex5 zz λy H9 I9 r9 zq=>?_;obtain⟨ys,hD,hlen,n9⟩:=zq;have a4:=zbe (X:=XB) _ s9 σ7 H9 (.ref s2.heap.objs.size) [y] (.ref s2.heap.objs.size) [yv] (λ_ H'=>∃m',m'<n/\W (i+1) m' σ7 H') I9 rfl (.cons r9 .nil) ⟨_,ys,y,rfl,rfl,hD,hlen,n9⟩;rw[hxe,hprog,hw,hA]at a4;exact thn a4 λ_ s10 zz=>ex5 zz λ_ H10 I10 _ q10=>again I10 q10
 rw[henv]at loop;refine codeAny_compStart_list (loop _ rfl) (T.self _ 0 _ _ _ st3 (loop _ rfl))
theorem zbc(tn:List Str)(cp:Y6)(O:CompOk X scope cp)(hc:X.calm=true)(hi:PI X tg iter wi)
  (hg:∀cl C s H fp,PG (cxB X scope tn cp cl C s H fp) tg g) (hif:∀cl C s H fp,PIfs (cxB X scope tn cp cl C s H fp) ifs tif) (he:∀cl C s H fp,PE (cxB X scope tn cp cl C s H fp) elt te)
  (hs:∀x,foldedSetIterable iter X.env x=pure x:=by intro _;rfl) :
  PE X (.ListComp elt [⟨tg,iter,ifs,0⟩] scope pos) (tComp tn cp wi g tif te):=by
 intro pins s σ H Q I h;rw[eval_ListComp];refine zf8 tn cp O hc hi hg hif he hs I h λD C H5 s5 m I5 f5 n5 q5=>⟨m,n5,λh' hs'=>⟨.ref D,H5,?_,rfl,q5⟩⟩;obtain⟨f0,f1,f2,f3,f4,f5⟩:=f5;exact I5.turned (t':=s5.toks) (λb o hb e=>(hs'.2 b hb).trans e) f0 f1 f3 f4 f5
theorem zgv{X:Cx}{i:Nat}{x:Str}{elt tg iter:Expr}{ifs:List Expr}{scope:Scope}{pos pos' spos:Pos}{wi:TI}{g:TG}{tif:TT}{te:TE}(hN:X.N.Nodup)(hx:X.N[i]?=some x)(hl:Loc X.env.scope x)(tn:List Str)(cp:Y6)(O:CompOk X scope cp)(hc:X.calm=true)(hi:PI X tg iter wi)
  (hg:∀cl C s H fp,PG (cxB X scope tn cp cl C s H fp) tg g) (hif:∀cl C s H fp,PIfs (cxB X scope tn cp cl C s H fp) ifs tif) (he:∀cl C s H fp,PE (cxB X scope tn cp cl C s H fp) elt te)
  (hsw:swapsWith (.ListComp elt [⟨tg,iter,ifs,0⟩] scope pos) (some (.Name x pos')) spos.line X.env=pure true:=by rfl) (hs:∀x,foldedSetIterable iter X.env x=pure x:=by intro _;rfl)
  (hf:X.fn x=true\/X.env.scope.names.lookup x=some .local:=by first|exact .inl rfl|exact .inr rfl|assumption) :
  PS X (.Assign [.Name x pos'] (.ListComp elt [⟨tg,iter,ifs,0⟩] scope pos) spos) (tAsg (tComp tn cp wi g tif te) (gName i)):=by
 intro pins s σ H D I h;rw[exec_Assign_Name_used _ _ _ _ hsw];refine wpAny_bind (wpAny_standAt (wpAny_bind ?_));show wpAny _ X.A (do let _ ←comprehension (.ListComp elt [⟨tg,iter,ifs,0⟩] scope pos) scope X.env _ (newList []) false (eval iter X.env) (some (assign (.Name x pos') X.env))) _ _ s;refine wpAny_bind (wpAny_mono (zf8 tn cp O hc hi hg hif he hs (R:=λ_ s'=>SP X pins D .next s') I h λE C H5 s5 m I5 f5 n5 q5=>?_) (λ_ _ q=>wpAny_pure (wpAny_pure q)) λ_ _ e=>e);obtain⟨f0,f1,f2,f3,f4,f5⟩:=f5;show wpAny _ X.A (assign (.Name x pos') X.env (.ref E)) _ _ _;refine wpAny_assign_Name (zhk I5 hN hx hl (v:=.ref E) rfl (λs6 I6 ⟨a,sb,ha⟩=>?_) hf);have ne:C≠a:=by
  rcases ha with e|e
  ·rw[e];exact f1
  ·exactλz=>f4 x a e z.symm
 refine⟨m,n5.sameBut sb ne,λh' hs'=>⟨_,H5,I6.turned (t':=s6.toks) (λb o hb e=>(hs'.2 b hb).trans e) f0 f1 f3 f4 f5,q5⟩⟩
def Its(z:Str):It:=⟨λi _=>i<z.cps.size,λi H x H'=>H'=H/\∃c,z.cps[i]?=some c/\x=.str ⟨#[c]⟩,λi _=>z.cps.size<=i⟩
theorem zj6{P:Program}{w:World}{K:Frag}{tg:Expr}(z:Str)(t:Tok)(it:Addr)(ty:String)(hty:ty="str_ascii_iterator"\/ty="str_iterator"):
  Turn P w K tg (Its z) [it] it (λi h=>h.IsStrIter it ty z t i) where
 mem:=by simp
 obj:=λi h st b hb=>by
  have e:b=it:=by simpa using hb
  subst e;obtain⟨o,e,c,d⟩:=st;exact⟨o,e,λv z=>by rw[d]at z;cases z⟩
 keep:=λi h h' st k=>by
  obtain⟨o,e,r⟩:=st;exact⟨o,k it (by simp) o e,r⟩
 item:=by
  intro X hP hw hK hc i pins s σ H E I hf st hg;subst hP hw hK;obtain⟨f0,f1,f2,f3,f4,f5⟩:=hf it (by simp);have hi:i<z.cps.size:=hg;have hx:z.cps[i]?=some z.cps[i]:=by simp[hi]
  have nn:(["enumerate","zip","dict_itemiterator","dict_reverseitemiterator","odict_iterator","itertools.zip_longest","itertools.pairwise"].contains ty)=false:=by
   rcases hty with e|e<;>(rw[e];decide)
  have fin:∀h',h'.IsStrIter it ty z t (i+1)->Heap.SameBut it s.heap h'->∃u,some (Value.str ⟨#[z.cps[i]]⟩ s.toks)=some u/\
    wpAny (model X.prog X.w) X.A (letOwnedTupleGo tg (.ref it) u) (λ_ s2=>∃x H',Inv X pins σ H' s2/\RelV x u/\(Its z).yld i H x H'/\s2.heap.IsStrIter it ty z t (i+1)/\∀b∈[it],H' b=none) E {s with heap:=h',toks:=s.toks+1}:=λh' st' sb=>by
   have I1:Inv X pins σ H {s with heap:=h',toks:=s.toks+1}:=I.turned (t':=s.toks+1) (λb o hb e=>(sb.2 b hb).trans e) f0 f1 f3 f4 f5;obtain⟨o,e,c,d⟩:=id st';exact⟨_,rfl,zrl (s:={s with heap:=h',toks:=s.toks+1}) e c d nn ⟨.str ⟨#[z.cps[i]]⟩,H,I1,⟨_,rfl⟩,⟨rfl,_,hx,rfl⟩,st',λb hb=>(hf b hb).1⟩⟩
  rcases hty with e|e
  ·subst e;exact wpAny_pyNext_ascii_item st hx fin
  ·subst e;exact wpAny_pyNext_wide_item st hx fin
 done:=by
  intro X hP hw hK hc i pins s σ H E I hf st hg;subst hP hw hK;obtain⟨f0,f1,f2,f3,f4,f5⟩:=hf it (by simp);have hi:z.cps.size<=i:=hg;have hx:z.cps[i]?=none:=by simp[hi]
  rcases hty with e|e
  ·subst e;exact wpAny_pyNext_ascii_end (I.ok.hd hc) st hx λh' eb=>⟨rfl,I.turned (t':=s.toks) (λb o hb e=>eb b o hb e) f0 f1 f3 f4 f5⟩
  ·subst e;exact wpAny_pyNext_wide_end (I.ok.hd hc) st hx λh' eb=>⟨rfl,I.turned (t':=s.toks) (λb o hb e=>eb b o hb e) f0 f1 f3 f4 f5⟩
 self:=by
  intro A i s Q E st h;rcases hty with e|e
  ·subst e;exact wpAny_pyIter_striter_ascii st h
  ·subst e;exact wpAny_pyIter_striter_wide st h
def iStr(tl:TE):TI:=λσ H R=>tl σ H λx H1=>∃z,x=.str z/\R (Its z) H1
theorem zv8{X:Cx}{tg l:Expr}{tl:TE}(hl:PE X l tl):PI X tg l (iStr tl):=by
 intro pins s σ H R I h;refine thn (hl pins s σ H _ I h) λv s1 zz=>ex5 zz λx H1 I1 r1 q1=>?_;obtain⟨z,e,q⟩:=q1;subst e;obtain⟨t,rfl⟩:=r1;have fo:∀b∈[s1.heap.objs.size],FpOk X pins H1 b:=λb hb=>by
  have e:b=s1.heap.objs.size:=by simpa using hb
  subst e;exact I1.fpOk (y04 _) (I1.hok.fresh (y04 _))
 cases ha:z.cps.all (· < 128)
 ·exact wpAny_pyIter_wide ha ⟨s1.heap.objs.size,[s1.heap.objs.size],_,_,H1,rfl,I1.kept (t':=s1.toks) λb o e=>y01 _ e,zj6 z t _ "str_iterator" (.inr rfl),⟨_,y0b _ rfl,rfl,rfl⟩,fo,q⟩
 ·exact wpAny_pyIter_ascii ha ⟨s1.heap.objs.size,[s1.heap.objs.size],_,_,H1,rfl,I1.kept (t':=s1.toks) λb o e=>y01 _ e,zj6 z t _ "str_ascii_iterator" (.inl rfl),⟨_,y0b _ rfl,rfl,rfl⟩,fo,q⟩
def rSlS:V->Option Int->Option Int->Hp->VK->Prop:=λx lo hi H Q=>∃z,x=.str z/\z.length<=sizeLine/\Q (.str (Txt.slice z lo hi)) H
theorem zvt:SlR X rSlS:=by
 intro pins s σ H x v vl vu lo hi sl Q I rx hs pl pu h;obtain⟨z,rfl,hz,q⟩:=h;obtain⟨t,rfl⟩:=rx;refine⟨"str",_,F.slot_str_getitem.lookup,typeIs_str _ _ _,?_⟩;have go:∀(l u:Option (Int×Tok)),vl=partValue l->vu=partValue u->lo=l.map (·.1)->hi=u.map (·.1)->wpAny (model X.prog X.w) X.A (getItem (.str z t) (.ref sl)) (EP X pins σ Q) X.xe s:=by
  rintro l u rfl rfl rfl rfl;refine wpAny_getItem_str_slice (l:=l) (u:=u) (st:=none) ?_ rfl ?_
  ·obtain⟨o,e,c,d⟩:=hs;exact⟨o,e,c,d⟩
  ·exact post_val_or_str ⟨y15 (Txt.slice_le z _ _) hz,λt' k=>⟨.str _,H,I.tok _,⟨_,rfl⟩,q⟩⟩
 cases pl with
 |none =>
  cases pu with
  |none=>exact go none none rfl rfl rfl rfl
  |int j u=>exact go none (some (j,u)) rfl rfl rfl rfl
 |int i t' =>
  cases pu with
  |none=>exact go (some (i,t')) none rfl rfl rfl rfl
  |int j u=>exact go (some (i,t')) (some (j,u)) rfl rfl rfl rfl
theorem zjw:CallR X (.builtin "isinstance") (λxs H Q=>∃x T t b,xs=[x,.ty T]/\TyOf X.K H x t/\PySem.W.kitOne X.K t (.type T)=some b/\Q (.bl b) H):=by
 intro pins s σ H xs us Q I r h;obtain⟨x,T,t,b,rfl,ty,e,q⟩:=h;obtain⟨u,w',rfl,rx,ry⟩:=vals2 r;cases(show w'=Value.type T from ry);exact zot I rx ty e λtk=>⟨.bl b,H,I.tok _,rfl,q⟩
section
open PyProof.Rows.LSm
theorem zk7:∀{us:List Value},Vals (bs.map V.bl) us->BoolsAre us bs:=by
 induction bs with
 |nil=>intro us r;rw[y2e]at r;cases r;exact .nil
 |cons b bs ih =>
  intro us r;rw[y0k]at r;cases r with
  |cons r1 r2 =>
   cases(show _=Value.bool b from r1);exact .cons b (ih r2)
theorem zjy(hc:X.calm=true):CallR X (.builtin "all") (λxs H Q=>∃(p:Addr) (bs:List Bool),xs=[.ref p]/\SqL X.K H p (bs.map V.bl)/\Q (.bl (bs.all id)) H):=by
 intro pins s σ H xs us Q I r h;obtain⟨p,bs,rfl,hx,q⟩:=h;obtain⟨u,rfl,rx⟩:=vals1 r;cases(show u=Value.ref p from rx);obtain⟨vs,rv,pl,hz⟩:=I.list hx;have hl:=pl.isList;have hb:=zk7 rv;have hlt:p<s.heap.objs.size:=by obtain⟨_,e,_⟩:=hl;exact y0d e
 refine call_all_walk (wpAny_pyIter_list hl ?_);refine⟨s.heap.objs.size,[s.heap.objs.size,p],[s.heap.objs.size],vs.toArray.size,_,_,λi=>(bs[i]?).getD true,rfl,Walks.list (A:=X.A.in1) (I.ok.hd hc) _ p (y0h hlt) vs.toArray,
  ⟨⟨_,y0b _ rfl,rfl,rfl⟩,hl.push _⟩,λi v s' Q' E' hP hQ=>?_,λh' tk hk=>?_⟩
 ·obtain⟨b,e,rfl⟩:=hb.get i v (by simpa using hP);simp only[e,Option.getD_some]at hQ;exact wpAny_truthy_bool hQ
 ·have e:((List.range vs.toArray.size).all λi=>(bs[i]?).getD true)=bs.all id:=by
   rw[y03,hb.length];exact range_all bs
  rw[e];exact⟨.bl _,H,I.kept (kept_iter hk),rfl,q⟩
theorem zjx(hc:X.calm=true):CallR X (.builtin "any") (λxs H Q=>∃(p:Addr) (bs:List Bool),xs=[.ref p]/\SqL X.K H p (bs.map V.bl)/\Q (.bl (bs.any id)) H):=by
 intro pins s σ H xs us Q I r h;obtain⟨p,bs,rfl,hx,q⟩:=h;obtain⟨u,rfl,rx⟩:=vals1 r;cases(show u=Value.ref p from rx);obtain⟨vs,rv,pl,hz⟩:=I.list hx;have hl:=pl.isList;have hb:=zk7 rv;have hlt:p<s.heap.objs.size:=by obtain⟨_,e,_⟩:=hl;exact y0d e
 refine call_any_walk (wpAny_pyIter_list hl ?_);refine⟨s.heap.objs.size,[s.heap.objs.size,p],[s.heap.objs.size],vs.toArray.size,_,_,λi=>(bs[i]?).getD false,rfl,Walks.list (A:=X.A.in1) (I.ok.hd hc) _ p (y0h hlt) vs.toArray,
  ⟨⟨_,y0b _ rfl,rfl,rfl⟩,hl.push _⟩,λi v s' Q' E' hP hQ=>?_,λh' tk hk=>?_⟩
 ·obtain⟨b,e,rfl⟩:=hb.get i v (by simpa using hP);simp only[e,Option.getD_some]at hQ;exact wpAny_truthy_bool hQ
 ·have e:((List.range vs.toArray.size).any λi=>(bs[i]?).getD false)=bs.any id:=by
   rw[y03,hb.length];exact range_any bs
  rw[e];exact⟨.bl _,H,I.kept (kept_iter hk),rfl,q⟩
theorem zij(hc:X.calm=true):CallR X (.builtin "sum") (λxs H Q=>∃(p:Addr) (ns:List Int),xs=[.ref p]/\SqL X.K H p (ns.map V.int)/\Q (.int ns.sum) H):=by
 intro pins s σ H xs us Q I r h;obtain⟨p,ns,rfl,hx,q⟩:=h;obtain⟨u,rfl,rx⟩:=vals1 r;cases(show u=Value.ref p from rx);obtain⟨vs,rv,pl,hz⟩:=I.list hx;have hi:=zl7 rv;obtain⟨ys,hy⟩:=hi.allInts.items;have hl':s.heap.IsList p (intItems ys):=hy▸pl.isList;refine sum_intListG (I.ok.hd hc) hl' λh' tk t' hk=>?_;have e1:ns=ys.toList.map (·.1):=by
  rw[←nums_intItems,←hy];exact(show numsOf vs.toArray.toList=ns from hi.numsOf).symm
 have e2:preSum (numAt ys) ys.size=ns.sum:=by
  rw[preSum_eq,y0s (by simp),e1]
 rw[e2];exact⟨.int _,H,I.kept hk,⟨_,rfl⟩,q⟩
end
def rZfill:V->List V->Hp->VK->Prop:=λx vs H Q=>∃z i,x=.str z/\vs=[.int i]/\PadOk i=true/\Q (.str (Txt.zfill z i)) H
def EqOk(X:Cx)(k:Nat)(H:Hp)(x y:V)(b:Bool):Prop:=∀(pins:Y2) (σ:St) (s:Shared) (A:Around) (u v:Value),A.units+k<cLine->Inv X pins σ H s->RelV x u->RelV y v->SeqAt.EqAt A s u v b
def RcOk(X:Cx)(k:Nat)(H:Hp)(x y:V)(b:Bool):Prop:=∀(pins:Y2) (σ:St) (s:Shared) (A:Around) (u v:Value),A.units+k<cLine->Inv X pins σ H s->RelV x u->RelV y v->SeqAt.RcAt A s u v b
section
variable {X:Cx}{k:Nat}{H:Hp}{x y:V}{a b:Addr}{xs ys:List V}
theorem zfa(fx:flatV x=true)(fy:flatV y=true):EqOk X k H x y (eqV x y):=λ_ _ _ _ _ _ _ _ rx ry=>zo9 rx ry fx fy
theorem zo8:EqOk X k H (.ref a) (.ref a) true:=λ_ _ _ _ u v _ _ rx ry=>by
 cases(show u=Value.ref a from rx);cases(show v=Value.ref a from ry);exact SeqAt.EqAt.same _
theorem EqOk.of_rc(hne:a≠b)(h:RcOk X k H (.ref a) (.ref b) c):EqOk X k H (.ref a) (.ref b) c:=λpins σ s A u v hu I rx ry=>by
 cases(show u=Value.ref a from rx);cases(show v=Value.ref b from ry);exact SeqAt.EqAt.of_refs hne (h pins σ s A _ _ hu I rfl rfl)
theorem Vals.at(r:Vals xs us)(h:j<us.length):∃(h':j<xs.length),RelV xs[j] us[j]:=by
 have hl:=r.length;have h':j<xs.length:=by omega
 obtain⟨u,e,q⟩:=r.get (i:=j) (x:=xs[j]) (by simp[h']);rw[y0n h]at e;cases e;exact⟨h',q⟩
theorem zfx(hx:SqL X.K H a xs)(hy:SqL X.K H b ys)(hl:xs.length=ys.length)(e:Nat->Bool)(he:∀j (h1:j<xs.length) (h2:j<ys.length),EqOk X k H xs[j] ys[j] (e j)):
  RcOk X (k+1) H (.ref a) (.ref b) ((List.range xs.length).all e):=λpins σ s A u v hu I rx ry=>by
 cases(show u=Value.ref a from rx);cases(show v=Value.ref b from ry);obtain⟨us,r1,p1,_⟩:=I.list hx;obtain⟨vs,r2,p2,_⟩:=I.list hy;have l1:=r1.length;have l2:=r2.length;have q:=SeqAt.RcAt.lists (A:=A) (e:=e) p1.isList p2.isList (by rw[y03,y03];omega) (by omega) λj h1 h2=>by
  rw[y03]at h1 h2;obtain⟨g1,q1⟩:=r1.at h1;obtain⟨g2,q2⟩:=r2.at h2;exact he j g1 g2 pins σ s A.in1 _ _ (by show A.units+1+k<cLine;omega) I (by simpa using q1) (by simpa using q2)
 rw[y03,←l1]at q;exact q
theorem zhx(hx:SqL X.K H a xs)(hy:SqL X.K H b ys)(hl:xs.length≠ys.length):RcOk X k H (.ref a) (.ref b) false:=λpins σ s A u v hu I rx ry=>by
 cases(show u=Value.ref a from rx);cases(show v=Value.ref b from ry);obtain⟨us,r1,p1,_⟩:=I.list hx;obtain⟨vs,r2,p2,_⟩:=I.list hy;have l1:=r1.length;have l2:=r2.length;exact SeqAt.RcAt.lists_lengths p1.isList p2.isList (by rw[y03,y03];simp;omega) (by omega)
theorem zne(hx:SqT X.K H a xs)(hy:SqT X.K H b ys)(e:Nat->Bool)(he:∀j (h1:j<xs.length) (h2:j<ys.length),EqOk X k H xs[j] ys[j] (e j)):
  RcOk X (k+1) H (.ref a) (.ref b) ((List.range (min xs.length ys.length)).all e&&xs.length==ys.length):=λpins σ s A u v hu I rx ry=>by
 cases(show u=Value.ref a from rx);cases(show v=Value.ref b from ry);obtain⟨us,r1,p1,_⟩:=I.tuple hx;obtain⟨vs,r2,p2,_⟩:=I.tuple hy;have l1:=r1.length;have l2:=r2.length;have q:=SeqAt.RcAt.tuples (A:=A) (e:=e) p1 p2 (by omega) λj h1 h2=>by
  rw[y03]at h1 h2;obtain⟨g1,q1⟩:=r1.at h1;obtain⟨g2,q2⟩:=r2.at h2;exact he j g1 g2 pins σ s A.in1 _ _ (by show A.units+1+k<cLine;omega) I (by simpa using q1) (by simpa using q2)
 rw[y03,y03,←l1,←l2]at q;exact q
theorem zlp(hx:SqL X.K H a xs)(hy:SqL X.K H b ys)(fx:xs.all flatV=true)(fy:ys.all flatV=true):
  RcOk X 1 H (.ref a) (.ref b) (xs.length==ys.length&&(List.range xs.length).all λj=>eqV (xs.getD j .non) (ys.getD j .non)):=by
 by_cases hl:xs.length=ys.length
 ·have q:=zfx (k:=0) hx hy hl (λj=>eqV (xs.getD j .non) (ys.getD j .non)) λj h1 h2=>by
   have e1:xs.getD j .non=xs[j]:=by simp[List.getD,h1]
   have e2:ys.getD j .non=ys[j]:=by simp[List.getD,h2]
   rw[e1,e2];exact zfa (y0q.mp fx _ (y1q h1)) (y0q.mp fy _ (y1q h2))
  rw[show(xs.length==ys.length)=true by simp[hl],y1b];exact q
 ·rw[show(xs.length==ys.length)=false by simp[hl],y14];exact zhx hx hy hl
end
def rEqD(X:Cx)(k:Nat):R2:=λx y H Q=>∃c,RcOk X k H x y c/\Q (.bl c) H
theorem znw(hu:X.A.units+k<cLine):OpR X (compareOp .Eq) (rEqD X k):=by
 infer_instance;obtain⟨c,r,q⟩:=h;exact r pins σ s X.A v u hu I rx ry _ _ _ _ ⟨.bl c,H,I,rfl,q⟩
def CW(D:Addr)(n:Nat)(Pv:Nat->List V->St->Hp->Prop)(i m:Nat)(σ:St)(H:Hp):Prop:=m=n-i/\i<=n/\∃ys,H D=some (.lst ys)/\ys.length<=i/\Pv i ys σ H
def CStep(D:Addr)(n i:Nat)(Pv:Nat->List V->St->Hp->Prop)(σ2:St)(y:V)(H4:Hp):Prop :=
 ∃ys,H4 D=some (.lst ys)/\ys.length<sizeLine/\∃m',m'<n-i/\CW D n Pv (i+1) m' σ2 (upd H4 D (.lst (ys++[y])))
def CSkip(D:Addr)(n i:Nat)(Pv:Nat->List V->St->Hp->Prop)(σ2:St)(H3:Hp):Prop:=∃m',m'<n-i/\CW D n Pv (i+1) m' σ2 H3
section
variable {D:Addr}{Q:VK}{g:TG}{tif:TT}{te:TE}{σ0:St}{H1:Hp}{n i:Nat}{Pv:Nat->List V->St->Hp->Prop}
theorem cstep(hn:n<=sizeLine)(hi:i<n)(hD:H4 D=some (.lst ys))(hl:ys.length<=i)(h:Pv (i+1) (ys++[y]) σ2 (upd H4 D (.lst (ys++[y])))):CStep D n i Pv σ2 y H4 :=
 ⟨ys,hD,by omega,n-(i+1),by omega,rfl,hi,ys++[y],zao,by rw[y06,y16];omega,h⟩
theorem cskip(hi:i<n)(hD:H3 D=some (.lst ys))(hl:ys.length<=i)(h:Pv (i+1) ys σ2 H3):CSkip D n i Pv σ2 H3 :=
 ⟨n-(i+1),by omega,rfl,hi,ys,hD,by omega,h⟩
theorem zjs{J:It}(Pv:Nat->List V->St->Hp->Prop)(hn:n<=sizeLine)(h0:Pv 0 [] σ0 (upd H1 D (.lst [])))
  (hgo:∀i ys σ H,i<n->H D=some (.lst ys)->Pv i ys σ H->J.go i H) (hstop:∀ys σ H,H D=some (.lst ys)->Pv n ys σ H->J.stop n H)
  (hs:∀i ys σ H,i<n->H D=some (.lst ys)->ys.length<=i->Pv i ys σ H->∀x H',J.yld i H x H'->g x σ H' λσ2 H2=>tif σ2 H2 λc H3 =>
   if c=true then te σ2 H3 λy H4=>CStep D n i Pv σ2 y H4 else CSkip D n i Pv σ2 H3)
  (hd:∀ys σ H,H D=some (.lst ys)->ys.length<=n->Pv n ys σ H->Q (.ref D) H) :
  ∃W:Nat->Nat->St->Hp->Prop,(∃m,W 0 m σ0 (upd H1 D (.lst [])))/\∀i m σb Hb,W i m σb Hb->
   (J.stop i Hb/\Q (.ref D) Hb)\/(J.go i Hb/\∀x H',J.yld i Hb x H'->g x σb H' λσ2 H2=>tif σ2 H2 λc H3 =>
    if c=true then te σ2 H3 λy H4=>∃ys,H4 D=some (.lst ys)/\ys.length<sizeLine/\∃m',m'<m/\W (i+1) m' σ2 (upd H4 D (.lst (ys++[y])))
    else∃m',m'<m/\W (i+1) m' σ2 H3):=by
 refine⟨CW D n Pv,⟨n,by omega,y10 _,[],zao,y04 _,h0⟩,?_⟩;rintro i m σ H ⟨rfl,hi,ys,hD,hl,p⟩;by_cases hlt:i<n
 ·exact .inr ⟨hgo i ys σ H hlt hD p,hs i ys σ H hlt hD hl p⟩
 ·have e:i=n:=by omega
  subst e;exact .inl ⟨hstop ys σ H hD p,hd ys σ H hD hl p⟩
theorem zr2(Pv:Nat->List V->St->Hp->Prop)(hn:z.cps.size<=sizeLine)(h0:Pv 0 [] σ0 (upd H1 D (.lst [])))
  (hs:∀i ys σ H c,i<z.cps.size->z.cps[i]?=some c->H D=some (.lst ys)->ys.length<=i->Pv i ys σ H->g (.str ⟨#[c]⟩) σ H λσ2 H2=>tif σ2 H2 λc H3 =>
   if c=true then te σ2 H3 λy H4=>CStep D z.cps.size i Pv σ2 y H4 else CSkip D z.cps.size i Pv σ2 H3)
  (hd:∀ys σ H,H D=some (.lst ys)->ys.length<=z.cps.size->Pv z.cps.size ys σ H->Q (.ref D) H) :
  ∃W:Nat->Nat->St->Hp->Prop,(∃m,W 0 m σ0 (upd H1 D (.lst [])))/\∀i m σb Hb,W i m σb Hb->
   ((Its z).stop i Hb/\Q (.ref D) Hb)\/((Its z).go i Hb/\∀x H',(Its z).yld i Hb x H'->g x σb H' λσ2 H2=>tif σ2 H2 λc H3 =>
    if c=true then te σ2 H3 λy H4=>∃ys,H4 D=some (.lst ys)/\ys.length<sizeLine/\∃m',m'<m/\W (i+1) m' σ2 (upd H4 D (.lst (ys++[y])))
    else∃m',m'<m/\W (i+1) m' σ2 H3) :=
 zjs Pv hn h0 (λi _ _ _ hi _ _=>hi) (λ_ _ _ _ _=>y04 _) (λi ys σ H hi hD hl p x H' y=>by
  obtain⟨e,c,hc,ex⟩:=y;subst e ex;exact hs i ys σ _ c hi hc hD hl p) hd
theorem zpi{K:Frag}{a:Addr}{xs:List V}(Pv:Nat->List V->St->Hp->Prop)(hn:xs.length<=sizeLine)(h0:Pv 0 [] σ0 (upd H1 D (.lst [])))
  (hl:∀i ys σ H,i<=xs.length->H D=some (.lst ys)->Pv i ys σ H->SqL K H a xs)
  (hs:∀i ys σ H x,i<xs.length->xs[i]?=some x->H D=some (.lst ys)->ys.length<=i->Pv i ys σ H->g x σ H λσ2 H2=>tif σ2 H2 λc H3 =>
   if c=true then te σ2 H3 λy H4=>CStep D xs.length i Pv σ2 y H4 else CSkip D xs.length i Pv σ2 H3)
  (hd:∀ys σ H,H D=some (.lst ys)->ys.length<=xs.length->Pv xs.length ys σ H->Q (.ref D) H) :
  ∃W:Nat->Nat->St->Hp->Prop,(∃m,W 0 m σ0 (upd H1 D (.lst [])))/\∀i m σb Hb,W i m σb Hb->
   ((Itl K a).stop i Hb/\Q (.ref D) Hb)\/((Itl K a).go i Hb/\∀x H',(Itl K a).yld i Hb x H'->g x σb H' λσ2 H2=>tif σ2 H2 λc H3 =>
    if c=true then te σ2 H3 λy H4=>∃ys,H4 D=some (.lst ys)/\ys.length<sizeLine/\∃m',m'<m/\W (i+1) m' σ2 (upd H4 D (.lst (ys++[y])))
    else∃m',m'<m/\W (i+1) m' σ2 H3) :=
 zjs Pv hn h0 (λi ys σ H hi hD p=>⟨xs,xs[i],hl i ys σ H (y1d hi) hD p,by simp[hi]⟩) (λys σ H hD p=>⟨xs,hl _ ys σ H (y04 _) hD p,y04 _⟩) (λi ys σ H hi hD hl' p x H' y=>by
  obtain⟨e,y⟩:=y;subst e;exact hs i ys σ _ x hi (y xs (hl i ys σ _ (y1d hi) hD p)) hD hl' p) hd
end
section
variable {κ:Type}[DecidableEq κ]
def valV(kvs:List (κ×V))(k:κ):Option V:=(kvs.find? λkv=>decide (kv.1=k)).map (·.2)
def putK(kvs:List (κ×V))(k:κ)(v:V):List (κ×V) :=
 if(kvs.any λkv=>decide (kv.1=k))=true then kvs.map (λkv=>if kv.1=k then(kv.1,v)else kv)else kvs++[(k,v)]
theorem zbp{p:κ×V}(e:p.1=k):valV (p::r) k=some p.2:=by simp[valV,y1e,e]
theorem zbq{p:κ×V}(e:¬p.1=k):valV (p::r) k=valV r k:=by simp[valV,y1e,e]
theorem zef(k:κ):∀kvs:List (κ×V),(kvs.any λkv=>decide (kv.1=k))=(valV kvs k).isSome
 |[]=>rfl
 |p::r=>by
  rw[y2h];by_cases e:p.1=k
  ·simp only[zbp e,decide_eq_true e,Bool.true_or,Option.isSome_some]
  ·rw[zbq e,decide_eq_false e,y3k];exact zef k r
theorem zj5(k j:κ)(y:V):∀kvs:List (κ×V),valV (kvs.map λkv=>if kv.1=k then(kv.1,y)else kv) j=(valV kvs j).map λx=>if j=k then y else x
 |[]=>rfl
 |p::r=>by
  have ih:=zj5 k j y r;rw[y0k];by_cases h:p.1=k
  ·rw[if_pos h];by_cases e:p.1=j
   ·rw[zbp (p:=(p.1,y)) e,zbp e,y25,if_pos (e.symm.trans h)]
   ·rw[zbq (p:=(p.1,y)) e,zbq e,ih]
  ·rw[if_neg h];by_cases e:p.1=j
   ·rw[zbp (p:=p) e,zbp e,y25,if_neg (λz=>h (e.trans z))]
   ·rw[zbq (p:=p) e,zbq e,ih]
theorem zhj(k j:κ)(y:V):∀kvs:List (κ×V),valV kvs k=none->valV (kvs++[(k,y)]) j=if j=k then some y else valV kvs j
 |[],_=>by
  by_cases e:k=j
  ·rw[if_pos e.symm];exact zbp (p:=(k,y)) e
  ·rw[if_neg (λz=>e z.symm)];exact zbq (p:=(k,y)) e
 |p::r,hn=>by
  rw[y2v];have hk:¬p.1=k:=λz=>by rw[zbp z]at hn;cases hn
  rw[zbq hk]at hn;have ih:=zhj k j y r hn;by_cases e:p.1=j
  ·rw[zbp e,zbp e,if_neg (λz=>hk (e.trans z))]
  ·rw[zbq e,zbq e,ih]
theorem zj4(kvs:List (κ×V))(k j:κ)(y:V):valV (putK kvs k y) j=if j=k then some y else valV kvs j:=by
 unfold putK;by_cases a:(kvs.any λkv=>decide (kv.1=k))=true
 ·rw[if_pos a,zj5];rw[zef]at a;by_cases e:j=k
  ·obtain⟨x,hx⟩:=y2n.mp a;rw[if_pos e,e,hx,y25,if_pos rfl]
  ·rw[if_neg e];cases valV kvs j with
   |none=>rfl
   |some x=>rw[y25,if_neg e]
 ·rw[if_neg a];refine zhj k j y kvs ?_;rw[zef]at a;cases q:valV kvs k with
  |none=>rfl
  |some x=>rw[q]at a;exact(a rfl).elim
theorem zcj(kvs:List (κ×V))(k:κ)(v:V):(putK kvs k v).length<=kvs.length+1:=by
 unfold putK;split
 ·rw[y00];omega
 ·rw[y06,y0a,y0m];omega
theorem RelO.isSome_eq(r:RelO o u):o.isSome=u.isSome:=by
 cases o with
 |none=>cases u with
  |none=>rfl
  |some _=>exact(show False from r).elim
 |some _=>cases u with
  |none=>exact(show False from r).elim
  |some _=>rfl
theorem KV.val(r:KV kvs vs)(k:κ):RelO (valV kvs k) (valueAt vs k):=by
 unfold KV at r
 induction r with
 |nil=>exact True.intro
 |@cons p q ps qs h t ih =>
  obtain⟨h1,h2⟩:=h;by_cases e:p.1=k
  ·have e':q.1=k:=h1.symm.trans e;have b:valueAt (q::qs) k=some q.2:=by simp[valueAt,y1e,e']
   rw[zbp e,b];exact h2
  ·have e':¬q.1=k:=λz=>e (h1.trans z);have b:valueAt (q::qs) k=valueAt qs k:=by simp[valueAt,y1e,e']
   rw[zbq e,b];exact ih
theorem KV.any(r:KV kvs vs)(k:κ):(kvs.any λkv=>decide (kv.1=k))=vs.any λkv=>decide (kv.1=k):=by
 unfold KV at r
 induction r with
 |nil=>rfl
 |cons h t ih=>rw[y2h,y2h,ih,h.1]
theorem KV.repl(r:KV kvs vs)(k:κ)(ry:RelV y u):
  KV (kvs.map λkv=>if kv.1=k then(kv.1,y)else kv) (vs.map λkv=>if kv.1=k then(kv.1,u)else kv):=by
 unfold KV at r ⊢
 induction r with
 |nil=>exact .nil
 |@cons p q ps qs h t ih =>
  rw[y0k,y0k];refine .cons ?_ ih;obtain⟨h1,h2⟩:=h;by_cases e:p.1=k
  ·rw[if_pos e,if_pos (h1.symm.trans e)];exact⟨h1,ry⟩
  ·rw[if_neg e,if_neg (λz=>e (h1.trans z))];exact⟨h1,h2⟩
theorem KV.put(r:KV kvs vs)(k:κ)(ry:RelV y u):KV (putK kvs k y) (stored vs k u):=by
 unfold putK stored;rw[r.any k];by_cases e:(vs.any λkv=>decide (kv.1=k))=true
 ·rw[if_pos e,if_pos e];exact r.repl k ry
 ·rw[if_neg e,if_neg e];exact Paired.snoc r ⟨rfl,ry⟩
theorem KV.length{kvs:List (κ×V)}{vs:List (κ×Value)}(r:KV kvs vs):kvs.length=vs.length:=Paired.length r
end
theorem zor(r:RelV (kV k) u):(mixKind P w).is k u=true:=by
 cases k with
 |inl i=>obtain⟨t,e⟩:=(show∃t,u=Value.int i t from r);subst e;exact zjl P w i t
 |inr x=>obtain⟨t,e⟩:=(show∃t,u=Value.str x t from r);subst e;exact zjk P w x t
theorem zw6(e:kV a=kV b):a=b:=by
 cases a with
 |inl i=>cases b with
  |inl j=>have e':V.int i=V.int j:=e;injection e' with e';rw[e']
  |inr y=>exact nomatch(show V.int i=V.str y from e)
 |inr x=>cases b with
  |inl j=>exact nomatch(show V.str x=V.int j from e)
  |inr y=>have e':V.str x=V.str y:=e;injection e' with e';rw[e']
theorem zia:∀{ks:List Key} {us:List Value},Vals (ks.map kV) us->ItemsAre (mixKind P w) ks us
 |[],_,r=>by rw[y2e]at r;cases r;exact .nil
 |k::ks,_,r=>by
  rw[y0k]at r;cases r with
  |cons h t=>exact .cons (zor h) (zia t)
abbrev KT(H:Hp):List (List Key×V)->List (List Key×Addr×Value)->Prop:=Paired λp q=>p.1=q.1/\H q.2.1=some (.tup (p.1.map kV))/\RelV p.2 q.2.2
theorem KT.val(r:KT H kvs xs)(k:List Key):RelO (valV kvs k) ((atKey xs k).map (·.2)):=by
 induction r with
 |nil=>exact True.intro
 |@cons p q ps qs h t ih =>
  obtain⟨h1,_,h2⟩:=h;by_cases e:p.1=k
  ·have e':q.1=k:=h1.symm.trans e;have b:atKey (q::qs) k=some q.2:=by simp[atKey,y1e,e']
   rw[zbp e,b];exact h2
  ·have e':¬q.1=k:=λz=>e (h1.trans z);have b:atKey (q::qs) k=atKey qs k:=by simp[atKey,y1e,e']
   rw[zbq e,b];exact ih
theorem KT.repl(r:KT H kvs xs)(k:List Key)(ry:RelV y u):
  KT H (kvs.map λkv=>if kv.1=k then(kv.1,y)else kv) (xs.map (putAt k u)):=by
 induction r with
 |nil=>exact .nil
 |@cons p q ps qs h t ih =>
  rw[y0k,y0k];refine .cons ?_ ih;obtain⟨h1,h2,h3⟩:=h;unfold putAt;by_cases e:p.1=k
  ·rw[if_pos e,if_pos (h1.symm.trans e)];exact⟨h1,h2,ry⟩
  ·rw[if_neg e,if_neg (λz=>e (h1.trans z))];exact⟨h1,h2,h3⟩
theorem KT.put(r:KT H kvs xs)(k:List Key)(hb:H b=some (.tup (k.map kV)))(ry:RelV y u):
  KT H (putK kvs k y) (storedH xs k b u):=by
 have e:(kvs.any λkv=>decide (kv.1=k))=(atKey xs k).isSome:=by
  rw[zef,(r.val k).isSome_eq,y2m]
 unfold putK storedH;rw[e];by_cases q:(atKey xs k).isSome=true
 ·rw[if_pos q,if_pos q];exact r.repl k ry
 ·rw[if_neg q,if_neg q];exact Paired.snoc r ⟨rfl,hb,ry⟩
theorem KT.keeps(r:KT H kvs xs)(ht:∀b ys,H b=some (.tup ys)->H' b=some (.tup ys)):KT H' kvs xs :=
 Paired.mapP r λ_ _ z=>⟨z.1,ht _ _ z.2.1,z.2.2⟩
section
variable {P:Program}{w:World}{H:Hp}{h:Heap}{a:Addr}
theorem zvz(ok:HOk P w H h)(e:Rd H a u):ObjOk P w H h a u:=e.ok ok
theorem zrv(ok:HOk P w H h)(e:Rd H a (.dK kvs)):kvs.length<=sizeLine/\(a==sysModules)=false/\∃vs,KV kvs vs/\h.DictOf (mixKind P w) a vs :=
 show ObjOk P w H h a (.dK kvs)from zvz ok e
theorem zxg(ok:HOk P w H h)(e:H a=some (.dK kvs)):kvs.length<=sizeLine/\(a==sysModules)=false/\∃vs,KV kvs vs/\h.DictOf (mixKind P w) a vs:=zrv ok (.inl e)
theorem zh9(ok:HOk P w H h)(e:H a=some (.tup (ks.map kV))):(tupleKind (mixKind P w)).is h ks a:=by
 obtain⟨_,its,r,o,h1,h2,n,h3⟩:=(show ObjOk P w H h a (.tup (ks.map kV))from ok a _ e);exact⟨o,its.toArray,n,h1,h2,h3,by simpa using zia r⟩
theorem zrr(ok:HOk P w H h)(e:Rd H a (.dT kvs)):kvs.length<=sizeLine/\(a==sysModules)=false/\
  ∃xs,KT H kvs xs/\h.DictOfH (tupleKind (mixKind P w)) a xs:=by
 obtain⟨z,y,xs,r,o,es,ep,h1,h2,h3,h4,h5⟩:=(show ObjOk P w H h a (.dT kvs)from zvz ok e);refine⟨z,y,xs,r,o,es,ep,h1,h2,h3,h4,λx hx=>?_,h5⟩;have all:∀{l:List (List Key×V)} {m:List (List Key×Addr×Value)},KT H l m->∀x∈m,(tupleKind (mixKind P w)).is h x.1 x.2.1:=by
  intro l m q
  induction q with
  |nil=>intro x hx;exact nomatch hx
  |@cons p q ps qs hq t ih =>
   intro x hx;rcases y02.mp hx with e|hx
   ·subst e;exact zh9 ok (by rw[←hq.1];exact hq.2.1)
   ·exact ih x hx
 exact all r x hx
theorem zxw(ok:HOk P w H h)(e:H a=some (.dT kvs)):kvs.length<=sizeLine/\(a==sysModules)=false/\
  ∃xs,KT H kvs xs/\h.DictOfH (tupleKind (mixKind P w)) a xs:=zrr ok (.inl e)
end
def KeyV(k:Key)(y:V):Prop:=y=kV k\/∃b,y=.bl b/\k=.inl (blI b)
theorem KeyV.is(h:KeyV k y)(r:RelV y u):(mixKind P w).is k u=true:=by
 rcases h with rfl|⟨b,rfl,rfl⟩
 ·exact zor r
 ·cases(show u=Value.bool b from r);exact zrh b
def DGet(H:Hp)(a:Addr)(y:V)(r:Option V):Prop :=
 (∃kvs k,Rd H a (.dK kvs)/\KeyV k y/\r=valV kvs k)\/∃kvs k b,Rd H a (.dT kvs)/\y=.ref b/\H b=some (.tup (k.map kV))/\r=valV kvs k
def DPut(H:Hp)(a:Addr)(y v:V)(H':Hp):Prop :=
 (∃kvs k,H a=some (.dK kvs)/\KeyV k y/\kvs.length<sizeLine/\H'=upd H a (.dK (putK kvs k v)))\/
 ∃kvs k b,H a=some (.dT kvs)/\y=.ref b/\H b=some (.tup (k.map kV))/\kvs.length<sizeLine/\H'=upd H a (.dT (putK kvs k v))
theorem DGet.t{k:List Key}(e:H a=some (.dT kvs))(eb:H b=some (.tup (k.map kV))):DGet H a (.ref b) (valV kvs k):=.inr ⟨kvs,k,b,.inl e,rfl,eb,rfl⟩
theorem DPut.t{kvs:List (List Key×V)}{k:List Key}(e:H a=some (.dT kvs))(eb:H b=some (.tup (k.map kV)))(hl:kvs.length<sizeLine):
  DPut H a (.ref b) v (upd H a (.dT (putK kvs k v))):=.inr ⟨kvs,k,b,e,rfl,eb,hl,rfl⟩
section
variable {X:Cx}{pins:Y2}{σ:St}{H:Hp}{s:Shared}{a:Addr}{y v:V}{u r:Value}{o:Option V}{A:Around}{E:Y0}
theorem Inv.big(I:Inv X pins σ H s):sysModules<s.heap.objs.size:=by
 have h:mainGlobals<s.heap.objs.size:=(I.mod.glob.keeps I.bk).lt;exact y2z (by decide) h
theorem zpg(hu:A.units+1<cLine)(I:Inv X pins σ H s)(g:DGet H a y (some v))(ry:RelV y u)(h:∀w' s',Inv X pins σ H s'->RelV v w'->Q w' s'):
  wpAny (model X.prog X.w) A (getItem (.ref a) u) Q E s:=by
 rcases g with⟨kvs,k,e,ey,l⟩|⟨kvs,k,b,e,ey,eb,l⟩
 ·obtain⟨z,hd,vs,rel,dd⟩:=zrv I.hok e;obtain⟨w',hw,rw'⟩:=RelO.some_of (v:=v) (o:=valueAt vs k) (by rw[l];exact rel.val k);exact wpAny_getItem_of (ey.is ry) dd.mapOf hw (h w' _ (I.tok _) rw')
 ·subst ey;cases(show u=Value.ref b from ry);obtain⟨z,hd,xs,rel,dd⟩:=zrr I.hok e;obtain⟨w',hw,rw'⟩:=RelO.some_of (v:=v) (o:=(atKey xs k).map (·.2)) (by rw[l];exact rel.val k);obtain⟨p,hp,hp2⟩:=y1r.mp hw;refine wpAny_getItem_heap (tupleKind_room_in1 hu) (zh9 I.hok eb) dd hp ?_;rw[hp2];exact h w' _ (I.tok _) rw'
theorem zvd(hu:A.units+1<cLine)(I:Inv X pins σ H s)(g:DGet H a y o)(ry:RelV y u)(h:∀s',Inv X pins σ H s'->Q (.bool (!o.isSome)) s'):
  wpAny (model X.prog X.w) A (compareOp .NotIn u (.ref a)) Q E s:=by
 rcases g with⟨kvs,k,e,ey,l⟩|⟨kvs,k,b,e,ey,eb,l⟩
 ·obtain⟨z,hd,vs,rel,dd⟩:=zrv I.hok e;refine wpAny_notIn_of (ey.is ry) hd dd.mapOf ?_;rw[←(rel.val k).isSome_eq,←l];exact h _ (I.tok _)
 ·subst ey;cases(show u=Value.ref b from ry);obtain⟨z,hd,xs,rel,dd⟩:=zrr I.hok e;refine wpAny_notIn_heap (tupleKind_room_in1 hu) (zh9 I.hok eb) hd dd ?_;have q:=(rel.val k).isSome_eq;rw[y2m]at q;rw[←q,←l];exact h _ (I.tok _)
theorem zg3(I:Inv X pins σ H s)(mu:Mut (H a))(hs:Heap.SameBut a s.heap h')(he:∃q,h'.get? a=some q)(new:ObjOk X.prog X.w (upd H a ob) h' a ob):
  Inv X pins σ (upd H a ob) {s with heap:=h',toks:=t'} :=
 I.write (x:=a) (e:=a) mu (.inl rfl) (λb q hb z=>(hs.2 b hb).trans z) he new
theorem zsv(z:kvs.length<=sizeLine)(hd:(a==sysModules)=false)(rel:KV kvs vs)(dd:h'.DictOf (mixKind P w) a vs):
  ObjOk P w H' h' a (.dK kvs):=⟨z,hd,vs,rel,dd⟩
theorem zpf(hu:A.units+1<cLine)(I:Inv X pins σ H s)(g:DPut H a y v H')(ry:RelV y u)(rv:RelV v r)(h:∀s',Inv X pins σ H' s'->Q () s'):
  wpAny (model X.prog X.w) A (setItem (.ref a) u r) Q E s:=by
 rcases g with⟨kvs,k,e,ey,l,eH⟩|⟨kvs,k,b,e,ey,eb,l,eH⟩
 ·subst eH;obtain⟨z,hd,vs,rel,dd⟩:=zxg I.hok e;have hz:vs.length<=sizeLine:=by rw[←rel.length];exact z
  have hl:(putK kvs k v).length<=sizeLine:=by have:=zcj kvs k v;omega
  refine wpAny_setItem_pairs (hsz:=hz) (ey.is ry) dd λh' dd' hs=>h _ ?_;have he:∃q,h'.get? a=some q:=let⟨q,_,_,hq,_⟩:=dd';⟨q,hq⟩;exact zg3 I (by rw[e];exact True.intro) hs he (zsv hl hd (rel.put k rv) dd')
 ·subst ey eH;cases(show u=Value.ref b from ry);obtain⟨z,hd,xs,rel,dd⟩:=zxw I.hok e;have hz:xs.length<=sizeLine:=by rw[←Paired.length rel];exact z
  have hl:(putK kvs k v).length<=sizeLine:=by have:=zcj kvs k v;omega
  refine wpAny_setItem_heap (hsz:=hz) (tupleKind_room_in1 hu) (zh9 I.hok eb) dd λh' dd' hs=>h _ ?_;obtain⟨q,es,ep,hq,h2,h3,h4,_,h5⟩:=dd';refine zg3 I (by rw[e];exact True.intro) hs ⟨q,hq⟩ ⟨hl,hd,_,(rel.put k eb rv).keeps λc ys ec=>?_,q,es,ep,hq,h2,h3,h4,h5⟩;rw[zan (zcc ec e (λz=>nomatch z))];exact ec
end
def NoSl(i:Expr):Prop:=∀ov iv,subscripted i false ov iv=operate [ov,iv] (getItem ov iv)
theorem zmr{prog:Program}{w:World}{A:Around}{E:Y0}{s:Shared}{env:Env}{value slice:Expr}{pos:Pos}{T id:String}{Q:Y0}
  (hl:typeLookup (.type T) "__getitem__"=pure (some (.builtin id))) (hs:NoSl slice)
  (h:wpAny (model prog w) A (eval value env) (λo s₁=>wpAny (model prog w) A (eval slice env) (λi s₂=>s₂.TypeIs o T/\wpAny (model prog w) A (getItem o i) Q E s₂) E s₁) E s) :
  wpAny (model prog w) A (eval (.Subscript value slice pos) env) Q E s:=by
 refine Subscript_ (wpAny_mono h (λo s₁ h₁=>wpAny_mono h₁ (λi s₂ h₂=>?_) λ_ _ x=>x) λ_ _ x=>x);obtain⟨hT,h₂⟩:=h₂;unfold subscriptTail;refine wpAny_bind ?_;rw[getitemInPython_of_ne hT.not_modules];refine wpAny_bind (wpAny_specialOf hT hl ?_);have fin:wpAny (model prog w) A (subscripted slice false o i) (λr s₃=>wpAny (model prog w) A (letTemporaryGo value o r>>=λ_=>pure r) Q E s₃) E s₂:=by
  rw[hs o i];exact wpAny_operating (wpAny_mono h₂ (λr s₃ h₃=>wpAny_bind (wpAny_letTemporaryGo (wpAny_pure h₃))) λ_ _ x=>x)
 first
  |exact wpAny_pure (wpAny_bind fin)
  |exact wpAny_bind (wpAny_pure (wpAny_bind fin))
  |exact wpAny_bind fin
theorem zjq{X:Cx}{pins:Y2}{σ:St}{H:Hp}{s:Shared}{a:Addr}{y:V}{o:Option V}(I:Inv X pins σ H s)(g:DGet H a y o):s.TypeIs (.ref a) "dict":=by
 rcases g with⟨kvs,k,e,_,_⟩|⟨kvs,k,b,e,_,_,_⟩
 ·obtain⟨_,_,vs,_,dd⟩:=zrv I.hok e;exact dd.typeIs
 ·obtain⟨_,_,xs,_,dd⟩:=zrr I.hok e;exact dd.typeIs
def tDGet(td ty:TE):TE:=λσ H Q=>td σ H λx H1=>ty σ H1 λy H2=>∃a v,x=.ref a/\DGet H2 a y (some v)/\Q v H2
def sDPut(td ty tv:TE):TS:=λD σ H=>tv σ H λv H1=>td σ H1 λx H2=>ty σ H2 λy H3=>∃a H4,x=.ref a/\DPut H3 a y v H4/\D.nx σ H4
section
variable {X:Cx}{o i e value:Expr}{pos pos' tpos:Pos}{td ty tv:TE}
theorem ztw(hu:X.A.units+1<cLine)(ho:PE X o td)(hi:PE X i ty)(hs:NoSl i):PE X (.Subscript o i pos) (tDGet td ty):=by
 intro pins s σ H Q I h;refine zmr PySem.F.slot_dict_getitem.lookup hs (thn (ho pins s σ H _ I h) λu s1 zz=>ex5 zz λx H1 I1 rx q1=>thn (hi pins s1 σ H1 _ I1 q1) λiv s2 zz=>ex5 zz λy H2 I2 ry zq=>?_);obtain⟨a,v,ex,g,q2⟩:=zq;subst ex;obtain rfl:u=Value.ref a:=rx;exact⟨zjq I2 g,zpg hu I2 g ry λw' s3 I3 rw'=>⟨v,H2,I3,rw',q2⟩⟩
theorem ztm(hu:X.A.units+1<cLine)(ho:PE X o td)(hi:PE X i ty)(hv:PE X value tv)(hs:swapsWith value (some (.Subscript o i pos')) pos.line X.env=pure false):
  PS X (.Assign [.Subscript o i pos'] value pos) (sDPut td ty tv):=by
 intro pins s σ H D I h;refine wpAny_Assign_Subscript (thn (hv pins s σ H _ I h) λr s1 zz=>ex5 zz λv H1 I1 rv q1=>thn (ho pins s1 σ H1 _ I1 q1) λu s2 zz=>ex5 zz λx H2 I2 rx q2=>thn (hi pins s2 σ H2 _ I2 q2) λiv s3 ⟨y,H3,I3,ry,a,H4,ex,g,q3⟩=>?_) hs;subst ex;obtain rfl:u=Value.ref a:=rx;exact zpf hu I3 g ry rv λs4 I4=>⟨σ,H4,I4,q3⟩
end
theorem zrw(h:Heap)(hb:sysModules<h.objs.size):ObjOk P w H (h.push {cls:=.type "dict",data:=.dict #[]}) h.objs.size (.dK []) :=
 ⟨y10 _,beq_eq_false_iff_ne.mpr (Ne.symm (y0h hb)),[],.nil,Heap.DictOf.new h⟩
theorem zrs(h:Heap)(hb:sysModules<h.objs.size):ObjOk P w H (h.push {cls:=.type "dict",data:=.dict #[]}) h.objs.size (.dT []) :=
 ⟨y10 _,beq_eq_false_iff_ne.mpr (Ne.symm (y0h hb)),[],.nil,_,#[],0,y0b _ rfl,⟨rfl,rfl,rfl⟩,rfl,rfl,y3j⟩
def tDNewT:TE:=λ_ H Q=>∀p,H p=none->Q (.ref p) (upd H p (.dT []))
section
variable {X:Cx}{pos:Pos}
theorem zql:PE X (.Dict [] [] pos) tDNewT:=λpins s σ H Q I h =>
 wpAny_Dict_empty ⟨.ref s.heap.objs.size,_,I.laid (a:=s.heap.objs.size) (o:=.dT []) (t':=s.toks) (λ_ _ q=>y01 _ q) (y04 _) (zrs s.heap I.big),rfl,h _ (I.hok.fresh (y04 _))⟩
end
def tPairs:List (TE×TE)->St->Hp->(List (V×V)->Hp->Prop)->Prop
 |[],_,H,Q=>Q [] H
 |(tk,tv)::r,σ,H,Q=>tk σ H λx H1=>tv σ H1 λy H2=>tPairs r σ H2 λps H3=>Q ((x,y)::ps) H3
abbrev VV:List (V×V)->List (Value×Value)->Prop:=Paired λp q=>RelV p.1 q.1/\RelV p.2 q.2
def PPs(X:Cx)(pos:Pos)(keys:List (Option Expr))(values:List Expr)(trs:List (TE×TE)):Prop :=
 ∀(pins:Y2) (s:Shared) (σ:St) (H:Hp) (Q:List (V×V)->Hp->Prop),Inv X pins σ H s->tPairs trs σ H Q->
  wpAny (model X.prog X.w) X.A (evalPairs (pairTrees keys values X.env pos)) (λvs s'=>∃ps H',Inv X pins σ H' s'/\VV ps vs/\Q ps H') X.xe s
theorem zto:PPs X pos [] [] []:=λpins s σ H Q I h=>pairTrees_nil_walk ⟨[],H,I,.nil,h⟩
theorem zqg{tk tv:TE}(hk:PE X k tk)(hv:PE X v tv)(hr:PPs X pos ks vs trs):
  PPs X pos (some k::ks) (v::vs) ((tk,tv)::trs):=λpins s σ H Q I h =>
 pairTrees_cons_walk (thn (hk pins s σ H _ I h) λu s1 zz=>ex5 zz λx H1 I1 rx q1=>thn (hv pins s1 σ H1 _ I1 q1) λw2 s2 zz=>ex5 zz λy H2 I2 ry q2 =>
  thn (hr pins s2 σ H2 _ I2 q2) λws s3 zz=>ex5 zz λps H3 I3 rel q3=>⟨(x,y)::ps,H3,I3,.cons ⟨rx,ry⟩ rel,q3⟩)
def mergeK(kvs more:List (Key×V)):List (Key×V):=more.foldl (λacc kv=>putK acc kv.1 kv.2) kvs
theorem KV.merge:∀{more:List (Key×V)} {rs:List (Key×Value)} {kvs:List (Key×V)} {vs:List (Key×Value)},KV more rs->KV kvs vs->KV (mergeK kvs more) (merged vs rs):=by
 intro more rs kvs vs r;unfold KV at r
 induction r generalizing kvs vs with
 |nil=>intro q;exact q
 |@cons p q ps qs h t ih =>
  intro r0;have e:KV (putK kvs p.1 p.2) (stored vs q.1 q.2):=by
   have:=r0.put p.1 h.2;rw[←h.1];exact this
  exact ih e
theorem zdr:∀(more kvs:List (Key×V)),(mergeK kvs more).length<=kvs.length+more.length
 |[],kvs=>by show kvs.length<=kvs.length+0;omega
 |p::r,kvs=>by
  have h1:=zdr r (putK kvs p.1 p.2);have h2:=zcj kvs p.1 p.2;show(mergeK (putK kvs p.1 p.2) r).length<=_;rw[y0a];omega
theorem zgb:∀{kvs:List (Key×V)} {ws:List (Value×Value)},VV (kvs.map λkv=>(kV kv.1,kv.2)) ws->∃rs,Carries (mixKind P w) ws rs/\KV kvs rs
 |[],_,r=>by rw[y2e]at r;cases r;exact⟨[],True.intro,.nil⟩
 |p::kvs,_,r=>by
  rw[y0k]at r;cases r with
  |@cons a b as bs h t =>
   obtain⟨rs,c,q⟩:=zgb (P:=P) (w:=w) t;obtain⟨b1,b2⟩:=b;exact⟨(p.1,b2)::rs,⟨zor h.1,rfl,c⟩,.cons ⟨rfl,h.2⟩ q⟩
def tDisp(trs:List (TE×TE)):TE:=λσ H Q=>∀p,H p=none->tPairs trs σ (upd H p (.dK [])) λps H2=>H2 p=some (.dK [])/\∃kvs:List (Key×V),ps=kvs.map (λkv=>(kV kv.1,kv.2))/\kvs.length<=15/\Q (.ref p) (upd H2 p (.dK (mergeK [] kvs)))
theorem ztv(h:PPs X pos keys values trs)(hall:keys.all (·.isSome)=true)(hl:keys.length=values.length)(h0:keys≠[])
  (h15:keys.length<=15):PE X (.Dict keys values pos) (tDisp trs):=by
 intro pins s σ H Q I q;have hn:=I.hok.fresh (y04 s.heap.objs.size);have I1:=I.laid (a:=s.heap.objs.size) (o:=.dK []) (h':=s.heap.push {cls:=.type "dict",data:=.dict #[]}) (t':=s.toks) (λ_ _ q=>y01 _ q) (y04 _) (zrw s.heap I.big);refine wpAny_Dict_walk (knd:=mixKind X.prog X.w) hall hl h0 h15 (thn (h pins _ σ _ _ I1 (q _ hn)) λws s2 zz=>ex5 zz λps H2 I2 rel zq=>?_);obtain⟨e,kvs,ep,lk,q2⟩:=zq;subst ep;obtain⟨rs,c,rk⟩:=zgb (P:=X.prog) (w:=X.w) rel;obtain⟨z,hd,vs0,r0,dd⟩:=zxg I2.hok e;cases r0;refine⟨rs,c,dd,λh' dd' hs=>⟨.ref s.heap.objs.size,_,?_,rfl,q2⟩⟩;have hz:(mergeK [] kvs).length<=sizeLine:=by
  have h1:=zdr kvs [];rw[y0m]at h1;rw[sizeLine_eq];omega
 have he:∃q,h'.get? s.heap.objs.size=some q:=let⟨q,_,_,hq,_⟩:=dd';⟨q,hq⟩;exact zg3 I2 (by rw[e];exact True.intro) hs he (zsv hz hd (rk.merge .nil) dd')
def IsD(H:Hp)(a:Addr):Prop:=(∃kvs,Rd H a (.dK kvs))\/∃kvs,Rd H a (.dT kvs)
def tDGet2(td ty tx:TE):TE:=λσ H Q=>td σ H λx H1=>∃a,x=.ref a/\IsD H1 a/\ty σ H1 λy H2=>tx σ H2 λz H3=>∃o,DGet H3 a y o/\Q (o.getD z) H3
section
variable {κ:Type}[DecidableEq κ]
theorem zog:∀{l:List κ} {k:κ},l.Nodup->¬k∈l->(l++[k]).Nodup
 |[],k,_,_=>by simp
 |a::r,k,h,hk=>by
  obtain⟨h1,h2⟩:=y11.mp h;show(a::(r++[k])).Nodup;refine y11.mpr ⟨λm=>?_,zog h2 λm=>hk (y02.mpr (Or.inr m))⟩;rcases y0j.mp m with q|q
  ·exact h1 q
  ·exact hk (y02.mpr (Or.inl (y08.mp q).symm))
end
def notStar:Expr->Bool
 |.Starred _ _=>false
 |_=>true
theorem za7(h:notStar e=true):starEach (e::es) env=(false,eval e env)::starEach es env:=by
 cases e with
 |Starred v q=>exact absurd (show false=true from h) y0e
 |_=>rw[starEach.eq_def]
theorem zbl:∀{es:List Expr} {env:Env} {pos:Pos},es.all notStar=true->(backTo pos (starEach es env)).any (·.1)=false
 |[],env,pos,_=>by rw[starEach.eq_def];rfl
 |e::r,env,pos,h=>by
  rw[y1z,y05]at h;rw[za7 h.1];exact zbl h.2
section
variable {X:Cx}{x:Str}{p pos:Pos}{e:Expr}{es:List Expr}{te:TE}{t:TA}{T id:String}{r:List V->Hp->VK->Prop}
theorem pa_c(ha:PE X e te)(hr:PA X es t)(h:notStar e=true:=by rfl):PA X (e::es) (tCons te t):=ztx ha hr (za7 h)
theorem za5(hc:CallR X (.builtin id) r)(hg:Gl X x)(hm:X.mg x=none)(hv:bootBuiltins x=some (.builtin id))(ha:PA X (e::es) t)(hn:x≠"__name__":=by decide)(hdb:(x==("__debug__":Str))=false:=by decide)
  (h1:notStar e=true:=by rfl) (h2:es.all notStar=true:=by rfl):PE X (.Call (.Name x p) (e::es) [] pos) (tCB r t):=zqt hc hg hm hv ha hn hdb (za7 h1) (zbl h2)
theorem zew(hc:CallR X (.type T) r)(hg:Gl X x)(hm:X.mg x=none)(hv:bootBuiltins x=some (.type T))(ha:PA X (e::es) t)(hn:x≠"__name__":=by decide)(hdb:(x==("__debug__":Str))=false:=by decide)
  (h1:notStar e=true:=by rfl) (h2:es.all notStar=true:=by rfl):PE X (.Call (.Name x p) (e::es) [] pos) (tCB r t):=znn hc hg hm hv ha hn hdb (za7 h1) (zbl h2)
end
structure Dfn(K:Frag)(mg:Y1)(x:Str)(st:Stmt)(ps:List Str):Prop where
 ex:∃f fd,Fun K x x st f fd/\Binds K fd ps []/\mg x=some (.ref f)
structure Cal(P:Program)(w:World)(K:Frag)(mg:Y1)(base:Heap)(n:Nat)(x:Str)(ps:List Str)(sp:Sp):Prop where
 ex:∃f fd,FnOk P w K mg base CX0 n f fd ps sp/\Binds K fd ps []/\PySem.W.keepIn K (.ref f)=true/\mg x=some (.ref f)
section
variable {P:Program}{w:World}{K:Frag}{mg:Y1}{base:Heap}
theorem Dfn.cal{x:Str}{st:Stmt}{N ps:List Str}{k:Nat}{sp:Sp}(d:Dfn K mg x st ps)(S:FnScope N ps (defScope st))(len:∀vs H Q E,sp vs H Q E->vs.length=ps.length)
  (hbody:∀(f:Addr) (cdv:Value) (A:Around) (outer:List Env) (s:Shared) (H:Hp) (vs:List V) (Q:VK) (E:XK),Room k (A.deeper (envOfC x (defScope st) s.heap.objs.size f cdv))->sp vs H Q E->
   ∃t,PSs (cxOf CX0 P w K mg base N x (defScope st) f cdv A outer s H E).nox (defBody st) t/\t {nx:=λ_ H'=>Q .non H',rt:=Q} (start N vs) H):Cal P w K mg base (k+1) x ps sp:=by
 obtain⟨f,fd,F,b,m⟩:=d.ex;exact⟨f,fd,F.ok S len (hbody f),b,F.kp,m⟩
theorem Cal.mono(c:Cal P w K mg base j x ps sp)(h:j<=k):Cal P w K mg base k x ps sp:=by
 obtain⟨f,fd,F,r⟩:=c.ex;exact⟨f,fd,F.mono h,r⟩
theorem Dfn.never{x:Str}{st:Stmt}{ps:List Str}{sp:Sp}(d:Dfn K mg x st ps)(no:∀vs H Q E,¬sp vs H Q E):Cal P w K mg base 0 x ps sp:=by
 obtain⟨f,fd,F,b,m⟩:=d.ex;exact⟨f,fd,⟨λvs H Q E h=>absurd h (no vs H Q E),λA outer s H args us vs Q E _ _ _ _ h=>absurd h (no vs H Q E)⟩,b,F.kp,m⟩
end
section
variable {X:Cx}{n k:Nat}{x:Str}{ps:List Str}{sp:Sp}{p pos:Pos}{e:Expr}{es:List Expr}{t:TA}
theorem zah(C:Cal X.prog X.w X.K X.mg X.base n x ps sp)(hr:Room k X.A)(hle:n<=k)(hg:Gl X x)(ha:PA X (e::es) t)(hdb:(x==("__debug__":Str))=false:=by decide)
  (h1:notStar e=true:=by rfl) (h2:es.all notStar=true:=by rfl):PE X (.Call (.Name x p) (e::es) [] pos) (tCall sp [] E0 t):=by
 obtain⟨f,fd,F,b,kp,m⟩:=C.ex;exact znq F (hr.mono hle) hg m kp b .nil pass0 ha hdb (za7 h1) (zbl h2)
def GlV(mg:Y1)(x:Str)(v:V):Prop:=∃u,mg x=some u/\RelV v u
theorem zaz(hg:Gl X x)(h:GlV X.mg x v)(hd:(x==("__debug__":Str))=false:=by decide):PE X (.Name x pos) (tC v):=by
 obtain⟨u,m,r⟩:=h;exact znk hg m r hd
end
theorem CompOk.of(kind:scope.kind=.function)
  (h1:(scope.names.all λy=>y.2 !=.cell&&(y.2 !=.local||scope.names.lookup y.1==some .local)&&(y.2 !=.free||(X.env.scope.names.lookup y.1==some .cell||X.env.scope.names.lookup y.1==some .free)))=true)
  (h2:(cp.all λp=>X.N[p.1]? ==some p.2&&scope.names.lookup p.2==some .free)=true):CompOk X scope cp:=by
 have g:=y0q.mp h1;refine⟨kind,λy hy e=>?_,λy hy e=>?_,λy hy e=>?_,λp hp=>?_⟩
 ·have q:=g y hy;rw[y05,y05]at q;rw[e]at q;exact absurd q.1.1 (by decide)
 ·have q:=g y hy;rw[y05,y05]at q;have q:=q.1.2;rw[e]at q;simpa using q
 ·have q:=g y hy;rw[y05,y05]at q;have q:=q.2;rw[e]at q;have q:X.env.scope.names.lookup y.1=some .cell\/X.env.scope.names.lookup y.1=some .free:=by simpa using q
  exact q
 ·have q:=y0q.mp h2 p hp;rw[y05]at q;exact⟨by simpa using q.1,by simpa using q.2⟩
inductive Kd(H:Hp):V->String->Prop where
 |non:Kd H .non "NoneType"
 |bl (b:Bool):Kd H (.bl b) "bool"
 |int (i:Int):Kd H (.int i) "int"
 |str (z:Str):Kd H (.str z) "str"
 |lst {a:Addr} {xs:List V} (e:H a=some (.lst xs)):Kd H (.ref a) "list"
 |tup {a:Addr} {xs:List V} (e:H a=some (.tup xs)):Kd H (.ref a) "tuple"
 |dK {a:Addr} {kvs:List (Key×V)} (e:H a=some (.dK kvs)):Kd H (.ref a) "dict"
def kinds:List String:=["NoneType","bool","int","str","list","tuple","dict"]
def subT(k T:String):Bool:=k==T||(k=="bool"&&T=="int")
theorem zw4(K:Frag):∀k∈kinds,∀T∈["str","list","tuple","bool","int","dict"],PySem.W.kitOne K (.type k) (.type T)=some (subT k T):=by
 intro k hk T hT;simp only[kinds,y02,y07,or_false]at hk hT;rcases hk with rfl|rfl|rfl|rfl|rfl|rfl|rfl<;>rcases hT with rfl|rfl|rfl|rfl|rfl|rfl<;>first|rfl|kernel_rfl
theorem Kd.ty{K:Frag}{H:Hp}{x:V}{k:String}(h:Kd H x k):TyOf K H x (.type k)/\k∈kinds:=by
 cases h with
 |non=>exact⟨.non,by decide⟩
 |bl b=>exact⟨.bl b,by decide⟩
 |int i=>exact⟨.int i,by decide⟩
 |str z=>exact⟨.str z,by decide⟩
 |lst e=>exact⟨.lst e,by decide⟩
 |tup e=>exact⟨.tup e,by decide⟩
 |dK e=>exact⟨.dK e,by decide⟩
theorem Kd.same(h:Kd H x k)(g:Same H H'):Kd H' x k:=by
 cases h with
 |non=>exact .non
 |bl b=>exact .bl b
 |int i=>exact .int i
 |str z=>exact .str z
 |lst e=>exact .lst (g _ _ e)
 |tup e=>exact .tup (g _ _ e)
 |dK e=>exact .dK (g _ _ e)
theorem Kd.inj(h:Kd H x k)(h':Kd H x k'):k=k':=by
 cases h with
 |lst e=>cases h' with|lst _=>rfl|tup e'=>rw[e]at e';cases e'|dK e'=>rw[e]at e';cases e'
 |tup e=>cases h' with|lst e'=>rw[e]at e';cases e'|tup _=>rfl|dK e'=>rw[e]at e';cases e'
 |dK e=>cases h' with|lst e'=>rw[e]at e';cases e'|tup e'=>rw[e]at e';cases e'|dK _=>rfl
 |non=>cases h';rfl
 |bl _=>cases h';rfl
 |int _=>cases h';rfl
 |str _=>cases h';rfl
theorem zbv{X:Cx}:CallR X (.builtin "isinstance") (λxs H Q=>∃x T k,xs=[x,.ty T]/\Kd H x k/\T∈["str","list","tuple","bool","int","dict"]/\Q (.bl (subT k T)) H):=by
 intro pins s σ H xs us Q I r h;obtain⟨x,T,k,e,hk,hT,q⟩:=h;obtain⟨h1,h2⟩:=hk.ty (K:=X.K);exact zjw pins s σ H xs us Q I r ⟨x,T,.type k,_,e,h1,zw4 X.K k h2 T hT,q⟩
theorem zba(h:H p=none)(o:HO):Same H (upd H p o):=λb u q=>by rw[zan (zas q h)];exact q
theorem Same.seqT{K:Frag}{H H':Hp}{a:Addr}{xs:List V}(e:Same H H')(h:SqT K H a xs):SqT K H' a xs:=by
 rcases h with(h|⟨o,h⟩)|h
 ·exact .inl (.inl (e _ _ h))
 ·exact .inl (.inr ⟨o,e _ _ h⟩)
 ·exact .inr h
section
variable {H:Hp}{Q:VK}{v:V}{a:Option V}{r:St}{i:Nat}
theorem za3{t:TS}{D:Ends}{σ:St}(σ':St)(e:σ=σ')(h:t D σ' H):t D σ H:=by rw[e];exact h
theorem zvw:tVar 0 (some v::r) H Q=Q v H:=rfl
theorem zvv:tVar (i+1) (a::r) H Q=tVar i r H Q:=rfl
theorem zkj{A B:Prop}:(if true=true then A else B)=A:=rfl
theorem zkk{A B:Prop}:(if false=true then A else B)=B:=rfl
theorem zvx{a b:Str}:(scal (.str a) (.str b)=true)=True:=eq_true rfl
theorem zvy{a:Str}{b:Int}:(scal (.str a) (.int b)=true)=True:=eq_true rfl
theorem zv0{b:Str}{a:Int}:(scal (.int a) (.str b)=true)=True:=eq_true rfl
theorem zv1{a b:Int}:(scal (.int a) (.int b)=true)=True:=eq_true rfl
theorem zv2{a b:Bool}:(scal (.bl a) (.bl b)=true)=True:=eq_true rfl
def cBody(tn:List Str)(cp:Y6)(g:TG)(tif:TT)(te:TE)(σ:St)(Q:VK)(J:It)(H1:Hp):Prop:=∀D,H1 D=none->∃W:Nat->Nat->St->Hp->Prop,
 (∃m,W 0 m (stB tn cp σ) (upd H1 D (.lst [])))/\∀i m σb Hb,W i m σb Hb->
  (J.stop i Hb/\Q (.ref D) Hb)\/(J.go i Hb/\∀x H',J.yld i Hb x H'->g x σb H' λσ2 H2=>tif σ2 H2 λc H3 =>
   if c=true then te σ2 H3 λy H4=>∃ys,H4 D=some (.lst ys)/\ys.length<sizeLine/\∃m',m'<m/\W (i+1) m' σ2 (upd H4 D (.lst (ys++[y])))
   else∃m',m'<m/\W (i+1) m' σ2 H3)
theorem znd:tComp tn cp wi g tif te σ H Q=wi σ H λJ H1=>cBody tn cp g tif te σ Q J H1:=rfl
def fBody(g:TG)(tb:TS)(D:Ends)(σ:St)(J:It)(H1:Hp):Prop:=∃W:Nat->Nat->St->Hp->Prop,(∃m,W 0 m σ H1)/\∀i m σ H,W i m σ H->
 (J.stop i H/\D.nx σ H)\/(J.go i H/\∃N:St->Hp->Prop,(∀σ' H',N σ' H'->∃m',m'<m/\W (i+1) m' σ' H')/\∀x H',J.yld i H x H'->g x σ H' λσ2 H2=>tb {D with nx:=N,ct:=N,bk:=D.nx} σ2 H2)
theorem zse:tFor wi g tb D σ H=wi σ H λJ H1=>fBody g tb D σ J H1:=rfl
end
section
variable {tn:List Str}{cp:Y6}{g:TG}{tif:TT}{te:TE}{σ0:St}{Q:VK}{H1:Hp}
theorem zvh(n:Nat)(Pv:Addr->Nat->List V->St->Hp->Prop)(hn:n<=sizeLine)(h0:∀D,H1 D=none->Pv D 0 [] (stB tn cp σ0) (upd H1 D (.lst [])))
  (hgo:∀D i ys σ H,H1 D=none->i<n->H D=some (.lst ys)->Pv D i ys σ H->J.go i H) (hstop:∀D ys σ H,H1 D=none->H D=some (.lst ys)->Pv D n ys σ H->J.stop n H)
  (hs:∀D i ys σ H x H',H1 D=none->i<n->H D=some (.lst ys)->ys.length<=i->Pv D i ys σ H->J.yld i H x H'->g x σ H' λσ2 H2=>tif σ2 H2 λc H3 =>
   if c=true then te σ2 H3 λy H4=>CStep D n i (Pv D) σ2 y H4 else CSkip D n i (Pv D) σ2 H3)
  (hd:∀D ys σ H,H1 D=none->H D=some (.lst ys)->ys.length<=n->Pv D n ys σ H->Q (.ref D) H):cBody tn cp g tif te σ0 Q J H1:=λD hD =>
 zjs (Pv D) hn (h0 D hD) (λi ys σ H=>hgo D i ys σ H hD) (λys σ H=>hstop D ys σ H hD) (λi ys σ H hi hH hl p x H' y=>hs D i ys σ H x H' hD hi hH hl p y) (λys σ H=>hd D ys σ H hD)
theorem zxk(Pv:Addr->Nat->List V->St->Hp->Prop)(hn:z.cps.size<=sizeLine)(h0:∀D,H1 D=none->Pv D 0 [] (stB tn cp σ0) (upd H1 D (.lst [])))
  (hs:∀D i ys σ H c,H1 D=none->i<z.cps.size->z.cps[i]?=some c->H D=some (.lst ys)->ys.length<=i->Pv D i ys σ H->g (.str ⟨#[c]⟩) σ H λσ2 H2=>tif σ2 H2 λc H3 =>
   if c=true then te σ2 H3 λy H4=>CStep D z.cps.size i (Pv D) σ2 y H4 else CSkip D z.cps.size i (Pv D) σ2 H3)
  (hd:∀D ys σ H,H1 D=none->H D=some (.lst ys)->ys.length<=z.cps.size->Pv D z.cps.size ys σ H->Q (.ref D) H):cBody tn cp g tif te σ0 Q (Its z) H1:=λD hD =>
 zr2 (Pv D) hn (h0 D hD) (λi ys σ H c=>hs D i ys σ H c hD) (λys σ H=>hd D ys σ H hD)
theorem zg9{K:Frag}{a:Addr}{xs:List V}(Pv:Addr->Nat->List V->St->Hp->Prop)(hn:xs.length<=sizeLine)(h0:∀D,H1 D=none->Pv D 0 [] (stB tn cp σ0) (upd H1 D (.lst [])))
  (hl:∀D i ys σ H,H1 D=none->i<=xs.length->H D=some (.lst ys)->Pv D i ys σ H->SqL K H a xs)
  (hs:∀D i ys σ H x,H1 D=none->i<xs.length->xs[i]?=some x->H D=some (.lst ys)->ys.length<=i->Pv D i ys σ H->g x σ H λσ2 H2=>tif σ2 H2 λc H3 =>
   if c=true then te σ2 H3 λy H4=>CStep D xs.length i (Pv D) σ2 y H4 else CSkip D xs.length i (Pv D) σ2 H3)
  (hd:∀D ys σ H,H1 D=none->H D=some (.lst ys)->ys.length<=xs.length->Pv D xs.length ys σ H->Q (.ref D) H):cBody tn cp g tif te σ0 Q (Itl K a) H1:=λD hD =>
 zpi (Pv D) hn (h0 D hD) (λi ys σ H=>hl D i ys σ H hD) (λi ys σ H x=>hs D i ys σ H x hD) (λys σ H=>hd D ys σ H hD)
theorem zii{K:Frag}{a:Addr}{xs:List V}(Pv:Addr->Nat->List V->St->Hp->Prop)(hn:xs.length<=sizeLine)(h0:∀D,H1 D=none->Pv D 0 [] (stB tn cp σ0) (upd H1 D (.lst [])))
  (hl:∀D i ys σ H,H1 D=none->i<=xs.length->H D=some (.lst ys)->Pv D i ys σ H->SqT K H a xs)
  (hs:∀D i ys σ H x,H1 D=none->i<xs.length->xs[i]?=some x->H D=some (.lst ys)->ys.length<=i->Pv D i ys σ H->g x σ H λσ2 H2=>tif σ2 H2 λc H3 =>
   if c=true then te σ2 H3 λy H4=>CStep D xs.length i (Pv D) σ2 y H4 else CSkip D xs.length i (Pv D) σ2 H3)
  (hd:∀D ys σ H,H1 D=none->H D=some (.lst ys)->ys.length<=xs.length->Pv D xs.length ys σ H->Q (.ref D) H):cBody tn cp g tif te σ0 Q (Itt K a) H1 :=
 zvh xs.length Pv hn h0 (λD i ys σ H hD hi hH p=>⟨xs,xs[i],hl D i ys σ H hD (y1d hi) hH p,by simp[hi]⟩) (λD ys σ H hD hH p=>⟨xs,hl D _ ys σ H hD (y04 _) hH p,y04 _⟩) (λD i ys σ H x H' hD hi hH hl' p y=>by
  obtain⟨e,y⟩:=y;subst e;exact hs D i ys σ _ x hD hi (y xs (hl D i ys σ _ hD (y1d hi) hH p)) hH hl' p) hd
variable {tb:TS}{D:Ends}
theorem zjo{K:Frag}{a:Addr}{xs:List V}(Pv:Nat->St->Hp->Prop)(h0:Pv 0 σ0 H1)(hl:∀i σ H,i<=xs.length->Pv i σ H->SqL K H a xs)
  (hs:∀i x σ H,xs[i]?=some x->Pv i σ H->g x σ H λσ2 H2=>tb {D with nx:=Pv (i+1),ct:=Pv (i+1),bk:=D.nx} σ2 H2) (hd:∀σ H,Pv xs.length σ H->D.nx σ H):fBody g tb D σ0 (Itl K a) H1:=zrp Pv h0 hl hs hd
theorem zsq{K:Frag}{a:Addr}{xs:List V}(Pv:Nat->St->Hp->Prop)(h0:Pv 0 σ0 H1)(hl:∀i σ H,i<=xs.length->Pv i σ H->SqT K H a xs)
  (hs:∀i x σ H,xs[i]?=some x->Pv i σ H->g x σ H λσ2 H2=>tb {D with nx:=Pv (i+1),ct:=Pv (i+1),bk:=D.nx} σ2 H2) (hd:∀σ H,Pv xs.length σ H->D.nx σ H):fBody g tb D σ0 (Itt K a) H1:=zu1 Pv h0 hl hs hd
theorem zk6{lo:Int}{n:Nat}(Pv:Nat->St->Hp->Prop)(h0:Pv 0 σ0 H1)
  (hs:∀i σ H,i<n->Pv i σ H->g (.int (lo+i)) σ H λσ2 H2=>tb {D with nx:=Pv (i+1),ct:=Pv (i+1),bk:=D.nx} σ2 H2) (hd:∀σ H,Pv n σ H->D.nx σ H):fBody g tb D σ0 (Itr lo n) H1:=zo2 Pv h0 hs hd
end
theorem zkn{α:Type}(xs:List α):∀(i k:Nat),((List.range k).map λm=>i+m).filterMap (λj=>xs[j]?)=(xs.drop i).take k
 |i,0=>by simp
 |i,k+1=>by
  have ih:=zkn xs (i+1) k;rw[y2x,y0k,y0t,y1j];have e:((λm=>i+m)∘Nat.succ)=λm=>i+1+m:=by funext m;simp[Function.comp];omega
  rw[e];by_cases h:i<xs.length
  ·rw[show i+0=i from rfl,y0n h,ih,List.drop_eq_getElem_cons h,List.take_succ_cons]
  ·rw[show i+0=i from rfl,y1v (by omega),ih,y2b (by omega),y2b (by omega)];simp
def cutL{α:Type}(xs:List α)(lo hi:Option Int):List α:=(xs.drop (HT.sIx xs.length 0 lo)).take (HT.sIx xs.length xs.length hi-HT.sIx xs.length 0 lo)
theorem zw9{a b:Nat}{A B:Int}(hA:A=a)(hB:B=b):PySem.sliceRange A B 1=(List.range (b-a)).map λm=>a+m:=by
 subst hA hB;unfold PySem.sliceRange;simp only[show(1:Int)>0 by decide,if_true];have e3:(if(a:Int)<(b:Int)then((b:Int)-(a:Int)+1-1)/1 else 0).toNat=b-a:=by
  split<;>omega
 rw[e3];refine List.map_congr_left λm _=>?_;omega
theorem zm3(lo hi:Option Int)(n:Nat):Builtin.Str.strSliceIndices lo hi 1 n=(List.range (HT.sIx n n hi-HT.sIx n 0 lo)).map λm=>HT.sIx n 0 lo+m:=by
 unfold Builtin.Str.strSliceIndices;refine zw9 ?_ ?_
 ·cases lo with
  |none=>rfl
  |some v =>
   rw[←HT.clip_eq v n 0];simp only[show(1:Int)>0 by decide,if_true];split<;>omega
 ·cases hi with
  |none=>rfl
  |some v =>
   rw[←HT.clip_eq v n n];simp only[show(1:Int)>0 by decide,if_true];split<;>omega
theorem zm4(z:Str)(lo hi:Option Int):(Txt.slice z lo hi).cps.toList=cutL z.cps.toList lo hi:=by
 have hl:z.cps.toList.length=z.length:=by simp[Str.length]
 unfold Txt.slice cutL;rw[hl,zm3];have p:=zkn z.cps.toList (HT.sIx z.length 0 lo) (HT.sIx z.length z.length hi-HT.sIx z.length 0 lo);have e:(λ(j:Nat)=>z.cps.toList[j]?)=λ(j:Nat)=>z.cps[j]?:=by funext j;simp
 rw[e]at p;split
 ·rename_i h;simp only[y00,y1y,beq_self_eq_true,y1b,beq_iff_eq]at h;have h1:=HT.sIx_le z.length z.length (y04 _) hi;have h3:=HT.sIx_le z.length 0 (y10 _) lo;have h0:HT.sIx z.length 0 lo=0:=by omega
  have h2:HT.sIx z.length z.length hi-HT.sIx z.length 0 lo=z.length:=h;rw[h2,h0,List.drop_zero,y0s (by rw[hl];exact y04 _)]
 ·rw[←p]
theorem zcv(xs:List α)(k:Nat):cutL xs (some (k:Int)) none=xs.drop k:=by
 unfold cutL;rw[HT.sIx_nat,HT.sIx_none,y0s (by rw[y22];exact y04 _)];by_cases h:k<=xs.length
 ·rw[Nat.min_eq_left h]
 ·rw[Nat.min_eq_right (by omega),y2b (y04 _),y2b (by omega)]
theorem zix(z:Str):z.length=z.cps.toList.length:=by simp[Str.length]
theorem za1{α:Type}{c:α}{r:List α}:atI (c::r) 0=some c:=zak (j:=0) rfl
theorem RcOk.up(h:RcOk X j H x y b)(hjk:j<=k):RcOk X k H x y b:=λpins σ s A u v hu=>h pins σ s A u v (by omega)
theorem zaf(h:n<=1000):n<=sizeLine:=y1d (small1000 h)
theorem zdg{α:Type}{xs:List α}{i:Int}{n:Nat}(hn:xs.length=n)(h0:0<n):∃v,atI xs (i%(n:Int))=some v/\v∈xs:=by
 have h1:0<=i%(n:Int):=y17 _ (by omega);have h2:i%(n:Int)<n:=y0y _ (by omega);have h3:(i%(n:Int)).toNat<xs.length:=by omega
 refine⟨xs[(i%(n:Int)).toNat],?_,y1q h3⟩;have e:i%(n:Int)=(((i%(n:Int)).toNat:Nat):Int):=by omega
 have q:atI xs (((i%(n:Int)).toNat:Nat):Int)=some xs[(i%(n:Int)).toNat]:=zak (by simp);rw[←e]at q;exact q
theorem zib(hr:Room k A)(j:Nat)(h:j<=64):A.units+j<cLine:=by have:=hr.units;omega
section
variable {K:Frag}{h:Heap}{mg:Y1}
theorem dfn_mk{x:Str}{st:Stmt}{ps:List Str}{f:Addr}{oc:Value}{od an:Option Addr}{osl:Y8}{kV doc pm cdv ct:Value}(X:K.In h)(G:h.Ns mainGlobals mg)
  (a:PySem.W.nsIn K mainGlobals x=some (some (.ref f))) (l:K.lookup f=some ⟨oc,od,.func (PySem.W.fnOf x x (defArgs st) (defBody st) (defScope st) .none kV doc pm an cdv ct),osl⟩)
  (c:PySem.W.codeIn K cdv x=true) (k:PySem.W.keepIn K (.ref f)=true)
  (hb:∀(kV doc pm:Value) (an:Option Addr) (cdv ct:Value) (us:List Value),us.length=ps.length->bindArgs (PySem.W.fnOf x x (defArgs st) (defBody st) (defScope st) .none kV doc pm an cdv ct) ⟨us,[]⟩=pure (ps.zip us)):Dfn K mg x st ps :=
 ⟨f,_,zd8 l c k,(zd8 l c k).binds hb,PySem.W.mg_of X G a⟩
theorem law_mk{x y:Str}{st:Stmt}{f fa:Addr}{oc:Value}{od an:Option Addr}{osl:Y8}{kV doc pm cdv ct:Value}(X:K.In h)(G:h.Ns mainGlobals mg)(hfa:mg x=some (.ref fa))
  (a:PySem.W.nsIn K mainGlobals x=some (some (.ref f))) (l:K.lookup f=some ⟨oc,od,.func (PySem.W.fnOf x x (defArgs st) (defBody st) (defScope st) .none kV doc pm an cdv ct),osl⟩)
  (c:PySem.W.codeIn K cdv x=true) (k:PySem.W.keepIn K (.ref f)=true) (hb:∀(s:Shared) (v:Value),BindsTo s (PySem.W.fnOf x x (defArgs st) (defBody st) (defScope st) .none kV doc pm an cdv ct) ⟨[v],[]⟩ [(y,v)]) :
  ∃fd:FuncData,(∀(s:Shared) (v:Value),BindsTo s fd ⟨[v],[]⟩ [(y,v)])/\Fun K x x st fa fd:=by
 have e:=hfa.symm.trans (PySem.W.mg_of X G a);cases e;exact⟨_,hb,zd8 l c k⟩
theorem glv_mk(X:K.In h)(G:h.Ns mainGlobals mg)(a:PySem.W.nsIn K mainGlobals x=some (some u))(r:RelV v u):GlV mg x v:=⟨u,PySem.W.mg_of X G a,r⟩
end
section
variable {CX:CXT}{P:Program}{w:World}{K:Frag}{mg:Y1}{base:Heap}{N:List Str}{x:Str}{sc:Scope}{f:Addr}{cdv:Value}{A:Around}{outer:List Env}{s:Shared}{H:Hp}{E:XK}
theorem cxK:(cxOf CX P w K mg base N x sc f cdv A outer s H E).K=K:=rfl
theorem cxP:(cxOf CX P w K mg base N x sc f cdv A outer s H E).prog=P:=rfl
theorem cxW:(cxOf CX P w K mg base N x sc f cdv A outer s H E).w=w:=rfl
end
section
variable {X:Cx}{st:Stmt}{rest:List Stmt}{t u:TS}{e:Expr}{te:TE}
def tCut(t u:TS):TS:=λD σ H=>∃Pv:St->Hp->Prop,t {D with nx:=Pv} σ H/\∀σ' H',Pv σ' H'->u D σ' H'
theorem zbm(h1:PS X st t)(h2:PSs X rest u):PSs X (st::rest) (tCut t u):=by
 intro pins s σ H D I h;obtain⟨Pv,q1,q2⟩:=h;refine wpAny_execs_cons (thn (h1 pins s σ H {D with nx:=Pv} I q1) λf s1 q=>?_);cases f with
 |next =>
  obtain⟨σ',H',I',q⟩:=q;exact h2 pins s1 σ' H' D I' (q2 σ' H' q)
 |ret v=>exact q
 |brk=>exact q
 |cont=>exact q
end
local instance (priority:=10000):BEq Key:=instBEqOfDecidableEq
local instance (priority:=10000):LawfulBEq Key:=inferInstanceAs (LawfulBEq (Sum Int Str))
def onceK:List Key->List Key->List Key
 |acc,[]=>acc
 |acc,k::r=>onceK (if k∈acc then acc else acc++[k]) r
theorem zf2:∀(ks acc:List Key) (k:Key),onceK acc (ks++[k])=if k∈onceK acc ks then onceK acc ks else onceK acc ks++[k]
 |[],acc,k=>rfl
 |j::r,acc,k=>zf2 r _ k
theorem zdp:∀(ks acc:List Key),(onceK acc ks).length<=acc.length+ks.length
 |[],acc=>y04 _
 |k::r,acc=>by
  have h:=zdp r (if k∈acc then acc else acc++[k]);show(onceK (if k∈acc then acc else acc++[k]) r).length<=acc.length+(r.length+1);split at h<;>rename_i c
  ·rw[if_pos c];omega
  ·rw[if_neg c];rw[y06,y16]at h;omega
theorem zez:∀(ks acc:List Key),acc.Nodup->((onceK acc ks).length=acc.length+ks.length↔(acc++ks).Nodup)
 |[],acc,h=>by simp[onceK,h]
 |k::r,acc,h=>by
  show(onceK (if k∈acc then acc else acc++[k]) r).length=acc.length+(r.length+1)↔_;by_cases c:k∈acc
  ·rw[if_pos c];have l:=zdp r acc;constructor
   ·intro e;omega
   ·intro e;have:=(List.nodup_append.mp e).2.2 k c k (y0c);exact absurd rfl this
  ·rw[if_neg c];have h':(acc++[k]).Nodup:=zog h c;have ih:=zez r (acc++[k]) h';rw[y06,y16,y2c]at ih;rw[show acc.length+(r.length+1)=acc.length+1+r.length by omega];exact ih
theorem znz(ks:List Key):(onceK [] ks).length=ks.length↔ks.Nodup:=by
 have h:=zez ks [] y3j;simpa using h
section
variable {P:Program}{w:World}{A:Around}{R:Result->Shared->Prop}{it:Addr}{fp wr:List Addr}{G:Array GenState->Array GenState->Prop}{n:Nat}{Pv:Nat->Value->Prop}{St:Nat->Shared->Prop}
def SetIs(P:Program)(w:World)(h:Heap)(a:Addr)(ks:List Key):Prop:=h.SetOf (mixKind P w) a (λk=>decide (k∈onceK [] ks)) (onceK [] ks).length
theorem SetIs.kept(x:SetIs P w h a ks)(k:∀o,h.get? a=some o->h'.get? a=some o):SetIs P w h' a ks:=by
 obtain⟨o,es,ep,t,ho,rest⟩:=x;exact⟨o,es,ep,t,k o ho,rest⟩
theorem zth(h:(mixKind P w).is k v=true):v.scannable=true:=by
 rcases za4 h with⟨i,t,rfl,rfl⟩|⟨x,t,rfl,rfl⟩|⟨c,rfl,rfl⟩<;>rfl
theorem zm6(W:WalksS P w A.in1 it fp wr G n Pv St)(a:Addr)(ha:a∉fp)(ks:List Key)(hn:ks.length=n)(hv:∀i v,Pv i v->∀k,ks[i]?=some k->(mixKind P w).is k v=true)(hb:n+1<scanBound):
  ∀(m i:Nat) (s:Shared),n-i=m->i<=n->St i s->SetIs P w s.heap a (ks.take i)->(∀s',Moved (a::wr) G s s'->SetIs P w s'.heap a ks->R (.ok (.ret .none)) s')->
   codeAny (model P w) A (.builtin "set.update.loop" ⟨[.ref a,.ref it],[]⟩) R s:=by
 have haw:a∉wr:=λh=>ha (W.sub _ h);have up:∀b∈wr,b∈a::wr:=λb h=>y09 _ h;intro m
 induction m with
 |zero =>
  intro i s hm hi st x q;obtain rfl:i=n:=by omega
  rw[y0s (y3c hn)]at x;refine codeAny_builtin F.entry_set_update_loop ?_;rw[Around.under_plainId F.plain_set_update_loop _];refine wpAny_bind (W.done s _ _ st λs' mv=>wpAny_pure (q s' (mv.mono up) (x.kept λo e=>mv.heap a _ haw e)))
 |succ m ih =>
  intro i s hm hi st x q;have lt:i<n:=by omega
  have hk:ks[i]?=some ks[i]:=by simp[hn,lt]
  refine codeAny_builtin F.entry_set_update_loop ?_;rw[Around.under_plainId F.plain_set_update_loop _];refine wpAny_bind (W.item i s _ _ lt st λv s' pv st' mv=>?_);have is:=hv i v pv _ hk;have x':=x.kept (h':=s'.heap) λo e=>mv.heap a _ haw e;refine wpAny_bind (m:=holding [v] (setAdd a v)) (wpAny_holding ?_);unfold setAdd;refine wpAny_holding (wpAny_bind ((mixKind P w).pyHash (k:=ks[i]) is ?_));have room:=zdp (ks.take i) [];rw[y12,y0m]at room;refine wpAny_setAddHashed_of (knd:=mixKind P w) (s:={s' with toks:=s'.toks+1}) is (zth is) x' (by omega) λh' sb x2=>?_;have x3:SetIs P w h' a (ks.take (i+1)):=by
   unfold SetIs;rw[y1i,hk,Option.toList_some,zf2];refine SetOf_congr x2 (λk'=>?_) ?_
   ·by_cases c:ks[i]∈onceK [] (ks.take i)
    ·rw[if_pos c];by_cases e:k'=ks[i]
     ·subst e;simp[c]
     ·simp[e]
    ·rw[if_neg c];simp[y0j]
   ·by_cases c:ks[i]∈onceK [] (ks.take i)
    ·rw[if_pos c];simp[c]
    ·rw[if_neg c];simp[c]
  refine wpAny_pure ⟨plainId_quiet F.plain_set_update_loop _,ih (i+1) _ (by omega) lt (W.frame _ s' _ _ st' (y2r _) λb hb o e=>?_) x3 λs2 mv2 x4=>?_⟩
  ·rw[sb.2 b (λh=>ha (h▸hb))];exact e
  ·refine q s2 (Moved.trans W.gtrans ((mv.mono up).then_heap (y2r _) λb o hb e=>?_) mv2) x4;rw[sb.2 b (λh=>hb (h▸y0c))];exact e
end
section
variable {P:Program}{w:World}{A:Around}{E:Y0}{s:Shared}
set_option maxHeartbeats 3200000 in
theorem zi2(hh:A.handled=none)(hl:s.heap.IsList l its)(hk:ks.length=its.size)(hi:∀(i:Nat) v k,its[i]?=some v->ks[i]?=some k->(mixKind P w).is k v=true)
  (hb:its.size+1<scanBound)
  (h:∀(h':Heap) (tk:Nat),SetIs P w h' s.heap.objs.size ks->(∀b o,b<s.heap.objs.size->s.heap.get? b=some o->h'.get? b=some o)->Q (.ref s.heap.objs.size) {s with heap:=h',toks:=tk}) :
  wpAny (model P w) A (call (.type "set") [.ref l]) Q E s:=by
 obtain⟨c,tl,hmro⟩:=F.called_set.mro;have made:=F.called_set.made;have sub:=F.called_set.sub;refine wpAny_call (codeAny_of_tree (wpAny_pure ⟨Code.quiet_builtin _ (by decide+kernel),codeAny_builtin F.entry_type_call ?_⟩));rw[Around.under_plain (weight_type_call_type "set" [.ref l] []) rfl];have a1:=F.called_set.notType;have a2:=F.called_set.canCreate;have a3:=F.typeCall_set_1 (.ref l)
 repeat (any_goals (first|assumption|wp_step))
 refine codeAny_mono (code_set_new_1 (.ref l) (E:=E) (Q₁:=λobj s1=>∃led:Bool,obj=.ref s.heap.objs.size/\s1={s with heap:=s.heap.push {cls:=.type "set",dict:=none,data:=.set #[] 0 (.fresh 0 0 led)} }) λled=>⟨led,rfl,rfl⟩) λr s1 hr=>?_;cases r with
 |error e=>exact hr
 |ok fl =>
  cases fl with
  |ret obj =>
   obtain⟨led,rfl,rfl⟩:=hr;have at0:(s.heap.push {cls:=.type "set",dict:=none,data:=.set #[] 0 (.fresh 0 0 led)}).get? s.heap.objs.size=some {cls:=.type "set",dict:=none,data:=.set #[] 0 (.fresh 0 0 led)}:=y0b _ rfl;have ty:Shared.TypeIs {s with heap:=s.heap.push {cls:=.type "set",dict:=none,data:=.set #[] 0 (.fresh 0 0 led)} } (.ref s.heap.objs.size) "set":=⟨_,at0,rfl⟩;have i1:=F.called_set.init.lookup;have i2:=F.called_set.init.bind (.ref s.heap.objs.size)
   repeat (any_goals (first|assumption|wp_step))
   refine codeAny_mono (codeAny_call_builtin (R:=wants (λr s2=>r=.none/\∃h' tk,s2={s with heap:=h',toks:=tk}/\SetIs P w h' s.heap.objs.size ks/\
     (∀b o,b<s.heap.objs.size->s.heap.get? b=some o->h'.get? b=some o)) E) F.called_set.init.plain F.entry_set_init (check_set_init_1 ty ?_)) λr2 s2 hr2=>?_
   ·obtain⟨ol,ho,hc,nl,hd⟩:=hl;obtain⟨oc,od,oda,osl⟩:=ol;simp only at hc hd;subst hc;subst hd;have ho':(s.heap.push {cls:=.type "set",dict:=none,data:=.set #[] 0 (.fresh 0 0 led)}).get? l=some {cls:=.type "list",dict:=od,data:=.seq its nl,slots:=osl}:=y01 _ ho;have b1:=F.sub_list_set;have b2:=F.sub_list_frozenset;have b3:(Value.type "list"==Value.type "dict")=false:=by decide
    have hl1:(s.heap.push {cls:=.type "set",dict:=none,data:=.set #[] 0 (.fresh 0 0 led)}).IsList l its:=⟨_,ho',rfl,nl,rfl⟩;unfold Builtin.«set.__init__» noKeywords Builtin.Frozenset.updateFrom;generalize hPI:pyIter=PI
    wp_walk
    subst hPI;refine wpAny_pyIter_list hl1 ?_;refine wpAny_bind (wpAny_runValue ?_);have ll:l<s.heap.objs.size:=y0d ho;have h3:A.in1.in1.in1.handled=none:=by simp[hh]
    have ne:l≠(s.heap.push {cls:=.type "set",dict:=none,data:=.set #[] 0 (.fresh 0 0 led)}).objs.size:=by rw[y0v];exact y0h (y1o ll)
    have nf:s.heap.objs.size∉[(s.heap.push {cls:=.type "set",dict:=none,data:=.set #[] 0 (.fresh 0 0 led)}).objs.size,l]:=by
     rw[y0v];intro z;rcases y02.mp z with z|z
     ·exact absurd z (y0h (y1g _))
     ·exact absurd (y08.mp z) (y1p ll)
    refine zm6 ((Walks.list h3 _ l ne its).toS) s.heap.objs.size nf ks hk (λi v pv k e=>hi i v k pv e) hb (its.size-0) 0 _ (by omega) (y10 _) ⟨⟨_,y0b _ rfl,rfl,rfl⟩,(hl1.push _)⟩ ?x0 ?q0
    case x0 =>
     refine SetIs.kept (h:=s.heap.push {cls:=.type "set",dict:=none,data:=.set #[] 0 (.fresh 0 0 led)}) ?_ λo e=>y01 _ e;rw[List.take_zero];exact SetOf_congr ((setObjOf_fresh (knd:=mixKind P w) led).setOf at0 (by unfold scanBound;omega)) (λ_=>rfl) rfl
    case q0 =>
     intro s' mv x';obtain⟨h',g',d',tk',os'⟩:=s';have eg:g'=s.gens:=mv.gens;have ed:d'=s.drawn:=mv.drawn;have eo:os'=s.os:=mv.os;subst eg;subst ed;subst eo;refine wpAny_pure (wpAny_pure ⟨rfl,h',tk',rfl,x',λb o hb e=>mv.heap b o ?_ (y01 _ (y01 _ e))⟩);rw[y0v];intro z;rcases y02.mp z with z|z
     ·exact absurd z (y0h hb)
     ·exact absurd (y08.mp z) (y0h (y1o hb))
   ·cases r2 with
    |error e=>exact hr2
    |ok f2 =>
     cases f2 with
     |ret r =>
      obtain⟨rfl,h',tk,rfl,x',k'⟩:=hr2
      repeat (any_goals (first|assumption|wp_step))
      exact h _ _ x' k'
     |_=>exact hr2.elim
  |_=>exact hr.elim
end
def setK(P:Program)(w:World)(a:Addr)(ks:List Key):HO:=.ext λh=>SetIs P w h a ks
theorem zjv(hc:X.calm=true):CallR X (.type "set") (λxs H Q=>∃(p:Addr) (ks:List Key),xs=[.ref p]/\SqL X.K H p (ks.map kV)/\ks.length<=1000/\∀a,H a=none->Q (.ref a) (upd H a (setK X.prog X.w a ks))):=by
 intro pins s σ H xs us Q I r h;obtain⟨p,ks,rfl,hx,hz,q⟩:=h;obtain⟨u,rfl,rx⟩:=vals1 r;cases(show u=Value.ref p from rx);obtain⟨vs,rv,pl,_⟩:=I.list hx;have lv:=rv.length;rw[y00]at lv;refine zi2 (ks:=ks) (I.ok.hd hc) pl.isList (by rw[y03];exact lv) (λi v k e1 e2=>?_) (by rw[y03];unfold scanBound;omega) λh' tk x k=>?_
 ·have e1':vs[i]?=some v:=by simpa using e1
  obtain⟨u,e,q⟩:=rv.get (i:=i) (x:=kV k) (by rw[y0w,e2];rfl);rw[e1']at e;cases e;exact zor q
 ·refine⟨.ref s.heap.objs.size,_,I.laid (t':=tk) (λb u e=>k b u (y0d e) e) (y04 _) ?_,rfl,q _ I.fresh⟩;obtain⟨o,es,ep,t,ho,rest⟩:=id x;exact⟨x,⟨o,ho⟩,λh1 h2 x1 k1=>x1.kept k1⟩
theorem zhc:CallR X (.builtin "len") (λxs H Q=>∃(p:Addr) (ks:List Key),xs=[.ref p]/\H p=some (setK X.prog X.w p ks)/\ks.length<=1000/\Q (.int ((onceK [] ks).length:Int)) H):=by
 intro pins s σ H xs us Q I r h;obtain⟨p,ks,rfl,hx,hz,q⟩:=h;obtain⟨u,rfl,rx⟩:=vals1 r;cases(show u=Value.ref p from rx);obtain⟨x,_⟩:=I.hok p _ hx;obtain⟨o,es,ep,t,ho,hex,hd,_,_,_,hf,hn⟩:=x;have room:=zdp ks [];rw[y0m]at room;refine call_len_set ho hex hd hf (by rw[hn];omega) ?_;rw[hn];exact⟨.int _,H,I.tok _,⟨_,rfl⟩,q⟩
structure New(H:Hp)(p:Addr)(o:HO)(H':Hp):Prop where
 nil:H p=none
 g:Same H H'
 at':H' p=some o
 eq:H'=upd H p o
theorem New.mk'(h:H p=none)(o:HO):New H p o (upd H p o):=⟨h,zba h o,zao,rfl⟩
theorem New.lst{K:Frag}{H H':Hp}{p:Addr}{xs:List V}(n:New H p (.lst xs) H'):SqL K H' p xs:=.of n.at'
theorem Same.wr(g:Same H H')(h:H p=none)(o:HO):Same H (upd H' p o):=λb u e=>by rw[zan (zas e h)];exact g b u e
section
variable {X:Cx}{e:Expr}{es:List Expr}{t:TA}{pos:Pos}
def tTupN(t:TA):TE:=λσ H Q=>t σ H λxs H1=>xs.length<=sizeLine/\∀p H',New H1 p (.tup xs) H'->Q (.ref p) H'
def tLstN(t:TA):TE:=λσ H Q=>t σ H λxs H1=>xs.length<=sizeLine/\∀p H',New H1 p (.lst xs) H'->Q (.ref p) H'
theorem zag(h:PA X es t):PE X (.Tuple es x1 pos) (tTupN t):=by
 intro pins s σ H Q I hq;refine wpAny_Tuple_spliced (thn (h pos pins s σ H _ I hq) λus s1 ⟨xs,H1,I1,r,z,q⟩=>⟨by rw[←r.length];exact z,?_⟩);refine⟨.ref s1.heap.objs.size,upd H1 s1.heap.objs.size (.tup xs),I1.laid (t':=s1.toks) (λb u e=>y01 _ e) (y04 _) ?_,rfl,q _ _ (.mk' I1.fresh _)⟩;exact⟨z,us,r,⟨_,y0b _ rfl,rfl,_,rfl⟩⟩
theorem zaq(h:PA X es t):PE X (.List es pos) (tLstN t):=by
 intro pins s σ H Q I hq;refine wpAny_List_spliced (thn (h pos pins s σ H _ I hq) λus s1 ⟨xs,H1,I1,r,z,q⟩=>⟨by rw[←r.length];exact z,?_⟩);refine⟨.ref s1.heap.objs.size,upd H1 s1.heap.objs.size (.lst xs),I1.laid (t':=s1.toks) (λb u e=>y01 _ e) (y04 _) ?_,rfl,q _ _ (.mk' I1.fresh _)⟩;exact⟨z,us,0,r,y0b _ rfl⟩
def rSlLN(K:Frag):V->Option Int->Option Int->Hp->VK->Prop:=λx lo hi H Q=>∃a xs,x=.ref a/\SqL K H a xs/\∀p H',New H p (.lst (cutL xs lo hi)) H'->Q (.ref p) H'
theorem zp4:SlR X (rSlLN X.K):=λpins s σ H x v vl vu lo hi sl Q I rx hs pl pu h=>by
 obtain⟨a,xs,e,hx,q⟩:=h;exact ztc pins s σ H x v vl vu lo hi sl Q I rx hs pl pu ⟨a,xs,e,hx,λp np=>q p _ (.mk' np _)⟩
def rCatN:R2:=λx y H Q=>∃l b xs zs,x=.ref l/\y=.ref b/\H l=some (.lst xs)/\H b=some (.lst zs)/\xs.length+zs.length<=sizeLine/\∀p H',New H p (.lst (xs++zs)) H'->Q (.ref p) H'
theorem zbr:OpR X (binaryOp .Add) rCatN:=λpins s σ H x y v u Q I rx ry h=>by
 obtain⟨l,b,xs,zs,e1,e2,h1,h2,hz,q⟩:=h;exact zwi pins s σ H x y v u Q I rx ry ⟨l,b,xs,zs,e1,e2,h1,h2,hz,λp np=>q p _ (.mk' np _)⟩
theorem zhb:CallR X (.type "list") (λxs H Q=>∃p ys,xs=[.ref p]/\(SqL X.K H p ys\/SqT X.K H p ys)/\∀l H',New H l (.lst ys) H'->Q (.ref l) H'):=λpins s σ H xs us Q I r h=>by
 obtain⟨p,ys,e,hq,q⟩:=h;exact zim pins s σ H xs us Q I r ⟨p,ys,e,hq,λl nl=>q l _ (.mk' nl _)⟩
theorem zc7:CallR X (.type "tuple") (λxs H Q=>∃p ys,xs=[.ref p]/\((SqL X.K H p ys/\∀l H',New H l (.tup ys) H'->Q (.ref l) H')\/(SqT X.K H p ys/\Q (.ref p) H))):=λpins s σ H xs us Q I r h=>by
 obtain⟨p,ys,e,hq⟩:=h;refine zha pins s σ H xs us Q I r ⟨p,ys,e,?_⟩;rcases hq with⟨h1,q⟩|h1
 ·exact .inl ⟨h1,λl nl=>q l _ (.mk' nl _)⟩
 ·exact .inr h1
theorem zik(hc:X.calm=true):CallR X (.type "set") (λxs H Q=>∃(p:Addr) (ks:List Key),xs=[.ref p]/\SqL X.K H p (ks.map kV)/\ks.length<=1000/\∀a H',New H a (setK X.prog X.w a ks) H'->Q (.ref a) H'):=λpins s σ H xs us Q I r h=>by
 obtain⟨p,ks,e,hx,hz,q⟩:=h;exact zjv hc pins s σ H xs us Q I r ⟨p,ks,e,hx,hz,λa na=>q a _ (.mk' na _)⟩
end
section
variable {tn:List Str}{cp:Y6}{g:TG}{tif:TT}{te:TE}{σ0:St}{Q:VK}{H1:Hp}{K:Frag}{a:Addr}{xs:List V}
def PMap(S:St->Prop)(f:V->V)(xs:List V)(H1:Hp)(i:Nat)(ys:List V)(σ:St)(H:Hp):Prop:=Same H1 H/\S σ/\ys=(xs.take i).map f
theorem zg5(S:St->Prop)(f:V->V)(hn:xs.length<=1000)(hS:SqL K H1 a xs)(h0:S (stB tn cp σ0))
  (hs:∀D i σ H x,i<xs.length->x∈xs->xs[i]?=some x->Same H1 H->H1 D=none->H D=some (.lst ((xs.take i).map f))->S σ->g x σ H λσ2 H2=>tif σ2 H2 λc H3 =>
   if c=true then te σ2 H3 λy H4=>CStep D xs.length i (PMap S f xs H1) σ2 y H4 else CSkip D xs.length i (PMap S f xs H1) σ2 H3)
  (hd:∀D H,H1 D=none->Same H1 H->H D=some (.lst (xs.map f))->Q (.ref D) H):cBody tn cp g tif te σ0 Q (Itl K a) H1:=by
 refine zg9 (K:=K) (a:=a) (xs:=xs) (λD i ys σ H=>PMap S f xs H1 i ys σ H) (zaf hn) (λD hD=>⟨zba hD _,h0,rfl⟩) (λD i ys σ H _ _ _ p=>p.1.seq hS) ?_ ?_
 ·rintro D i ys σ H x hD hi hx hH hl ⟨p1,p2,rfl⟩;exact hs D i σ H x hi (y0g hx) hx p1 hD hH p2
 ·rintro D ys σ H hD hH hl ⟨p1,p2,rfl⟩;rw[y0s (y04 _)]at hH;exact hd D H hD p1 hH
theorem zsy(S:St->Prop)(f:V->V)(hn:xs.length<=1000)(hS:SqT K H1 a xs)(h0:S (stB tn cp σ0))
  (hs:∀D i σ H x,i<xs.length->x∈xs->xs[i]?=some x->Same H1 H->H1 D=none->H D=some (.lst ((xs.take i).map f))->S σ->g x σ H λσ2 H2=>tif σ2 H2 λc H3 =>
   if c=true then te σ2 H3 λy H4=>CStep D xs.length i (PMap S f xs H1) σ2 y H4 else CSkip D xs.length i (PMap S f xs H1) σ2 H3)
  (hd:∀D H,H1 D=none->Same H1 H->H D=some (.lst (xs.map f))->Q (.ref D) H):cBody tn cp g tif te σ0 Q (Itt K a) H1:=by
 refine zii (K:=K) (a:=a) (xs:=xs) (λD i ys σ H=>PMap S f xs H1 i ys σ H) (zaf hn) (λD hD=>⟨zba hD _,h0,rfl⟩) (λD i ys σ H _ _ _ p=>p.1.seqT hS) ?_ ?_
 ·rintro D i ys σ H x hD hi hx hH hl ⟨p1,p2,rfl⟩;exact hs D i σ H x hi (y0g hx) hx p1 hD hH p2
 ·rintro D ys σ H hD hH hl ⟨p1,p2,rfl⟩;rw[y0s (y04 _)]at hH;exact hd D H hD p1 hH
theorem zdz(hn:xs.length<=1000)(hx:xs[i]?=some x)(hD:H1 D=none)(h4:H4 D=some (.lst ((xs.take i).map f)))(g4:Same H1 H4)(s2:S σ2)(e:y=f x):
  CStep D xs.length i (PMap S f xs H1) σ2 y H4:=by
 have hi:i<xs.length:=(y0f.mp hx).1;refine cstep (zaf hn) hi h4 (by rw[y00,y12];omega) ⟨g4.wr hD _,s2,?_⟩;rw[y1i,hx,y0r,e];rfl
def PFil(S:St->Prop)(p:V->Bool)(f:V->V)(xs:List V)(H1:Hp)(i:Nat)(ys:List V)(σ:St)(H:Hp):Prop:=Same H1 H/\S σ/\ys=((xs.take i).filter p).map f
theorem zju(S:St->Prop)(p:V->Bool)(f:V->V)(hn:xs.length<=1000)(hS:SqL K H1 a xs)(h0:S (stB tn cp σ0))
  (hs:∀D i σ H x,i<xs.length->x∈xs->xs[i]?=some x->Same H1 H->H1 D=none->H D=some (.lst (((xs.take i).filter p).map f))->S σ->g x σ H λσ2 H2=>tif σ2 H2 λc H3 =>
   if c=true then te σ2 H3 λy H4=>CStep D xs.length i (PFil S p f xs H1) σ2 y H4 else CSkip D xs.length i (PFil S p f xs H1) σ2 H3)
  (hd:∀D H,H1 D=none->Same H1 H->H D=some (.lst ((xs.filter p).map f))->Q (.ref D) H):cBody tn cp g tif te σ0 Q (Itl K a) H1:=by
 refine zg9 (K:=K) (a:=a) (xs:=xs) (λD i ys σ H=>PFil S p f xs H1 i ys σ H) (zaf hn) (λD hD=>⟨zba hD _,h0,rfl⟩) (λD i ys σ H _ _ _ p=>p.1.seq hS) ?_ ?_
 ·rintro D i ys σ H x hD hi hx hH hl ⟨p1,p2,rfl⟩;exact hs D i σ H x hi (y0g hx) hx p1 hD hH p2
 ·rintro D ys σ H hD hH hl ⟨p1,p2,rfl⟩;rw[y0s (y04 _)]at hH;exact hd D H hD p1 hH
theorem zxj(S:St->Prop)(p:V->Bool)(f:V->V)(hn:xs.length<=1000)(hS:SqT K H1 a xs)(h0:S (stB tn cp σ0))
  (hs:∀D i σ H x,i<xs.length->x∈xs->xs[i]?=some x->Same H1 H->H1 D=none->H D=some (.lst (((xs.take i).filter p).map f))->S σ->g x σ H λσ2 H2=>tif σ2 H2 λc H3 =>
   if c=true then te σ2 H3 λy H4=>CStep D xs.length i (PFil S p f xs H1) σ2 y H4 else CSkip D xs.length i (PFil S p f xs H1) σ2 H3)
  (hd:∀D H,H1 D=none->Same H1 H->H D=some (.lst ((xs.filter p).map f))->Q (.ref D) H):cBody tn cp g tif te σ0 Q (Itt K a) H1:=by
 refine zii (K:=K) (a:=a) (xs:=xs) (λD i ys σ H=>PFil S p f xs H1 i ys σ H) (zaf hn) (λD hD=>⟨zba hD _,h0,rfl⟩) (λD i ys σ H _ _ _ p=>p.1.seqT hS) ?_ ?_
 ·rintro D i ys σ H x hD hi hx hH hl ⟨p1,p2,rfl⟩;exact hs D i σ H x hi (y0g hx) hx p1 hD hH p2
 ·rintro D ys σ H hD hH hl ⟨p1,p2,rfl⟩;rw[y0s (y04 _)]at hH;exact hd D H hD p1 hH
theorem zg7(hn:xs.length<=1000)(hx:xs[i]?=some x)(hp:p x=true)(hD:H1 D=none)(h4:H4 D=some (.lst (((xs.take i).filter p).map f)))(g4:Same H1 H4)(s2:S σ2)(e:y=f x):
  CStep D xs.length i (PFil S p f xs H1) σ2 y H4:=by
 have hi:i<xs.length:=(y0f.mp hx).1;refine cstep (zaf hn) hi h4 ?_ ⟨g4.wr hD _,s2,?_⟩
 ·rw[y00];have:=y1l p (xs.take i);rw[y12]at this;omega
 ·rw[y1i,hx,y2k,y0r,e];simp[hp]
theorem zg8(hx:xs[i]?=some x)(hp:p x=false)(h3:H3 D=some (.lst (((xs.take i).filter p).map f)))(g3:Same H1 H3)(s2:S σ2):
  CSkip D xs.length i (PFil S p f xs H1) σ2 H3:=by
 have hi:i<xs.length:=(y0f.mp hx).1;refine cskip hi h3 ?_ ⟨g3,s2,?_⟩
 ·rw[y00];have:=y1l p (xs.take i);rw[y12]at this;omega
 ·rw[y1i,hx,y2k];simp[hp]
end
end L2
namespace SS
open PySem PySem.Spec PyProof.Rows L2
def SMALL:Str:="abcdefghijklmnopqrstuvwxyz"
def GREAT:Str:="ABCDEFGHIJKLMNOPQRSTUVWXYZ"
def FIGS:Str:="0123456789"
def signIn(c:Nat)(z:Str):Bool:=!(Builtin.Str.occurrences z ⟨#[c]⟩ 0 z.length 1).isEmpty
def nameB(z letters:Str):Bool:=match z.cps.toList with
 |[]=>false
 |c::r=>decide (r.length<=3)&&signIn c letters&&r.all λd=>signIn d FIGS
def isNm(x:V)(letters:Str):Bool:=match x with
 |.str z=>nameB z letters
 |_=>false
def zs8:Sp:=λvs H Q _=>∃x letters k,vs=[x,.str letters]/\Kd H x k/\(∀z,x=.str z->z.length<=1000)/\∀H',Same H H'->Q (.bl (isNm x letters)) H'
def zfj(letters:Str):Sp:=λvs H Q _=>∃x k,vs=[x]/\Kd H x k/\(∀z,x=.str z->z.length<=1000)/\∀H',Same H H'->Q (.bl (isNm x letters)) H'
structure Nam(z letters:Str):Prop where
 ex:∃d ds,z.cps.toList=d::ds/\d∈letters.cps.toList/\ds.length<=3/\∀x∈ds,x∈FIGS.cps.toList
theorem zg1:∀c∈SMALL.cps.toList,signIn c SMALL=true:=by decide+kernel
theorem zk0:∀c∈GREAT.cps.toList,signIn c GREAT=true:=by decide+kernel
theorem zuy:∀c∈FIGS.cps.toList,signIn c FIGS=true:=by decide+kernel
theorem zh8(hl:∀c∈l.cps.toList,signIn c l=true)(h:Nam z l):isNm (.str z) l=true:=by
 obtain⟨d,ds,e,h1,h2,h3⟩:=h.ex;simp only[isNm,nameB,e];rw[hl d h1,decide_eq_true h2,y1b,y1b];exact y0q.mpr λx hx=>zuy x (h3 x hx)
theorem zgy(h:Nam z l):1<=z.length/\z.length<=4:=by
 obtain⟨d,ds,e,h1,h2,h3⟩:=h.ex;rw[zix,e,y0a];omega
theorem zm5(c:Nat)(z:Str):signIn c z=decide (c∈z.cps.toList):=PySem.StrLaws.found_one z c
def Thing(H:Hp)(y:V):Prop:=(∃k,Kd H y k)/\∀z,y=.str z->z.length<=1000
theorem Thing.same(h:Thing H y)(g:Same H H'):Thing H' y:=⟨let⟨k,q⟩:=h.1;⟨k,q.same g⟩,h.2⟩
theorem Thing.str(h:z.length<=1000):Thing H (.str z):=⟨⟨_,.str z⟩,λz' e=>by cases e;exact h⟩
theorem Thing.non:Thing H .non:=⟨⟨_,.non⟩,λz' e=>by cases e⟩
theorem Thing.int(i:Int):Thing H (.int i):=⟨⟨_,.int i⟩,λz' e=>by cases e⟩
theorem Thing.bl(b:Bool):Thing H (.bl b):=⟨⟨_,.bl b⟩,λz' e=>by cases e⟩
theorem Thing.lst(e:H a=some (.lst xs)):Thing H (.ref a):=⟨⟨_,.lst e⟩,λz' e=>by cases e⟩
theorem Thing.tup(e:H a=some (.tup xs)):Thing H (.ref a):=⟨⟨_,.tup e⟩,λz' e=>by cases e⟩
theorem Thing.dK(e:H a=some (.dK xs)):Thing H (.ref a):=⟨⟨_,.dK e⟩,λz' e=>by cases e⟩
def isName(x:V):Bool:=isNm x SMALL||isNm x GREAT
def zp2:Sp:=λvs H Q _=>∃x,vs=[x]/\Thing H x/\∀H',Same H H'->Q (.bl (isName x)) H'
theorem zdy(h:isName x=true):∃z,x=.str z:=by
 cases x with
 |str z=>exact⟨z,rfl⟩
 |_=>exact absurd h (by simp[isName,isNm])
def frameB(xs:List V):Bool:=decide (xs.length<=4)&&xs.all isName&&decide xs.Nodup
def frB(H:Hp)(x:V):Bool:=match x with
 |.ref a=>match H a with
  |some (.lst xs)=>frameB xs
  |_=>false
 |_=>false
def Things(H:Hp)(xs:List V):Prop:=xs.length<=1000/\∀y∈xs,Thing H y
theorem Things.same(h:Things H xs)(g:Same H H'):Things H' xs:=⟨h.1,λy hy=>(h.2 y hy).same g⟩
def zta:Sp:=λvs H Q _=>∃x,vs=[x]/\Thing H x/\(∀a xs,x=.ref a->H a=some (.lst xs)->Things H xs)/\∀H',Same H H'->Q (.bl (frB H x)) H'
theorem zf5:∀{xs:List V},xs.all isName=true->∃ks:List Key,xs=ks.map kV/\(xs.Nodup↔ks.Nodup)
 |[],_=>⟨[],rfl,by simp⟩
 |x::r,h=>by
  rw[y1z,y05]at h;obtain⟨z,rfl⟩:=zdy h.1;obtain⟨ks,e,n⟩:=zf5 h.2;refine⟨Sum.inr z::ks,by rw[y0k,←e];rfl,?_⟩;rw[y11,y11,n];refine and_congr_left λ_=>not_congr ?_;rw[e,y0l];constructor
  ·rintro⟨k,hk,e⟩;have:k=Sum.inr z:=zw6 (e.trans rfl);exact this▸hk
  ·exactλhk=>⟨_,hk,rfl⟩
def zm0(K:Frag):Sp:=λvs H Q _=>∃(a:Addr) (ns:List Int) (k:Int),vs=[.ref a,.int k]/\SqL K H a (ns.map V.int)/\0<=k/\∀c,Q (.int c) H
theorem zmb(h1:xs.length<=4)(h2:xs.all isName=true)(h3:xs.Nodup):frameB xs=true:=by
 unfold frameB;rw[decide_eq_true h1,h2,decide_eq_true h3];rfl
theorem zry(f:α->β)(xs:List α)(lo hi:Option Int):cutL (xs.map f) lo hi=(cutL xs lo hi).map f:=by
 unfold cutL;rw[y00,List.map_take,List.map_drop]
end SS
namespace L2
section
variable {X:Cx}{k:Nat}{H:Hp}{a b:Addr}{xs ys:List V}
theorem zu9(a b:Str):eqV (.str a) (.str b)=decide (a=b):=by
 by_cases h:a=b
 ·subst h;simp[eqV]
 ·simp[eqV,h]
theorem zcs(xs:List Str):(xs.map V.str).all flatV=true:=by
 rw[y0q];intro x hx;obtain⟨z,_,rfl⟩:=y0l.mp hx;rfl
def rEqS(K:Frag):R2:=λx y H Q=>∃(a b:Addr) (xs ys:List Str),x=.ref a/\y=.ref b/\SqL K H a (xs.map V.str)/\SqL K H b (ys.map V.str)/\Q (.bl (decide (xs=ys))) H
def rNeS(K:Frag):R2:=λx y H Q=>∃(a b:Addr) (xs ys:List Str),x=.ref a/\y=.ref b/\SqL K H a (xs.map V.str)/\SqL K H b (ys.map V.str)/\Q (.bl (!decide (xs=ys))) H
theorem zkl(ha:SqL X.K H a xs)(hb:SqL X.K H b []):RcOk X (k+1) H (.ref a) (.ref b) (decide (xs=[])):=by
 cases xs with
 |nil =>
  have r:=zfx (k:=k) ha hb rfl (λ_=>true) λj h1 _=>by simp at h1
  exact r
 |cons x r=>exact zhx ha hb (by simp)
def rSlTN(K:Frag):V->Option Int->Option Int->Hp->VK->Prop:=λx lo hi H Q=>∃a xs,x=.ref a/\SqT K H a xs/\
 ¬(HT.sIx xs.length 0 lo=0/\HT.sIx xs.length xs.length hi=xs.length)/\∀p H',New H p (.tup (cutL xs lo hi)) H'->Q (.ref p) H'
theorem ztb:SlR X (rSlTN X.K):=λpins s σ H x v vl vu lo hi sl Q I rx hs pl pu h=>by
 obtain⟨a,xs,e,hx,hw,q⟩:=h;exact zvs pins s σ H x v vl vu lo hi sl Q I rx hs pl pu ⟨a,xs,e,hx,hw,λp np=>q p _ (.mk' np _)⟩
def rStrB(f:Str->Bool):V->List V->Hp->VK->Prop:=λx vs H Q=>∃z,x=.str z/\vs=[]/\Q (.bl (f z)) H
end
section
variable {K:Frag}{h:Heap}{mg:Y1}
theorem glt_mk(X:K.In h)(G:h.Ns mainGlobals mg)(a:PySem.W.nsIn K mainGlobals x=some (some (.ref p)))
  (l:K.lookup p=some ⟨.type "tuple",od,.seq its n,sl⟩) (z:its.size<=sizeLine) (r:Vals xs its.toList):∃q,GlV mg x (.ref q)/\∀H,SqT K H q xs :=
 ⟨p,⟨_,PySem.W.mg_of X G a,rfl⟩,λH=>.inr ⟨_,its,n,l,rfl,rfl,z,r⟩⟩
end
section
variable {X:Cx}(K:Frag)
theorem zay(h:X.K=K:=by rfl):OpR X (compareOp .In) (rIn K false):=h▸znv
theorem zbx(h:X.K=K:=by rfl):OpR X (compareOp .NotIn) (rIn K true):=h▸zh1
theorem zax(h:X.K=K:=by rfl):IxR X (rIxL K):=h▸zuv
theorem zal(h:X.K=K:=by rfl):IxR X (rIxT K):=h▸zw7
theorem zht(h:X.K=K:=by rfl):SlR X (rSlLN K):=h▸zp4
theorem zeh(h:X.K=K:=by rfl):SlR X (rSlTN K):=h▸ztb
def rLen:List V->Hp->VK->Prop:=λxs H Q=>∃p ys,xs=[.ref p]/\(SqL K H p ys\/SqT K H p ys)/\Q (.int (List.length ys)) H
theorem zat(h:X.K=K:=by rfl):CallR X (.builtin "len") (rLen K):=h▸zio
def rAll:List V->Hp->VK->Prop:=λxs H Q=>∃(p:Addr) (bs:List Bool),xs=[.ref p]/\SqL K H p (bs.map V.bl)/\Q (.bl (bs.all id)) H
theorem zbh(hc:X.calm=true)(h:X.K=K:=by rfl):CallR X (.builtin "all") (rAll K):=h▸zjy hc
def rAny:List V->Hp->VK->Prop:=λxs H Q=>∃(p:Addr) (bs:List Bool),xs=[.ref p]/\SqL K H p (bs.map V.bl)/\Q (.bl (bs.any id)) H
theorem ziq(hc:X.calm=true)(h:X.K=K:=by rfl):CallR X (.builtin "any") (rAny K):=h▸zjx hc
def rSum:List V->Hp->VK->Prop:=λxs H Q=>∃(p:Addr) (ns:List Int),xs=[.ref p]/\SqL K H p (ns.map V.int)/\Q (.int ns.sum) H
theorem zds(hc:X.calm=true)(h:X.K=K:=by rfl):CallR X (.builtin "sum") (rSum K):=h▸zij hc
def rListOf:List V->Hp->VK->Prop:=λxs H Q=>∃p ys,xs=[.ref p]/\(SqL K H p ys\/SqT K H p ys)/\∀l H',New H l (.lst ys) H'->Q (.ref l) H'
theorem zca(h:X.K=K:=by rfl):CallR X (.type "list") (rListOf K):=h▸zhb
theorem zbi(hl:PE X l tl)(h:X.K=K:=by rfl):PI X tg l (iList K tl):=h▸ztr hl
theorem zcr(hl:PE X l tl)(h:X.K=K:=by rfl):PI X tg l (iTup K tl):=h▸zv7 hl
variable {o e:Expr}{es:List Expr}{to:TE}{t:TA}{name:Str}{apos cpos:Pos}{T id:String}{r:V->List V->Hp->VK->Prop}
theorem zjd(pa:PlainAttrs T)(slot:Slot T name id)(hty:typeOf (.builtin id)=pure (.type "method_descriptor"))(hm:MtR X id r)(ho:PE X o to)(h:X.K=K:=by rfl)
  (hbase:attributeBase o name X.env (eval o X.env)=eval o X.env:=by rfl) (hline:(apos.endLine==cpos.line)=true:=by rfl):PE X (.Call (.Attribute o name apos) [] [] cpos) (tBM0 K T r to):=h▸zwb pa slot hty hm ho hbase hline
theorem zb2(pa:PlainAttrs T)(slot:Slot T name id)(hty:typeOf (.builtin id)=pure (.type "method_descriptor"))(hm:MtR X id r)(ho:PE X o to)(ha:PA X (e::es) t)(h:X.K=K:=by rfl)
  (hbase:attributeBase o name X.env (eval o X.env)=eval o X.env:=by rfl)
  (hfew:((backTo cpos (starEach (e::es) X.env)).all (λx=>!x.1)&&(backToKw cpos (keywordEach [] X.env)).all (λx=>x.1.isSome)
   && decide ((e::es).length+([]:List Keyword).length+(if([]:List Keyword).isEmpty then 0 else 1)<30))=true:=by rfl)
  (hline:(apos.endLine==cpos.line)=true:=by rfl) (h1:notStar e=true:=by rfl) (h2:es.all notStar=true:=by rfl) :
  PE X (.Call (.Attribute o name apos) (e::es) [] cpos) (tBM K T r to t):=h▸zxq pa slot hty hm ho ha hbase hfew hline (za7 h1) (zbl h2)
end
end L2
namespace SS
open PySem PySem.Spec PyProof.Rows L2
inductive Sy where
 |bare (w n m:Str)
 |neg (s:Sy)
 |two (w:Str) (s t:Sy)
 |qu (w n:Str) (s:Sy)
def rowWords:List Str:=["ahead","next"]
def bareWords:List Str:=["in","same","within","ahead","next","left","right","above"]
def Sy.depth:Sy->Nat
 |.bare _ _ _=>1
 |.neg s=>s.depth+1
 |.two _ s t=>max s.depth t.depth+1
 |.qu _ _ s=>s.depth+1
def Sy.parts:Sy->Nat
 |.bare _ _ _=>1
 |.neg s=>s.parts+1
 |.two _ s t=>s.parts+t.parts+1
 |.qu _ _ s=>s.parts+1
inductive Rep(H:Hp):V->Sy->Prop where
 |bare {a:Addr} {w n m:Str} (hw:w∈bareWords) (e:H a=some (.tup [.str w,.str n,.str m])):Rep H (.ref a) (.bare w n m)
 |neg {a:Addr} {x:V} {s:Sy} (e:H a=some (.tup [.str "not",x])) (h:Rep H x s):Rep H (.ref a) (.neg s)
 |two {a:Addr} {w:Str} {x y:V} {s t:Sy} (hw:w∈(["and","or"]:List Str)) (e:H a=some (.tup [.str w,x,y])) (h1:Rep H x s) (h2:Rep H y t):Rep H (.ref a) (.two w s t)
 |qu {a:Addr} {w n:Str} {x:V} {s:Sy} (hw:w∈(["some","all"]:List Str)) (e:H a=some (.tup [.str w,.str n,x])) (h:Rep H x s):Rep H (.ref a) (.qu w n s)
theorem Rep.same(r:Rep H v s)(g:Same H H'):Rep H' v s:=by
 induction r with
 |bare hw e=>exact .bare hw (g _ _ e)
 |neg e _ ih=>exact .neg (g _ _ e) ih
 |two hw e _ _ ih1 ih2=>exact .two hw (g _ _ e) ih1 ih2
 |qu hw e _ ih=>exact .qu hw (g _ _ e) ih
theorem Rep.tup(r:Rep H v s):∃a xs,v=.ref a/\H a=some (.tup xs):=by
 cases r with
 |bare hw e=>exact⟨_,_,rfl,e⟩
 |neg e _=>exact⟨_,_,rfl,e⟩
 |two hw e _ _=>exact⟨_,_,rfl,e⟩
 |qu hw e _=>exact⟨_,_,rfl,e⟩
theorem zpq:∀w∈bareWords,inV (.str w) [.str "some",.str "all"]=false:=by decide+kernel
theorem zos:∀w∈(["and","or"]:List Str),inV (.str w) [.str "some",.str "all"]=false:=by decide+kernel
theorem zmp:∀w∈(["some","all"]:List Str),inV (.str w) [.str "some",.str "all"]=true:=by decide+kernel
theorem zra:inV (.str "not") [.str "some",.str "all"]=false:=by decide+kernel
theorem zb7(z:Str)(l:List Str):inV (.str z) (l.map V.str)=decide (z∈l):=by
 induction l with
 |nil=>rfl
 |cons y r ih =>
  have e:inV (.str z) ((y::r).map V.str)=(eqV (.str y) (.str z)||inV (.str z) (r.map V.str)):=rfl;rw[e,ih,zu9];by_cases h:z=y
  ·subst h;simp
  ·have h':¬y=z:=λq=>h q.symm;simp[h,h']
def isT(H:Hp)(x:V):Bool:=match x with
 |.ref a=>match H a with
  |some (.tup _)=>true
  |_=>false
 |_=>false
theorem Kd.isT(h:Kd H x k):subT k "tuple"=isT H x:=by
 cases h with
 |lst e=>simp only[SS.isT,e];decide
 |tup e=>simp only[SS.isT,e];decide
 |dK e=>simp only[SS.isT,e];decide
 |_=>rfl
def zcf:Sp:=λvs H Q _=>∃a xs,vs=[.ref a]/\H a=some (.tup xs)/\xs.length<=1000/\(∀y∈xs,∃k,Kd H y k)/\∀D H',H D=none->Same H H'->H' D=some (.lst (xs.filter (isT H)))->Q (.ref D) H'
def Sy.inner:Sy->List Sy
 |.bare _ _ _=>[]
 |.neg s=>[s]
 |.two _ s t=>[s,t]
 |.qu _ _ s=>[s]
theorem Rep.kd(r:Rep H v s):Kd H v "tuple":=by
 obtain⟨a,xs,rfl,e⟩:=r.tup;exact .tup e
theorem Rep.isT(r:Rep H v s):isT H v=true:=by
 obtain⟨a,xs,rfl,e⟩:=r.tup;simp only[SS.isT,e]
theorem Rep.items(r:Rep H v s):∃a xs,v=.ref a/\H a=some (.tup xs)/\xs.length<=3/\(∀y∈xs,∃k,Kd H y k)/\Paired (Rep H) (xs.filter (SS.isT H)) s.inner:=by
 cases r with
 |bare hw e =>
  refine⟨_,_,rfl,e,y04 _,λy hy=>?_,.nil⟩;simp only[y02,y07,or_false]at hy;rcases hy with rfl|rfl|rfl<;>exact⟨_,.str _⟩
 |neg e h =>
  refine⟨_,_,rfl,e,by simp,λy hy=>?_,?_⟩
  ·simp only[y02,y07,or_false]at hy;rcases hy with rfl|rfl
   ·exact⟨_,.str _⟩
   ·exact⟨_,h.kd⟩
  ·rw[y29 (by simp[SS.isT]),y28 h.isT];exact .cons h .nil
 |two hw e h1 h2 =>
  refine⟨_,_,rfl,e,by simp,λy hy=>?_,?_⟩
  ·simp only[y02,y07,or_false]at hy;rcases hy with rfl|rfl|rfl
   ·exact⟨_,.str _⟩
   ·exact⟨_,h1.kd⟩
   ·exact⟨_,h2.kd⟩
  ·rw[y29 (by simp[SS.isT]),y28 h1.isT,y28 h2.isT];exact .cons h1 (.cons h2 .nil)
 |qu hw e h =>
  refine⟨_,_,rfl,e,by simp,λy hy=>?_,?_⟩
  ·simp only[y02,y07,or_false]at hy;rcases hy with rfl|rfl|rfl
   ·exact⟨_,.str _⟩
   ·exact⟨_,.str _⟩
   ·exact⟨_,h.kd⟩
  ·rw[y29 (by simp[SS.isT]),y29 (by simp[SS.isT]),y28 h.isT];exact .cons h .nil
def Sy.isBare:Sy->Bool
 |.bare _ _ _=>true
 |_=>false
def zdi:Sp:=λvs H Q _=>∃v s,vs=[v]/\Rep H v s/\∀H',Same H H'->Q (.bl s.isBare) H'
theorem Paired.at:∀{xs:List α} {ys:List β} {i:Nat} {x:α},Paired R xs ys->xs[i]?=some x->∃y,ys[i]?=some y/\R x y
 |_,_,_,_,.nil,h=>by simp at h
 |_,_,0,_,.cons h _,e=>by simp at e;subst e;exact⟨_,rfl,h⟩
 |_,_,i+1,_,.cons _ h,e=>by simp only[y2t]at e ⊢;exact Paired.at h e
theorem Paired.len:∀{xs:List α} {ys:List β},Paired R xs ys->xs.length=ys.length
 |_,_,.nil=>rfl
 |_,_,.cons _ h=>by rw[y0a,y0a,Paired.len h]
theorem ze5{s t:Sy}(h:t∈s.inner):t.depth<s.depth/\t.parts<s.parts:=by
 cases s with
 |bare w n m=>exact nomatch h
 |neg s=>rw[y08.mp h];exact⟨y1g _,y1g _⟩
 |two w s1 s2 =>
  have h:t=s1\/t=s2:=by simpa[Sy.inner]using h
  have e1:(Sy.two w s1 s2).depth=max s1.depth s2.depth+1:=rfl;have e2:(Sy.two w s1 s2).parts=s1.parts+s2.parts+1:=rfl;rcases h with rfl|rfl<;>(rw[e1,e2];omega)
 |qu w n s=>rw[y08.mp h];exact⟨y1g _,y1g _⟩
theorem zhr{α:Type}{xs:List α}(h:1<=xs.length):¬(HT.sIx xs.length 0 (some 1)=0/\HT.sIx xs.length xs.length none=xs.length):=λz=>by
 have e:HT.sIx xs.length 0 (some ((1:Nat):Int))=min 1 xs.length:=HT.sIx_nat ..;have e':HT.sIx xs.length 0 (some 1)=min 1 xs.length:=e;rw[e']at z;omega
def isPl(z:Str):Bool:=isNm (.str z) SMALL
def isSt(z:Str):Bool:=isNm (.str z) GREAT
theorem zxv(h:isNm (.str z) l=true):∃c r,z.cps.toList=c::r/\r.length<=3/\c∈l.cps.toList/\∀d∈r,d∈FIGS.cps.toList:=by
 simp only[isNm,nameB]at h;split at h
 ·cases h
 ·rename_i c r e;rw[y05,y05,zm5,decide_eq_true_eq,decide_eq_true_eq,y0q]at h;exact⟨c,r,e,h.1.1,h.1.2,λd hd=>by have:=h.2 d hd;rw[zm5,decide_eq_true_eq]at this;exact this⟩
theorem zly(h:isName (.str z)=true):isPl z=true\/isSt z=true:=by
 unfold isName at h;rw[y3f]at h;exact h
theorem zqx{tl cs:List Str}(hn:tl.length<=4)(hc:cs.Nodup)(h5:5<=cs.length):∃z∈cs,z∉tl:=by
 refine Classical.byContradiction λh=>?_;have sub:cs⊆tl:=λz hz=>Classical.byContradiction λq=>h ⟨z,hz,q⟩;have:=hc.length_le_of_subset sub;omega
theorem zrx(w n:Str)(s:Sy):(Sy.qu w n s).depth=s.depth+1/\(Sy.qu w n s).parts=s.parts+1:=⟨rfl,rfl⟩
end SS
namespace L2
section
variable {P:Program}{w:World}{A:Around}{E:Y0}{s:Shared}
theorem ze0(st:s.heap.IsTupleIter j t k)(tp:s.heap.IsTuple t its)(hy:its[k]?=some y)
  (q:∀h',h'.IsTupleIter j t (k+1)->Heap.SameBut j s.heap h'->Q y {s with heap:=h'}):wpAny (model P w) A (Builtin.SmallTypes.nextOf (.ref j)) Q E s:=by
 obtain⟨oj,gj,cj,dj⟩:=id st;obtain⟨ot,gt,_,nt,dt⟩:=tp;unfold Builtin.SmallTypes.nextOf;refine wpAny_bind (wpAny_callSpecial?_slot (name:=Str.ofString "__next__") st.typeIs F.slot_tuple_iterator_next (wpAny_call_entry F.slot_tuple_iterator_next st.typeIs F.entry_tuple_iterator_next ?_ (F.args_tuple_iterator_next_1 _)));show wpAny _ _ (field (.ref j) 0>>=_) _ _ s;refine wpAny_bind (wpAny_field gj dj (x:=.ref t) rfl ?_);show wpAny _ _ (if(Value.ref t==Value.none)=true then _ else _) _ _ s;rw[if_neg (show¬(Value.ref t==Value.none)=true from y0e)];show wpAny _ _ (field (.ref j) 1>>=_) _ _ s;refine wpAny_bind (wpAny_field gj dj (x:=.int k 0) rfl ?_);show wpAny _ _ (seqItems? (.ref t)>>=_) _ _ s;refine wpAny_bind (wpAny_seqItems gt dt ?_);simp only[y13,hy];refine wpAny_bind (wpAny_setField gj dj (by simp) (wpAny_pure ⟨y,rfl,wpAny_pure (q _ ?_ (Heap.SameBut.update ..))⟩));exact⟨_,y1m _ gj (Obj.isFreed_of_fields (Obj.data_mapFields dj _)),(Obj.cls_mapFields ..).trans cj,by rw[Obj.data_mapFields dj];simp[rawInt]⟩
theorem zlx(hh:A.handled=none)(st:s.heap.IsTupleIter j t k)(tp:s.heap.IsTuple t its)(hy:its[k]?=none)
  (q:∀h' e,Heap.ExtBut j s.heap h'->(∃o,h'.get? e=some o/\o.cls=.type "StopIteration")->E (.ref e) {s with heap:=h'}):wpAny (model P w) A (Builtin.SmallTypes.nextOf (.ref j)) Q E s:=by
 obtain⟨oj,gj,cj,dj⟩:=id st;obtain⟨ot,gt,_,nt,dt⟩:=tp;unfold Builtin.SmallTypes.nextOf;refine wpAny_bind (wpAny_callSpecial?_slot (name:=Str.ofString "__next__") st.typeIs F.slot_tuple_iterator_next (wpAny_call_entry F.slot_tuple_iterator_next st.typeIs F.entry_tuple_iterator_next ?_ (F.args_tuple_iterator_next_1 _)));show wpAny _ _ (field (.ref j) 0>>=_) _ _ s;refine wpAny_bind (wpAny_field gj dj (x:=.ref t) rfl ?_);show wpAny _ _ (if(Value.ref t==Value.none)=true then _ else _) _ _ s;rw[if_neg (show¬(Value.ref t==Value.none)=true from y0e)];show wpAny _ _ (field (.ref j) 1>>=_) _ _ s;refine wpAny_bind (wpAny_field gj dj (x:=.int k 0) rfl ?_);show wpAny _ _ (seqItems? (.ref t)>>=_) _ _ s;refine wpAny_bind (wpAny_seqItems gt dt ?_);simp only[y13,hy];refine wpAny_bind (wpAny_rule (wpAny_bind (wpAny_setField gj dj (by simp) ?_)));show wpAny _ _ (newExc (.type "StopIteration") []>>=_) _ _ _;refine wpAny_bind ?_;simp only[newExc,newTuple];refine wpAny_bind (wpAny_newObj_type ?_ (by size_fits));refine wpAny_bind (m:=firstArgMember _ _) (wpAny_of_eq (a:=Value.none) (by simp only[firstArgMember];rfl) ?_);refine wpAny_newObj_type ?_ (by size_fits);simp only[raiseNew];refine wpAny_bind (wpAny_handled ?_);rw[show A.in1.handled=none from hh];refine wpAny_bind (wpAny_pure (wpAny_throw (q _ _ (((Heap.SameBut.update ..).extBut.push _).push _) ⟨_,y0b _ rfl,rfl⟩)))
end
structure ZipT(h:Heap)(z ti ro j1 j2 t1 t2:Addr)(f0:Value)(i:Nat):Prop where
 z:IsZip h z ti ro f0
 ti:IsPair h ti (.ref j1) (.ref j2)
 ro:∃a b,IsPair h ro a b
 j1:h.IsTupleIter j1 t1 i
 j2:h.IsTupleIter j2 t2 i
section
variable {P:Program}{w:World}{A:Around}{E:Y0}{s:Shared}{z ti ro j1 j2 t1 t2:Addr}{i:Nat}{its1 its2:Array Value}
theorem zs0{x y:Value}{Q:Y9}(D:ZipApart z ti ro j1 j2 t1 t2)(Z:ZipT s.heap z ti ro j1 j2 t1 t2 .none i)(p1:s.heap.IsTuple t1 its1)(p2:s.heap.IsTuple t2 its2)(hx:its1[i]?=some x)(hy:its2[i]?=some y)
  (q:∀h',ZipT h' z ti ro j1 j2 t1 t2 (rawInt s.heap.objs.size) (i+1)->IsPair h' s.heap.objs.size x y->h'.objs.size=s.heap.objs.size+1->(∀c o,c≠z->c≠ro->c≠j1->c≠j2->s.heap.get? c=some o->h'.get? c=some o)->
   Q (some (.ref s.heap.objs.size)) {s with heap:=h'}):wpAny (model P w) A (pyNext (.ref z)) Q E s:=by
 have hT:s.TypeIs (.ref z) "zip":=⟨_,Z.z,rfl⟩;obtain⟨a,b,hro⟩:=Z.ro;unfold pyNext;refine wpAny_bind (wpAny_attempt (wpAny_callSpecial?_slot (name:=Str.ofString "__next__") hT F.slot_zip_next (wpAny_call_entry F.slot_zip_next hT F.entry_zip_next ?_ (F.args_zip_next_1 _))));show wpAny _ _ (field (.ref z) 2>>=_) _ _ _;refine wpAny_bind (wpAny_field Z.z rfl (x:=.bool false) rfl ?_);show wpAny _ _ (field (.ref z) 3>>=_) _ _ _;refine wpAny_bind (wpAny_field Z.z rfl (x:=.ref ti) rfl ?_);refine wpAny_bind (wpAny_seqItems Z.ti rfl ?_);show wpAny _ _ (Builtin.SmallTypes.ownedTupleIsFree (.ref z)>>=_) _ _ _;refine wpAny_bind ?_;unfold Builtin.SmallTypes.ownedTupleIsFree;refine wpAny_bind (wpAny_field Z.z rfl (x:=.none) rfl (wpAny_pure ?_));simp only[if_true];refine wpAny_bind (wpAny_rule ?_);refine wpAny_bind (wpAny_field Z.z rfl (x:=.ref ro) rfl ?_);refine wpAny_bind (wpAny_setField_rec Z.z (by simp) λha hza hsa=>?_);replace hza:IsZip ha z ti ro .ellipsis:=hza;refine wpAny_bind ?_;simp only[List.zipIdx_cons,List.zipIdx_nil,y31,List.forIn_nil];refine wpAny_bind (wpAny_bind (wpAny_onRaise ?_));show wpAny _ _ (Builtin.SmallTypes.nextOf (.ref j1)>>=_) _ _ _;refine wpAny_bind (ze0 (Z.j1.extBut hsa.extBut D.i1z) (p1.extBut hsa.extBut D.l1z) hx λhb b1 hsb=>wpAny_pure ?_);have rob:IsPair hb ro a b:=hsb.extBut _ _ D.TOi1 (hsa.extBut _ _ D.TOz hro);refine wpAny_bind (wpAny_seqItems rob rfl ?_);refine wpAny_bind (wpAny_updateSeq_pair rob λhc roc hsc=>?_);replace roc:IsPair hc ro x b:=roc;refine wpAny_bind (wpAny_letGo (wpAny_pure ?_));refine wpAny_bind (wpAny_bind (wpAny_onRaise ?_));show wpAny _ _ (Builtin.SmallTypes.nextOf (.ref j2)>>=_) _ _ _;refine wpAny_bind (ze0 (((Z.j2.extBut hsa.extBut D.i2z).extBut hsb.extBut D.i12.symm).extBut hsc.extBut D.TOi2.symm) (((p2.extBut hsa.extBut D.l2z).extBut hsb.extBut D.l2i1).extBut hsc.extBut D.l2TO) hy λhd d2 hsd=>wpAny_pure ?_);have rod:IsPair hd ro x b:=hsd.extBut _ _ D.TOi2 roc;refine wpAny_bind (wpAny_seqItems rod rfl ?_);refine wpAny_bind (wpAny_updateSeq_pair rod λhe roe hse=>?_);replace roe:IsPair he ro x y:=roe;refine wpAny_bind (wpAny_letGo (wpAny_pure (wpAny_pure ?_)));refine wpAny_bind (wpAny_seqItems roe rfl ?_);refine wpAny_bind (wpAny_newTuple ?_);have sz:he.objs.size=s.heap.objs.size:=by rw[hse.1,hsd.1,hsc.1,hsb.1,hsa.1]
 have ze:IsZip he z ti ro .ellipsis:=hse.extBut _ _ D.TOz.symm (hsd.extBut _ _ D.i2z.symm (hsc.extBut _ _ D.TOz.symm (hsb.extBut _ _ D.i1z.symm hza)));have ke:∀c o,c≠z->c≠ro->c≠j1->c≠j2->s.heap.get? c=some o->he.get? c=some o:=λc o c1 c2 c3 c4 e =>
  hse.extBut _ _ c2 (hsd.extBut _ _ c4 (hsc.extBut _ _ c2 (hsb.extBut _ _ c3 (hsa.extBut _ _ c1 e))))
 have e1:he.IsTupleIter j1 t1 (i+1):=((b1.extBut hsc.extBut D.TOi1.symm).extBut hsd.extBut D.i12).extBut hse.extBut D.TOi1.symm;have e2:he.IsTupleIter j2 t2 (i+1):=d2.extBut hse.extBut D.TOi2.symm;have zlt:z<he.objs.size:=y0d ze;show wpAny _ _ (Builtin.SmallTypes.ownedTupleHandOut (.ref z) (.ref he.objs.size)>>=_) _ _ _;refine wpAny_bind ?_;unfold Builtin.SmallTypes.ownedTupleHandOut;have zf:IsZip (he.push {cls:=.type "tuple",data:=.seq #[x,y]}) z ti ro .ellipsis:=y01 _ ze;refine wpAny_bind (wpAny_setField_rec zf (by simp) λhg zg hsg=>?_);replace zg:IsZip hg z ti ro (rawInt he.objs.size):=zg;refine wpAny_setField_rec zg (by simp) λhk zk hsk=>?_;replace zk:IsZip hk z ti ro (rawInt he.objs.size):=zk;have up:∀c o,c≠z->he.get? c=some o->hk.get? c=some o:=λc o c1 e=>hsk.extBut _ _ c1 (hsg.extBut _ _ c1 (y01 _ e));have tk:IsPair hk he.objs.size x y:=hsk.extBut _ _ (y1p zlt) (hsg.extBut _ _ (y1p zlt) (y0b _ rfl));have zk8:hk.objs.size=he.objs.size+1:=by rw[hsk.1,hsg.1,y0v]
 rw[sz]at zk tk zk8;refine wpAny_pure ⟨_,rfl,wpAny_pure ?_⟩;show Q (some (.ref he.objs.size)) _;rw[sz];exact q hk ⟨zk,up _ _ D.TIz (ke _ _ D.TIz D.TITO D.TIi1 D.TIi2 Z.ti),⟨_,_,up _ _ D.TOz roe⟩,e1.at λo e=>up _ o D.i1z e,e2.at λo e=>up _ o D.i2z e⟩ tk zk8 λc o c1 c2 c3 c4 e=>up c o c1 (ke c o c1 c2 c3 c4 e)
theorem zvm{Q:Y9}(hh:A.handled=none)(D:ZipApart z ti ro j1 j2 t1 t2)(Z:ZipT s.heap z ti ro j1 j2 t1 t2 .none i)(p1:s.heap.IsTuple t1 its1)(p2:s.heap.IsTuple t2 its2)(hx:its1[i]?=none)
  (q:∀h',(∀c o,c≠z->c≠ro->c≠j1->c≠j2->s.heap.get? c=some o->h'.get? c=some o)->Q none {s with heap:=h'}):wpAny (model P w) A (pyNext (.ref z)) Q E s:=by
 have hT:s.TypeIs (.ref z) "zip":=⟨_,Z.z,rfl⟩;unfold pyNext;refine wpAny_bind (wpAny_attempt (wpAny_callSpecial?_slot (name:=Str.ofString "__next__") hT F.slot_zip_next (wpAny_call_entry F.slot_zip_next hT F.entry_zip_next ?_ (F.args_zip_next_1 _))));show wpAny _ _ (field (.ref z) 2>>=_) _ _ _;refine wpAny_bind (wpAny_field Z.z rfl (x:=.bool false) rfl ?_);show wpAny _ _ (field (.ref z) 3>>=_) _ _ _;refine wpAny_bind (wpAny_field Z.z rfl (x:=.ref ti) rfl ?_);refine wpAny_bind (wpAny_seqItems Z.ti rfl ?_);show wpAny _ _ (Builtin.SmallTypes.ownedTupleIsFree (.ref z)>>=_) _ _ _;refine wpAny_bind ?_;unfold Builtin.SmallTypes.ownedTupleIsFree;refine wpAny_bind (wpAny_field Z.z rfl (x:=.none) rfl (wpAny_pure ?_));simp only[if_true];refine wpAny_bind (wpAny_rule ?_);refine wpAny_bind (wpAny_field Z.z rfl (x:=.ref ro) rfl ?_);refine wpAny_bind (wpAny_setField_rec Z.z (by simp) λha hza hsa=>?_);replace hza:IsZip ha z ti ro .ellipsis:=hza;refine wpAny_bind ?_;simp only[List.zipIdx_cons,List.zipIdx_nil,y31,List.forIn_nil];refine wpAny_bind (wpAny_bind (wpAny_onRaise ?_));show wpAny _ _ (Builtin.SmallTypes.nextOf (.ref j1)>>=_) _ _ _;refine wpAny_bind (zlx hh (Z.j1.extBut hsa.extBut D.i1z) (p1.extBut hsa.extBut D.l1z) hx λhb e hsb ⟨oe,ge,ce⟩=>?_);have zb:IsZip hb z ti ro .ellipsis:=hsb _ _ D.i1z.symm hza;have nez:e≠z:=λz'=>by
  subst z';rw[zb]at ge;cases ge;simp at ce
 refine wpAny_setField_rec zb (by simp) λhc _ hsc=>?_;refine wpAny_bind (wpAny_isInstance (T:="StopIteration") (b:=true) ⟨oe,hsc.extBut _ _ nez ge,ce⟩ isSubtype_stop ?_);exact wpAny_pure (q _ λc o c1 _ c3 _ x=>hsc.extBut _ _ c1 (hsb _ _ c3 (hsa.extBut _ _ c1 x)))
end
abbrev zt1(h:Heap)(a:Addr):Heap:=h.push {cls:=.type "tuple_iterator",data:=.fields #[.ref a,.int 0 0]}
abbrev zt2(h:Heap)(a b:Addr):Heap:=(zt1 h a).push {cls:=.type "tuple_iterator",data:=.fields #[.ref b,.int 0 0]}
abbrev zt3(h:Heap)(a b:Addr):Heap:=(zt2 h a b).push {cls:=.type "tuple",data:=.seq #[.ref h.objs.size,.ref (zt1 h a).objs.size]}
abbrev zt4(h:Heap)(a b:Addr):Heap:=(zt3 h a b).push {cls:=.type "tuple",data:=.seq #[.none,.none]}
abbrev zt5(h:Heap)(a b:Addr):Heap:=(zt4 h a b).push {cls:=.type "zip",data:=.fields #[.none,.bool false,.bool false,.ref (zt2 h a b).objs.size,.ref (zt3 h a b).objs.size]}
theorem zvl(a b:Addr)(xs ys:Array Value):Meets (Builtin.«zip.__new__» ⟨[.type "zip",.ref a,.ref b],[]⟩) (λ_ R s=>s.heap.IsTuple a xs/\s.heap.IsTuple b ys/\R (.ok (.ret (.ref (zt4 s.heap a b).objs.size))) {s with heap:=zt5 s.heap a b}) :=
 .of_wp λprog w A R s h=>by
  obtain⟨hp,g,d,tk,os⟩:=s;obtain⟨ha,hb,h⟩:=h;have hsub:=sub_zip;have hA:Heap.IsTuple (Shared.heap ⟨hp,g,d,tk,os⟩) a xs:=ha;have hB:Heap.IsTuple (Shared.heap ⟨hp.push {cls:=.type "tuple_iterator",data:=.fields #[.ref a,.int 0 0]},g,d,tk,os⟩) b ys:=by
   obtain⟨o,e,r⟩:=hb;exact⟨o,y01 _ e,r⟩
  wp_walk using wpAny_pyIter_tuple hA,wpAny_pyIter_tuple hB
  exact⟨_,rfl,h⟩
section
variable {P:Program}{w:World}{A:Around}{E:Y0}{s:Shared}
theorem zs1(ha:s.heap.IsTuple a xs)(hb:s.heap.IsTuple b ys)
  (q:∀h',ZipT h' (s.heap.objs.size+4) (s.heap.objs.size+2) (s.heap.objs.size+3) s.heap.objs.size (s.heap.objs.size+1) a b .none 0->h'.objs.size=s.heap.objs.size+5->(∀c o,s.heap.get? c=some o->h'.get? c=some o)->Q (.ref (s.heap.objs.size+4)) {s with heap:=h'}) :
  wpAny (model P w) A (call (.type "zip") [.ref a,.ref b]) Q E s:=by
 refine callType_new F.called_zip (by decide) (F.typeCall_zip_2 _ _) (F.newCall_zip_2 _ _) (λobj=>F.args_object_init_3 obj _ _) F.entry_zip_new (zvl a b xs ys) ⟨ha,hb,?_⟩;have s1:(zt1 s.heap a).objs.size=s.heap.objs.size+1:=y0v ..;have s2:(zt2 s.heap a b).objs.size=s.heap.objs.size+2:=by rw[y0v,s1]
 have s3:(zt3 s.heap a b).objs.size=s.heap.objs.size+3:=by rw[y0v,s2]
 have s4:(zt4 s.heap a b).objs.size=s.heap.objs.size+4:=by rw[y0v,s3]
 have s5:(zt5 s.heap a b).objs.size=s.heap.objs.size+5:=by rw[y0v,s4]
 have k5:(zt5 s.heap a b).get? (zt4 s.heap a b).objs.size=some _:=y0b _ rfl;have k4:(zt5 s.heap a b).get? (zt3 s.heap a b).objs.size=some _:=y01 _ (y0b _ rfl);have k3:(zt5 s.heap a b).get? (zt2 s.heap a b).objs.size=some _:=y01 _ (y01 _ (y0b _ rfl));have k2:(zt5 s.heap a b).get? (zt1 s.heap a).objs.size=some _:=y01 _ (y01 _ (y01 _ (y0b _ rfl)));have k1:(zt5 s.heap a b).get? s.heap.objs.size=some _:=y01 _ (y01 _ (y01 _ (y01 _ (y0b _ rfl))));rw[s2,s3,s4]at k5;rw[s1,s2]at k3;rw[s3]at k4;rw[s1]at k2;show _/\_;rw[s4];exact⟨⟨_,k5,rfl⟩,q _ ⟨k5,k3,⟨_,_,k4⟩,⟨_,k1,rfl,rfl⟩,⟨_,k2,rfl,rfl⟩⟩ s5 λc o x=>y01 _ (y01 _ (y01 _ (y01 _ (y01 _ x))))⟩
end
section
variable {X:Cx}{pins:Y2}{σ:St}{H:Hp}{s:Shared}{h':Heap}
theorem Inv.turnedL{t':Nat}{L:List Addr}(I:Inv X pins σ H s)(k:∀b o,b∉L->s.heap.get? b=some o->h'.get? b=some o)(hL:∀b∈L,FpOk X pins H b):Inv X pins σ H {s with heap:=h',toks:=t'}:=by
 have no:∀b u,H b=some u->b∉L:=λb u e z=>by rw[(hL b z).1]at e;cases e
 refine I.step (g':=s.gens) (d':=s.drawn) (ch:=L) (λb hb=>?_) (λb o _ _ hc e _=>k b o hc e) (λb o _ _ hc e _=>⟨o.slots,k b o hc e⟩) (λ_ _ _ _ n=>n)
  (λb o hc e=>⟨o,k b o hc e⟩) (λ_ _ e=>e) (λ_ _ _ e=>e) (λ_ _ _ e=>e) (λm hm=>?_) (λb u e=>?_) I.bare
 ·obtain⟨_,f1,_,f3,f4,f5⟩:=hL b hb;exact⟨f3,f1,f4,f5⟩
 ·obtain⟨o,es,ep,ho,r⟩:=hm;exact⟨o,es,ep,k _ o (λz=>(hL _ z).2.1 rfl) ho,r⟩
 ·refine(I.hok b u e).stay (λc v hc q=>k c v ?_ q) (λ_ q=>q) (λ_ _ _ _ _ q=>q) λ_ _ q=>q;rcases hc with z|z
  ·rw[z];exact no b u e
  ·exact no c _ z
theorem Inv.turnedNew{t':Nat}{L:List Addr}{p:Addr}{o:HO}(I:Inv X pins σ H s)(k:∀b u,b∉L->s.heap.get? b=some u->h'.get? b=some u)(hL:∀b∈L,FpOk X pins H b)(hp:s.heap.objs.size<=p)(new:ObjOk X.prog X.w (upd H p o) h' p o)
  (hl:∀b∈L,∃u,h'.get? b=some u):Inv X pins σ (upd H p o) {s with heap:=h',toks:=t'}:=by
 have hn:H p=none:=I.hok.fresh hp;have no:∀b u,H b=some u->b∉L:=λb u e z=>by rw[(hL b z).1]at e;cases e
 have ne:∀b u,H b=some u->upd H p o b=some u:=λb u e=>by rw[zan (zas e hn)];exact e
 refine I.step (g':=s.gens) (d':=s.drawn) (ch:=L) (λb hb=>?_) (λb u _ _ hc e _=>k b u hc e) (λb u _ _ hc e _=>⟨u.slots,k b u hc e⟩) (λb u _ e z=>?_)
  (λb u hc e=>⟨u,k b u hc e⟩) (λb xs e=>ne b _ e) (λb ob u e=>ne b _ e) (λb _ _ e=>ne b _ e) (λm hm=>?_) (λb u e=>?_) I.bare
 ·obtain⟨_,f1,_,f3,f4,f5⟩:=hL b hb;exact⟨f3,f1,f4,f5⟩
 ·rw[zan (y0h (y0i (y0d e) hp))];exact z
 ·obtain⟨ob,es,ep,ho,r⟩:=hm;exact⟨ob,es,ep,k _ ob (λz=>(hL _ z).2.1 rfl) ho,r⟩
 ·by_cases hb:b=p
  ·subst hb;rw[zao]at e;cases e;exact new
  ·rw[zan hb]at e;refine(I.hok b u e).stay (λc v hc q=>k c v ?_ q) (λc q=>ne c _ q) (λc _ _ _ _ q=>ne c _ q) λc xs q=>ne c _ q;rcases hc with z|z
   ·rw[z];exact no b u e
   ·exact no c _ z
end
def Itz(K:Frag)(a b:Addr):It :=
 ⟨λi H=>∃xs ys x y,SqT K H a xs/\SqT K H b ys/\xs[i]?=some x/\ys[i]?=some y,
  λi H v H'=>∃p x y,v=.ref p/\New H p (.tup [x,y]) H'/\(∀xs,SqT K H a xs->xs[i]?=some x)/\∀ys,SqT K H b ys->ys[i]?=some y,
  λi H=>∃xs ys,SqT K H a xs/\SqT K H b ys/\xs.length<=i⟩
theorem zpw{P:Program}{w:World}{K:Frag}{elts:List Expr}{x1}{tpos:Pos}(z ti ro j1 j2 a b:Addr)(D:ZipApart z ti ro j1 j2 a b):
  Turn P w K (.Tuple elts x1 tpos) (Itz K a b) [z,ti,ro,j1,j2] z (λi h=>ZipT h z ti ro j1 j2 a b .none i) where
 mem:=by simp
 obj:=λi h st c hc=>by
  obtain⟨u,v,hro⟩:=st.ro;obtain⟨o1,e1,c1,d1⟩:=st.j1;obtain⟨o2,e2,c2,d2⟩:=st.j2;simp only[y02,y07,or_false]at hc;rcases hc with rfl|rfl|rfl|rfl|rfl
  ·exact⟨_,st.z,λv q=>nomatch q⟩
  ·exact⟨_,st.ti,λv q=>nomatch q⟩
  ·exact⟨_,hro,λv q=>nomatch q⟩
  ·exact⟨_,e1,λv q=>by rw[d1]at q;cases q⟩
  ·exact⟨_,e2,λv q=>by rw[d2]at q;cases q⟩
 keep:=λi h h' st k=>by
  obtain⟨u,v,hro⟩:=st.ro;exact⟨k z (by simp) _ st.z,k ti (by simp) _ st.ti,⟨u,v,k ro (by simp) _ hro⟩,st.j1.at λo e=>k j1 (by simp) o e,st.j2.at λo e=>k j2 (by simp) o e⟩
 item:=by
  intro X hP hw hK hc i pins s σ H E I hf st hg;subst hP hw hK;obtain⟨xs,ys,x,y,hx,hy,ex,ey⟩:=hg;obtain⟨its1,r1,p1,_⟩:=I.tuple hx;obtain⟨its2,r2,p2,_⟩:=I.tuple hy;obtain⟨u,hu,ru⟩:=r1.get ex;obtain⟨v,hv,rv⟩:=r2.get ey;have fz:=hf z (by simp);refine zs0 D st (show s.heap.IsTuple a its1.toArray from p1) (show s.heap.IsTuple b its2.toArray from p2) (x:=u) (y:=v) (by simpa using hu) (by simpa using hv) λh1 Z1 q1 sz1 k1=>⟨_,rfl,?_⟩;refine wpAny_letOwnedTupleGo_zip Z1.z λh2 z2 sb2=>?_;have hlt:∀c∈[z,ti,ro,j1,j2],c≠s.heap.objs.size:=λc hc=>by
   obtain⟨o,e,_⟩:∃o,s.heap.get? c=some o/\True:=by
    obtain⟨u',v',hro⟩:=st.ro;obtain⟨o1,e1,_⟩:=st.j1;obtain⟨o2,e2,_⟩:=st.j2;simp only[y02,y07,or_false]at hc;rcases hc with rfl|rfl|rfl|rfl|rfl
    ·exact⟨_,st.z,trivial⟩
    ·exact⟨_,st.ti,trivial⟩
    ·exact⟨_,hro,trivial⟩
    ·exact⟨_,e1,trivial⟩
    ·exact⟨_,e2,trivial⟩
   exact y0h (y0d e)
  have k2:∀c o,c∉[z,ti,ro,j1,j2]->s.heap.get? c=some o->h2.get? c=some o:=λc o hc e=>by
   have hz:c≠z:=λq=>hc (by simp[q]);exact sb2.extBut _ _ hz (k1 c o hz (λq=>hc (by simp[q])) (λq=>hc (by simp[q])) (λq=>hc (by simp[q])) e)
  have tup2:h2.get? s.heap.objs.size=some {cls:=.type "tuple",data:=.seq #[u,v]}:=sb2.extBut _ _ (Ne.symm (hlt z (by simp))) q1;have st2:ZipT h2 z ti ro j1 j2 a b .none (i+1):=by
   obtain⟨u',v',hro⟩:=Z1.ro;exact⟨z2,sb2.extBut _ _ D.TIz Z1.ti,⟨u',v',sb2.extBut _ _ D.TOz hro⟩,Z1.j1.extBut sb2.extBut D.i1z,Z1.j2.extBut sb2.extBut D.i2z⟩
  have there:∀c∈[z,ti,ro,j1,j2],∃o,h2.get? c=some o:=λc hc=>by
   obtain⟨u',v',hro⟩:=st2.ro;obtain⟨o1,e1,_⟩:=st2.j1;obtain⟨o2,e2,_⟩:=st2.j2;simp only[y02,y07,or_false]at hc;rcases hc with rfl|rfl|rfl|rfl|rfl
   ·exact⟨_,st2.z⟩
   ·exact⟨_,st2.ti⟩
   ·exact⟨_,hro⟩
   ·exact⟨_,e1⟩
   ·exact⟨_,e2⟩
  have I2:Inv X pins σ (upd H s.heap.objs.size (.tup [x,y])) {s with heap:=h2,toks:=s.toks}:=I.turnedNew k2 hf (y04 _) ⟨zaf (by simp),[u,v],.cons ru (.cons rv .nil),⟨_,tup2,rfl,_,rfl⟩⟩ there;refine⟨.ref s.heap.objs.size,_,I2,rfl,⟨_,x,y,rfl,.mk' I.fresh _,λws hw=>by rw[I.tuple_inj hw hx];exact ex,λws hw=>by rw[I.tuple_inj hw hy];exact ey⟩,st2,λc hc=>?_⟩;rw[zan (hlt c hc)];exact(hf c hc).1
 done:=by
  intro X hP hw hK hc i pins s σ H E I hf st hg;subst hP hw hK;obtain⟨xs,ys,hx,hy,hl⟩:=hg;obtain⟨its1,r1,p1,_⟩:=I.tuple hx;obtain⟨its2,r2,p2,_⟩:=I.tuple hy;have l1:=r1.length;exact zvm (I.ok.hd hc) D st (show s.heap.IsTuple a its1.toArray from p1) (show s.heap.IsTuple b its2.toArray from p2) (by simp;omega) λh' k=>⟨rfl,I.turnedL (t':=s.toks) (λc o hc e=>k c o (λq=>hc (by simp[q])) (λq=>hc (by simp[q])) (λq=>hc (by simp[q])) (λq=>hc (by simp[q])) e) hf⟩
 self:=λ_ _ _ _ _ st h=>wpAny_pyIter_zip st.z h
def iZip(K:Frag)(ta:TA):TI:=λσ H R=>ta σ H λvs H1=>∃a b,vs=[.ref a,.ref b]/\(∃xs,SqT K H1 a xs)/\(∃ys,SqT K H1 b ys)/\R (Itz K a b) H1
theorem zv6{X:Cx}{elts:List Expr}{x1}{tpos:Pos}{a b:Expr}{ta:TA}{p pos:Pos}(hg:Gl X "zip")(hm:X.mg "zip"=none)(ha:PA X [a,b] ta)(h1:notStar a=true:=by rfl)(h2:notStar b=true:=by rfl):PI X (.Tuple elts x1 tpos) (.Call (.Name "zip" p) [a,b] [] pos) (iZip X.K ta):=by
 intro pins s σ H R I h;have hs2:starEach [b] X.env=[(false,eval b X.env)]:=by rw[za7 h2,starEach.eq_def]
 have hs:starEach [a,b] X.env=[(false,eval a X.env),(false,eval b X.env)]:=by rw[za7 h1,hs2]
 refine Call_ (zf7 I hg hm boot_zip (PyProof.Rows.callWith_type1 (thn (ha pos pins s σ H _ I h) λus s1 zz=>ex5 zz λvs H1 I1 r1 q1=>?_) (by rw[hs,hs2]) (by rw[hs2];rfl)));obtain⟨p1,p2,e,⟨xs,hx⟩,⟨ys,hy⟩,q⟩:=q1;subst e;obtain⟨u,v,rfl,ru,rv⟩:=vals2 r1;cases(show u=Value.ref p1 from ru);cases(show v=Value.ref p2 from rv);obtain⟨its1,_,t1,_⟩:=I1.tuple hx;obtain⟨its2,_,t2,_⟩:=I1.tuple hy;have l1:p1<s1.heap.objs.size:=by obtain⟨_,e,_⟩:=t1;exact y0d e
 have l2:p2<s1.heap.objs.size:=by obtain⟨_,e,_⟩:=t2;exact y0d e
 refine zs1 (show s1.heap.IsTuple p1 its1.toArray from t1) (show s1.heap.IsTuple p2 its2.toArray from t2) λh' Z sz k=>wpAny_pyIter_zip Z.z ?_;refine⟨_,[s1.heap.objs.size+4,s1.heap.objs.size+2,s1.heap.objs.size+3,s1.heap.objs.size,s1.heap.objs.size+1],_,_,H1,rfl,I1.kept (t':=s1.toks) k,zpw _ _ _ _ _ p1 p2 (zipApart_new l1 l2),Z,λc hc=>?_,q⟩;have hle:s1.heap.objs.size<=c:=by
  simp only[y02,y07,or_false]at hc;rcases hc with rfl|rfl|rfl|rfl|rfl
  ·exact y2f _ _
  ·exact y2f _ _
  ·exact y2f _ _
  ·exact y04 _
  ·exact y2f _ _
 exact I1.fpOk hle (I1.hok.fresh hle)
theorem ztq{X:Cx}(K:Frag){elts:List Expr}{x1}{tpos:Pos}{a b:Expr}{ta:TA}{p pos:Pos}(hg:Gl X "zip")(hm:X.mg "zip"=none)(ha:PA X [a,b] ta)(h:X.K=K:=by rfl)(h1:notStar a=true:=by rfl)(h2:notStar b=true:=by rfl):
  PI X (.Tuple elts x1 tpos) (.Call (.Name "zip" p) [a,b] [] pos) (iZip K ta):=h▸zv6 hg hm ha h1 h2
theorem zjc{X:Cx}(K:Frag){es:List Expr}{k:Nat}{t:TGs}{n:Nat}{pos:Pos}(hc:X.calm=true)(h:PGs X es t)(hK:X.K=K:=by rfl)
  (hn:(assignEach es X.env).length=n:=by rfl) (hst:(assignEach es X.env).findIdx? (·.1)=none:=by rfl):PG X (.Tuple es k pos) (gTup K n t):=hK▸zv9 hc h hn hst
section
variable {tn:List Str}{cp:Y6}{g:TG}{tif:TT}{te:TE}{σ0:St}{Q:VK}{H1:Hp}{K:Frag}{a b:Addr}{xs ys:List V}
theorem zxh(S:St->Prop)(f:Nat->V)(hn:xs.length<=1000)(hl:xs.length=ys.length)(ha:SqT K H1 a xs)(hb:SqT K H1 b ys)(h0:S (stB tn cp σ0))
  (hs:∀D i σ H H' p x y,xs[i]?=some x->ys[i]?=some y->Same H1 H->H1 D=none->H D=some (.lst ((List.range i).map f))->S σ->New H p (.tup [x,y]) H'->g (.ref p) σ H' λσ2 H2=>tif σ2 H2 λc H3 =>
   if c=true then te σ2 H3 λv H4=>CStep D xs.length i (λi ws σ H=>Same H1 H/\S σ/\ws=(List.range i).map f) σ2 v H4 else CSkip D xs.length i (λi ws σ H=>Same H1 H/\S σ/\ws=(List.range i).map f) σ2 H3)
  (hd:∀D H,H1 D=none->Same H1 H->H D=some (.lst ((List.range xs.length).map f))->Q (.ref D) H):cBody tn cp g tif te σ0 Q (Itz K a b) H1:=by
 refine zvh xs.length (λD i ws σ H=>Same H1 H/\S σ/\ws=(List.range i).map f) (zaf hn) (λD hD=>⟨zba hD _,h0,rfl⟩) (λD i ws σ H hD hi hH p=>⟨xs,ys,xs[i],ys[i],p.1.seqT ha,p.1.seqT hb,by simp[hi],by simp[hl▸hi]⟩)
  (λD ws σ H hD hH p=>⟨xs,ys,p.1.seqT ha,p.1.seqT hb,y04 _⟩) ?_ ?_
 ·rintro D i ws σ H v H' hD hi hH hlw ⟨p1,p2,rfl⟩ ⟨p,x,y,rfl,nw,ex,ey⟩;exact hs D i σ H H' p x y (ex _ (p1.seqT ha)) (ey _ (p1.seqT hb)) p1 hD hH p2 nw
 ·rintro D ws σ H hD hH hlw ⟨p1,p2,rfl⟩;exact hd D H hD p1 hH
theorem zjr{S:St->Prop}{f:Nat->V}{D:Addr}{i:Nat}{v:V}{σ2:St}{H4:Hp}(hn:xs.length<=1000)(hi:i<xs.length)(hD:H1 D=none)(h4:H4 D=some (.lst ((List.range i).map f)))(g4:Same H1 H4)(s2:S σ2)(e:v=f i):
  CStep D xs.length i (λi ws σ H=>Same H1 H/\S σ/\ws=(List.range i).map f) σ2 v H4:=by
 refine cstep (zaf hn) hi h4 (by rw[y00,y1y];exact y04 _) ⟨g4.wr hD _,s2,?_⟩;rw[y3e,y0r,e];rfl
end
def DctK(K:Frag)(w:World)(a:Addr)(f:Str->Option V):Prop:=(a==sysModules)=false/\∃(es:Array DictEntry) (n:Nat),K.lookup a=some ⟨.type "dict",none,.dict es n,#[]⟩/\PySem.W.KeysLit w.params es.toList/\∀x,RelO (f x) (findBy Value.isStrOf es x)
section
variable {X:Cx}(K:Frag)(w:World)
def rInD(neg:Bool):R2:=λx y H Q=>∃z a f,x=.str z/\y=.ref a/\DctK K w a f/\Q (.bl (if neg then !(f z).isSome else(f z).isSome)) H
theorem zh0(hK:X.K=K:=by rfl)(hw:X.w=w:=by rfl):OpR X (compareOp .NotIn) (rInD K w true):=by
 subst hK hw;infer_instance;obtain⟨z,a,f,rfl,rfl,⟨lo,es,n,hl,hk,hr⟩,q⟩:=h;obtain⟨t,rfl⟩:=rx;cases(show u=Value.ref a from ry);refine wpAny_notIn_of (strKind_is X.prog X.w z t) lo (PySem.W.mapOf_K (prog:=X.prog) I.kIn hl hk) ?_;rw[←(hr z).isSome_eq];exact⟨.bl _,H,I.tok _,rfl,q⟩
def rIxD:R2:=λx y H Q=>∃a z f v,x=.ref a/\y=.str z/\DctK K w a f/\f z=some v/\Q v H
theorem zw8(hK:X.K=K:=by rfl)(hw:X.w=w:=by rfl):IxR X (rIxD K w):=by
 subst hK hw;intro value slice pins s σ H x y v u Q I rx ry h hs;obtain⟨a,z,f,r,rfl,rfl,⟨lo,es,n,hl,hk,hr⟩,e,q⟩:=h;cases(show v=Value.ref a from rx);obtain⟨t,rfl⟩:=ry;have hm:=PySem.W.mapOf_K (prog:=X.prog) I.kIn hl hk;obtain⟨w',hw',rw'⟩:=RelO.some_of (v:=r) (o:=findBy Value.isStrOf es z) (by rw[←e];exact hr z);exact tail_any hm.typeIs slot_dict_getitem.lookup (wpAny_getItem_of (strKind_is X.prog X.w z t) hm hw' ⟨r,H,I.tok _,rw',q⟩) hs
end
section
variable {tn:List Str}{cp:Y6}{g:TG}{tif:TT}{te:TE}{σ0:St}{Q:VK}{H1:Hp}{K:Frag}{a:Addr}{xs:List V}
theorem zpl(S:St->Prop)(f:Nat->V)(hn:xs.length<=1000)(hS:SqL K H1 a xs)(h0:S (stB tn cp σ0))
  (hs:∀D i σ H x,i<xs.length->xs[i]?=some x->Same H1 H->H1 D=none->H D=some (.lst ((List.range i).map f))->S σ->g x σ H λσ2 H2=>tif σ2 H2 λc H3 =>
   if c=true then te σ2 H3 λv H4=>CStep D xs.length i (λi ws σ H=>Same H1 H/\S σ/\ws=(List.range i).map f) σ2 v H4 else CSkip D xs.length i (λi ws σ H=>Same H1 H/\S σ/\ws=(List.range i).map f) σ2 H3)
  (hd:∀D H,H1 D=none->Same H1 H->H D=some (.lst ((List.range xs.length).map f))->Q (.ref D) H):cBody tn cp g tif te σ0 Q (Itl K a) H1:=by
 refine zg9 (K:=K) (a:=a) (xs:=xs) (λD i ws σ H=>Same H1 H/\S σ/\ws=(List.range i).map f) (zaf hn) (λD hD=>⟨zba hD _,h0,rfl⟩) (λD i ys σ H _ _ _ p=>p.1.seq hS) ?_ ?_
 ·rintro D i ys σ H x hD hi hx hH hl ⟨p1,p2,rfl⟩;exact hs D i σ H x hi hx p1 hD hH p2
 ·rintro D ys σ H hD hH hl ⟨p1,p2,rfl⟩;exact hd D H hD p1 hH
end
end L2
namespace SS
open PySem PySem.Spec PyProof.Rows L2
def forms:List (Str×List Str):=[("in",["place","set"]),("same",["place","place"]),("within",["set","set"]),("ahead",["place","place"]),("next",["place","place"]),("left",["place","place"]),("right",["place","place"]),("above",["place","place"]),
 ("not",["saying"]),("and",["saying","saying"]),("or",["saying","saying"]),("some",["name","saying"]),("all",["name","saying"])]
def sortB(form:V->Bool)(x:V)(s:Str):Bool:=if s="place" then isNm x SMALL else if s="set" then isNm x GREAT else if s="name" then isName x else form x
def zipB(form:V->Bool):List V->List Str->Bool
 |[],[]=>true
 |x::xs,s::ss=>sortB form x s&&zipB form xs ss
 |_,_=>false
def formH(H:Hp):Nat->V->Bool
 |0,_=>false
 |n+1,.ref a=>match H a with
  |some (.tup (.str w::r))=>match forms.lookup w with
   |some ss=>zipB (formH H n) r ss
   |none=>false
  |_=>false
 |_+1,_=>false
def Exp(H:Hp):Nat->V->Prop
 |0,v=>Thing H v
 |n+1,v=>Thing H v/\∀a xs,v=.ref a->H a=some (.tup xs)->xs.length<=1000/\∀x∈xs,Exp H n x
theorem Exp.thing:∀{n:Nat} {v:V},Exp H n v->Thing H v
 |0,_,h=>h
 |_+1,_,h=>h.1
theorem Thing.same_tup(h:Thing H (.ref a))(g:Same H H')(e:H' a=some (.tup xs)):H a=some (.tup xs):=by
 obtain⟨⟨k,hk⟩,_⟩:=h;cases hk with
 |lst z=>rw[g _ _ z]at e;cases e
 |tup z=>rw[g _ _ z]at e;cases e;exact z
 |dK z=>rw[g _ _ z]at e;cases e
theorem Exp.same(g:Same H H'):∀{n:Nat} {v:V},Exp H n v->Exp H' n v
 |0,_,h=>Thing.same h g
 |n+1,v,h=>⟨h.1.same g,λa xs ev e=>by
  subst ev;obtain⟨h1,h2⟩:=h.2 a xs rfl (h.1.same_tup g e);exact⟨h1,λx hx=>(h2 x hx).same g⟩⟩
theorem zfs:∀{xs:List V} {ss:List Str},(∀x∈xs,f x=g x)->zipB f xs ss=zipB g xs ss
 |[],[],_=>rfl
 |[],_::_,_=>rfl
 |_::_,[],_=>rfl
 |x::xs,s::ss,h=>by
  show(sortB f x s&&zipB f xs ss)=(sortB g x s&&zipB g xs ss);rw[zfs λy hy=>h y (y09 _ hy)];unfold sortB;rw[h x y0c]
theorem zb0(g:Same H H'):∀{n:Nat} {v:V},Exp H n v->formH H' n v=formH H n v
 |0,_,_=>rfl
 |n+1,v,h=>by
  cases v with
  |ref a =>
   obtain⟨⟨k,hk⟩,_⟩:=h.1;cases hk with
   |lst z=>simp only[formH,z,g _ _ z]
   |dK z=>simp only[formH,z,g _ _ z]
   |tup z =>
    rename_i xs;have hx:=(h.2 a xs rfl z).2;simp only[formH,z,g _ _ z];cases xs with
    |nil=>rfl
    |cons x r =>
     cases x with
     |str wd =>
      simp only[];cases forms.lookup wd with
      |none=>rfl
      |some ss=>exact zfs λy hy=>zb0 g (hx y (y09 _ hy))
     |_=>rfl
  |_=>rfl
theorem zj3:∀{xs:List V} {ss:List Str},xs.length≠ss.length->zipB f xs ss=false
 |[],[],h=>absurd rfl h
 |[],_::_,_=>rfl
 |_::_,[],_=>rfl
 |x::xs,s::ss,h=>by
  show(sortB f x s&&zipB f xs ss)=false;rw[zj3 λz=>h (congrArg (· + 1) z),y2l]
theorem zfr:∀{xs:List V} {ss:List Str},xs.length=ss.length->zipB f xs ss=(List.range xs.length).all λi=>sortB f (xs.getD i .non) (ss.getD i "")
 |[],[],_=>rfl
 |[],_::_,h=>nomatch h
 |_::_,[],h=>nomatch h
 |x::xs,s::ss,h=>by
  show(sortB f x s&&zipB f xs ss)=_;rw[zfr (Nat.succ.inj h),y0a,y2x,y1z,y32];rfl
def zgj(n:Nat):Sp:=λvs H Q _=>∃v,vs=[v,.int n]/\Exp H n v/\∀H',Same H H'->Q (.bl (formH H n v)) H'
def ziy(n:Nat):Sp:=λvs H Q _=>∃v s,vs=[v,.str s,.int n]/\Exp H n v/\∀H',Same H H'->Q (.bl (sortB (formH H n) v s)) H'
def sp_sort':Nat->Sp
 |0=>λ_ _ _ _=>False
 |n+1=>ziy n
def wfB:Sy->Bool
 |.bare w n m=>if w="in" then isPl n&&isSt m else if w="within" then isSt n&&isSt m else isPl n&&isPl m
 |.neg s=>wfB s
 |.two _ s t=>wfB s&&wfB t
 |.qu _ n s=>isName (.str n)&&wfB s
def letB(barred:List Str)(most:Nat):List Str->Sy->Bool
 |known,.bare w n m=>decide (known.length<=most)&&decide (w∉barred)&&(decide (n∈known)&&decide (m∈known))
 |known,.neg s=>decide (known.length<=most)&&decide (("not":Str)∉barred)&&letB barred most known s
 |known,.two w s t=>decide (known.length<=most)&&decide (w∉barred)&&(letB barred most known s&&letB barred most known t)
 |known,.qu w n s=>decide (known.length<=most)&&decide (w∉barred)&&(decide (n∉known)&&letB barred most (known++[n]) s)
theorem Rep.det(r:Rep H v s)(q:Rep H v t):s=t:=by
 induction r generalizing t with
 |bare hw e =>
  cases q with
  |bare hw' e'=>rw[e]at e';cases e';rfl
  |neg e' _=>rw[e]at e';cases e'
  |two hw' e' h1 _=>rw[e]at e';cases e';cases h1
  |qu hw' e' h1=>rw[e]at e';cases e';cases h1
 |neg e _ ih =>
  cases q with
  |bare hw' e'=>rw[e]at e';cases e'
  |neg e' h'=>rw[e]at e';cases e';rw[ih h']
  |two hw' e' _ _=>rw[e]at e';cases e'
  |qu hw' e' _=>rw[e]at e';cases e'
 |two hw e h1 h2 ih1 ih2 =>
  cases q with
  |bare hw' e'=>rw[e]at e';cases e';cases h1
  |neg e' _=>rw[e]at e';cases e'
  |two hw' e' a b=>rw[e]at e';cases e';rw[ih1 a,ih2 b]
  |qu hw' e' b=>rw[e]at e';cases e';cases h1
 |qu hw e h ih =>
  cases q with
  |bare hw' e'=>rw[e]at e';cases e';cases h
  |neg e' _=>rw[e]at e';cases e'
  |two hw' e' a b=>rw[e]at e';cases e';cases a
  |qu hw' e' b=>rw[e]at e';cases e';rw[ih b]
end SS
set_option maxHeartbeats 1000000
namespace SS
open PySem PySem.Spec PyProof.Rows L2
section
variable {f:V->Bool}{x y:V}{r:List V}{s1 s2:Str}
theorem zer:sortB f x "place"=isNm x SMALL:=if_pos rfl
theorem zeq:sortB f x "set"=isNm x GREAT:=by unfold sortB;rw[if_neg (by decide+kernel),if_pos rfl]
theorem zm2:sortB f x "name"=isName x:=by unfold sortB;rw[if_neg (by decide+kernel),if_neg (by decide+kernel),if_pos rfl]
theorem zc9:sortB f x "saying"=f x:=by unfold sortB;rw[if_neg (by decide+kernel),if_neg (by decide+kernel),if_neg (by decide+kernel)]
theorem zip_one:zipB f r [s1]=true↔∃x,r=[x]/\sortB f x s1=true:=by
 cases r with
 |nil=>simp[zipB]
 |cons x r =>
  cases r with
  |nil=>simp[zipB]
  |cons y r=>simp[zipB]
theorem zip_two:zipB f r [s1,s2]=true↔∃x y,r=[x,y]/\sortB f x s1=true/\sortB f y s2=true:=by
 cases r with
 |nil=>simp[zipB]
 |cons x r =>
  cases r with
  |nil=>simp[zipB]
  |cons y r =>
   cases r with
   |nil =>
    rw[show zipB f [x,y] [s1,s2]=(sortB f x s1&&(sortB f y s2&&true))from rfl,Bool.and_true,y05];exact⟨λh=>⟨x,y,rfl,h⟩,λ⟨x',y',e,h⟩=>by cases e;exact h⟩
   |cons z r=>simp[zipB]
theorem zf3(h:isNm x l=true):∃z,x=.str z:=by
 cases x with
 |str z=>exact⟨z,rfl⟩
 |_=>cases h
end
theorem zro(h:forms.lookup wd=some ss):(wd="in"/\ss=(["place","set"]:List Str))\/(wd="within"/\ss=(["set","set"]:List Str))\/(wd∈bareWords/\¬wd=("in":Str)/\¬wd=("within":Str)/\ss=(["place","place"]:List Str))\/
  (wd="not"/\ss=(["saying"]:List Str))\/(wd∈(["and","or"]:List Str)/\ss=(["saying","saying"]:List Str))\/(wd∈(["some","all"]:List Str)/\ss=(["name","saying"]:List Str)):=by
 have m:=mem_of_lookup' h;simp only[forms,y02,y07,or_false,Prod.mk.injEq]at m;rcases m with⟨rfl,rfl⟩|⟨rfl,rfl⟩|⟨rfl,rfl⟩|⟨rfl,rfl⟩|⟨rfl,rfl⟩|⟨rfl,rfl⟩|⟨rfl,rfl⟩|⟨rfl,rfl⟩|⟨rfl,rfl⟩|⟨rfl,rfl⟩|⟨rfl,rfl⟩|⟨rfl,rfl⟩|⟨rfl,rfl⟩
 ·exact .inl ⟨rfl,rfl⟩
 ·exact .inr (.inr (.inl ⟨by decide+kernel,by decide+kernel,by decide+kernel,rfl⟩))
 ·exact .inr (.inl ⟨rfl,rfl⟩)
 ·exact .inr (.inr (.inl ⟨by decide+kernel,by decide+kernel,by decide+kernel,rfl⟩))
 ·exact .inr (.inr (.inl ⟨by decide+kernel,by decide+kernel,by decide+kernel,rfl⟩))
 ·exact .inr (.inr (.inl ⟨by decide+kernel,by decide+kernel,by decide+kernel,rfl⟩))
 ·exact .inr (.inr (.inl ⟨by decide+kernel,by decide+kernel,by decide+kernel,rfl⟩))
 ·exact .inr (.inr (.inl ⟨by decide+kernel,by decide+kernel,by decide+kernel,rfl⟩))
 ·exact .inr (.inr (.inr (.inl ⟨rfl,rfl⟩)))
 ·exact .inr (.inr (.inr (.inr (.inl ⟨by decide+kernel,rfl⟩))))
 ·exact .inr (.inr (.inr (.inr (.inl ⟨by decide+kernel,rfl⟩))))
 ·exact .inr (.inr (.inr (.inr (.inr ⟨by decide+kernel,rfl⟩))))
 ·exact .inr (.inr (.inr (.inr (.inr ⟨by decide+kernel,rfl⟩))))
theorem zme:∀wd∈bareWords,forms.lookup wd=some (if wd=("in":Str)then(["place","set"]:List Str)else if wd=("within":Str)then(["set","set"]:List Str)else(["place","place"]:List Str)):=by decide+kernel
theorem zmd:∀wd∈(["and","or"]:List Str),forms.lookup wd=some (["saying","saying"]:List Str):=by decide+kernel
theorem zmc:∀wd∈(["some","all"]:List Str),forms.lookup wd=some (["name","saying"]:List Str):=by decide+kernel
theorem zo1:forms.lookup ("not":Str)=some (["saying"]:List Str):=by decide+kernel
theorem zby:∀{n:Nat} {v:V},formH H n v=true->∃s,Rep H v s/\wfB s=true/\s.depth<=n
 |0,_,h=>by cases h
 |n+1,v,h=>by
  cases v with
  |ref a =>
   simp only[formH]at h;split at h
   ·rename_i wd r e;split at h
    ·rename_i ss hs;rcases zro hs with⟨rfl,rfl⟩|⟨rfl,rfl⟩|⟨hw,n1,n2,rfl⟩|⟨rfl,rfl⟩|⟨hw,rfl⟩|⟨hw,rfl⟩
     ·obtain⟨x,y,rfl,h1,h2⟩:=zip_two.mp h;rw[zer]at h1;rw[zeq]at h2;obtain⟨z1,rfl⟩:=zf3 h1;obtain⟨z2,rfl⟩:=zf3 h2;refine⟨.bare "in" z1 z2,.bare (by decide+kernel) e,?_,y21 (y10 _)⟩;show(if _ then _ else _)=true;rw[if_pos rfl,y05];exact⟨h1,h2⟩
     ·obtain⟨x,y,rfl,h1,h2⟩:=zip_two.mp h;rw[zeq]at h1 h2;obtain⟨z1,rfl⟩:=zf3 h1;obtain⟨z2,rfl⟩:=zf3 h2;refine⟨.bare "within" z1 z2,.bare (by decide+kernel) e,?_,y21 (y10 _)⟩;show(if _ then _ else if _ then _ else _)=true;rw[if_neg (by decide+kernel),if_pos rfl,y05];exact⟨h1,h2⟩
     ·obtain⟨x,y,rfl,h1,h2⟩:=zip_two.mp h;rw[zer]at h1 h2;obtain⟨z1,rfl⟩:=zf3 h1;obtain⟨z2,rfl⟩:=zf3 h2;refine⟨.bare wd z1 z2,.bare hw e,?_,y21 (y10 _)⟩;show(if _ then _ else if _ then _ else _)=true;rw[if_neg n1,if_neg n2,y05];exact⟨h1,h2⟩
     ·obtain⟨x,rfl,h1⟩:=zip_one.mp h;rw[zc9]at h1;obtain⟨s,r,w1,d1⟩:=zby h1;exact⟨.neg s,.neg e r,w1,y21 d1⟩
     ·obtain⟨x,y,rfl,h1,h2⟩:=zip_two.mp h;rw[zc9]at h1 h2;obtain⟨s,r,w1,d1⟩:=zby h1;obtain⟨t,q,w2,d2⟩:=zby h2;refine⟨.two wd s t,.two hw e r q,?_,y21 (Nat.max_le.mpr ⟨d1,d2⟩)⟩;show(wfB s&&wfB t)=true;rw[w1,w2];rfl
     ·obtain⟨x,y,rfl,h1,h2⟩:=zip_two.mp h;rw[zm2]at h1;rw[zc9]at h2;obtain⟨z1,rfl⟩:=zdy h1;obtain⟨t,q,w2,d2⟩:=zby h2;refine⟨.qu wd z1 t,.qu hw e q,?_,y21 d2⟩;show(isName _&&wfB t)=true;rw[h1,w2];rfl
    ·cases h
   ·cases h
  |_=>cases h
theorem zdn(r:Rep H v s):∀{n:Nat},wfB s=true->s.depth<=n->formH H n v=true:=by
 induction r with
 |bare hw e =>
  rename_i a wd n1 m1;intro n h d;cases n with
  |zero=>exact absurd d (by show¬1<=0;decide)
  |succ n =>
   simp only[formH,e,zme wd hw];by_cases c1:wd=("in":Str)
   ·rw[if_pos c1];have h':(isPl n1&&isSt m1)=true:=by have z:(if _ then _ else _)=true:=h;rw[if_pos c1]at z;exact z
    rw[y05]at h';exact zip_two.mpr ⟨_,_,rfl,by rw[zer];exact h'.1,by rw[zeq];exact h'.2⟩
   ·rw[if_neg c1];by_cases c2:wd=("within":Str)
    ·rw[if_pos c2];have h':(isSt n1&&isSt m1)=true:=by have z:(if _ then _ else if _ then _ else _)=true:=h;rw[if_neg c1,if_pos c2]at z;exact z
     rw[y05]at h';exact zip_two.mpr ⟨_,_,rfl,by rw[zeq];exact h'.1,by rw[zeq];exact h'.2⟩
    ·rw[if_neg c2];have h':(isPl n1&&isPl m1)=true:=by have z:(if _ then _ else if _ then _ else _)=true:=h;rw[if_neg c1,if_neg c2]at z;exact z
     rw[y05]at h';exact zip_two.mpr ⟨_,_,rfl,by rw[zer];exact h'.1,by rw[zer];exact h'.2⟩
 |neg e _ ih =>
  intro n h d;cases n with
  |zero=>exact absurd d (y33 _)
  |succ n =>
   simp only[formH,e,zo1];exact zip_one.mpr ⟨_,rfl,by rw[zc9];exact ih h (y2w d)⟩
 |two hw e _ _ ih1 ih2 =>
  rename_i s t _ _;intro n h d;cases n with
  |zero=>exact absurd d (y33 _)
  |succ n =>
   have d':=Nat.max_le.mp (y2w d);have h':(wfB s&&wfB t)=true:=h;rw[y05]at h';simp only[formH,e,zmd _ hw];exact zip_two.mpr ⟨_,_,rfl,by rw[zc9];exact ih1 h'.1 d'.1,by rw[zc9];exact ih2 h'.2 d'.2⟩
 |qu hw e _ ih =>
  rename_i nm _ s _;intro n h d;cases n with
  |zero=>exact absurd d (y33 _)
  |succ n =>
   have h':(isName (.str nm)&&wfB s)=true:=h;rw[y05]at h';simp only[formH,e,zmc _ hw];exact zip_two.mpr ⟨_,_,rfl,by rw[zm2];exact h'.1,by rw[zc9];exact ih h'.2 (y2w d)⟩
def zeg(n:Nat):Sp:=λvs H Q _=>∃v s,vs=[v]/\Rep H v s/\s.depth<n/\∀H',Same H H'->Q (.int s.parts) H'
def AnySay(H:Hp)(v:V)(s:Sy):Prop:=Rep H v s/\wfB s=true/\s.depth<=12/\s.parts<=60
def zhq:Sp:=λvs H Q _=>∃v,vs=[v]/\Exp H 12 v/\∀b H',Same H H'->(b=true↔∃s,AnySay H v s)->Q (.bl b) H'
def zhm(K:Frag)(bw:List Str)(n:Nat):Sp:=λvs H Q _=>∃v a ba s tl mo,vs=[v,.ref a,.ref ba,.int (mo:Nat)]/\Rep H v s/\s.depth<n/\H a=some (.lst (List.map V.str tl))/\tl.length+s.depth<=300/\(∀H,SqT K H ba (bw.map V.str))/\∀H',Same H H'->Q (.bl (letB bw mo tl s)) H'
def SayOk(H:Hp)(bw:List Str)(mo:Nat)(v fv:V):Prop:=∃a tl s,fv=.ref a/\H a=some (.lst (List.map V.str tl))/\frameB (List.map V.str tl)=true/\AnySay H v s/\letB bw mo tl s=true
def zke(bw:List Str)(mo:Nat):Sp:=λvs H Q _=>∃v fv,vs=[v,fv]/\Exp H 12 v/\Thing H fv/\(∀a xs,fv=.ref a->H a=some (.lst xs)->Things H xs)/\∀b H',Same H H'->(b=true↔SayOk H bw mo v fv)->Q (.bl b) H'
structure Forms(K:Frag)(w:World)(fa:Addr):Prop where
 ex:∃f,DctK K w fa f/\∀x,(∃ss b,forms.lookup x=some ss/\f x=some (.ref b)/\∀H,SqT K H b (List.map V.str ss))\/(forms.lookup x=none/\f x=none)
def wordOf:Sy->Str
 |.bare w _ _=>w
 |.neg _=>"not"
 |.two w _ _=>w
 |.qu w _ _=>w
def letR(barred:List Str)(most:Nat)(known:List Str):Sy->Bool
 |.bare _ n m=>decide (n∈known)&&decide (m∈known)
 |.neg s=>letB barred most known s
 |.two _ s t=>letB barred most known s&&letB barred most known t
 |.qu _ n s=>decide (n∉known)&&letB barred most (known++[n]) s
theorem zut(bw:List Str)(mo:Nat)(tl:List Str)(s:Sy):letB bw mo tl s=(decide (tl.length<=mo)&&decide (wordOf s∉bw)&&letR bw mo tl s):=by cases s<;>rfl
theorem zl2(nq:∀w n t,s ≠ .qu w n t)(hb:s.isBare=false):letR bw mo tl s=s.inner.all (letB bw mo tl):=by
 cases s with
 |bare w n m=>cases hb
 |neg s=>simp[Sy.inner,letR]
 |two w s t=>simp[Sy.inner,letR]
 |qu w n t=>exact absurd rfl (nq w n t)
theorem zcx:∀(l:List Sy),((List.range l.length).map λi=>((l[i]?).map f).getD true).all id=l.all f
 |[]=>rfl
 |x::r=>by
  rw[y0a,y2x,y0k,y0t,y1z,y1z,←zcx r];rfl
theorem zf4:∀{xs:List V},xs.all isName=true->∃tl:List Str,xs=tl.map V.str
 |[],_=>⟨[],rfl⟩
 |x::r,h=>by
  rw[y1z,y05]at h;obtain⟨z,rfl⟩:=zdy h.1;obtain⟨tl,e⟩:=zf4 h.2;exact⟨z::tl,by rw[y0k,←e]⟩
theorem zsp(h:frB H x=true):∃a tl,x=.ref a/\H a=some (.lst (List.map V.str tl))/\frameB (List.map V.str tl)=true/\tl.length<=4:=by
 cases x with
 |ref a =>
  simp only[frB]at h;split at h
  ·rename_i xs e;have h':=h;unfold frameB at h';rw[y05,y05,decide_eq_true_eq]at h';obtain⟨tl,rfl⟩:=zf4 h'.1.2;exact⟨a,tl,rfl,e,h,by have:=h'.1.1;rw[y00]at this;exact this⟩
  ·cases h
 |_=>cases h
open L2
theorem zc0:∀{a b:List PySem.Str},a.map V.str=b.map V.str->a=b
 |[],[],_=>rfl
 |[],_::_,h=>by cases h
 |_::_,[],h=>by cases h
 |x::a,y::b,h=>by
  rw[y0k,y0k,List.cons.injEq]at h;rw[V.str.inj h.1,zc0 h.2]
inductive Lit where
 |str (z:Str)
 |oth
 |tnil
 |tcons (x r:Lit)
 deriving DecidableEq
def Oth(H:Hp)(v:V):Prop:=∃k,Kd H v k/\k≠"str"/\k≠"tuple"
def LitAt(H:Hp):Lit->V->Prop
 |.str z,v=>v=.str z/\z.length<=1000
 |.oth,v=>Oth H v
 |.tnil,v=>∃a,v=.ref a/\H a=some (.tup [])
 |.tcons x r,v=>∃a y ys,v=.ref a/\H a=some (.tup (y::ys))/\ys.length<=100/\LitAt H x y/\Items H r ys
where Items (H:Hp):Lit->List V->Prop
 |.tcons x r,ys=>∃z zs,ys=z::zs/\LitAt H x z/\Items H r zs
 |.tnil,ys=>ys=[]
 |_,_=>False
abbrev Items:=LitAt.Items
theorem Oth.same(g:Same H H')(h:Oth H v):Oth H' v:=let⟨k,z,r⟩:=h;⟨k,z.same g,r⟩
mutual
theorem LitAt.same(g:Same H H'):∀{l:Lit} {v:V},LitAt H l v->LitAt H' l v
 |.str z,_,h=>h
 |.oth,_,h=>Oth.same g h
 |.tnil,_,⟨a,e,h⟩=>⟨a,e,g _ _ h⟩
 |.tcons x r,_,⟨a,y,ys,e,h,hl,h1,h2⟩=>⟨a,y,ys,e,g _ _ h,hl,LitAt.same g h1,Items.same g h2⟩
theorem Items.same(g:Same H H'):∀{l:Lit} {ys:List V},Items H l ys->Items H' l ys
 |.tcons x r,_,⟨z,zs,e,h1,h2⟩=>⟨z,zs,e,LitAt.same g h1,Items.same g h2⟩
 |.tnil,_,h=>h
 |.str _,_,h=>h
 |.oth,_,h=>h
end
theorem LitAt.thing:∀{l:Lit} {v:V},LitAt H l v->Thing H v
 |.str z,_,⟨e,h⟩=>by subst e;exact .str h
 |.oth,v,⟨k,h,h1,_⟩=>⟨⟨k,h⟩,λz e=>by subst e;cases h;exact absurd rfl h1⟩
 |.tnil,_,⟨a,e,h⟩=>by subst e;exact .tup h
 |.tcons x r,_,⟨a,y,ys,e,h,_,_,_⟩=>by subst e;exact .tup h
mutual
theorem LitAt.exp:∀(n:Nat) {l:Lit} {v:V},LitAt H l v->Exp H n v
 |0,_,_,h=>h.thing
 |n+1,.str z,_,h=>⟨h.thing,λa xs e _=>by rw[h.1]at e;cases e⟩
 |n+1,.oth,v,h=>⟨h.thing,λa xs e e'=>by
  subst e;obtain⟨k,hk,_,h2⟩:=h;exact absurd (hk.inj (.tup e')) h2⟩
 |n+1,.tnil,_,h=>⟨h.thing,λa xs e e'=>by
  obtain⟨a',e1,e2⟩:=h;rw[e]at e1;cases e1;rw[e2]at e';cases e';exact⟨y10 _,λx hx=>nomatch hx⟩⟩
 |n+1,.tcons x r,_,h=>⟨h.thing,λa xs e e'=>by
  obtain⟨a',y,ys,e1,e2,hl,h1,h2⟩:=h;rw[e]at e1;cases e1;rw[e2]at e';cases e';refine⟨by rw[y0a];omega,λx' hx=>?_⟩;rcases y02.mp hx with rfl|hx
  ·exact LitAt.exp n h1
  ·exact Items.exp n h2 x' hx⟩
theorem Items.exp:∀(n:Nat) {l:Lit} {ys:List V},Items H l ys->∀y∈ys,Exp H n y
 |n,.tcons x r,_,⟨z,zs,e,h1,h2⟩,y,hy=>by
  subst e;rcases y02.mp hy with rfl|hy
  ·exact LitAt.exp n h1
  ·exact Items.exp n h2 y hy
 |n,.tnil,_,h,y,hy=>by rw[show _=[]from h]at hy;exact nomatch hy
 |n,.str _,_,h,y,hy=>False.elim h
 |n,.oth,_,h,y,hy=>False.elim h
end
theorem zd7(h:isNm (.str z) l=true):z.length<=4:=by
 obtain⟨c,r,e,hl,_⟩:=zxv h;rw[zix,e,y0a];omega
theorem zrd(h:isName (.str z)=true):z.length<=4:=(zly h).elim zd7 zd7
theorem ziv:∀w∈bareWords,w.length<=1000:=by decide+kernel
theorem zpv(h:wfB (.bare w n m)=true):n.length<=4/\m.length<=4:=by
 have h':(if w=("in":Str)then isPl n&&isSt m else if w=("within":Str)then isSt n&&isSt m else isPl n&&isPl m)=true:=h;split at h'
 ·rw[y05]at h';exact⟨zd7 h'.1,zd7 h'.2⟩
 ·split at h'
  ·rw[y05]at h';exact⟨zd7 h'.1,zd7 h'.2⟩
  ·rw[y05]at h';exact⟨zd7 h'.1,zd7 h'.2⟩
theorem Exp.str(h:z.length<=1000):∀n,Exp H n (.str z)
 |0=>Thing.str h
 |n+1=>⟨Thing.str h,λa xs e=>by cases e⟩
theorem Exp.tup(e:H a=some (.tup xs))(hl:xs.length<=1000)(h:∀x∈xs,Exp H n x):Exp H (n+1) (.ref a) :=
 ⟨Thing.tup e,λa' xs' ev e'=>by cases ev;rw[e]at e';cases e';exact⟨hl,h⟩⟩
theorem Rep.exp(r:Rep H v s):wfB s=true->∀n,Exp H n v:=by
 induction r with
 |bare hw e =>
  intro h n;obtain⟨l1,l2⟩:=zpv h;cases n with
  |zero=>exact Thing.tup e
  |succ n =>
   refine Exp.tup e (by simp) λx hx=>?_;simp only[y02,y07,or_false]at hx;rcases hx with rfl|rfl|rfl
   ·exact Exp.str (ziv _ hw) n
   ·exact Exp.str (by omega) n
   ·exact Exp.str (by omega) n
 |neg e _ ih =>
  intro h n;cases n with
  |zero=>exact Thing.tup e
  |succ n =>
   refine Exp.tup e (by simp) λx hx=>?_;simp only[y02,y07,or_false]at hx;rcases hx with rfl|rfl
   ·exact Exp.str (by decide+kernel) n
   ·exact ih h n
 |two hw e _ _ ih1 ih2 =>
  rename_i w _ _ s t _ _;intro h n;have h':(wfB s&&wfB t)=true:=h;rw[y05]at h';cases n with
  |zero=>exact Thing.tup e
  |succ n =>
   refine Exp.tup e (by simp) λx hx=>?_;simp only[y02,y07,or_false]at hx;rcases hx with rfl|rfl|rfl
   ·refine Exp.str ?_ n;have:∀w∈(["and","or"]:List Str),w.length<=1000:=by decide+kernel
    exact this w hw
   ·exact ih1 h'.1 n
   ·exact ih2 h'.2 n
 |qu hw e _ ih =>
  rename_i w nm _ s _;intro h n;have h':(isName (.str nm)&&wfB s)=true:=h;rw[y05]at h';cases n with
  |zero=>exact Thing.tup e
  |succ n =>
   refine Exp.tup e (by simp) λx hx=>?_;simp only[y02,y07,or_false]at hx;rcases hx with rfl|rfl|rfl
   ·refine Exp.str ?_ n;have:∀w∈(["some","all"]:List Str),w.length<=1000:=by decide+kernel
    exact this w hw
   ·exact Exp.str (by have:=zrd h'.1;omega) n
   ·exact ih h'.2 n
theorem ziw{tl:List Str}(hl:tl.length<=1000)(h:∀z∈tl,z.length<=1000):Things H (tl.map V.str):=by
 refine⟨by rw[y00];exact hl,λy hy=>?_⟩;obtain⟨z,mz,rfl⟩:=y0l.mp hy;exact .str (h z mz)
section
variable {K:Frag}{w:World}{h:Heap}{mg:Y1}
theorem sqt_mk(l:K.lookup p=some ⟨.type "tuple",od,.seq its n,sl⟩)(z:its.size<=sizeLine)(r:Vals xs its.toList):∀H,SqT K H p xs :=
 λH=>.inr ⟨_,its,n,l,rfl,rfl,z,r⟩
def Entry(K:Frag)(e:DictEntry)(p:Str×List Str):Prop:=(∃t,e.key=.str p.1 t)/\∃b,e.val=.ref b/\∀H,SqT K H b (List.map V.str p.2)
theorem zcu:∀{es:List DictEntry} {ps:List (Str×List Str)},Paired (Entry K) es ps->∀x,(∃ss b,ps.lookup x=some ss/\findBy Value.isStrOf es.toArray x=some (.ref b)/\∀H,SqT K H b (List.map V.str ss))\/(ps.lookup x=none/\findBy Value.isStrOf es.toArray x=none)
 |_,_,.nil,x=>.inr ⟨rfl,by simp[findBy]⟩
 |e::es,p::ps,.cons ⟨⟨t,ek⟩,b,ev,hb⟩ r,x=>by
  have ih:=zcu r x;unfold findBy at ih ⊢;rw[List.find?_toArray]at ih ⊢;rw[y0x,y1e];by_cases h:x=p.1
  ·subst h;have e1:Value.isStrOf p.1 e.key=true:=by rw[ek];simp[Value.isStrOf]
   rw[e1,beq_self_eq_true];exact .inl ⟨_,b,rfl,congrArg some ev,hb⟩
  ·have h':¬p.1=x:=λq=>h q.symm;have e1:Value.isStrOf x e.key=false:=by rw[ek];simp[Value.isStrOf,h']
   have e2:(x==p.1)=false:=by simp[h]
   rw[e1,e2];exact ih
theorem forms_mk(X:K.In h)(G:h.Ns mainGlobals mg)(a:PySem.W.nsIn K mainGlobals "FORMS"=some (some (.ref p)))(lo:(p==sysModules)=false)(l:K.lookup p=some ⟨.type "dict",none,.dict es n,#[]⟩)
  (hk:PySem.W.KeysLit w.params es.toList) (he:Paired (Entry K) es.toList forms):∃q,GlV mg "FORMS" (.ref q)/\Forms K w q:=by
 refine⟨p,⟨_,PySem.W.mg_of X G a,rfl⟩,⟨λx=>match findBy Value.isStrOf es x with|some (.ref b)=>some (.ref b)|_=>none,⟨lo,es,n,l,hk,λx=>?_⟩,λx=>?_⟩⟩
 ·rcases zcu he x with⟨ss,b,e1,e2,_⟩|⟨e1,e2⟩
  ·simp only[e2];exact rfl
  ·simp only[e2];exact trivial
 ·rcases zcu he x with⟨ss,b,e1,e2,hb⟩|⟨e1,e2⟩
  ·exact .inl ⟨ss,b,e1,by simp only[e2],hb⟩
  ·exact .inr ⟨e1,by simp only[e2]⟩
end
inductive Reps(H:Hp):List V->List Sy->Prop
 |nil:Reps H [] []
 |cons {v:V} {s:Sy} {vs:List V} {ss:List Sy} (r:Rep H v s) (q:Reps H vs ss):Reps H (v::vs) (s::ss)
end SS
namespace L2
variable {X:Cx}
section
variable {X:Cx}{k:Nat}{H:Hp}{a b:Addr}{xs ys:List V}
def rEqI(K:Frag):R2:=λx y H Q=>∃(a b:Addr) (xs ys:List Int),x=.ref a/\y=.ref b/\SqL K H a (xs.map V.int)/\SqL K H b (ys.map V.int)/\Q (.bl (decide (xs=ys))) H
def rNeI(K:Frag):R2:=λx y H Q=>∃(a b:Addr) (xs ys:List Int),x=.ref a/\y=.ref b/\SqL K H a (xs.map V.int)/\SqL K H b (ys.map V.int)/\Q (.bl (!decide (xs=ys))) H
variable (K:Frag)
end
def TupS(H H':Hp):Prop:=∀b xs,H b=some (.tup xs)->H' b=some (.tup xs)
theorem Same.tups(g:Same H H'):TupS H H':=λb xs e=>g b _ e
theorem TupS.trans(a:TupS H H1)(b:TupS H1 H2):TupS H H2:=λc xs e=>b c xs (a c xs e)
theorem TupS.wr(h:H p=some (.lst xs))(o:HO):TupS H (upd H p o):=λb ys e=>by rw[zan (zcc e h (by intro z;cases z))];exact e
end L2
namespace SM
structure Mc where
 w:Nat
 ways:List (List Nat)
 ends:List Bool
def Mc.fin(m:Mc)(r:Nat):Bool:=m.ends.getD r false
theorem ztp(n:Nat):(2:Int)^n=((2^n:Nat):Int):=by
 induction n with
 |zero=>rfl
 |succ n ih=>rw[Int.pow_succ,Nat.pow_succ,ih];omega
theorem zng(h:w<=4):1<=2^w/\2^w<=16:=by
 have:w=0\/w=1\/w=2\/w=3\/w=4:=by omega
 rcases this with rfl|rfl|rfl|rfl|rfl<;>decide
section
variable {α:Type}[DecidableEq α]
def nOf(ds:List α)(x:α):Nat:=ds.idxOf x
def nxt(ds:List α)(x:α):List α:=if x∈ds then ds else ds++[x]
theorem zsi{ds:List α}{x:α}(h:x∈ds):nxt ds x=ds:=if_pos h
theorem zod{ds:List α}{x:α}(h:¬x∈ds):nxt ds x=ds++[x]:=if_neg h
end
open PySem PySem.Spec PyProof.Rows L2 SS
abbrev nV(n:Nat):V:=.int (n:Int)
theorem Paired.at2:∀{xs:List α} {ys:List β} {i:Nat} {y:β},Paired R xs ys->ys[i]?=some y->∃x,xs[i]?=some x/\R x y
 |_,_,_,_,.nil,h=>by simp at h
 |_,_,0,_,.cons h _,e=>by simp at e;subst e;exact⟨_,rfl,h⟩
 |_,_,i+1,_,.cons _ h,e=>by simp only[y2t]at e ⊢;exact Paired.at2 h e
theorem Paired.snoc:∀{xs:List α} {ys:List β} {x:α} {y:β},Paired R xs ys->R x y->Paired R (xs++[x]) (ys++[y])
 |_,_,_,_,.nil,h=>.cons h .nil
 |_,_,_,_,.cons h t,z=>.cons h (Paired.snoc t z)
theorem zw1(l:List Nat):l.map nV=(l.map λ(n:Nat)=>(n:Int)).map V.int:=by rw[y0t];rfl
end SM
namespace L2
theorem zw3{h h':Heap}(x:h.IsListIter j a i)(k:∀o,h.get? j=some o->h'.get? j=some o):h'.IsListIter j a i:=by
 obtain⟨o,e,r⟩:=x;exact⟨o,k o e,r⟩
theorem zw2{h h':Heap}(x:h.IsListIter j a i)(k:Heap.ExtBut b h h')(n:j≠b):h'.IsListIter j a i:=zw3 x λo e=>k j o n e
def ItzL(K:Frag)(a b:Addr):It :=
 ⟨λi H=>∃xs ys x y,SqL K H a xs/\SqT K H b ys/\xs[i]?=some x/\ys[i]?=some y,
  λi H v H'=>∃p x y,v=.ref p/\New H p (.tup [x,y]) H'/\(∀xs,SqL K H a xs->xs[i]?=some x)/\∀ys,SqT K H b ys->ys[i]?=some y,
  λi H=>∃xs ys,SqL K H a xs/\SqT K H b ys/\xs.length<=i⟩
def iZipL(K:Frag)(ta:TA):TI:=λσ H R=>ta σ H λvs H1=>∃a b,vs=[.ref a,.ref b]/\(∃xs,SqL K H1 a xs)/\(∃ys,SqT K H1 b ys)/\R (ItzL K a b) H1
def Ite(K:Frag)(a:Addr):It :=
 ⟨λi H=>∃xs x,SqL K H a xs/\xs[i]?=some x,λi H v H'=>∃p x,v=.ref p/\New H p (.tup [.int (i:Int),x]) H'/\∀xs,SqL K H a xs->xs[i]?=some x,λi H=>∃xs,SqL K H a xs/\xs.length<=i⟩
theorem zmo{P:Program}{w:World}{K:Frag}{elts:List Expr}{x1}{tpos:Pos}(e it a:Addr)(hne:e≠it):
  Turn P w K (.Tuple elts x1 tpos) (Ite K a) [e,it] e (λi h=>(∃old,IsEnum h e it (i:Int) old)/\h.IsListIter it a i) where
 mem:=by simp
 obj:=λi h st c hc=>by
  obtain⟨⟨old,se⟩,o1,e1,c1,d1⟩:=st;simp only[y02,y07,or_false]at hc;rcases hc with rfl|rfl
  ·exact⟨_,se,λv q=>nomatch q⟩
  ·exact⟨_,e1,λv q=>by rw[d1]at q;cases q⟩
 keep:=λi h h' st k=>⟨let⟨old,se⟩:=st.1;⟨old,k e (by simp) _ se⟩,zw3 st.2 λo z=>k it (by simp) o z⟩
 item:=by
  intro X hP hw hK hc i pins s σ H E I hf st hg;subst hP hw hK;obtain⟨xs,x,hx,ex⟩:=hg;obtain⟨its,r,pl,_⟩:=I.list hx;obtain⟨u,hu,ru⟩:=r.get ex;obtain⟨⟨old,se⟩,si⟩:=st;refine wpAny_pyNext_enum_item se si pl.isList (x:=u) (by simpa using hu) hne λh1 eo1 si1 q1 sz1 k1=>⟨_,rfl,?_⟩;refine wpAny_letOwnedTupleGo_enum eo1 λh2 e2 sb2=>?_;have hlt:∀c∈[e,it],c≠s.heap.objs.size:=λc hc=>by
   simp only[y02,y07,or_false]at hc;rcases hc with rfl|rfl
   ·exact y0h (y0d se)
   ·obtain⟨o,z,_⟩:=si;exact y0h (y0d z)
  have k2:∀c o,c∉[e,it]->s.heap.get? c=some o->h2.get? c=some o:=λc o hc z =>
   sb2.extBut _ _ (λq=>hc (by simp[q])) (k1 c o (λq=>hc (by simp[q])) (λq=>hc (by simp[q])) z)
  have tup2:=sb2.extBut _ _ (Ne.symm (hlt e (by simp))) q1;have si2:h2.IsListIter it a (i+1):=zw2 si1 sb2.extBut (Ne.symm hne);have e2':IsEnum h2 e it ((i+1:Nat):Int) u:=by rw[show((i+1:Nat):Int)=(i:Int)+1 by omega];exact e2
  have there:∀c∈[e,it],∃o,h2.get? c=some o:=λc hc=>by
   simp only[y02,y07,or_false]at hc;rcases hc with rfl|rfl
   ·exact⟨_,e2⟩
   ·obtain⟨o,z,_⟩:=si2;exact⟨o,z⟩
  have I2:Inv X pins σ (upd H s.heap.objs.size (.tup [.int (i:Int),x])) {s with heap:=h2,toks:=s.toks+1}:=I.turnedNew k2 hf (y04 _) ⟨zaf (by simp),[.int i s.toks,u],.cons ⟨_,rfl⟩ (.cons ru .nil),⟨_,tup2,rfl,_,rfl⟩⟩ there;refine⟨.ref s.heap.objs.size,_,I2,rfl,⟨_,x,rfl,.mk' I.fresh _,λws hw=>by rw[I.list_inj hw hx];exact ex⟩,⟨⟨_,e2'⟩,si2⟩,λc hc=>?_⟩;rw[zan (hlt c hc)];exact(hf c hc).1
 done:=by
  intro X hP hw hK hc i pins s σ H E I hf st hg;subst hP hw hK;obtain⟨xs,hx,hl⟩:=hg;obtain⟨its,r,pl,_⟩:=I.list hx;have l1:=r.length;obtain⟨⟨old,se⟩,si⟩:=st;exact wpAny_pyNext_enum_end (I.ok.hd hc) se si pl.isList (by simp;omega) λh' k=>⟨rfl,I.turnedL (t':=s.toks) (λc o hc z=>k c o (λq=>hc (by simp[q])) z) hf⟩
 self:=λ_ _ _ _ _ st h=>let⟨_,se⟩:=st.1;wpAny_pyIter_enum se h
def iEnum(K:Frag)(ta:TA):TI:=λσ H R=>ta σ H λvs H1=>∃a,vs=[.ref a]/\(∃xs,SqL K H1 a xs)/\R (Ite K a) H1
theorem zts{X:Cx}{elts:List Expr}{x1}{tpos:Pos}{a:Expr}{ta:TA}{p pos:Pos}(hg:Gl X "enumerate")(hm:X.mg "enumerate"=none)(ha:PA X [a] ta)(h1:notStar a=true:=by rfl):PI X (.Tuple elts x1 tpos) (.Call (.Name "enumerate" p) [a] [] pos) (iEnum X.K ta):=by
 intro pins s σ H R I h;have hs:starEach [a] X.env=[(false,eval a X.env)]:=by rw[za7 h1,starEach.eq_def]
 refine Call_ (zf7 I hg hm boot_enumerate (PyProof.Rows.callWith_type1 (thn (ha pos pins s σ H _ I h) λus s1 zz=>ex5 zz λvs H1 I1 r1 q1=>?_) hs rfl));obtain⟨p1,e,⟨xs,hx⟩,q⟩:=q1;subst e;obtain⟨u,rfl,ru⟩:=vals1 r1;cases(show u=Value.ref p1 from ru);obtain⟨its,_,t1,_⟩:=I1.list hx;refine call_enumerate_list t1.isList λh' se si sz k=>wpAny_pyIter_enum se ?_;refine⟨_,[s1.heap.objs.size+1,s1.heap.objs.size],_,_,H1,rfl,I1.kept (t':=s1.toks) k,zmo _ _ p1 (Nat.succ_ne_self _),⟨⟨_,se⟩,si⟩,λc hc=>?_,q⟩;have hle:s1.heap.objs.size<=c:=by
  simp only[y02,y07,or_false]at hc;rcases hc with rfl|rfl
  ·exact y2f _ _
  ·exact y04 _
 exact I1.fpOk hle (I1.hok.fresh hle)
theorem zqi{X:Cx}(K:Frag){elts:List Expr}{x1}{tpos:Pos}{a:Expr}{ta:TA}{p pos:Pos}(hg:Gl X "enumerate")(hm:X.mg "enumerate"=none)(ha:PA X [a] ta)(h:X.K=K:=by rfl)(h1:notStar a=true:=by rfl):
  PI X (.Tuple elts x1 tpos) (.Call (.Name "enumerate" p) [a] [] pos) (iEnum K ta):=h▸zts hg hm ha h1
def rInDc(neg:Bool):R2:=λy x H Q=>∃a o,x=.ref a/\DGet H a y o/\Q (.bl (if neg then !o.isSome else o.isSome)) H
section
variable {X:Cx}{o i value:Expr}{pos pos':Pos}{td ty tv:TE}
theorem zlv(hu:X.A.units+8<cLine):OpR X (compareOp .NotIn) (rInDc true):=by
 intro pins s σ H y x v u Q I ry rx h;obtain⟨a,o,rfl,g,q⟩:=h;obtain rfl:u=Value.ref a:=rx;exact zvd (by omega) I g ry λs3 I3=>⟨.bl (!o.isSome),H,I3,rfl,q⟩
theorem zqo(hu:X.A.units+8<cLine)(ho:PE X o td)(hi:PE X i ty)(hs:NoSl i):PE X (.Subscript o i pos) (tDGet td ty):=ztw (by omega) ho hi hs
theorem zqf(hu:X.A.units+8<cLine)(ho:PE X o td)(hi:PE X i ty)(hv:PE X value tv)(hs:swapsWith value (some (.Subscript o i pos')) pos.line X.env=pure false):
  PS X (.Assign [.Subscript o i pos'] value pos) (sDPut td ty tv):=ztm (by omega) ho hi hv hs
def tDNewN:TE:=λ_ H Q=>∀p H',New H p (.dK []) H'->Q (.ref p) H'
def tDNewTN:TE:=λ_ H Q=>∀p H',New H p (.dT []) H'->Q (.ref p) H'
theorem znl:PE X (.Dict [] [] pos) tDNewTN:=λpins s σ H Q I h=>zql pins s σ H Q I λp np=>h p _ (.mk' np _)
def rLenD:List V->Hp->VK->Prop:=λxs H Q=>∃a kvs,xs=[V.ref a]/\H a=some (.dK kvs)/\Q (.int kvs.length) H
end
def rLenT:List V->Hp->VK->Prop:=λxs H Q=>∃a kvs,xs=[V.ref a]/\H a=some (.dT kvs)/\Q (.int kvs.length) H
def PairV(H:Hp)(r:V)(kv:Key×V):Prop:=∃t,r=.ref t/\H t=some (.tup [kV kv.1,kv.2])
def rDictOf(K:Frag):List V->Hp->VK->Prop:=λxs H Q=>∃(p:Addr) (rs:List V) (kvs:List (Key×V)),xs=[.ref p]/\SqL K H p rs/\Paired (PairV H) rs kvs/\kvs.length<=1000/\∀d H',New H d (.dK (mergeK [] kvs)) H'->Q (.ref d) H'
def rMaxL(K:Frag):List V->Hp->VK->Prop:=λxs H Q=>∃(p:Addr) (ns:List Int),xs=[.ref p]/\SqL K H p (ns.map V.int)/\0<ns.length/\∀M,M∈ns->(∀a∈ns,a<=M)->Q (.int M) H
def rIndex(K:Frag):V->List V->Hp->VK->Prop:=λx vs H Q=>∃(p:Addr) (ns:List Int) (k:Int),x=.ref p/\vs=[.int k]/\SqL K H p (ns.map V.int)/\k∈ns/\ns.length<=1000/\Q (.int (ns.idxOf k:Nat)) H
def rCatTN(K:Frag):R2:=λx y H Q=>∃a b xs ys,x=.ref a/\y=.ref b/\SqT K H a xs/\SqT K H b ys/\xs≠[]/\ys≠[]/\xs.length+ys.length<=sizeLine/\∀p H',New H p (.tup (xs++ys)) H'->Q (.ref p) H'
theorem zqw:OpR X (binaryOp .Add) (rCatTN X.K):=λpins s σ H x y v u Q I rx ry h=>by
 obtain⟨a,b,xs,ys,e1,e2,ha,hb,hx,hy,hz,q⟩:=h;exact zt0 pins s σ H x y v u Q I rx ry ⟨a,b,xs,ys,e1,e2,ha,hb,hx,hz,λz=>absurd z hy,λ_ p np=>q p _ (.mk' np _)⟩
theorem znx(K:Frag)(h:X.K=K:=by rfl):OpR X (binaryOp .Add) (rCatTN K):=h▸zqw
def tDisp1T(tk tv:TE):TE:=λσ H Q=>∀p H1,New H p (.dT []) H1->tk σ H1 λy H2=>tv σ H2 λz H3=>H3 p=some (.dT [])/\∃b ks,y=.ref b/\H3 b=some (.tup (ks.map kV))/\Q (.ref p) (upd H3 p (.dT [(ks,z)]))
def NeOk(X:Cx)(k:Nat)(H:Hp)(x y:V)(b:Bool):Prop:=∀(pins:Y2) (σ:St) (s:Shared) (A:Around) (u v:Value),A.units+k<cLine->Inv X pins σ H s->RelV x u->RelV y v->SeqAt.RcNeAt A s u v b
def rNeM(X:Cx):R2:=λx y H Q=>∃c,NeOk X 8 H x y c/\Q (.bl c) H
def rRange2:List V->Hp->VK->Prop:=λxs H Q=>∃i j:Int,xs=[.int i,.int j]/\∀p H',New H p (.rng i j) H'->Q (.ref p) H'
def rListRng:List V->Hp->VK->Prop:=λxs H Q=>∃(p:Addr) (i j:Int),xs=[.ref p]/\H p=some (.rng i j)/\(0<=i/\i<=j/\j<=1000)/\∀l H',New H l (.lst ((List.range (j-i).toNat).map λ(k:Nat)=>V.int (i+k))) H'->Q (.ref l) H'
def rRepN:R2:=λx y H Q=>∃l k xs,x=.ref l/\y=.int k/\H l=some (.lst xs)/\-(2^63)<=k/\k<2^63/\xs.length*k.toNat<=sizeLine/\∀p H',New H p (.lst (List.replicate k.toNat xs).flatten) H'->Q (.ref p) H'
theorem zty:OpR X (binaryOp .Mult) rRepN:=λpins s σ H x y v u Q I rx ry h=>by
 obtain⟨l,k,xs,e1,e2,h1,h2,h3,h4,q⟩:=h;exact zwd pins s σ H x y v u Q I rx ry ⟨l,k,xs,e1,e2,h1,h2,h3,h4,λp np=>q p _ (.mk' np _)⟩
end L2
namespace SM
open PySem PySem.Spec PyProof.Rows L2 SS
theorem TupS.wrT(h:H p=some (.dT kvs))(o:HO):TupS H (upd H p o):=λb ys e=>by rw[zan (zcc e h (by intro z;cases z))];exact e
end SM
namespace L2
def Itez(K:Frag)(a b:Addr):It :=
 ⟨λi H=>∃xs ys x y,SqT K H a xs/\SqT K H b ys/\xs[i]?=some x/\ys[i]?=some y,
  λi H v H'=>∃p r H1 x y,v=.ref r/\New H p (.tup [x,y]) H1/\New H1 r (.tup [.int (i:Int),.ref p]) H'/\(∀xs,SqT K H a xs->xs[i]?=some x)/\∀ys,SqT K H b ys->ys[i]?=some y,
  λi H=>∃xs ys,SqT K H a xs/\SqT K H b ys/\xs.length<=i⟩
def iEZ(K:Frag)(ta:TA):TI:=λσ H R=>ta σ H λvs H1=>∃a b,vs=[.ref a,.ref b]/\(∃xs,SqT K H1 a xs)/\(∃ys,SqT K H1 b ys)/\R (Itez K a b) H1
section
variable {tn:List Str}{cp:Y6}{g:TG}{tif:TT}{te:TE}{σ0:St}{Q:VK}{H1:Hp}{lo:Int}{n:Nat}
def PRnF(S:St->Prop)(p:Nat->Bool)(f:Nat->V)(H1:Hp)(i:Nat)(ys:List V)(σ:St)(H:Hp):Prop:=Same H1 H/\S σ/\ys=((List.range i).filter p).map f
theorem zph(p:Nat->Bool)(f:Nat->V)(i:Nat):(((List.range i).filter p).map f).length<=i:=by
 rw[y00];have:=y1l p (List.range i);rw[y1y]at this;exact this
theorem zrz(hn:n<=1000)(hi:i<n)(hp:p i=true)(hD:H1 D=none)(h4:H4 D=some (.lst (((List.range i).filter p).map f)))(g4:Same H1 H4)(s2:S σ2)(e:v=f i):CStep D n i (PRnF S p f H1) σ2 v H4:=by
 subst e;refine cstep (zaf hn) hi h4 (zph p f i) ⟨g4.wr hD _,s2,?_⟩;rw[y3e,y2k,y0r];simp[hp]
theorem zr0(hi:i<n)(hp:p i=false)(h3:H3 D=some (.lst (((List.range i).filter p).map f)))(g3:Same H1 H3)(s2:S σ2):CSkip D n i (PRnF S p f H1) σ2 H3:=by
 refine cskip hi h3 (zph p f i) ⟨g3,s2,?_⟩;rw[y3e,y2k];simp[hp]
end
def rCatTE:R2:=λx y H Q=>∃a b xs ys,x=.ref a/\y=.ref b/\H a=some (.tup xs)/\H b=some (.tup ys)/\xs.length+ys.length<=sizeLine/\∀p H',Same H H'->H' p=some (.tup (xs++ys))->Q (.ref p) H'
theorem zg4{pos pos':Pos}(l:List Value)(h:TriplesOk l):codeAmong pos' (l++[rawInt pos.line,rawInt pos.col,v])=match codeAmong pos' l with
  |some x=>some x
  |none=>if((pos.line:Int)==(pos'.line:Int)&&(pos.col:Int)==(pos'.col:Int))=true then some v else none:=by
 fun_induction TriplesOk l with
 |case1=>simp[codeAmong,rawInt]
 |case2 a t b u x rest ih =>
  simp only[y2v,codeAmong];split
  ·rfl
  ·exact ih h
 |case3 l h1 h2=>exact h.elim
def TabOk(H:Hp)(P:Addr)(qs:Y3):Prop:=∃ps:Array Value,H P=some (.tbl qs ps)
theorem TabOk.same(T:TabOk H P qs)(g:Same H H'):TabOk H' P qs:=let⟨ps,h⟩:=T;⟨ps,g _ _ h⟩
def KCode(K:Frag)(c P:Addr):Prop:=∃o vs file tf flags tg inF text tt,K.lookup c=some o/\o.cls=.type "code"/\o.data=.fields vs/\vs[11]?=some (.ref P)/\vs.getD 11 .none=.ref P/\vs.getD 18 .none=.str file tf/\
 vs.getD 7 .none=.int flags tg/\vs.getD 9 .none=.bool inF/\vs.getD 10 .none=.int text tt/\c≠P
section
variable {X:Cx}{pins:Y2}{σ:St}{H:Hp}{s:Shared}
theorem zu3(I:Inv X pins σ H s)(hc:X.env.code=.ref c)(kc:KCode X.K c P)
  (T:TabOk H P qs) (hq:(pos,qual)∈qs) (hone:∀p∈qs,p.1.line=pos.line->p.1.col=pos.col->p.2=qual)
  (h:∀c' o H' s',Inv X pins σ H' s'->H' c'=some (.frz o (.own c'))->CodeObj o qual->Same H H'->Q (.ref c') s') :
  wpAny (model X.prog X.w) X.A (functionCode X.env pos line name qual params scope body) Q E s:=by
 obtain⟨ps0,hP⟩:=T;obtain⟨more,hop,htr,hcs⟩:=I.hok P _ hP;obtain⟨oc,vs,file,tf,flags,tg,inF,text,tt,lk,hcl,hd,h11',h11,h18,h7,h9,h10,hne⟩:=kc;have ho:s.heap.get? c=some oc:=I.kIn c oc lk;generalize hps:ps0++more=ps at hop htr hcs;cases hf:codeAmong pos ps.toList with
 |some v =>
  obtain⟨c',o,rfl,hc',co⟩:=hcs _ hq v hf;unfold functionCode codeAt;rw[hc,if_neg (show¬((Value.ref c==Value.none)=true)from y0e)];refine wpAny_bind (wpAny_fieldsOf ho hd ?_);rw[h11];refine wpAny_bind (wpAny_fieldsOf hop rfl ?_);rw[hf];exact wpAny_pure (h c' o H s I hc' co λ_ _ e=>e)
 |none =>
  have ic:s.heap.IsCode c P ps:=⟨oc,vs,file,tf,flags,tg,inF,text,tt,_,ho,hd,h11,h18,h7,h9,h10,hop,rfl,htr,hne⟩;refine wpAny_functionCodeX hc ic ⟨⟨oc,vs,ho,hcl,hd,h11'⟩,hop⟩ hf λc' h' tk hx hge hlt hic hrec htab _=>?_;obtain⟨c₂,o',vs',t',e,hc',hd',hv'⟩:=hrec;cases e;have nPn:∀b,H b=none->b≠P:=λb e z=>by rw[z,hP]at e;cases e
  have hcn:H c'=none:=I.hok.fresh hge;have nc:∀b u,H b=some u->b≠c':=λb u e z=>by rw[z,hcn]at e;cases e
  have nP:∀b u,H b=some u->(∀a b,u ≠ .tbl a b)->b≠P:=λb u e n z=>by rw[z,hP]at e;cases e;exact n _ _ rfl
  have up:∀b u,H b=some u->upd H c' (.frz o' (.own c')) b=some u:=λb u e=>by rw[zan (nc b u e)];exact e
  have co:CodeObj o' qual:=⟨vs',t',hd',hv'⟩;have I':Inv X pins σ (upd H c' (.frz o' (.own c'))) {s with heap:=h',toks:=tk}:=by
   refine I.un ⟨λb o e n _ _=>hx b o (nPn b n) e,λb o e n _ _=>⟨o.slots,hx b o (nPn b n) e⟩,λb o e n _=>?_,λb o e _=>?_,λb xs e=>up b _ e,λb o u e=>up b _ e,λb qs ps e=>up b _ e⟩ λb u e=>?_
   ·rw[zan (y0h (y0i (y0d e) hge))];exact n
   ·by_cases hb:b=P
    ·subst hb;exact⟨_,htab.2⟩
    ·exact⟨o,hx b o hb e⟩
   ·by_cases hb:b=c'
    ·subst hb;rw[zao]at e;cases e;exact⟨hc',_,hc'⟩
    ·rw[zan hb]at e;by_cases hbP:b=P
     ·subst hbP;rw[hP]at e;cases e;have hl:(ps++#[rawInt pos.line,rawInt pos.col,Value.ref c']).toList=ps.toList++[rawInt pos.line,rawInt pos.col,.ref c']:=by simp
      have e2:ps0++(more++#[rawInt pos.line,rawInt pos.col,Value.ref c'])=ps++#[rawInt pos.line,rawInt pos.col,Value.ref c']:=by rw[←Array.append_assoc,hps]
      refine⟨more++#[rawInt pos.line,rawInt pos.col,.ref c'],by rw[e2];exact htab.2,by rw[e2,hl];exact TriplesOk_snoc _ _ _ _ htr,λp hp v e=>?_⟩;rw[e2,hl,zg4 _ htr]at e;cases hv:codeAmong p.1 ps.toList with
      |some x =>
       rw[hv]at e;cases e;obtain⟨c1,o1,e1,e2,e3⟩:=hcs p hp _ hv;exact⟨c1,o1,e1,up c1 _ e2,e3⟩
      |none =>
       rw[hv]at e;simp only at e;split at e
       ·rename_i hh;cases e;rw[y05]at hh;have e1:pos.line=p.1.line:=by have:=hh.1;simp at this;omega
        have e2:pos.col=p.1.col:=by have:=hh.2;simp at this;omega
        exact⟨c',o',rfl,zao,by rw[hone p hp e1.symm e2.symm];exact co⟩
       ·cases e
     ·refine(I.hok b u e).stay (λc w hc q=>hx c w ?_ q) (λc q=>up c _ q) (λc _ _ _ _ q=>up c _ q) λc xs q=>up c _ q;rcases hc with rfl|hc
      ·exact hbP
      ·exact nP c _ hc λ_ _ z=>nomatch z
  exact h c' o' _ _ I' zao co up
def cloFd(name qual:Str)(params:Arguments)(body:FuncBody)(scope:Scope)(cl:Y4)(ct cd pm:Value):FuncData :=
 {name,qualname:=qual,params,body,scope,globals:=mainGlobals,closure:=cl,closureTuple:=ct,code:=cd,builtins:=builtinsNs,defaults:=.none,kwdefaults:=.none,annotations:=none,pyModule:=pm,doc:=.none}
def BltK(base:Heap)(mg:Y1):Prop:=∃bm o,mg "__builtins__"=some (.ref bm)/\bm≠builtinsNs/\base.get? bm=some o/\o.cls=.type "module"/\o.dict=some builtinsNs/\o.data=.plain
def NoDoc:FuncBody->Prop
 |.stmts b=>docOf b=none
 |.expr _=>True
structure Made(X:Cx)(H H':Hp)(name qual:Str)(params:Arguments)(body:FuncBody)(scope:Scope)(f:Addr):Prop where
 old:Same H H'
 new:H f=none
 ex:∃cl ct c' oc pm,(∀x c,cl.lookup x=some c->X.env.cells.lookup x=some c)/\(∀p∈scope.names,p.2=.free->∃c,cl.lookup p.1=some c)/\H' c'=some (.frz oc (.own c'))/\CodeObj oc qual/\
  H' f=some (.frz {cls:=.type "function",data:=.func (cloFd name qual params body scope cl ct (.ref c') pm)} (.own f))
theorem zus(I:Inv X pins σ H s)(hc:X.env.code=.ref c)(kc:KCode X.K c P)(kb:BltK X.base X.mg)
  (hfr:∀p∈scope.names,p.2=.free->X.env.kindOf p.1=some .cell\/X.env.kindOf p.1=some .free) (nd:NoDoc body)
  (T:TabOk H P qs) (hq:(pos,qual)∈qs) (hone:∀p∈qs,p.1.line=pos.line->p.1.col=pos.col->p.2=qual)
  (h:∀f H' s',Inv X pins σ H' s'->Made X H H' name qual params body scope f->Q (.ref f) s') :
  wpAny (model X.prog X.w) X.A (makeFunction name qual params body scope X.env [] [] [] pos line) Q E s:=by
 obtain⟨cl,hcl,hcl1,hcl2⟩:=zga (scope:=scope) (env:=X.env) λp hp hf=>I.ok.has p.1 (hfr p hp hf);obtain⟨bm,ob,b1,b2,b3,b4,b5,b6⟩:=kb;have tail:∀(ct:Value) (s1:Shared),Inv X pins σ H s1->wpAny (model X.prog X.w) X.A (do
   let fd:FuncData:={name,qualname:=qual,params,body,scope,globals:=X.env.globals,closure:=cl,closureTuple:=ct,code:=←functionCode X.env pos line name qual params scope body,builtins:=←builtinsFor X.env.globals X.env.builtins,defaults:=.none,kwdefaults:=.none,annotations:=none,pyModule:=(←nsGet X.env.globals "__name__").getD .none,doc:=←match body with|.stmts b=>(match docOf b with|some s=>mkText s|none=>pure .none)|.expr _=>pure .none}
   newObj (.type "function") (.func fd)) Q E s1:=by
  intro ct s1 I1;refine wpAny_bind (zu3 I1 hc kc T hq hone λc' oc H' s' I' e1 co up=>?_);have hg:s'.heap.Ns X.env.globals X.mg:=by rw[I'.ok.glob];exact I'.mod.glob.keeps I'.bk
  refine wpAny_bind (wpAny_builtinsFor hg b1 b2 (I'.bk bm ob b3) b4 b5 b6 ?_);refine wpAny_bind (wpAny_nsGet hg ?_);have fin:wpAny (model X.prog X.w) X.A (newObj (.type "function") (.func {name,qualname:=qual,params,body,scope,globals:=X.env.globals,closure:=cl,closureTuple:=ct,code:=.ref c',builtins:=builtinsNs,defaults:=.none,kwdefaults:=.none,annotations:=none,pyModule:=(X.mg "__name__").getD .none,doc:=.none})) Q E s':=by
   refine wpAny_newObj_type ?_ (by size_fits);rw[I'.ok.glob];have hfn:H' s'.heap.objs.size=none:=I'.fresh;have hfn0:H s'.heap.objs.size=none:=by
    cases e:H s'.heap.objs.size with
    |none=>rfl
    |some u=>rw[up _ u e]at hfn;cases hfn
   have nf:∀b u,H' b=some u->b≠s'.heap.objs.size:=λb u e z=>by rw[z,hfn]at e;cases e
   have I2:=I'.laid (a:=s'.heap.objs.size) (o:=.frz {cls:=.type "function",data:=.func (cloFd name qual params body scope cl ct (.ref c') ((X.mg "__name__").getD .none))} (.own s'.heap.objs.size)) (t':=s'.toks)
    (h':=s'.heap.push {cls:=.type "function",data:=.func (cloFd name qual params body scope cl ct (.ref c') ((X.mg "__name__").getD .none))}) (λb u e=>y01 _ e) (y04 _) ⟨y0b _ rfl,_,y0b _ rfl⟩
   refine h _ _ _ I2 ⟨λb u e=>by rw[zan (nf b u (up b u e))];exact up b u e,hfn0,cl,ct,c',oc,_,hcl1,hcl2,by rw[zan (nf c' _ e1)];exact e1,co,zao⟩
  cases body with
  |expr e=>exact wpAny_bind (wpAny_pure fin)
  |stmts b =>
   have nd':docOf b=none:=nd;refine wpAny_bind ?_;show wpAny _ _ (match docOf b with|some s=>mkText s|none=>pure .none) _ _ _;rw[nd'];exact wpAny_pure fin
 rw[makeFunction_eq];simp only[List.isEmpty_nil,if_true,List.zip_nil_right,List.filterMap_nil];refine wpAny_bind (wpAny_pure (wpAny_bind (wpAny_pure (wpAny_bind (wpAny_pure ?_)))));unfold makeTail;rw[hcl];refine wpAny_bind (wpAny_pure ?_);show wpAny _ _ (if cl.isEmpty=true then _ else _) _ _ _;by_cases he:cl.isEmpty=true
 ·rw[if_pos he];exact wpAny_bind (wpAny_pure (tail .none s I))
 ·rw[if_neg he];refine wpAny_bind (wpAny_newTextTuple ?_);exact(tail _ _ (I.kept (t':=s.toks) λb o e=>y01 _ e))
end
def fnO(fd:FuncData)(f:Addr):HO:=.frz {cls:=.type "function",data:=.func fd} (.own f)
def Frz(H H':Hp):Prop:=∀b o u,H b=some (.frz o u)->H' b=some (.frz o u)
theorem Frz.refl(H:Hp):Frz H H:=λ_ _ _ e=>e
def CloH(P:Program)(w:World)(K:Frag)(mg:Y1)(base:Heap)(k:Nat)(H:Hp)(f:Addr)(n:Nat)(sp:Sp):Prop :=
 ∀(A:Around) (outer:List Env) (s:Shared) (H':Hp) (us:List Value) (vs:List V) (Q:VK),Room k A->Env0 P w K mg base A outer s H'->Frz H H'->Vals vs us->vs.length=n->sp vs H' Q E0->
  codeAny (model P w) A (.call (.ref f) ⟨us,[]⟩) (CR CX0 outer P w H' s Q E0) s
def tCallV(P:Program)(w:World)(K:Frag)(mg:Y1)(base:Heap)(k n:Nat)(sp:Sp)(i:Nat)(t:TA):TE:=λσ H Q=>∃f fd,σ[i]?=some (some (.ref f))/\H f=some (fnO fd f)/\
 t σ H λvs H1=>H1 f=some (fnO fd f)/\CloH P w K mg base k H1 f n sp/\vs.length=n/\sp vs H1 Q E0
theorem zri(f:Addr)(fd:FuncData):PySem.W.keepIn [(f,{cls:=.type "function",data:=.func fd})] (.ref f)=true:=by
 unfold PySem.W.keepIn;simp[List.lookup]
theorem zqr{X:Cx}{x:Str}{i k n:Nat}{sp:Sp}{p pos:Pos}{e:Expr}{es:List Expr}{t:TA}(hN:X.N[i]?=some x)(hv:Vis X.env.scope x)(hr:Room k X.A)(ha:PA X (e::es) t)
  (hd:(x==("__debug__":Str))=false:=by decide) (hcd:(x==("__classdict__":Str))=false:=by decide) (he:starEach (e::es) X.env=(false,eval e X.env)::starEach es X.env:=by rfl) (hpl:(backTo pos (starEach es X.env)).any (·.1)=false:=by rfl) :
  PE X (.Call (.Name x p) (e::es) [] pos) (tCallV X.prog X.w X.K X.mg X.base k n sp i t):=by
 intro pins s σ H Q I h;obtain⟨f,fd,hs,hf,h⟩:=h;refine wpAny_Call_Name_kw (thn (zsf (pos:=p) hN hv hd hcd pins s σ H (λv H'=>v=.ref f/\H'=H) I (zs6 hs ⟨rfl,rfl⟩)) λu s1 zz=>ex5 zz λv H1 I1 r1 zq=>?_);obtain⟨e1,e2⟩:=zq;subst e1 e2;cases(show u=Value.ref f from r1);have at1:∀{H2:Hp} {s2:Shared},Inv X pins σ H2 s2->H2 f=some (fnO fd f)->PySem.W.Frag.In [(f,{cls:=.type "function",data:=.func fd})] s2.heap:=λ{H2 s2} I2 hf2 a o e=>by
  simp only[List.lookup]at e;split at e
  ·rename_i q;cases e;rw[beq_iff_eq.mp q];exact(I2.hok f _ hf2).1
  ·cases e
 refine PySem.W.callWith_K (K:=[(f,{cls:=.type "function",data:=.func fd})]) (h₀:=s1.heap) (at1 I1 hf) (zri f fd) (thn (ha pos pins s1 σ H1 _ I1 h) λus s2 ⟨vs,H2,I2,r,hf2,c,hl,q⟩=>⟨at1 I2 hf2,?_⟩) he hpl;refine wpAny_call (codeAny_mono (c X.A X.stack s2 H2 us vs Q hr I2.env0 (Frz.refl _) r hl q) λr s' hq=>?_);cases r with
 |error e=>exact False.elim hq
 |ok fl =>
  cases fl with
  |ret u=>exact I2.after hq
  |next=>exact False.elim hq
  |brk=>exact False.elim hq
  |cont=>exact False.elim hq
def tDef(X:Cx)(P:Addr)(qs:Y3)(name qual:Str)(params:Arguments)(body:FuncBody)(scope:Scope)(j:Nat):TS:=λD σ H=>TabOk H P qs/\∀f H',Made X H H' name qual params body scope f->D.nx (σ.set j (some (.ref f))) H'
def tLam(X:Cx)(P:Addr)(qs:Y3)(name qual:Str)(params:Arguments)(body:FuncBody)(scope:Scope):TE:=λσ H Q=>TabOk H P qs/\∀f H',Made X H H' name qual params body scope f->Q (.ref f) H'
section
variable {X:Cx}{c P:Addr}{qs:Y3}{pos:Pos}{name qual:Str}{params:Arguments}{scope:Scope}
theorem ztn(hc:X.env.code=.ref c)(kc:KCode X.K c P)(kb:BltK X.base X.mg)(hfr:∀p∈scope.names,p.2=.free->X.env.kindOf p.1=some .cell\/X.env.kindOf p.1=some .free)(nd:docOf body=none)
  (hq:(pos,qual)∈qs) (hone:∀p∈qs,p.1.line=pos.line->p.1.col=pos.col->p.2=qual) (hd:params.defaults=[]) (hk:params.kw_defaults=[]) (ha:∀e,annTrees params none e=[]) (hqual:qualnameIn X.env name name=qual)
  (hN:X.N.Nodup) (hj:X.N[j]?=some name) (hx:X.env.scope.names.lookup name=some .local):PS X (.FunctionDef name params body [] none [] scope none name pos) (tDef X P qs name qual params (.stmts body) scope j):=by
 intro pins s σ H D I h;obtain⟨T,h⟩:=h;rw[exec_def];have hdo:defaultsOf params X.env=([],[]):=by rw[defaultsOf_eq,hd,hk];rfl
 simp only[hdo,ha,hqual];refine wpAny_bind (wpAny_standAt (wpAny_bind (wpAny_holding (wpAny_bind (wpAny_pure (wpAny_bind (wpAny_holding (wpAny_pure (wpAny_holding (wpAny_bind (wpAny_pure ?_)))))))))));refine zus I hc kc kb hfr nd T hq hone λf H' s' I' M=>wpAny_bind (wpAny_standAt (wpAny_bind (wpAny_bindName ?_)));exact zc1 I' hN hj (.inl hx) (v:=.ref f) rfl (λs2 I2=>wpAny_pure ⟨_,H',I2,h f H' M⟩) (.inr hx)
end
def CellOf(X:Cx)(b:Addr):Prop:=∃x,X.env.cells.lookup x=some b
def Adopted(X:Cx)(σ:St)(H Hq:Hp):Prop:=(∀b,¬CellOf X b->Hq b=H b)/\(∀b,CellOf X b->H b=none)/\(∀x y c,X.env.cells.lookup x=some c->X.env.cells.lookup y=some c->x=y)/\∀x c,X.env.cells.lookup x=some c->∃o v,Hq c=some (.frz o (.own c))/\o.data=.cell v/\
 ∀(i:Nat) y,X.N[i]?=some x->σ[i]?=some (some y)->(X.env.kindOf x=some .cell\/X.env.kindOf x=some .free)->∃u,RelV y u/\v=some u
open Classical in
noncomputable def dropX(X:Cx)(H:Hp):Hp:=λb=>if CellOf X b then none else H b
def tCallA(X:Cx)(sp:Sp)(t:TA):TE:=λσ H Q=>t σ H λvs H1=>∀Hq,Adopted X σ H1 Hq->sp vs Hq (λv H2=>Q v (dropX X H2)) E0
theorem zqu{X:Cx}{k:Nat}{f:Addr}{fd:FuncData}{ps:List Str}{sp:Sp}{x:Str}{p pos:Pos}{e:Expr}{es:List Expr}{t:TA}(F:FnOk X.prog X.w X.K X.mg X.base CX0 k f fd ps sp)(hr:Room k X.A)(hg:Gl X x)(hm:X.mg x=some (.ref f))(hk:PySem.W.keepIn X.K (.ref f)=true)(hb:Binds X.K fd ps [])
  (hfn:∀x,X.fn x=true) (ha:PA X (e::es) t) (hdb:(x==("__debug__":Str))=false:=by decide) (he:starEach (e::es) X.env=(false,eval e X.env)::starEach es X.env:=by rfl) (hpl:(backTo pos (starEach es X.env)).any (·.1)=false:=by rfl) :
  PE X (.Call (.Name x p) (e::es) [] pos) (tCallA X sp t):=by
 classical
 intro pins s σ H Q I h;refine wpAny_Call_Name_kw (zde I hg hm ?_ hdb);refine PySem.W.callWith_K (h₀:=X.base) I.ok.mod.kin hk (thn (ha pos pins s σ H _ I h) λus s1 zz=>ex5 zz λvs H1 I1 r q=>⟨I1.kIn,?_⟩) he hpl;let Hq:Hp:=λb=>if CellOf X b then(s1.heap.get? b).map λo=>.frz o (.own b)else H1 b
 have q1:∀b,¬CellOf X b->Hq b=H1 b:=λb n=>if_neg n;have q2:∀x c,X.env.cells.lookup x=some c->∃o v,s1.heap.get? c=some o/\o.data=.cell v/\Hq c=some (.frz o (.own c)):=λx c e=>by
  obtain⟨v,o,ho,hd⟩:=I1.cell x c e;exact⟨o,v,ho,hd,by show(if CellOf X c then _ else _)=_;rw[if_pos ⟨x,e⟩,ho];rfl⟩
 have tr:∀b u,H1 b=some u->¬CellOf X b:=λb u e ⟨x,z⟩=>by rw[I1.freeC x b z]at e;cases e
 have ad:Adopted X σ H1 Hq:=⟨q1,λb ⟨x,z⟩=>I1.freeC x b z,I1.ok.inj,λx c e=>by
  obtain⟨o,v,ho,hd,hq⟩:=q2 x c e;refine⟨o,v,hq,hd,λi y e1 e2 e3=>?_⟩;obtain⟨m,hn,hl⟩:=I1.loc;obtain⟨u,ru,l⟩:=hl i x y e1 e2 (by rcases e3 with z|z;exact .inr (.inl z);exact .inr (.inr z));rcases l with⟨z,_⟩|⟨_,c',hc',o',ho',hd'⟩
  ·rcases e3 with y'|y'<;>(rw[z]at y';cases y')
  ·rw[e]at hc';cases hc';rw[ho]at ho';cases ho';rw[hd]at hd';cases hd';exact⟨u,ru,rfl⟩⟩
 have low:∀b,CellOf X b->X.s₀.heap.objs.size<=b:=λb ⟨x,e⟩=>I1.ok.cab x b (hfn x) e;have nfr:∀b∈frs X.stack,¬CellOf X b:=λb hb ⟨x,e⟩=>by
  rcases y02.mp (I1.stkSub b hb)with z|z
  ·exact I1.cne x b e z
  ·obtain⟨_,o,ho,_⟩:=I1.ok.funs.mem z;exact absurd (y0i (y0d ho) (low b ⟨x,e⟩)) (y1h _)
 have up:∀b u,H1 b=some u->Hq b=some u:=λb u e=>by rw[q1 b (tr b u e)];exact e
 have hokq:HOk X.prog X.w Hq s1.heap:=λb u e=>by
  by_cases hc:CellOf X b
  ·obtain⟨x,ex⟩:=hc;obtain⟨o,v,ho,hd,hq⟩:=q2 x b ex;rw[hq]at e;cases e;exact⟨ho,o,ho⟩
  ·rw[q1 b hc]at e;exact(I1.hok b u e).stay (λ_ _ _ z=>z) (λc z=>up c _ z) (λc _ _ _ _ z=>up c _ z) λc xs z=>up c _ z
 have e0:=I1.env0;have e0q:Env0 X.prog X.w X.K X.mg X.base X.A X.stack s1 Hq:=⟨e0.frames,e0.mod,λb o e=>⟨(e0.bs b o e).1,by
  rw[q1 b λhc=>absurd (y0i (y0d e) (y15 I1.ok.bsz (low b hc))) (y1h _)];exact(e0.bs b o e).2⟩,e0.bsz,e0.funs,λb hb=>by rw[q1 b (nfr b hb)];exact e0.frf b hb,hokq,e0.bare⟩
 have hl:us.length=ps.length:=by rw[←r.length];exact F.len _ _ _ _ (q Hq ad)
 refine wpAny_call (codeAny_mono (F.run X.A X.stack s1 Hq ⟨us,[]⟩ us vs _ E0 hr e0q (by have:=hb s1 us I1.kIn (by rw[y1a];exact hl);rw[y1a]at this;exact this) r (q Hq ad)) λr s' hq=>?_);cases r with
 |error e=>exact False.elim hq
 |ok fl =>
  cases fl with
  |next=>exact False.elim hq
  |brk=>exact False.elim hq
  |cont=>exact False.elim hq
  |ret u =>
   obtain⟨v,H2,os,bare,un,hok2,rv,qq⟩:=hq;have c2:∀x c,X.env.cells.lookup x=some c->∃o,s1.heap.get? c=some o/\H2 c=some (.frz o (.own c))/\s'.heap.get? c=some o:=λx c e=>by
    obtain⟨o,v,ho,hd,hq⟩:=q2 x c e;have z:=un.frzs c o _ hq;exact⟨o,ho,z,(hok2 c _ z).1⟩
   have d1:∀b,¬CellOf X b->dropX X H2 b=H2 b:=λb n=>if_neg n;have nmC:∀b o u q,CodeObj o q->H2 b=some (.frz o u)->¬CellOf X b:=λb o u q ⟨vs,t,hv,_⟩ e ⟨x,z⟩=>by
    obtain⟨o',ho',z2,_⟩:=c2 x b z;rw[z2]at e;cases e;obtain⟨v,o3,ho,hd⟩:=I1.cell x b z;rw[ho']at ho;cases ho;rw[hv]at hd;cases hd
   have nm:∀b u,H2 b=some u->(∀o a,u ≠ .frz o a)->¬CellOf X b:=λb u e n ⟨x,z⟩=>by
    obtain⟨o,_,z2,_⟩:=c2 x b z;rw[z2]at e;cases e;exact n _ _ rfl
   refine I1.after ⟨v,dropX X H2,os,bare,⟨λb o e n hf hx=>?_,λb o e n hf hx=>?_,λb o e n hx=>?_,λb o e hx=>?_,λb xs e=>?_,λb o a e=>?_,λb qs ps e=>?_⟩,λb u e=>?_,rv,qq⟩
   ·by_cases hc:CellOf X b
    ·obtain⟨x,ex⟩:=hc;obtain⟨o',ho',_,z⟩:=c2 x b ex;rw[e]at ho';cases ho';exact z
    ·exact un.keep b o e (by rw[q1 b hc];exact n) hf hx
   ·exact un.slot b o e (by rw[q1 b (nfr b hf)];exact n) hf hx
   ·by_cases hc:CellOf X b
    ·exact if_pos hc
    ·rw[d1 b hc];exact un.free b o e (by rw[q1 b hc];exact n) hx
   ·exact un.there b o e hx
   ·rw[d1 b (tr b _ e)];exact un.tups b xs (up b _ e)
   ·rw[d1 b (tr b _ e)];exact un.frzs b o a (up b _ e)
   ·rw[d1 b (tr b _ e)];exact un.tbls b qs ps (up b _ e)
   ·have hc:¬CellOf X b:=λhc=>by
     have:dropX X H2 b=none:=if_pos hc;rw[this]at e;cases e
    rw[d1 b hc]at e;exact(hok2 b u e).stay (λ_ _ _ z=>z) (λc z=>by rw[d1 c (nm c _ z λ_ _ y=>nomatch y)];exact z) (λc o a q co z=>by rw[d1 c (nmC c o a q co z)];exact z) λc xs z=>by rw[d1 c (nm c _ z λ_ _ y=>nomatch y)];exact z
theorem zfz:∀{xs:List α} {ys:List β},Paired R xs ys->xs.length=ys.length
 |_,_,.nil=>rfl
 |_,_,.cons _ t=>by rw[y0a,y0a,zfz t]
theorem zpn:∀{xs:List α} {ys:List β} {i:Nat} {x:α} {y:β},Paired R xs ys->xs[i]?=some x->ys[i]?=some y->R x y
 |_,_,_,_,_,.nil,e,_=>by simp at e
 |_,_,0,_,_,.cons r _,e1,e2=>by simp at e1 e2;subst e1 e2;exact r
 |_,_,i+1,_,_,.cons _ t,e1,e2=>zpn (i:=i) t (by simpa using e1) (by simpa using e2)
theorem zj2:∀{ps:List Str} {us:List Value},ps.Nodup->((ps.zip us).map (·.1)).Nodup
 |[],_,_=>by simp
 |_::_,[],_=>by simp
 |p::ps,u::us,h=>by
  rw[List.zip_cons_cons,y0k];refine y11.mpr ⟨λhm=>?_,zj2 (y11.mp h).2⟩;obtain⟨q,hq,e⟩:=y0l.mp hm;have e':q.1=p:=e;exact(y11.mp h).1 (e'▸(y26 (show(q.1,q.2)∈ps.zip us from hq)).1)
theorem zku:∀{l:List (Str×Value)},(l.map (·.1)).Nodup->(x,u)∈l->l.lookup x=some u
 |[],_,h=>by simp at h
 |(y,v)::l,nd,h=>by
  rw[y0k]at nd;rw[y0x];rcases y02.mp h with e|h
  ·cases e;simp
  ·have:(x==y)=false:=by
    rw[beq_eq_false_iff_ne];intro z;exact(y11.mp nd).1 (z▸y0l.mpr ⟨_,h,rfl⟩)
   rw[this];exact zku (y11.mp nd).2 h
theorem zpu{ps:List Str}{us:List Value}{i:Nat}{x:Str}{u:Value}(nd:ps.Nodup)(h1:ps[i]?=some x)(h2:us[i]?=some u):(ps.zip us).reverse.lookup x=some u:=by
 refine zku ?_ (List.mem_reverse.mpr (y0g (i:=i) (List.getElem?_zip_eq_some.mpr ⟨h1,h2⟩)));rw[List.map_reverse];exact(List.reverse_perm _).nodup_iff.mpr (zj2 nd)
def envL(qual:Str)(scope:Scope)(cl:Y4)(L f:Addr)(cd:Value):Env :=
 {scope:=scope,locals:=L,globals:=mainGlobals,cells:=cl,qual:=qual++".<locals>.",func:=some f,code:=cd,frame:=some L,builtins:=builtinsNs}
def InCl(cl:Y4)(b:Addr):Prop:=∃x,cl.lookup x=some b
open Classical in
noncomputable def dropL(cl:Y4)(H:Hp):Hp:=λb=>if InCl cl b then none else H b
open Classical in
noncomputable def mixL(cl:Y4)(H H2:Hp):Hp:=λb=>if InCl cl b then H b else H2 b
noncomputable def cxL(P:Program)(w:World)(K:Frag)(mg:Y1)(base:Heap)(N:List Str)(qual:Str)(scope:Scope)(cl:Y4)(f:Addr)(cd:Value)(A:Around)(outer:List Env)(s:Shared)(H:Hp):Cx where
 prog:=P
 w:=w
 K:=K
 mg:=mg
 base:=base
 A:=A.deeper (envL qual scope cl s.heap.objs.size f cd)
 N:=N
 s₀:=s
 H₀:=dropL cl H
 env:=envL qual scope cl s.heap.objs.size f cd
 outer:=outer
 stack:=envL qual scope cl s.heap.objs.size f cd::outer
 ex:=[]
 calm:=true
 fn:=λ_=>false
 pn:=[]
 xe:=λ_ _=>False
structure CloScope(own ps cap:List Str)(sc:Scope):Prop where
 kind:sc.kind=.function
 co:sc.isCoroutine=false
 gen:sc.isGenerator=false
 nocell:∀y∈sc.names,y.2 ≠ .cell
 pre:own.take ps.length=ps
 nd:ps.Nodup
 par:∀x∈ps,sc.names.lookup x=some .local
 cap:∀x∈cap,sc.names.lookup x=some .free
def Caps(H:Hp)(cl:Y4)(cap:List Str)(cv:List V):Prop:=Paired (λx v=>∃c o u,cl.lookup x=some c/\H c=some (.frz o (.own c))/\o.data=.cell (some u)/\RelV v u) cap cv
def stL(own:List Str)(vs cv:List V):St:=vs.map some++List.replicate (own.length-vs.length) none++cv.map some
section
variable {P:Program}{w:World}{K:Frag}{mg:Y1}{base:Heap}{A:Around}{outer:List Env}{s:Shared}{H:Hp}{own ps cap:List Str}{qual:Str}{scope:Scope}{cl:Y4}{f:Addr}{cd:Value}{vs cv:List V}{us:List Value}
theorem zcd(hcl:∀x c,cl.lookup x=some c->∃o v,H c=some (.frz o (.own c))/\o.data=.cell v)(e:H b=some u)(n:∀o a,u ≠ .frz o a):¬InCl cl b:=λ⟨x,z⟩=>by
 obtain⟨o,v,z2,_⟩:=hcl x b z;rw[z2]at e;cases e;exact n _ _ rfl
theorem zpa(hcl:∀x c,cl.lookup x=some c->∃o v,H c=some (.frz o (.own c))/\o.data=.cell v)(co:CodeObj o q)(e:H b=some (.frz o a)):¬InCl cl b:=λ⟨x,z⟩=>by
 obtain⟨o,v,z2,z3⟩:=hcl x b z;rw[z2]at e;cases e;obtain⟨vs,t,hv,_⟩:=co;rw[hv]at z3;cases z3
theorem zux(S:CloScope own ps cap scope)(hd:A.handled=none)(e0:Env0 P w K mg base A outer s H)(hl:vs.length=ps.length)(hlo:ps.length<=own.length)(r:Vals vs us)
  (hcl:∀x c,cl.lookup x=some c->∃o v,H c=some (.frz o (.own c))/\o.data=.cell v) (hfr:∀p∈scope.names,p.2=.free->∃c,cl.lookup p.1=some c) (inj:∀x y c,cl.lookup x=some c->cl.lookup y=some c->x=y) (hcap:Caps H cl cap cv)
  (hns:h1.Ns s.heap.objs.size (λx=>(ps.zip us).reverse.lookup x)) (hk:∀b o,s.heap.get? b=some o->h1.get? b=some o) :
  Inv (cxL P w K mg base (own++cap) qual scope cl f cd A outer s H) [] (stL own vs cv) (dropL cl H) {s with heap:=h1,toks:=tk}:=by
 classical
 have d1:∀b,¬InCl cl b->dropL cl H b=H b:=λb n=>if_neg n;have dn:∀b,H b=none->dropL cl H b=none:=λb e=>by
  by_cases hc:InCl cl b
  ·exact if_pos hc
  ·rw[d1 b hc];exact e
 have noA:∀b:Addr,b∉(cxL P w K mg base (own++cap) qual scope cl f cd A outer s H).ex:=λb z=>absurd (show b∈([]:List Addr)from z) (by simp);have at':∀x c,cl.lookup x=some c->∃o v,s.heap.get? c=some o/\o.data=.cell v:=λx c e=>by
  obtain⟨o,v,z,zd⟩:=hcl x c e;exact⟨o,v,(e0.hok c _ z).1,zd⟩
 have hok0:HOk P w (dropL cl H) s.heap:=λb u e=>by
  have hc:¬InCl cl b:=λhc=>by
   have:dropL cl H b=none:=if_pos hc;rw[this]at e;cases e
  rw[d1 b hc]at e;exact(e0.hok b u e).stay (λ_ _ _ z=>z) (λc z=>by rw[d1 c (zcd hcl z λ_ _ y=>nomatch y)];exact z) (λc o a q co z=>by rw[d1 c (zpa hcl co z)];exact z) λc xs z=>by rw[d1 c (zcd hcl z λ_ _ y=>nomatch y)];exact z
 refine⟨⟨e0.mod,S.kind,rfl,rfl,y04 _,inj,λx hx=>?_,λx c hx=>(by cases hx),λ_=>hd,Around.frames_deeper e0.frames,.inr ⟨rfl,rfl⟩,λb z=>absurd z (noA b),λb o e=>⟨(e0.bs b o e).1,dn b (e0.bs b o e).2⟩,e0.bsz,λb _ _=>noA b,λb z=>absurd z (noA b),e0.funs,λb hb=>dn b (e0.frf b hb)⟩,
  rfl,e0.bare,Un.kept hk,⟨_,hns,λi x v e1 e2 e3=>?_⟩,λx c e=>?_,hok0.fresh (y04 _),λx c e=>if_pos ⟨x,e⟩,λp hp=>absurd (show p∈([]:Y2)from hp) (by simp),hok0.kept hk,?_⟩
 ·have hx:scope.names.lookup x=some .cell\/scope.names.lookup x=some .free:=hx;rcases hx with z|z
  ·exact absurd rfl (S.nocell _ (mem_of_lookup' z))
  ·exact hfr (x,.free) (mem_of_lookup' z) rfl
 ·have e1':(own++cap)[i]?=some x:=e1;have e2':(vs.map some++List.replicate (own.length-vs.length) none++cv.map some)[i]?=some (some v):=e2;have lo:(vs.map some++List.replicate (own.length-vs.length) (none:Option V)).length=own.length:=by rw[y06,y00,y1u];omega
  by_cases hi:i<own.length
  ·rw[y0u (by omega)]at e2';by_cases hv:i<vs.length
   ·rw[y0u (by simpa using hv),y0w]at e2';rw[y0u hi]at e1';have ha:vs[i]?=some v:=by
     cases q:vs[i]? with
     |none=>rw[q]at e2';cases e2'
     |some z=>rw[q]at e2';exact congrArg some (Option.some.inj (Option.some.inj e2'))
    obtain⟨u,hu,ru⟩:=r.get ha;have hp:ps[i]?=some x:=by rw[←S.pre,y2p (by omega)];exact e1'
    refine⟨u,ru,.inl ⟨S.par x (y0g hp),?_⟩⟩;exact zpu S.nd hp hu
   ·rw[y0o (by simpa using y2u hv),y27]at e2';split at e2'<;>cases e2'
  ·rw[y0o (by omega),lo,y0w]at e2';rw[y0o (by omega)]at e1';have ha:cv[i-own.length]?=some v:=by
    cases q:cv[i-own.length]? with
    |none=>rw[q]at e2';cases e2'
    |some z=>rw[q]at e2';exact congrArg some (Option.some.inj (Option.some.inj e2'))
   obtain⟨c,o,u,hc,hz,hd',ru⟩:=zpn hcap e1' ha;exact⟨u,ru,.inr ⟨.inr (S.cap x (y0g e1')),c,hc,o,hk c o (e0.hok c _ hz).1,hd'⟩⟩
 ·obtain⟨o,v,ho,hd'⟩:=at' x c e;exact⟨v,o,hk c o ho,hd'⟩
 ·have:=zfz hcap;show(vs.map some++List.replicate (own.length-vs.length) none++cv.map some).length=(own++cap).length;rw[y06,y06,y00,y1u,y00,y06];omega
theorem zpk{N:List Str}{pins:Y2}{σ':St}{H2:Hp}{s':Shared}{v:V}{u:Value}{Q:VK}(e0:Env0 P w K mg base A outer s H)(hcl:∀x c,cl.lookup x=some c->∃o v,H c=some (.frz o (.own c))/\o.data=.cell v)
  (J:Inv (cxL P w K mg base N qual scope cl f cd A outer s H) pins σ' H2 s') (rv:RelV v u) (q:(∀b,InCl cl b->H2 b=none)->Q v (mixL cl H H2)):CE outer P w H s Q u s':=by
 classical
 have d1:∀b,¬InCl cl b->dropL cl H b=H b:=λb n=>if_neg n;have m1:∀b,¬InCl cl b->mixL cl H H2 b=H2 b:=λb n=>if_neg n;have nc:∀b,H b=none->¬InCl cl b:=λb e ⟨x,z⟩=>by
  obtain⟨o,v,z2,_⟩:=hcl x b z;rw[z2]at e;cases e
 have un:Un (frs outer) [] (dropL cl H) H2 s.heap s'.heap:=J.base;have cellK:∀x c,cl.lookup x=some c->∃o,H c=some (.frz o (.own c))/\s'.heap.get? c=some o/\H2 c=none:=λx c e=>by
  obtain⟨o,v,z,_⟩:=hcl x c e;have ho:=(e0.hok c _ z).1;have dz:dropL cl H c=none:=if_pos ⟨x,e⟩;have nf:c∉frs outer:=λhb=>by rw[e0.frf c hb]at z;cases z
  exact⟨o,z,un.keep c o ho dz nf (by simp),un.free c o ho dz (by simp)⟩
 have nm:∀b u,H2 b=some u->¬InCl cl b:=λb u e ⟨x,z⟩=>by
  obtain⟨_,_,_,z2⟩:=cellK x b z;rw[z2]at e;cases e
 refine⟨v,mixL cl H H2,J.os,J.bare,⟨λb o e n hf hx=>un.keep b o e (by rw[d1 b (nc b n)];exact n) hf hx,λb o e n hf hx=>un.slot b o e (by rw[d1 b (nc b n)];exact n) hf hx,λb o e n hx=>by rw[m1 b (nc b n)];exact un.free b o e (by rw[d1 b (nc b n)];exact n) hx,un.there,λb xs e=>?_,λb o a e=>?_,λb qs ps e=>?_⟩,λb u e=>?_,rv,q λb ⟨x,z⟩=>let⟨_,_,_,z2⟩:=cellK x b z;z2⟩
 ·have hc:=zcd hcl e λ_ _ y=>nomatch y;rw[m1 b hc];exact un.tups b xs (by rw[d1 b hc];exact e)
 ·by_cases hc:InCl cl b
  ·show(if InCl cl b then H b else H2 b)=_;rw[if_pos hc];exact e
  ·rw[m1 b hc];exact un.frzs b o a (by rw[d1 b hc];exact e)
 ·have hc:=zcd hcl e λ_ _ y=>nomatch y;rw[m1 b hc];exact un.tbls b qs ps (by rw[d1 b hc];exact e)
 ·by_cases hc:InCl cl b
  ·have e':H b=some u:=by rw[←e];exact(if_pos hc).symm
   obtain⟨x,z⟩:=hc;obtain⟨o,z1,z2,_⟩:=cellK x b z;rw[z1]at e';cases e';exact⟨z2,o,z2⟩
  ·rw[m1 b hc]at e;exact(J.hok b u e).stay (λ_ _ _ z=>z) (λc z=>by rw[m1 c (nm c _ z)];exact z) (λc _ _ _ _ z=>by rw[m1 c (nm c _ z)];exact z) λc xs z=>by rw[m1 c (nm c _ z)];exact z
end
section
variable {P:Program}{w:World}{K:Frag}{mg:Y1}{base:Heap}{H:Hp}{own ps cap:List Str}{name qual:Str}{params:Arguments}{scope:Scope}{cl:Y4}{f c':Addr}{oc:Obj}{ct pm:Value}{cv:List V}{k:Nat}{sp:Sp}
theorem Caps.frz(g:Frz H H'):∀{cap:List Str} {cv:List V},Caps H cl cap cv->Caps H' cl cap cv
 |_,_,.nil=>.nil
 |_,_,.cons ⟨c,o,u,e1,e2,e3⟩ t=>.cons ⟨c,o,u,e1,g _ _ _ e2,e3⟩ (Caps.frz g t)
theorem zpj(S:CloScope own ps cap scope)(hlo:ps.length<=own.length)(hf:H f=some (fnO (cloFd name qual params (.stmts body) scope cl ct (.ref c') pm) f))(hcode:H c'=some (.frz oc (.own c')))(co:CodeObj oc qual)
  (hcl:∀x c,cl.lookup x=some c->∃o v,H c=some (.frz o (.own c))/\o.data=.cell v) (hfr:∀p∈scope.names,p.2=.free->∃c,cl.lookup p.1=some c) (inj:∀x y c,cl.lookup x=some c->cl.lookup y=some c->x=y) (hcap:Caps H cl cap cv)
  (hbind:∀us:List Value,us.length=ps.length->bindArgs (cloFd name qual params (.stmts body) scope cl ct (.ref c') pm) ⟨us,[]⟩=pure (ps.zip us))
  (hbody:∀(A:Around) (outer:List Env) (s:Shared) (H':Hp) (vs:List V) (Q:VK),Room k (A.deeper (envL qual scope cl s.heap.objs.size f (.ref c')))->Frz H H'->vs.length=ps.length->sp vs H' Q E0->
   ∃t,PSs (cxL P w K mg base (own++cap) qual scope cl f (.ref c') A outer s H') body t/\t {nx:=λ_ H2=>(∀b,InCl cl b->H2 b=none)->Q .non (mixL cl H' H2),rt:=λv H2=>(∀b,InCl cl b->H2 b=none)->Q v (mixL cl H' H2)} (stL own vs cv) (dropL cl H')):CloH P w K mg base (k+1) H f ps.length sp:=by
 intro A outer s H' us vs Q hr e0 fz r hl hsp;have KX:K.In s.heap:=e0.mod.kin.keeps λb o e=>(e0.bs b o e).1;have lim:s.heap.NoLimit:=e0.mod.nolimit.keeps λb o e=>(e0.bs b o e).1;have ho:=(e0.hok f _ (fz _ _ _ hf)).1;have hoc:=(e0.hok c' _ (fz _ _ _ hcode)).1;obtain⟨ws,t',cd1,cd2⟩:=co;have hlu:us.length=ps.length:=by rw[←r.length];exact hl
 have hcl':∀x c,cl.lookup x=some c->∃o v,H' c=some (.frz o (.own c))/\o.data=.cell v:=λx c e=>let⟨o,v,z,d⟩:=hcl x c e;⟨o,v,fz _ _ _ z,d⟩;refine codeAny_call_function hr.depth ho rfl S.co S.gen rfl ⟨c',oc,ws,t',rfl,hoc,cd1,cd2⟩ ?_;rw[hbind us hlu];refine wpAny_pure (wpAny_newFunctionEnv S.nocell (λy hy=>S.par y.1 (y26 (show(y.1,y.2)∈ps.zip us from hy)).1) (λh1 hns hsb=>?_) S.kind);have hk:∀b o,s.heap.get? b=some o->h1.get? b=some o:=λb o e=>hsb.extBut b o (y0h (y0d e)) (y01 _ e);refine⟨lim.keeps hk,codeAny_func ?_⟩;obtain⟨t,ht,hq⟩:=hbody A outer s H' vs Q (hr.deeper _) fz hl hsp;have I:=zux (qual:=qual) (f:=f) (cd:=.ref c') (tk:=s.toks+(ps.zip us).length) S hr.hd e0 hl hlo r hcl' hfr inj (hcap.frz fz) hns hk;refine wpAny_mono (ht [] _ _ _ _ I hq) (λfl s' hs=>?_) λ_ _ z=>z.elim;cases fl with
 |ret u =>
  obtain⟨v,σ',H2,J,rv,q⟩:=hs;exact zpk e0 hcl' J rv q
 |next =>
  obtain⟨σ',H2,J,q⟩:=hs;exact zpk (v:=V.non) (u:=Value.none) e0 hcl' J rfl q
 |brk =>
  obtain⟨_,_,_,q⟩:=hs;exact False.elim q
 |cont =>
  obtain⟨_,_,_,q⟩:=hs;exact False.elim q
end
structure FunC(K:Frag)(x:Str)(st:Stmt)(f:Addr)(fd:FuncData)(c:Addr):Prop where
 ex:∃(oc:Value) (od:Option Addr) (kV doc pm:Value) (an:Option Addr) (ct:Value) (osl:Y8),
  fd=PySem.W.fnOf x x (defArgs st) (defBody st) (defScope st) .none kV doc pm an (.ref c) ct/\K.lookup f=some ⟨oc,od,.func fd,osl⟩/\PySem.W.codeIn K (.ref c) x=true
 kp:PySem.W.keepIn K (.ref f)=true
structure DfnC(K:Frag)(mg:Y1)(x:Str)(st:Stmt)(ps:List Str)(c P:Addr):Prop where
 ex:∃f fd,FunC K x st f fd c/\Binds K fd ps []/\mg x=some (.ref f)
 code:KCode K c P
theorem kcode_mk{K:Frag}(l:K.lookup c=some ⟨.type "code",od,.fields vs,sl⟩)
  (e11:vs[11]?=some (.ref P)) (e18:vs[18]?=some (.str file tf)) (e7:vs[7]?=some (.int flags tg)) (e9:vs[9]?=some (.bool inF)) (e10:vs[10]?=some (.int text tt)) (ne:c≠P):KCode K c P:=by
 have g:∀{i:Nat} {v:Value},vs[i]?=some v->vs.getD i .none=v:=λ{i v} e=>by rw[Array.getD_eq_getD_getElem?,e];rfl
 exact⟨_,vs,file,tf,flags,tg,inF,text,tt,l,rfl,rfl,e11,g e11,g e18,g e7,g e9,g e10,ne⟩
theorem dfnc_mk{K:Frag}{h:Heap}{mg:Y1}{x:Str}{st:Stmt}{ps:List Str}{f c P:Addr}{oc:Value}{od an:Option Addr}{osl:Y8}{kV doc pm ct:Value}(X:K.In h)(G:h.Ns mainGlobals mg)
  (a:PySem.W.nsIn K mainGlobals x=some (some (.ref f))) (l:K.lookup f=some ⟨oc,od,.func (PySem.W.fnOf x x (defArgs st) (defBody st) (defScope st) .none kV doc pm an (.ref c) ct),osl⟩)
  (cd:PySem.W.codeIn K (.ref c) x=true) (k:PySem.W.keepIn K (.ref f)=true) (kc:KCode K c P)
  (hb:∀(kV doc pm:Value) (an:Option Addr) (cdv ct:Value) (us:List Value),us.length=ps.length->bindArgs (PySem.W.fnOf x x (defArgs st) (defBody st) (defScope st) .none kV doc pm an cdv ct) ⟨us,[]⟩=pure (ps.zip us)):DfnC K mg x st ps c P :=
 ⟨⟨f,_,⟨⟨oc,od,kV,doc,pm,an,ct,osl,rfl,l,cd⟩,k⟩,(zd8 l cd k).binds hb,PySem.W.mg_of X G a⟩,kc⟩
section
variable {P:Program}{w:World}{K:Frag}{mg:Y1}{base:Heap}
theorem DfnC.cal{x:Str}{st:Stmt}{N ps:List Str}{k:Nat}{sp:Sp}{c Pt:Addr}(d:DfnC K mg x st ps c Pt)(S:FnScope N ps (defScope st))(len:∀vs H Q E,sp vs H Q E->vs.length=ps.length)
  (hbody:∀(f:Addr) (A:Around) (outer:List Env) (s:Shared) (H:Hp) (vs:List V) (Q:VK) (E:XK),Room k (A.deeper (envOfC x (defScope st) s.heap.objs.size f (.ref c)))->sp vs H Q E->
   ∃t,PSs (cxOf CX0 P w K mg base N x (defScope st) f (.ref c) A outer s H E).nox (defBody st) t/\t {nx:=λ_ H'=>Q .non H',rt:=Q} (start N vs) H):Cal P w K mg base (k+1) x ps sp:=by
 obtain⟨f,fd,F,b,m⟩:=d.ex;obtain⟨oc,od,kV,doc,pm,an,ct,osl,rfl,lk,hcd⟩:=F.ex;refine⟨f,_,zu2 lk hcd S len λA outer s H vs Q E hr hsp=>?_,b,F.kp,m⟩;obtain⟨t,h,q⟩:=hbody f A outer s H vs Q E hr hsp;exact⟨t,h.nox,q⟩
end
def TabFor(q:Program)(K:Frag)(mg:Y1)(b:Addr):Prop:=∃d∈recsOf q,∃f oc od fd osl c,mg d.name=some (.ref f)/\K.lookup f=some ⟨oc,od,.func fd,osl⟩/\fd.code=.ref c/\KCode K c b
theorem DfnC.tab{q:Program}{K:Frag}{mg:Y1}{x:Str}{st:Stmt}{ps:List Str}{c b:Addr}(d:DfnC K mg x st ps c b)(hx:((recsOf q).any λr=>r.name==x)=true):TabFor q K mg b:=by
 obtain⟨r,hr,e⟩:=y23.mp hx;obtain⟨f,fd,F,_,m⟩:=d.ex;obtain⟨oc,od,kV,doc,pm,an,ct,osl,rfl,lk,hcd⟩:=F.ex;exact⟨r,hr,f,oc,od,_,osl,c,by rw[beq_iff_eq.mp e];exact m,lk,rfl,d.code⟩
def TabsOf(q:Program)(mg:Y1)(h:Heap):Prop:=∀d∈recsOf q,∃a o fd c P,mg d.name=some (.ref a)/\h.get? a=some o/\o.data=.func fd/\fd.code=.ref c/\h.IsCode c P #[]/\h.TableAt c P #[]
theorem TabFor.at{K:Frag}{h:Heap}(t:TabFor q K mg b)(X:K.In h)(T:TabsOf q mg h):∃c,h.TableAt c b #[]:=by
 obtain⟨d,hd,f,oc,od,fd,osl,c,m,lk,ec,kc⟩:=t;obtain⟨a,o,fd',c',P',m',ho,hf,hc,_,ta⟩:=T d hd;rw[m]at m';cases m';rw[X f _ lk]at ho;cases ho;cases hf;rw[ec]at hc;cases hc;obtain⟨o,vs,_,_,_,_,_,_,_,lk',_,hd',h11,_⟩:=kc;obtain⟨⟨o2,vs2,e1,e2,e3,e4⟩,e5⟩:=id ta;rw[X c o lk']at e1;cases e1;rw[hd']at e3;cases e3;rw[h11]at e4;cases e4;exact⟨c,ta⟩
def OnlyT(ts:List (Addr×List (Pos×Str)))(H:Hp):Prop:=(∀b,H b=none\/(∃o xs,H b=some (.frz o (.lst xs)))\/∃qs,ts.lookup b=some qs/\H b=some (.tbl qs #[]))/\∀b qs,ts.lookup b=some qs->H b=some (.tbl qs #[])
theorem OnlyT.tab(h:OnlyT ts H)(e:ts.lookup b=some qs):TabOk H b qs:=⟨#[],h.2 b qs e⟩
theorem zon{K:Frag}{s₁:Shared}{vs:List Value}{ns:List Int}{ts:List (Addr×List (Pos×Str))}
  (KX:K.In s₁.heap) (hns:s₁.heap.Ns mainGlobals mg) (hb:s₁.heap.Ns builtinsNs mb) (hbb:∀x:Str,x≠"__name__"->mb x=bootBuiltins x) (hlim:s₁.heap.NoLimit) (hg:s₁.gens=#[])
  (ha:s₁.heap.get? a=some {cls:=.type "list",data:=.seq vs.toArray}) (hi:IntsAre vs ns) (hl:ns.length<=sizeLine) (hr:Room k callerA)
  (hbm:BltK s₁.heap mg) (hts:∀b qs,ts.lookup b=some qs->∃c,s₁.heap.TableAt c b #[]) (hKt:∀b qs,ts.lookup b=some qs->K.lookup b=none)
  (F:∀base:Heap,K.In base->base.Ns mainGlobals mg->BltK base mg->FnOk P w K mg base CX k fa fd [x] sp) (hbind:∀(s:Shared) (u:Value),BindsTo s fd ⟨[u],[]⟩ [(x,u)])
  (hsp:∀H:Hp,OnlyT ts H->SqL K H a (ns.map V.int)->sp [.ref a] H (λv _=>v=.bl true) λ_ _ _=>False)
  (hCX:∀H e s',CX [] H s₁ (λ_ _ _=>False) e s'->False) :
  codeAny (model P w) callerA (.call (.ref fa) ⟨[.ref a],[]⟩) (λr s'=>r=.ok (.ret (.bool true))/\OldK s₁.heap s'.heap/\s'.os=s₁.os/\AllBare s'.gens) s₁:=by
 have rv:=zhi hi;have lenV:=hi.length;have core:∀H:Hp,OnlyT ts H->SqL K H a (ns.map V.int)->HOk P w H s₁.heap->(∀b,H b≠none->b=a\/∃qs,ts.lookup b=some qs)->(H a≠none->K.lookup a=none)->
   codeAny (model P w) callerA (.call (.ref fa) ⟨[.ref a],[]⟩) (λr s'=>r=.ok (.ret (.bool true))/\OldK s₁.heap s'.heap/\s'.os=s₁.os/\AllBare s'.gens) s₁:=by
  intro H hO hS hok hA hK;have base_of:∀{b:Addr} {o:Obj},s₁.heap.get? b=some o->H b=none->(hidT s₁.heap H).get? b=some o:=λe n=>zrk e n;have noT:∀{b:Addr} {o:Obj},s₁.heap.get? b=some o->(∀q n,o.data ≠ .seq q n)->(∀ps,o.data ≠ .fields ps\/o.cls ≠ .none)->H b=none:=λ{b o} e n1 n2=>by
   cases q:H b with
   |none=>rfl
   |some u =>
    rcases hA b (by rw[q];simp)with e'|⟨qs,e'⟩
    ·subst e';rw[ha]at e;cases e;exact absurd rfl (n1 _ _)
    ·obtain⟨c,_,e5⟩:=hts b qs e';rw[e5]at e;cases e;rcases n2 #[]with z|z
     ·exact absurd rfl z
     ·exact absurd rfl z
  have noA:∀{b:Addr} {o:Obj} {es:Array DictEntry} {ep:Nat},s₁.heap.get? b=some o->o.data=.dict es ep->H b=none:=λ{b o es ep} e d=>noT e (λq n z=>by rw[d]at z;cases z) λps=>.inl λz=>by rw[d]at z;cases z
  have nsK:∀{b:Addr} {m:Y1},s₁.heap.Ns b m->(hidT s₁.heap H).Ns b m:=λ{b m} ⟨o,es,ep,e,d,r⟩=>⟨o,es,ep,base_of e (noA e d),d,r⟩;have hKb:K.In (hidT s₁.heap H):=λb o e=>base_of (KX b o e) (by
   cases q:H b with
   |none=>rfl
   |some u =>
    rcases hA b (by rw[q];simp)with e'|⟨qs,e'⟩
    ·subst e';rw[hK (by rw[q];simp)]at e;cases e
    ·rw[hKt b qs e']at e;cases e)
  have hBb:BltK (hidT s₁.heap H) mg:=by
   obtain⟨bm,o,b1,b2,b3,b4,b5,b6⟩:=hbm;exact⟨bm,o,b1,b2,base_of b3 (noT b3 (λq n z=>by rw[b6]at z;cases z) λps=>.inl λz=>by rw[b6]at z;cases z),b4,b5,b6⟩
  have hM:Mod K mg (hidT s₁.heap H):=⟨hKb,nsK hns,⟨mb,nsK hb,hbb⟩,let⟨mc,h1,h2⟩:=hlim;⟨mc,nsK h1,h2⟩⟩;have e0:Env0 P w K mg (hidT s₁.heap H) callerA [] s₁ H:=⟨rfl,hM,λb o e=>zum e,y3c (zow _ _),trivial,λb hb=>absurd (show b∈([]:List Addr)from hb) (by simp),hok,.of_eq hg⟩;refine codeAny_mono ((F _ hKb (nsK hns) hBb).run callerA [] s₁ H ⟨[.ref a],[]⟩ [.ref a] [.ref a] _ _ hr e0 (hbind s₁ (.ref a)) (.cons rfl .nil) (hsp H hO hS)) λr s' h=>?_;cases r with
  |error e=>exact(hCX H e s' h).elim
  |ok fl =>
   cases fl with
   |next=>exact False.elim h
   |brk=>exact False.elim h
   |cont=>exact False.elim h
   |ret u =>
    obtain⟨v,H',os,bare,un,hok',r',q⟩:=h;have q':v=.bl true:=q;subst q';obtain rfl:u=Value.bool true:=r';have was:∀b o,s₁.heap.get? b=some o->asItWas s₁.heap s'.heap b o:=λb o e=>by
     rcases hO.1 b with z|⟨ob,xs,z⟩|⟨qs,l,z⟩
     ·exact .inl (un.keep b o e z (by intro z;exact absurd (show b∈([]:List Addr)from z) (by simp)) (by simp))
     ·have z2:=un.frzs b ob _ z;obtain⟨e1,_⟩:=hok b _ z;obtain⟨e2,_⟩:=hok' b _ z2;rw[e]at e1;cases e1;exact .inl e2
     ·have z2:=un.tbls b qs _ z;obtain⟨more,e2,_⟩:=hok' b _ z2;obtain⟨c,ta⟩:=hts b qs l;have e5:=ta.2;rw[e5]at e;cases e;exact .inr (.inl ⟨ta.isCodeTable,rfl,#[],more,rfl,e2⟩)
    exact⟨rfl,⟨was,λb o e=>un.there b o e (by simp)⟩,os,bare⟩
 have neA:∀qs,ts.lookup a=some qs->False:=λqs e=>by
  obtain⟨c,_,e5⟩:=hts a qs e;rw[e5]at ha;cases ha
 have tabOk:∀(H:Hp) b qs,ts.lookup b=some qs->ObjOk P w H s₁.heap b (.tbl qs #[]):=λH b qs e=>by
  obtain⟨c,_,e5⟩:=hts b qs e;exact⟨#[],by simpa using e5,trivial,λp hp v z=>by simp[codeAmong]at z⟩
 let HT:Hp:=λb=>(ts.lookup b).map λqs=>.tbl qs #[];have hT1:∀b qs,ts.lookup b=some qs->HT b=some (.tbl qs #[]):=λb qs e=>by show(ts.lookup b).map _=_;rw[e];rfl
 have hT2:∀b,ts.lookup b=none->HT b=none:=λb e=>by show(ts.lookup b).map _=_;rw[e];rfl
 cases hk:K.lookup a with
 |some o =>
  have e:=KX a o hk;rw[ha]at e;cases e;refine core HT ⟨λb=>?_,hT1⟩ (.inr ⟨_,vs.toArray,_,hk,rfl,rfl,rfl,by rw[y03,lenV];exact hl,by simpa using rv⟩) (λb u z=>?_) (λb z=>?_) λz=>?_
  ·cases e:ts.lookup b with
   |none=>exact .inl (hT2 b e)
   |some qs=>exact .inr (.inr ⟨qs,rfl,hT1 b qs e⟩)
  ·cases e:ts.lookup b with
   |none=>rw[hT2 b e]at z;cases z
   |some qs=>rw[hT1 b qs e]at z;cases z;exact tabOk _ b qs e
  ·cases e:ts.lookup b with
   |none=>exact absurd (hT2 b e) z
   |some qs=>exact .inr ⟨qs,rfl⟩
  ·cases e:ts.lookup a with
   |none=>exact absurd (hT2 a e) z
   |some qs=>exact(neA qs e).elim
 |none =>
  let H1:Hp:=λb=>if b=a then some (.frz {cls:=.type "list",data:=.seq vs.toArray} (.lst (ns.map V.int)))else HT b
  have h1a:H1 a=some (.frz {cls:=.type "list",data:=.seq vs.toArray} (.lst (ns.map V.int))):=if_pos rfl;have h1b:∀b,b≠a->H1 b=HT b:=λb e=>if_neg e;refine core H1 ⟨λb=>?_,λb qs e=>?_⟩ (.inl (.inr ⟨{cls:=.type "list",data:=.seq vs.toArray},h1a⟩)) (λb u z=>?_) (λb z=>?_) λ_=>hk
  ·by_cases hb:b=a
   ·subst hb;exact .inr (.inl ⟨_,_,h1a⟩)
   ·rw[h1b b hb];cases e:ts.lookup b with
    |none=>exact .inl (hT2 b e)
    |some qs=>exact .inr (.inr ⟨qs,rfl,hT1 b qs e⟩)
  ·rw[h1b b λz=>neA qs (z▸e)];exact hT1 b qs e
  ·by_cases hb:b=a
   ·subst hb;rw[h1a]at z;cases z;exact⟨ha,by rw[y00];exact hl,vs,_,rv,ha⟩
   ·rw[h1b b hb]at z;cases e:ts.lookup b with
    |none=>rw[hT2 b e]at z;cases z
    |some qs=>rw[hT1 b qs e]at z;cases z;exact tabOk _ b qs e
  ·by_cases hb:b=a
   ·exact .inl hb
   ·rw[h1b b hb]at z;cases e:ts.lookup b with
    |none=>exact absurd (hT2 b e) z
    |some qs=>exact .inr ⟨qs,rfl⟩
theorem walk_ofT{l:PySem.W.OpenLaw}{n k:Nat}{q:Program}{loose:List Str}{XP:(Str->Option Value)->Heap->Prop}{YP:World->Heap->Prop}{d:DefRec}{K:Params->Frag}{CX:CXT}{sp:Frag->List (Addr×List (Pos×Str))->Sp}{x:Str}
  (hn:l.most=some n) (hn2:n<=sizeLine) (hdf:d.params.defaults=[]) (hr:Room k callerA)
  (hY:∀(w:World) (h:Heap),YP w h->(K w.params).In h)
  (F:∀(w:World) (mg:Y1) (fa:Addr) (h:Heap),(K w.params).In h->h.Ns mainGlobals mg->mg d.name=some (.ref fa)->
   ∃(fd:FuncData) (ts:List (Addr×List (Pos×Str))),(∀(s:Shared) (u:Value),BindsTo s fd ⟨[u],[]⟩ [(x,u)])/\(∀b qs,ts.lookup b=some qs->TabFor q (K w.params) mg b/\(K w.params).lookup b=none)/\
    ∀base:Heap,(K w.params).In base->base.Ns mainGlobals mg->BltK base mg->FnOk l.prog w (K w.params) mg base CX k fa fd [x] (sp (K w.params) ts))
  (hsp:∀(K:Frag) (ts:List (Addr×List (Pos×Str))) (H:Hp) (a:Addr) (ns:List Int),ns.length<=n->OnlyT ts H->SqL K H a (ns.map V.int)->sp K ts [.ref a] H (λv _=>v=.bl true) λ_ _ _=>False)
  (hCX:∀(H:Hp) (s:Shared) (e:Value) (s':Shared),CX [] H s (λ_ _ _=>False) e s'->False) :
  PySem.W.WalkO q loose XP YP l.row.toRowW d [] (λf vs=>PySem.call f vs):=by
 refine Att.attach_call hn hdf λw s₀ s₁ mg mb fa o pm cd doc a vs ns G Y ho hd hcd hmg hobj hints hlen hg=>?_;have KX:=hY w _ Y;obtain⟨fd,ts,hb,ht,hF⟩:=F w mg fa _ KX G.T.g hmg;exact zon KX G.T.g G.T.b G.T.builtins G.T.nolimit hg hobj hints (y15 hlen hn2) hr G.T.bmain (λb qs e=>(ht b qs e).1.at KX G.T.tab) (λb qs e=>(ht b qs e).2) hF hb (λH hO hS=>hsp (K w.params) ts H a ns hlen hO hS) λH e s'=>hCX H s₁ e s'
theorem zsl:∀{ts:List (Addr×List (Pos×Str))} {b:Addr} {qs:Y3},ts.lookup b=some qs->(b,qs)∈ts
 |[],_,_,e=>by simp at e
 |(a,q)::ts,b,qs,e=>by
  rw[y0x]at e;split at e
  ·rename_i z;cases e;rw[show b=a from beq_iff_eq.mp z];exact y0c
  ·exact y09 _ (zsl e)
theorem ts_all{ts:List (Addr×List (Pos×Str))}{R:Addr->Prop}(h:∀p∈ts,R p.1):∀b qs,ts.lookup b=some qs->R b:=λb qs e=>h (b,qs) (zsl e)
theorem znp{X:Cx}{n k:Nat}{x:Str}{ps:List Str}{sp:Sp}{p pos:Pos}{e:Expr}{es:List Expr}{t:TA}(C:Cal X.prog X.w X.K X.mg X.base n x ps sp)(hr:Room k X.A)(hle:n<=k)(hg:Gl X x)(hfn:∀x,X.fn x=true)(ha:PA X (e::es) t)(hdb:(x==("__debug__":Str))=false:=by decide)
  (h1:notStar e=true:=by rfl) (h2:es.all notStar=true:=by rfl):PE X (.Call (.Name x p) (e::es) [] pos) (tCallA X sp t):=by
 obtain⟨f,fd,F,b,kp,m⟩:=C.ex;exact zqu F (hr.mono hle) hg m kp b hfn ha hdb (za7 h1) (zbl h2)
theorem znm{X:Cx}{x:Str}(i k n:Nat)(sp:Sp){m:Nat}{p pos:Pos}{e:Expr}{es:List Expr}{t:TA}(hr:Room m X.A)(hle:k<=m)(ha:PA X (e::es) t)(hN:X.N[i]?=some x:=by rfl)(hv:Vis X.env.scope x:=by first|exact Or.inl rfl|exact Or.inr (Or.inl rfl)|exact Or.inr (Or.inr rfl))
  (hd:(x==("__debug__":Str))=false:=by decide) (hcd:(x==("__classdict__":Str))=false:=by decide) (h1:notStar e=true:=by rfl) (h2:es.all notStar=true:=by rfl) :
  PE X (.Call (.Name x p) (e::es) [] pos) (tCallV X.prog X.w X.K X.mg X.base k n sp i t):=zqr hN hv (hr.mono hle) ha hd hcd (za7 h1) (zbl h2)
def freeOk(env:Env)(sc:Scope):Bool:=sc.names.all λp=>p.2 !=.free||(env.kindOf p.1==some .cell||env.kindOf p.1==some .free)
theorem freeOk.of(h:freeOk env sc=true):∀p∈sc.names,p.2=.free->env.kindOf p.1=some .cell\/env.kindOf p.1=some .free:=λp hp e=>by
 have q:=y0q.mp h p hp;rw[e]at q;simpa using q
def oneOk(qs:Y3)(pos:Pos)(qual:Str):Bool:=qs.any (λp=>p.1.line==pos.line&&p.1.col==pos.col&&p.1.endLine==pos.endLine&&p.1.endCol==pos.endCol&&p.2==qual)&&qs.all λp=>p.1.line !=pos.line||p.1.col !=pos.col||p.2==qual
theorem oneOk.one(h:oneOk qs pos qual=true):∀p∈qs,p.1.line=pos.line->p.1.col=pos.col->p.2=qual:=λp hp e1 e2=>by
 have q:=y0q.mp (y05 _ _▸h:_/\_).2 p hp;rw[e1,e2]at q;simpa using q
theorem oneOk.mem(h:oneOk qs pos qual=true):(pos,qual)∈qs:=by
 obtain⟨p,hp,e⟩:=y23.mp (y05 _ _▸h:_/\_).1;simp only[y05,beq_iff_eq]at e;obtain⟨⟨⟨⟨e1,e2⟩,e3⟩,e4⟩,e5⟩:=e;have:p=(pos,qual):=by
  obtain⟨⟨a,b,c,d⟩,z⟩:=p;obtain⟨a',b',c',d'⟩:=pos;simp only at e1 e2 e3 e4 e5;subst e1 e2 e3 e4 e5;rfl
 rw[←this];exact hp
section
variable {X:Cx}{c P:Addr}{qs:Y3}{pos:Pos}{params:Arguments}{scope:Scope}
theorem zv4(qual:Str)(hc:X.env.code=.ref c)(kc:KCode X.K c P)(kb:BltK X.base X.mg)(hfr:freeOk X.env scope=true)(hq:oneOk qs pos qual=true)(hN:X.N.Nodup)(hj:X.N[j]?=some name)(hx:X.env.scope.names.lookup name=some .local)(nd:docOf body=none:=by rfl)
  (hd:params.defaults=[]:=by rfl) (hk:params.kw_defaults=[]:=by rfl) (ha:∀e,annTrees params none e=[]:=by intro e;rfl) (hqual:qualnameIn X.env name name=qual:=by rfl) :
  PS X (.FunctionDef name params body [] none [] scope none name pos) (tDef X P qs name qual params (.stmts body) scope j):=ztn hc kc kb (freeOk.of hfr) nd (oneOk.mem hq) (oneOk.one hq) hd hk ha hqual hN hj hx
end
open Classical
theorem Adopted.up(ad:Adopted X σ H1 Hq):Same H1 Hq:=λb u e=>by
 have hc:¬CellOf X b:=λhc=>by rw[ad.2.1 b hc]at e;cases e
 rw[ad.1 b hc];exact e
def SameN(H H':Hp):Prop:=∀b u,H b=some u->(∀o a,u ≠ .frz o a)->H' b=some u
section
variable {cl:Y4}{H:Hp}
def ClOk(cl:Y4)(H:Hp):Prop:=∀x c,cl.lookup x=some c->∃o v,H c=some (.frz o (.own c))/\o.data=.cell v
theorem ClOk.n(hcl:ClOk cl H):SameN H (dropL cl H):=λb u e n=>by
 show(if InCl cl b then none else H b)=some u;rw[if_neg (zcd hcl e n)];exact e
theorem zw0(g:∀b,InCl cl b->H2 b=none):Same H2 (mixL cl H H2):=λb u e=>by
 show(if InCl cl b then H b else H2 b)=some u;rw[if_neg λhc=>by rw[g b hc]at e;cases e];exact e
end
def CapAt(X:Cx)(σ:St)(cap:List Str)(cv:List V):Prop:=Paired (λx v=>∃i:Nat,X.N[i]?=some x/\σ[i]?=some (some v)/\(X.env.kindOf x=some .cell\/X.env.kindOf x=some .free)) cap cv
theorem zpm(ad:Adopted X σ H1 Hq){cl:Y4}(h1:∀x c,cl.lookup x=some c->X.env.cells.lookup x=some c):∀{cap:List Str} {cv:List V},(∀x∈cap,∃c,cl.lookup x=some c)->CapAt X σ cap cv->Caps Hq cl cap cv
 |_,_,_,.nil=>.nil
 |x::_,_::_,hc,.cons ⟨i,e1,e2,e3⟩ t=>by
  obtain⟨c,lc⟩:=hc x y0c;obtain⟨o,v,z1,z2,z3⟩:=ad.2.2.2 x c (h1 x c lc);obtain⟨u,ru,rfl⟩:=z3 i _ e1 e2 e3;exact .cons ⟨c,o,u,lc,z1,z2,ru⟩ (zpm ad h1 (λy hy=>hc y (y09 _ hy)) t)
section
variable {X:Cx}{H H1 H1' Hq:Hp}{σ:St}{name qual:Str}{params:Arguments}{scope:Scope}{f:Addr}{own ps cap:List Str}{cv:List V}{k:Nat}{sp:Sp}
theorem Made.fn(M:Made X H H1 name qual params body scope f):∃fd,H1 f=some (fnO fd f):=by
 obtain⟨cl,ct,c',oc,pm,_,_,_,_,h⟩:=M.ex;exact⟨_,h⟩
theorem zrn{cl:Y4}(ad:Adopted X σ H1' Hq)(l1:∀x c,cl.lookup x=some c->X.env.cells.lookup x=some c)(fz:Frz Hq H'):Frz H1' (dropL cl H'):=λb o u e=>by
 have nc:¬InCl cl b:=λ⟨x,z⟩=>by rw[ad.2.1 b ⟨x,l1 x b z⟩]at e;cases e
 show(if InCl cl b then none else H' b)=_;rw[if_neg nc];exact fz _ _ _ (ad.up _ _ e)
theorem Made.clo_s(M:Made X H H1 name qual params (.stmts body) scope f)(g:Same H1 H1')(ad:Adopted X σ H1' Hq)(S:CloScope own ps cap scope)(hlo:ps.length<=own.length)(hcap:CapAt X σ cap cv)
  (hbind:∀(cl:Y4) (ct cd pm:Value) (us:List Value),us.length=ps.length->bindArgs (cloFd name qual params (.stmts body) scope cl ct cd pm) ⟨us,[]⟩=pure (ps.zip us))
  (hbody:∀(cl:Y4) (c':Addr) (A:Around) (outer:List Env) (s:Shared) (H':Hp) (vs:List V) (Q:VK),Room k (A.deeper (envL qual scope cl s.heap.objs.size f (.ref c')))->ClOk cl H'->Frz Hq H'->Frz H1' (dropL cl H')->vs.length=ps.length->sp vs H' Q E0->
   ∃t,PSs (cxL X.prog X.w X.K X.mg X.base (own++cap) qual scope cl f (.ref c') A outer s H') body t/\t {nx:=λ_ H2=>(∀b,InCl cl b->H2 b=none)->Q .non (mixL cl H' H2),rt:=λv H2=>(∀b,InCl cl b->H2 b=none)->Q v (mixL cl H' H2)} (stL own vs cv) (dropL cl H')):CloH X.prog X.w X.K X.mg X.base (k+1) Hq f ps.length sp:=by
 obtain⟨cl,ct,c',oc,pm,l1,l2,l3,l4,l5⟩:=M.ex;have hcl:ClOk cl Hq:=λx c e=>let⟨o,v,z1,z2,_⟩:=ad.2.2.2 x c (l1 x c e);⟨o,v,z1,z2⟩;have up:=ad.up;refine zpj S hlo (up _ _ (g _ _ l5)) (up _ _ (g _ _ l3)) l4 hcl l2 (λx y c e1 e2=>ad.2.2.1 x y c (l1 x c e1) (l1 y c e2)) (zpm ad l1 (λx hx=>l2 (x,.free) (mem_of_lookup' (S.cap x hx)) rfl) hcap) (hbind cl ct _ pm) λA outer s H' vs Q hr fz hl hsp=>?_;exact hbody cl c' A outer s H' vs Q hr (λx c e=>let⟨o,v,z,d⟩:=hcl x c e;⟨o,v,fz _ _ _ z,d⟩) fz (zrn ad l1 fz) hl hsp
end
end L2
namespace SM
open PySem PySem.Spec PyProof.Rows L2 SS
def zmy(K:Frag)(ts:List (Addr×List (Pos×Str))):Sp:=λvs H Q _=>∃(a:Addr) (ns:List Int),vs=[.ref a]/\SqL K H a (ns.map V.int)/\ns.length<=63/\OnlyT ts H/\∀H',Q (.bl true) H'
inductive Tr where
 |nil
 |node (l:Nat) (a b:Tr)
def back(bs:List Nat):Nat:=bs.reverse.foldl (λf b=>2*f+b) 0
def cnt(m:Mc):Nat->Nat->Nat
 |0,r=>if m.fin r=true then 1 else 0
 |k+1,r=>((m.ways.getD r []).map (cnt m k)).sum
def cl(m:Mc)(k:Nat):List Nat:=(List.range m.ends.length).map (cnt m k)
end SM
namespace L2
def without(h:Heap):List Addr->Heap
 |[]=>h
 |b::L=>without (h.update b λ_=>{cls:=.none,data:=.freed}) L
theorem zma(h:Heap)(a:Addr):(h.update a λ_=>{cls:=.none,data:=.freed}).get? a=none:=by
 obtain⟨objs,l⟩:=h;show(match(objs.modify a λ_=>({cls:=.none,data:=.freed}:Obj))[a]? with
  |some ⟨_,_,.freed,_⟩=>none
  |o=>o)=none
 by_cases h:a<objs.size
 ·rw[y18 (by simpa using h),Array.getElem_modify];simp
 ·rw[y2y (by simpa using h)]
theorem zc8(b:Addr):∀(L:List Addr) (h:Heap),(without h L).get? b=if b∈L then none else h.get? b
 |[],h=>by simp[without]
 |c::L,h=>by
  rw[without,zc8 b L];by_cases hb:b∈L
  ·rw[if_pos hb,if_pos (y09 _ hb)]
  ·rw[if_neg hb];by_cases hc:b=c
   ·subst hc;rw[if_pos y0c,zma]
   ·rw[if_neg (by simp[hc,hb]),y1k _ _ (Ne.symm hc)]
theorem zbn(hb:b∈L):(without h L).get? b=none:=by rw[zc8,if_pos hb]
theorem zbu(hb:b∉L):(without h L).get? b=h.get? b:=by rw[zc8,if_neg hb]
theorem zce(h:Heap)(L:List Addr):(without h L).StaysIn h:=λb o e=>by
 by_cases hb:b∈L
 ·rw[zbn hb]at e;cases e
 ·rw[zbu hb]at e;exact e
theorem zck{h base base':Heap}:∀{l:List Env},h.FunFrames base l->(∀b∈frs l,base'.get? b=none)->h.FunFrames base' l
 |[],_,_=>trivial
 |env::rest,⟨hk,⟨L,o,hf,hn,ho,hd⟩,hr⟩,k=>by
  have e:frs (env::rest)=L::frs rest:=by show List.filterMap _ (env::rest)=_;rw[y1j,hf];rfl
  rw[e]at k;exact⟨hk,⟨L,o,hf,k L y0c,ho,hd⟩,zck hr λb hb=>k b (y09 _ hb)⟩
def Flown(h0:Heap)(H:Hp)(h:Heap)(a:Addr)(cls:Value):Prop :=
 ∃(oe:Obj) (vs:Array Value) (T:Addr) (oT:Obj) (ts:Array Value),h.get? a=some oe/\oe.cls=cls/\oe.data=.fields vs/\vs[1]?=some (.ref T)/\T≠a/\h.get? T=some oT/\oT.data=.fields ts/\ts[3]?=some .none/\
  h0.get? a=none/\h0.get? T=none/\H a=none/\H T=none
def CXE(P:Program)(w:World):CXT:=λouter H s E e s'=>∃(a:Addr) (cls:Value) (H':Hp),e=.ref a/\s'.os=s.os/\AllBare s'.gens/\Un (frs outer) [] H H' s.heap s'.heap/\HOk P w H' s'.heap/\Flown s.heap H' s'.heap a cls/\E cls (some a) H'
theorem zci(x:ObjOk P w H h a o):∃ob,h.get? a=some ob:=by
 induction o with
 |lst xs=>obtain⟨_,_,_,_,e⟩:=x;exact⟨_,e⟩
 |tup xs=>obtain⟨_,_,_,ob,e,_⟩:=x;exact⟨_,e⟩
 |dK kvs=>obtain⟨_,_,_,_,ob,_,_,e,_⟩:=x;exact⟨_,e⟩
 |dT kvs=>obtain⟨_,_,_,_,ob,_,_,e,_⟩:=x;exact⟨_,e⟩
 |set S n=>obtain⟨ob,_,_,_,e,_⟩:=x;exact⟨_,e⟩
 |ins C dx fs=>obtain⟨_,_,_,e,_⟩:=x;exact⟨_,e⟩
 |own _=>exact x
 |xd fs=>obtain⟨_,⟨ob,es,ep,e,_⟩,_⟩:=x;exact⟨_,e⟩
 |rng lo hi=>obtain⟨_,_,_,e⟩:=x;exact⟨_,e⟩
 |frz ob u=>exact⟨_,x.1⟩
 |tbl qs ps=>obtain⟨_,e,_⟩:=x;exact⟨_,e⟩
 |met f y=>exact⟨_,x⟩
 |ext φ=>exact x.2.1
section
variable {X:Cx}{pins:Y2}{σ:St}{H:Hp}{s:Shared}{Ex:Y0}
theorem zkv(I:Inv X pins σ H s)(hx:X.ex=[])(hL:∀b∈L,X.s₀.heap.get? b=none/\H b=none)
  (l1:(without s.heap (frs X.stack++L)).StaysIn h'') (l2:h''.FunFrames (without s.heap (frs X.stack++L)) X.stack) (l3:h''.Traced (without s.heap (frs X.stack++L)) a cls)
  (l4:∀b o,s.heap.get? b=some o->(∀vs,o.data ≠ .fields vs)->∃sl,h''.get? b=some {o with slots:=sl}) (ha:a∈L) (q:E cls (some a) H) :
  CXE X.prog X.w X.outer X.H₀ X.s₀ E (.ref a) {s with heap:=h''}:=by
 obtain⟨oe,vs',T,oT,ts,t1,t2,t3,t4,t5,t6,t7,t8,t9⟩:=l3;have hTf:T∉frs X.stack:=λz=>by
  obtain⟨_,o,e1,e2⟩:=l2.mem z;rw[t7]at e1;cases e1;exact e2 _ t8
 have nx:∀b,b∉X.ex:=λb z=>by rw[hx]at z;cases z
 have st:∀b o,b∉frs X.stack->b∉L->s.heap.get? b=some o->h''.get? b=some o:=λb o h1 h2 e=>l1 b o (by rw[zbu (λz=>(y0j.mp z).elim h1 h2)];exact e);have out:∀b o,X.s₀.heap.get? b=some o->b∉frs X.outer->b∉frs X.stack:=λb o e h z=>by
  rcases y02.mp (I.stkSub b z)with w|w
  ·exact y0h (y0i (y0d e) I.ok.above) w
  ·exact h w
 have nL:∀b o,X.s₀.heap.get? b=some o->b∉L:=λb o e z=>by rw[(hL b z).1]at e;cases e
 have T0:X.s₀.heap.get? T=none:=by
  cases e:X.s₀.heap.get? T with
  |none=>rfl
  |some o =>
   obtain⟨o',e'⟩:=I.base.there T o e (nx T);rw[zbu (λz=>(y0j.mp z).elim hTf (nL T o e))]at t5;rw[t5]at e';cases e'
 have HT:H T=none:=by
  cases e:H T with
  |none=>rfl
  |some o =>
   obtain⟨o',e'⟩:=zci (I.hok T o e);by_cases hTL:T∈L
   ·rw[(hL T hTL).2]at e;cases e
   ·rw[zbu (λz=>(y0j.mp z).elim hTf hTL)]at t5;rw[t5]at e';cases e'
 refine⟨a,cls,H,rfl,I.os,I.bare,⟨λb o e n hb _=>?_,λb o e n hb _=>?_,λb o e n _=>I.base.free b o e n (nx b),λb o e _=>?_,I.base.tups,I.base.frzs,I.base.tbls⟩,λb o e=>?_,⟨oe,vs',T,oT,ts,t1,t2,t3,t4,t6,t7,t8,t9,(hL a ha).1,T0,(hL a ha).2,HT⟩,q⟩
 ·exact st b o (out b o e hb) (nL b o e) (I.base.keep b o e n hb (nx b))
 ·obtain⟨sl,e1⟩:=I.base.slot b o e n hb (nx b);obtain⟨_,o',e2,nf⟩:=I.ok.funs.mem hb;rw[e]at e2;cases e2;obtain⟨sl',e3⟩:=l4 b _ e1 nf;exact⟨sl',e3⟩
 ·obtain⟨o',e1⟩:=I.base.there b o e (nx b);by_cases hb:b∈frs X.stack
  ·obtain⟨_,o2,e2,_⟩:=l2.mem hb;exact⟨o2,e2⟩
  ·exact⟨o',st b o' hb (nL b o e) e1⟩
 ·refine(I.hok b o e).stay (λc u hc ec=>st c u (λz=>?_) (λz=>?_) ec) (λ_ z=>z) (λ_ _ _ _ _ z=>z) λ_ _ z=>z
  ·have:=I.stkFree c z;rcases hc with rfl|hc
   ·rw[this]at e;cases e
   ·rw[this]at hc;cases hc
  ·have:=(hL c z).2;rcases hc with rfl|hc
   ·rw[this]at e;cases e
   ·rw[this]at hc;cases hc
theorem zjm(I:Inv X pins σ H s)(hx:X.ex=[])(hs:X.stack=X.env::X.outer)(hf:X.env.frame=some X.env.locals)(M:Heap.MadeExcOf s.heap h' a cls vs)(q:E cls (some a) H):
  wpAny (model X.prog X.w) X.A (leaving X.env (.ref a)) (λ_ s''=>CXE X.prog X.w X.outer X.H₀ X.s₀ E (.ref a) s'') Ex {s with heap:=h'}:=by
 obtain⟨t,he,_,_⟩:=M.there;have I':Inv X pins σ H {s with heap:=h',toks:=s.toks}:=I.kept M.keeps;have Ha:H a=none:=by
  cases e:H a with
  |none=>rfl
  |some o =>
   obtain⟨o',e'⟩:=zci (I.hok a o e);rw[M.new]at e';cases e'
 have s0:X.s₀.heap.get? a=none:=by
  cases e:X.s₀.heap.get? a with
  |none=>rfl
  |some o =>
   obtain⟨o',e'⟩:=I.base.there a o e (λz=>by rw[hx]at z;cases z);rw[M.new]at e';cases e'
 refine wpAny_leaving_first (base:=without h' (frs X.stack++[a])) (outer:=X.outer) (L:=X.env.locals) (by rw[←hs];exact I.ok.frames) (by rw[←hs];exact zck I'.stack λb hb=>zbn (y1n _ hb)) hf he (zce _ _)
  (zbn (y0p _ (y08.mpr rfl))) rfl rfl λh'' ⟨l1,l2,l3,l4⟩=>?_
 rw[←hs]at l2;exact zkv (L:=[a]) I' hx (λb hb=>by rw[y08.mp hb];exact⟨s0,Ha⟩) l1 l2 l3 l4 (y08.mpr rfl) q
theorem zl3(I:Inv X pins σ H s)(hx:X.ex=[])(hs:X.stack=X.env::X.outer)(hf:X.env.frame=some X.env.locals)(c:CXE X.prog X.w X.stack H s E' e s')(q:∀a cls H',E' cls (some a) H'->E cls (some a) H'):
  wpAny (model X.prog X.w) X.A (leaving X.env e) (λ_ s''=>CXE X.prog X.w X.outer X.H₀ X.s₀ E e s'') Ex s':=by
 obtain⟨a,cls,H',rfl,os,bare,un,hok,⟨oe,vs,T,oT,ts,t1,t2,t3,t4,t6,t7,t8,t9,n1,n2,h1,h2⟩,ee⟩:=c;have I':Inv X pins σ H' s':=I.call' os un hok bare λb z=>nomatch z;have s0:∀b,s.heap.get? b=none->X.s₀.heap.get? b=none:=λb z=>by
  cases e:X.s₀.heap.get? b with
  |none=>rfl
  |some o =>
   obtain⟨o',e'⟩:=I.base.there b o e (λz=>by rw[hx]at z;cases z);rw[z]at e';cases e'
 refine wpAny_leaving_next (base:=without s'.heap (frs X.stack++[a,T])) (outer:=X.outer) (L:=X.env.locals) (cls:=cls) (by rw[←hs];exact I.ok.frames) (by rw[←hs];exact zck I'.stack λb hb=>zbn (y1n _ hb)) hf
  ⟨oe,vs,T,oT,ts,t1,t2,t3,t4,zbn (y0p _ (by simp)),t6,t7,t8,t9⟩ (zce _ _) (zbn (y0p _ (by simp))) λh'' ⟨l1,l2,l3,l4⟩=>?_
 rw[←hs]at l2;exact zkv (L:=[a,T]) I' hx (λb hb=>by
  simp only[y02,y07,or_false]at hb;rcases hb with rfl|rfl
  ·exact⟨s0 _ n1,h1⟩
  ·exact⟨s0 _ n2,h2⟩) l1 l2 l3 l4 (by simp) (q _ _ _ ee)
theorem zok(I:Inv X pins σ H s)(M:Heap.MadeExcOf s.heap h' a cls vs):H a=none:=by
 cases e:H a with
 |none=>rfl
 |some o =>
  obtain⟨o',e'⟩:=zci (I.hok a o e);rw[M.new]at e';cases e'
end
structure Rs(X:Cx)(E:XK):Prop where
 ex:X.ex=[]
 st:X.stack=X.env::X.outer
 fr:X.env.frame=some X.env.locals
 xe:∀e s',wpAny (model X.prog X.w) X.A (leaving X.env e) (λ_ s''=>CXE X.prog X.w X.outer X.H₀ X.s₀ E e s'') (λe' s''=>CXE X.prog X.w X.outer X.H₀ X.s₀ E e' s'') s'->X.xe e s'
theorem Rs.passes(R:Rs X E)(q:∀a cls H',E' cls (some a) H'->E cls (some a) H'):Passes (CXE X.prog X.w) X E':=λpins σ H s e s' I c=>R.xe e s' (zl3 I R.ex R.st R.fr c q)
def tRaise(E:XK)(cls:Value)(t:TA):TS:=λD σ H=>t σ H λvs H1=>vs.length<=sizeLine/\∀a,H1 a=none->E cls (some a) H1
theorem zqc{X:Cx}{E:XK}{x:Str}{C:Addr}{B newId initId:String}{bm:List Value}{np cpos pos:Pos}{e₀:Expr}{rest:List Expr}{t:TA}(R:Rs X E)(hc:X.calm=true)(hg:Gl X x)(O:OwnCls x C bm newId X.mg X.base)(FB:ExcBaseFacts B newId initId bm)(ha:PA X (e₀::rest) t)
  (he:starEach (e₀::rest) X.env=(false,eval e₀ X.env)::starEach rest X.env:=by rfl) (hp:(backTo cpos (starEach rest X.env)).any (·.1)=false:=by rfl) (hd:(x==("__debug__":Str))=false:=by decide) :
  PS X (.Raise (some (.Call (.Name x np) (e₀::rest) [] cpos)) none pos) (tRaise E (.ref C) t):=by
 intro pins s σ H D I h;obtain⟨tl,N,nm,q,bs,hdct,sn,sub,ab,col,dd,k0,k1,k2,k3,k5,mN,hC,hN,hni,T⟩:=O.obj;refine wpAny_Raise_call_subT (C:=C) (nm:=nm) (q:=q) (N:=N) (bs:=bs) (bm:=tl) (hdct:=hdct) (sn:=sn) (sub:=sub) (ab:=ab) (col:=col) (dd:=dd) (k0:=k0) (k1:=k1) (k2:=k2) (k3:=k3) (k5:=k5)
  FB (mN:=mN) (T.hasType FB.hasBase) (I.ok.hd hc) (by rw[he];show(false||(backTo cpos (starEach rest X.env)).any (·.1))=false;rw[hp];rfl) hni ?_
 refine thn (znk (v:=.ref C) (pos:=np) hg O.bound rfl hd pins s σ H (λv H'=>v=.ref C/\H'=H) I ⟨rfl,rfl⟩) λu s1 zz=>ex5 zz λv H1 I1 r1 zq=>?_;obtain⟨e1,e2⟩:=zq;subst e1 e2;refine⟨r1,?_⟩;have hh:=ha cpos pins s1 σ H1 _ I1 h;rw[he]at hh ⊢;refine Calls.evalArgs_plain (thn hh λus s2 ⟨vs,H2,I2,r2,z,q⟩=>⟨rfl,by rw[←r2.length];exact z,I2.bk _ _ hC,hN.keeps I2.bk,T.keeps I2.bk,λh' a M=>R.xe _ _ (zjm I2 R.ex R.st R.fr M (q a (zok I2 M)))⟩)
theorem Fun.okE{P:Program}{w:World}{K:Frag}{mg:Y1}{base:Heap}{x qual:Str}{st:Stmt}{f:Addr}{fd:FuncData}{N ps:List Str}{k:Nat}{sp:Sp}(F:Fun K x qual st f fd)(S:FnScope N ps (defScope st))(len:∀vs H Q E,sp vs H Q E->vs.length=ps.length)
  (hbody:∀(cdv:Value) (A:Around) (outer:List Env) (s:Shared) (H:Hp) (vs:List V) (Q:VK) (E:XK),Room k (A.deeper (envOfC qual (defScope st) s.heap.objs.size f cdv))->sp vs H Q E->Rs (cxOf (CXE P w) P w K mg base N qual (defScope st) f cdv A outer s H E) E->
   ∃t,PSs (cxOf (CXE P w) P w K mg base N qual (defScope st) f cdv A outer s H E) (defBody st) t/\t {nx:=λ_ H'=>Q .non H',rt:=Q} (start N vs) H):FnOk P w K mg base (CXE P w) (k+1) f fd ps sp:=by
 obtain⟨oc,od,kV,doc,pm,an,cdv,ct,osl,rfl,lk,hcd⟩:=F.ex;exact zu2 lk hcd S len λA outer s H vs Q E hr hsp=>hbody cdv A outer s H vs Q E hr hsp ⟨rfl,rfl,rfl,λ_ _ h=>h⟩
open PySem PySem.Spec PyProof.Rows PySem.Calls
section
variable {X:Cx}{pins:Y2}{σ:St}{H:Hp}{s:Shared}
theorem Inv.names(I:Inv X pins σ H s)(hN:X.N.Nodup)(hj:X.N[j]?=some n)(hn:s.heap.Ns X.env.locals m)
  (hl:∀(i:Nat) (x:Str) (v:V),X.N[i]?=some x->σ[i]?=some (some v)->Vis X.env.scope x->∃u,RelV v u/\Look X.env s.heap m x u) (hn':h'.Ns X.env.locals m') (hm:∀x,x≠n->m' x=m x) (hs:Heap.SameBut X.env.locals s.heap h') :
  Inv X pins (σ.set j none) H {s with heap:=h'}:=by
 have low:∀b o,X.s₀.heap.get? b=some o->b≠X.env.locals:=λb o e=>y0h (y0i (y0d e) I.ok.above);refine⟨I.ok,I.os,I.bare,⟨λb o e k hb hx=>(hs.2 b (low b o e)).trans (I.base.keep b o e k hb hx),λb o e k hb hx=>?_,I.base.free,λb o e hx=>?_,I.base.tups,I.base.frzs,I.base.tbls⟩,⟨m',hn',λi y v e1 e2 e3=>?_⟩,λy c e=>?_,I.free,I.freeC,λp hp=>?_,λb ob e=>?_,by simpa using I.len⟩
 ·obtain⟨sl,e1⟩:=I.base.slot b o e k hb hx;exact⟨sl,(hs.2 b (low b o e)).trans e1⟩
 ·obtain⟨o',e1⟩:=I.base.there b o e hx;exact⟨o',(hs.2 b (low b o e)).trans e1⟩
 ·by_cases hij:i=j
  ·subst hij;rw[y2a (by rw[I.len];exact(y0f.mp hj).1)]at e2;cases e2
  ·rw[y34 (Ne.symm hij)]at e2;obtain⟨u',r',q⟩:=hl i y v e1 e2 e3;refine⟨u',r',?_⟩;rcases q with⟨k,e⟩|⟨k,c,e,z⟩
   ·exact .inl ⟨k,by rw[hm y λz=>hij (zgx hN e1 (z▸hj))];exact e⟩
   ·exact .inr ⟨k,c,e,z.sameBut hs (I.cne y c e)⟩
 ·obtain⟨w',z⟩:=I.cell y c e;exact⟨w',z.sameBut hs (I.cne y c e)⟩
 ·obtain⟨e,k,ne,nf,d⟩:=I.pin p hp;exact⟨(hs.2 p.1 ne).trans e,k,ne,nf,d⟩
 ·refine(I.hok b ob e).stay (λc w' hc q=>(hs.2 c ?_).trans q) (λ_ q=>q) (λ_ _ _ _ _ q=>q) λ_ _ q=>q;rintro rfl;rcases hc with rfl|hc
  ·rw[I.free]at e;cases e
  ·rw[I.free]at hc;cases hc
theorem zmm(I:Inv X pins σ H s)(hN:X.N.Nodup)(hj:X.N[j]?=some n)(hk:X.env.scope.names.lookup n=some .local)(hv:σ[j]?=some (some v))
  (h:∀s',Inv X pins (σ.set j none) H s'->Q () s'):wpAny M A (unbindName X.env n) Q E s:=by
 obtain⟨m,hn,hl⟩:=id I.loc;obtain⟨u,r,lk⟩:=hl j n v hj hv (.inl hk);have hmn:m n=some u:=by
  rcases lk with⟨_,e⟩|⟨k,_⟩
  ·exact e
  ·rcases k with k|k<;>(have:X.env.kindOf n=some .local:=hk;rw[this]at k;cases k)
 exact wpAny_unbindName_local hk hn hmn (by rw[I.ok.kind];rfl) λh' u' hn' hs=>h _ (I.names hN hj hn hl hn' (λx hx=>if_neg hx) hs)
def Cx.held(X:Cx)(a:Addr):Cx:={X with A:=X.A.mark (some (.ref a)),calm:=false,xe:=λ_ _=>False}
theorem Cx.Ok.held(ok:X.Ok):(X.held a).Ok:=⟨ok.mod,ok.kind,ok.glob,ok.blt,ok.above,ok.inj,ok.has,ok.cab,(λh=>nomatch h),ok.frames,ok.stk,ok.exf,ok.bs,ok.bsz,ok.noex,ok.exfs,ok.funs,ok.frf⟩
theorem Inv.held(I:Inv X pins σ H s):Inv (X.held a) pins σ H s:=⟨I.ok.held,I.os,I.bare,I.base,I.loc,I.cell,I.free,I.freeC,I.pin,I.hok,I.len⟩
theorem Inv.unheld(ok:X.Ok)(I:Inv (X.held a) pins σ H s):Inv X pins σ H s:=⟨ok,I.os,I.bare,I.base,I.loc,I.cell,I.free,I.freeC,I.pin,I.hok,I.len⟩
theorem Inv.adopt(I:Inv X pins σ H s)(ha:H a=none)(h0:X.s₀.heap.get? a=none)(he:s.heap.get? a=some oe)(hd:oe.data=.fields vs)(hp:∀p∈X.pn++pins,p.1≠a)(new:ObjOk X.prog X.w (upd H a o) s.heap a o):
  Inv X pins σ (upd H a o) s:=by
 have nL:X.env.locals≠a:=λz=>by
  obtain⟨m,⟨ob,es,ep,e,dd,_⟩,_⟩:=I.loc;rw[z,he]at e;cases e;rw[hd]at dd;cases dd
 have nC:∀x c,X.env.cells.lookup x=some c->c≠a:=λx c e z=>by
  obtain⟨v,ob,e1,dd⟩:=I.cell x c e;rw[z,he]at e1;cases e1;rw[hd]at dd;cases dd
 have up:∀b u,H b=some u->upd H a o b=some u:=λb u e=>by rw[zan (λz=>by rw[z,ha]at e;cases e)];exact e
 refine⟨I.ok,I.os,I.bare,⟨I.base.keep,I.base.slot,λb ob e k hx=>?_,I.base.there,λb xs e=>up _ _ (I.base.tups b xs e),λb ob u e=>up _ _ (I.base.frzs b ob u e),λb qs ps e=>up _ _ (I.base.tbls b qs ps e)⟩,I.loc,I.cell,by rw[zan nL];exact I.free,λx c e=>by rw[zan (nC x c e)];exact I.freeC x c e,λp hpp=>?_,λb u e=>?_,I.len⟩
 ·rw[zan (λz=>by rw[z,h0]at e;cases e)];exact I.base.free b ob e k hx
 ·obtain⟨e,k,r⟩:=I.pin p hpp;exact⟨e,by rw[zan (hp p hpp)];exact k,r⟩
 ·by_cases hb:b=a
  ·subst hb;rw[zao]at e;cases e;exact new
  ·rw[zan hb]at e;exact(I.hok b u e).stay (λ_ _ _ q=>q) (λc q=>up c _ q) (λc _ _ _ _ q=>up c _ q) λc xs q=>up c _ q
theorem Inv.touch{h':Heap}{L:List Addr}{t':Nat}(I:Inv X pins σ H s)(k:∀b o,b∉frs X.stack->b∉L->s.heap.get? b=some o->h'.get? b=some o)(sl:∀b o,b∈frs X.stack->s.heap.get? b=some o->∃sl,h'.get? b=some {o with slots:=sl})
  (hL:∀b∈L,∃φ,H b=some (.ext φ)/\φ h'/\∃o,h'.get? b=some o):Inv X pins σ H {s with heap:=h',toks:=t'}:=by
 have fr:∀b∈frs X.stack,H b=none:=I.stkFree;refine I.call' (ch:=[]) rfl ⟨λb o e n hb _=>k b o hb (λz=>?_) e,λb o e n hb _=>sl b o hb e,λ_ _ _ n _=>n,λb o e _=>?_,λ_ _ e=>e,λ_ _ _ e=>e,λ_ _ _ e=>e⟩ (λb u e=>?_) I.bare λb z=>nomatch z
 ·obtain⟨φ,e',_⟩:=hL b z;rw[n]at e';cases e'
 ·by_cases hb:b∈frs X.stack
  ·obtain⟨q,e'⟩:=sl b o hb e;exact⟨_,e'⟩
  ·by_cases hl:b∈L
   ·obtain⟨_,_,_,o',e'⟩:=hL b hl;exact⟨o',e'⟩
   ·exact⟨o,k b o hb hl e⟩
 ·by_cases hl:b∈L
  ·obtain⟨φ,e',p,o',e''⟩:=hL b hl;rw[e]at e';cases e';exact⟨p,⟨o',e''⟩,(I.hok b _ e).2.2⟩
  ·refine(I.hok b u e).stay (λc w hc ec=>k c w (λz=>?_) (λz=>?_) ec) (λ_ z=>z) (λ_ _ _ _ _ z=>z) λ_ _ z=>z
   ·have:=fr c z;rcases hc with rfl|hc
    ·rw[this]at e;cases e
    ·rw[this]at hc;cases hc
   ·rcases hc with rfl|hc
    ·exact hl z
    ·obtain⟨φ,e',_⟩:=hL c z;rw[hc]at e';cases e'
def ExcIs(a:Addr)(cls:Value)(h:Heap):Prop:=∃(o:Obj) (vs:Array Value),h.get? a=some o/\o.cls=cls/\o.data=.fields vs
def TbIs(T:Addr)(h:Heap):Prop:=∃(o:Obj) (vs:Array Value),h.get? T=some o/\o.data=.fields vs
def excO(a:Addr)(cls:Value):HO:=.ext (ExcIs a cls)
def tbO(T:Addr):HO:=.ext (TbIs T)
theorem zxf(x:ExcIs a cls h):ObjOk P w H h a (excO a cls) :=
 ⟨x,let⟨o,_,e,_⟩:=x;⟨o,e⟩,λh1 h2 ⟨o,vs,e,r⟩ k=>⟨o,vs,k o e,r⟩⟩
theorem zvq(x:TbIs T h):ObjOk P w H h T (tbO T) :=
 ⟨x,let⟨o,_,e,_⟩:=x;⟨o,e⟩,λh1 h2 ⟨o,vs,e,r⟩ k=>⟨o,vs,k o e,r⟩⟩
end
section
variable {prog:Program}{w:World}{A:Around}{E:Y0}{s:Shared}{env:Env}
theorem zq9(hfr:A.frames=some (env::outer))(hl:s.heap.FunFrames base (env::outer))(hf:env.frame=some L)(he:s.heap.get? e=some oe)(hd:oe.data=.fields vs)(h1:vs[1]?=some (.ref T))
  (hTe:T≠e) (hT:s.heap.get? T=some oT) (hdT:oT.data=.fields ts) (h3:ts[3]?=some .none)
  (h:∀h',(∀b o,b∉frs (env::outer)->b≠e->b≠T->s.heap.get? b=some o->h'.get? b=some o)->(∀b o,b∈frs (env::outer)->s.heap.get? b=some o->∃sl,h'.get? b=some {o with slots:=sl})->TbIs T h'->
   (∃(oe':Obj) (vs':Array Value) (T2:Addr) (oT2:Obj) (ts2:Array Value),h'.get? e=some oe'/\oe'.cls=oe.cls/\oe'.data=.fields vs'/\vs'[1]?=some (.ref T2)/\T2≠e/\h'.get? T2=some oT2/\oT2.data=.fields ts2/\ts2[3]?=some .none/\s.heap.get? T2=none)->Q () {s with heap:=h'}) :
  wpAny (model prog w) A (noteFrame (.ref e) env) (λ_ s'=>wpAny (model prog w) A (setFlight (.ref e) none) Q E s') E s:=by
 unfold noteFrame;simp only[hf];refine wpAny_bind (wpAny_field he hd h1 ?_);rw[if_pos (show(Value.ref T !=Value.none)=true from by simp)];refine wpAny_bind (wpAny_field hT hdT h3 ?_);rw[if_neg (show¬((Value.none==rawInt L)=true)from by simp[rawInt])];refine wpAny_bind (wpAny_setField hT hdT (y20.mp h3).1 ?_);have other:∀b,b≠T->(s.heap.update T (Obj.mapFields (·.setIfInBounds 3 Value.none))).get? b=s.heap.get? b:=λb hb=>y1k _ _ (Ne.symm hb);have hdT':=Obj.data_mapFields hdT (·.setIfInBounds 3 Value.none);have hT':=y1m (Obj.mapFields (·.setIfInBounds 3 Value.none)) hT (Obj.isFreed_of_fields hdT');generalize s.heap.update T (Obj.mapFields (·.setIfInBounds 3 Value.none))=h2 at other hT';have nr:∀b o,s.heap.get? b=some o->(∀vs,o.data ≠ .fields vs)->b≠T:=λb o hb hnf q=>by
  rw[q,hT]at hb;injection hb with hb;subst hb;exact hnf ts hdT
 have hl2:h2.FunFrames base (env::outer):=hl.of_keeps λb o hb hnf=>⟨o,(other b (nr b o hb hnf)).trans hb,rfl⟩;have fT:T∉frs (env::outer):=λz=>by
  obtain⟨_,o,e1,e2⟩:=hl.mem z;rw[hT]at e1;cases e1;exact e2 _ hdT
 have fe:e∉frs (env::outer):=λz=>by
  obtain⟨_,o,e1,e2⟩:=hl.mem z;rw[he]at e1;cases e1;exact e2 _ hd
 refine wpAny_newEntry (base:=without h2 (frs (env::outer)++[e])) hfr (zck hl2 λb hb=>zbn (y1n _ hb)) hf ((other e (Ne.symm hTe)).trans he) (zce _ _) (zbn (y0p _ (y08.mpr rfl))) hd (y20.mp h1).1
  λh' ⟨x1,x2,x3,x4⟩=>?_
 have st:∀b o,b∉frs (env::outer)->b≠e->h2.get? b=some o->h'.get? b=some o:=λb o n1 n2 q=>x1 b o (by rw[zbu (λz=>(y0j.mp z).elim n1 λz=>n2 (y08.mp z))];exact q);obtain⟨oe',vs',T2,oT2,ts2,t1,t2,t3,t4,t5,t6,t7,t8,t9⟩:=x3;have f2:T2∉frs (env::outer):=λz=>by
  obtain⟨_,o,e1,e2⟩:=x2.mem z;rw[t7]at e1;cases e1;exact e2 _ t8
 have n2:h2.get? T2=none:=by rw[zbu (λz=>(y0j.mp z).elim f2 λz=>t6 (y08.mp z))]at t5;exact t5
 have n2T:T2≠T:=λz=>by rw[z,hT']at n2;cases n2
 refine h h' (λb o b1 b2 b3 q=>st b o b1 b2 ((other b b3).trans q)) (λb o hb q=>?_) ⟨_,_,st T _ fT hTe hT',hdT'⟩ ⟨oe',vs',T2,oT2,ts2,t1,t2,t3,t4,t6,t7,t8,t9,by rw[←other T2 n2T];exact n2⟩;obtain⟨_,o',e1,e2⟩:=hl.mem hb;rw[q]at e1;cases e1;exact x4 b o ((other b (nr b o q e2)).trans q) e2
end
section
variable {X:Cx}{pins:Y2}{σ:St}{H:Hp}{s:Shared}{k:Nat}{fa:Addr}{fd:FuncData}{ps:List Str}{sp:Sp}
theorem zu5{Ec:XK}{Q:VK}{Xe:Y0}{x:Str}{e:Expr}{es:List Expr}{t:TA}{p pos:Pos}(F:FnOk X.prog X.w X.K X.mg X.base (CXE X.prog X.w) k fa fd ps sp)(hr:Room k X.A)(hg:Gl X x)(hm:X.mg x=some (.ref fa))(hk:PySem.W.keepIn X.K (.ref fa)=true)(hb:Binds X.K fd ps [])
  (ha:PA X.nox (e::es) t) (I:Inv X pins σ H s) (h:t σ H λvs H1=>sp vs H1 Q Ec) (hx:∀H1 s1 e s',Inv X pins σ H1 s1->CXE X.prog X.w X.stack H1 s1 Ec e s'->Xe e s')
  (hdb:(x==("__debug__":Str))=false:=by decide) (he:starEach (e::es) X.env=(false,eval e X.env)::starEach es X.env:=by rfl) (hpl:(backTo pos (starEach es X.env)).any (·.1)=false:=by rfl) :
  wpAny (model X.prog X.w) X.A (eval (.Call (.Name x p) (e::es) [] pos) X.env) (EP X pins σ Q) Xe s:=by
 refine wpAny_Call_Name_kw (zde I hg hm ?_ hdb);refine PySem.W.callWith_K (h₀:=X.base) I.ok.mod.kin hk (wpAny_mono (ha pos pins s σ H _ (I.wish _) h) (λus s1 zz=>ex5 zz λvs H1 I1 r q=>⟨I1.unwish.kIn,?_⟩) λ_ _ z=>False.elim z) he hpl;have I1':=I1.unwish;have hl:us.length=ps.length:=by rw[←r.length];exact F.len _ _ _ _ q
 refine wpAny_call (codeAny_mono (F.run X.A X.stack s1 H1 ⟨us,[]⟩ us vs Q Ec hr I1'.env0 (by have:=hb s1 us I1'.kIn (by rw[y1a];exact hl);rw[y1a]at this;exact this) r q) λr s' hq=>?_);cases r with
 |error e=>exact hx H1 s1 e s' I1' hq
 |ok fl =>
  cases fl with
  |ret u=>exact I1'.after hq
  |next=>exact False.elim hq
  |brk=>exact False.elim hq
  |cont=>exact False.elim hq
theorem zo4{M:Model}{A:Around}{E:Y0}{a T:Addr}{oe oT:Obj}{vs ts:Array Value}{Q:Unit->Shared->Prop}(I:Inv X pins σ H s)(he:s.heap.get? a=some oe)(hd:oe.data=.fields vs)(h1:vs[1]?=some (.ref T))(hT:s.heap.get? T=some oT)(hdT:oT.data=.fields ts)(h3:3<ts.size)
  (tr:H T=some (tbO T)) (h:∀h',Inv X pins σ H {s with heap:=h'}->Q () {s with heap:=h'}):wpAny M A (setFlight (.ref a) none) Q E s:=by
 unfold setFlight;refine wpAny_bind (wpAny_field he hd h1 ?_);rw[if_pos (show(Value.ref T !=Value.none)=true from by simp)];refine wpAny_setField hT hdT h3 ?_;have other:∀b,b≠T->(s.heap.update T (Obj.mapFields (·.setIfInBounds 3 ((none:Option Addr).elim Value.none λf=>rawInt f)))).get? b=s.heap.get? b:=λb hb=>y1k _ _ (Ne.symm hb);have hdT':=Obj.data_mapFields hdT (·.setIfInBounds 3 ((none:Option Addr).elim Value.none λf=>rawInt f));have hT':=y1m (Obj.mapFields (·.setIfInBounds 3 ((none:Option Addr).elim Value.none λf=>rawInt f))) hT (Obj.isFreed_of_fields hdT');refine h _ (I.touch (L:=[T]) (t':=s.toks) (λb o _ n q=>(other b (λz=>n (y08.mpr z))).trans q) (λb o hb q=>⟨o.slots,(other b (λz=>?_)).trans q⟩) λb hb=>?_)
 ·have:=I.stkFree b hb;rw[z,tr]at this;cases this
 ·rw[y08.mp hb];exact⟨_,tr,⟨_,_,hT',hdT'⟩,_,hT'⟩
end
open PySem PySem.Spec PyProof.Rows PySem.W
structure KExc(K:Frag)(C:Addr):Prop where
 ga:findIn K (.ref C) "__getattribute__"=some (some (.builtin "BaseException.__getattribute__"))
 gn:findIn K (.ref C) "__getattr__"=some none
 cl:findIn K (.ref C) "__class__"=some (some (.builtin "object.__class__"))
 mb:mroIn K C (.type "BaseException")=some true
 mo:mroIn K C (.type "object")=some true
 ic:hasDictIn K C=true
section
variable {prog:Program}{w:World}{A:Around}{E:Y0}{K:Frag}{h:Heap}{g:Array GenState}{d:Drawn}{t:Nat}{os:OsState}{a C:Addr}{o:Obj}
theorem zj8(X:K.In h)(e:mroIn K C base=some r)(hq:Q r ⟨h,g,d,t,os⟩):wpAny M A (isSubtype (.ref C) base) Q E ⟨h,g,d,t,os⟩:=looks_mroIn X e A Q E _ (λ_ _ e=>e) hq
theorem zjn(X:K.In h)(e:findIn K v n=some r)(hq:Q r ⟨h,g,d,t,os⟩):wpAny M A (typeLookup v n) Q E ⟨h,g,d,t,os⟩:=looks_findIn X e A Q E _ (λ_ _ e=>e) hq
theorem zg6(X:K.In h)(k:KExc K C)(hx:h.get? a=some o)(hc:o.cls=.ref C)(hq:R (.ok (.ret (.ref C))) ⟨h,g,d,t,os⟩):
  codeAny (model prog w) A (.call (.builtin "getset_descriptor.__get__") ⟨[.builtin "object.__class__",.ref a,.ref C],[]⟩) R ⟨h,g,d,t,os⟩:=by
 have hT5:(⟨h,g,d,t,os⟩:Shared).TypeIs (.builtin "object.__class__") "getset_descriptor":=F.typeOf_object_class;have mo:mroIn K C (.type (".".intercalate ("object.__class__".cutAt '.').dropLast))=some true:=by rw[F.owner_object_class];exact k.mo
 refine codeAny_call_builtin F.slot_gs_get.plain F.entry_gs_get (F.slot_gs_get.check _ _ _ _ _ _ _ _ hT5 (F.args_gs_get _ _ _) ?_)
 repeat (any_goals (first|assumption|(with_reducible refine wpAny_loadPart_at hx ?_;rw[hc])|(with_reducible refine zj8 X mo ?_)|wp_step))
 refine⟨Code.quiet_builtin _ (by decide+kernel),codeAny_builtin F.entry_object_class ?_⟩
 repeat (any_goals (first|assumption|(with_reducible refine wpAny_loadPart_at hx ?_;rw[hc])|wp_step))
theorem zih(X:K.In h)(k:KExc K C)(hx:h.get? a=some o)(hc:o.cls=.ref C)(hq:Q () ⟨h,g,d,t,os⟩):wpAny M A (checkBuiltinCall "BaseException.__getattribute__" ⟨[.ref a,nameV],[]⟩) Q E ⟨h,g,d,t,os⟩:=by
 have hk:builtinKind "BaseException.__getattribute__"=some .slot:=by decide+kernel
 have hsplit:splitId "BaseException.__getattribute__"=some ("BaseException","__getattribute__"):=by decide+kernel
 have mb:=k.mb;have ha:=F.args_bexc_ga (.ref a) nameV;simp only[checkBuiltinCall,hk,hsplit];refine wpAny_bind ?_;unfold isInstance
 repeat (first|(with_reducible refine wpAny_loadPart_at hx ?_;rw[hc])|(with_reducible refine zj8 X mb ?_)|wp_step)
 exact hq
theorem zfc(X:K.In h)(k:KExc K C)(hx:h.get? a=some o)(hc:o.cls=.ref C)(hq:Q (.done (.ret (.ref C))) ⟨h,g,d,t,os⟩):
  wpAny (model prog w) A (Builtin.«object.__getattribute__» ⟨[.ref a,.str "__class__" tk],[]⟩) Q E ⟨h,g,d,t,os⟩:=by
 have hT5:(⟨h,g,d,t,os⟩:Shared).TypeIs (.builtin "object.__class__") "getset_descriptor":=F.typeOf_object_class;have cl:=k.cl;have f5:=F.typeOf_object_class;have f6:=F.slot_gs_get.lookup;have f7:=F.slot_gs_set.lookup
 repeat (any_goals (first|assumption|(with_reducible refine wpAny_loadPart_at hx ?_;rw[hc])|(with_reducible refine zjn X cl ?_)|wp_step))
 refine zg6 X k hx hc ?_
 repeat (any_goals (first|assumption|wp_step))
theorem zig(FB:ExcAttrFacts "ValueError")(X:K.In h)(k:KExc K C)(hx:h.get? a=some o)(hc:o.cls=.ref C)(hq:Q (.ref C) ⟨h,g,d,t,os⟩):wpAny (model prog w) A (getAttrBy (.ref a) (.str "__class__" tk) false) Q E ⟨h,g,d,t,os⟩:=by
 have f3:=FB.ga.bind (.ref a);have hx2:(Value.builtin "BaseException.__getattribute__"==Value.builtin "object.__getattribute__")=false:=by decide+kernel
 have ga:=k.ga;have gn:=k.gn
 repeat (any_goals (first|assumption|(with_reducible refine wpAny_loadPart_at hx ?_;rw[hc])|(with_reducible refine zjn X ga ?_)|(with_reducible refine zjn X gn ?_)|wp_step))
 refine codeAny_call_builtin FB.ga.plain F.entry_bexc_ga (zih X k hx hc (zfc X k hx hc ?_))
 repeat (any_goals (first|assumption|wp_step))
theorem zfq(FB:ExcAttrFacts "ValueError")(X:K.In h)(k:KExc K C)(hx:h.get? a=some o)(hc:o.cls=.ref C)(hq:Q (some (.ref C)) ⟨h,g,d,t+1,os⟩):wpAny (model prog w) A (getAttr? (.ref a) "__class__") Q E ⟨h,g,d,t,os⟩:=by
 unfold getAttr? getAttrBy?
 repeat (any_goals (first|assumption|with_reducible apply zig FB X k hx hc|wp_step))
end
theorem zkw{K:Frag}{a C:Addr}(k:KExc K C):KitX K (.ref a) (.ref C) (λh=>∃o,h.get? a=some o/\o.cls=.ref C) where
 ty:=λM h _ ⟨o,e,c⟩=>by
  intro A Q E s kk q;obtain⟨hp,g,d,t,os⟩:=s;have e':=kk _ _ e
  repeat (first|(with_reducible refine wpAny_loadPart_at e' ?_;rw[c])|wp_step)
  exact q
 it:=λ_ _ X _=>by
  obtain⟨cd,hcD,_⟩:=any_some k.ic;unfold clsIn at hcD;split at hcD
  ·rename_i c' d' cd' sl' ho;intro A' Q' E' s' kk q;unfold isType loadHead;exact wpAny_bind (wpAny_loadPart (kk _ _ (X _ _ ho)) (wpAny_pure q))
  ·cases hcD
 ne:=λh tp dd its n sl X htp=>by
  obtain⟨cd,hcD,_⟩:=any_some k.ic;refine y0z.mpr λq=>?_;have e:C=tp:=Value.ref.inj (beq_iff_eq.mp q);subst e;unfold clsIn at hcD;split at hcD
  ·rename_i c' d' cd' sl' ho;have z:=(X _ _ ho).symm.trans htp;cases z
  ·cases hcD
 ca:=λ{_ _ _ _ _ s} X p q=>by
  obtain⟨hp,g,d,t,os⟩:=s;obtain⟨o,e,c⟩:=p;exact zfq F.excAttr_ValueError X k e c q
def rIsX(K:Frag):List V->Hp->VK->Prop:=λxs H Q=>∃a C S b,xs=[.ref a,.ref S]/\H a=some (excO a (.ref C))/\KExc K C/\kitOne K (.ref C) (.ref S)=some b/\Q (.bl b) H
def rIsXT(K:Frag):List V->Hp->VK->Prop:=λxs H Q=>∃a C T b,xs=[.ref a,.ty T]/\H a=some (excO a (.ref C))/\KExc K C/\kitOne K (.ref C) (.type T)=some b/\Q (.bl b) H
theorem zss{X:Cx}{pins:Y2}{σ:St}{H:Hp}{s:Shared}{a:Addr}{cls:Value}(I:Inv X pins σ H s)(e:H a=some (excO a cls)):∃o,s.heap.get? a=some o/\o.cls=cls :=
 let⟨⟨o,_,h1,h2,_⟩,_,_⟩:=(show ObjOk X.prog X.w H s.heap a (excO a cls)from I.hok a _ e)
 ⟨o,h1,h2⟩
theorem zr3:CallR X (.builtin "isinstance") (rIsX X.K):=by
 intro pins s σ H xs us Q I r h;obtain⟨a,C,S,b,rfl,ea,k,e,q⟩:=h;obtain⟨u,w',rfl,rx,ry⟩:=vals2 r;cases(show w'=Value.ref S from ry);cases(show u=Value.ref a from rx);exact kia_one (zkw k) I.kIn (zss I ea) e (λz=>nomatch z) λtk=>⟨.bl b,H,I.tok _,rfl,q⟩
theorem zpo:CallR X (.builtin "isinstance") (rIsXT X.K):=by
 intro pins s σ H xs us Q I r h;obtain⟨a,C,T,b,rfl,ea,k,e,q⟩:=h;obtain⟨u,w',rfl,rx,ry⟩:=vals2 r;cases(show w'=Value.type T from ry);cases(show u=Value.ref a from rx);exact kia_one (zkw k) I.kIn (zss I ea) e (λz=>nomatch z) λtk=>⟨.bl b,H,I.tok _,rfl,q⟩
open PySem PySem.Spec PyProof.Rows PySem.W PySem.Calls
section
variable {M:Model}{A:Around}{E:Y0}{K:Frag}{h:Heap}{g:Array GenState}{d:Drawn}{t:Nat}{os:OsState}
theorem zs5(X:K.In h)(e:typeIn K v=some c)(hq:Q c ⟨h,g,d,t,os⟩):wpAny M A (typeOf v) Q E ⟨h,g,d,t,os⟩:=looks_typeIn X e A Q E _ (λ_ _ e=>e) hq
structure KSup(K:Frag)(S:Addr):Prop where
 ty:typeIn K (.ref S)=some (.type "type")
 mb:mroIn K S (.type "BaseException")=some true
 ic:hasDictIn K S=true
theorem zie(X:K.In h)(k:KSup K S)(he:h.get? e=some oe)(hcls:oe.cls=.ref C)(ms:mroIn K C (.ref S)=some true)(hq:Q true ⟨h,g,d,t,os⟩):wpAny M A (excMatches (.ref e) (.ref S)) Q E ⟨h,g,d,t,os⟩:=by
 have ty:=k.ty;have mb:=k.mb;have f:=tc_notTuple;obtain⟨cd,hcd,_⟩:=any_some k.ic;unfold clsIn at hcd;split at hcd
 ·rename_i c' d' cd' sl' ho;have hS:=X _ _ ho;unfold excMatches
  repeat (first|(with_reducible refine wpAny_loadPart_at he ?_;rw[hcls])|(with_reducible refine zs5 X ty ?_)|with_reducible refine wpAny_loadPart_at hS ?_|(with_reducible refine zj8 X mb ?_)|(with_reducible refine zj8 X ms ?_)|wp_step)
  exact hq
 ·cases hcd
end
section
variable {prog:Program}{w:World}{A:Around}{E:Y0}{s:Shared}{env:Env}
theorem zoz{K:Frag}{a C S:Addr}{t:Expr}{n:Str}{b₀:Stmt}{suite:List Stmt}{pos:Pos}{rest:List ExceptHandler}{Q:Flow->Shared->Prop}(k:KSup K S)(ms:mroIn K C (.ref S)=some true)
  (h:wpAny (model prog w) (A.mark (some (.ref a))) (eval t env) (λc s₁=>c=.ref S/\K.In s₁.heap/\(∃oe,s₁.heap.get? a=some oe/\oe.cls=.ref C)/\
   wpAny (model prog w) (A.mark (some (.ref a))) (setFlight (.ref a) none) (λ_ s₂=>wpAny (model prog w) (A.mark (some (.ref a))) (storeName env n (.ref a)) (λ_ s₃=>wpAny (model prog w) (A.mark (some (.ref a))) (execs (b₀::suite) env)
    (λf s₄=>wpAny (model prog w) A (do bindName env n .none;unbindBehindTheSuite env n pos) (λ_ s₅=>Q f s₅) E s₄) (λ_ _=>False) s₃) (λ_ _=>False) s₂) (λ_ _=>False) s₁) (λ_ _=>False) s) :
  wpAny (model prog w) A (handleBy (.ref a) env (.ExceptHandler (some t) (some n) (b₀::suite) pos::rest)) Q E s:=by
 refine wpAny_handleBy_cons (codeAny_handlers_test (wpAny_mono h (λc s₁ h₁=>?_) λ_ _ y=>False.elim y)) (by intro q;cases q);obtain⟨rfl,KI,⟨oe,he,hcls⟩,hk⟩:=h₁;obtain⟨hh,g,d,tk,os⟩:=s₁;refine zie KI k he hcls ms (codeAny_handlers_suite_as ?_);exact wpAny_mono hk (λ_ s₂ h₂=>wpAny_mono h₂ (λ_ s₃ h₃=>wpAny_mono h₃ (λ_ _ y=>y) λ_ _ y=>False.elim y) λ_ _ y=>False.elim y) λ_ _ y=>False.elim y
end
section
variable {X:Cx}{pins:Y2}{σ:St}{H:Hp}{s:Shared}{k:Nat}{fa:Addr}{fd:FuncData}{ps:List Str}{sp:Sp}
def tTry(K:Frag)(S:Addr)(sp:Sp)(i j:Nat)(t:TA)(ts:TS):TS:=λD σ H=>t σ H λvs H1=>sp vs H1 (λv H2=>D.nx (σ.set i (some v)) H2) λcls oa H2=>∀a,oa=some a->∃C,cls=.ref C/\mroIn K C (.ref S)=some true/\
 ∀H3,Same H2 H3->H3 a=some (excO a cls)->ts {nx:=λσ' H'=>(∃v,σ'[j]?=some (some v))/\D.nx (σ'.set j none) H',rt:=λ_ _=>False} (σ.set j (some (.ref a))) H3
theorem zv3{x f c n:Str}{i j:Nat}{S:Addr}{e:Expr}{es:List Expr}{t:TA}{ts:TS}{px np cpos apos cp hpos pos:Pos}{b₀:Stmt}{suite:List Stmt}(F:FnOk X.prog X.w X.K X.mg X.base (CXE X.prog X.w) k fa fd ps sp)(hr:Room k X.A)(hg:Gl X f)(hm:X.mg f=some (.ref fa))
  (hkp:PySem.W.keepIn X.K (.ref fa)=true) (hb:Binds X.K fd ps []) (ha:PA X.nox (e::es) t) (hgS:Gl X c) (hmS:X.mg c=some (.ref S)) (kS:KSup X.K S)
  (hx:X.ex=[]) (hst:X.stack=X.env::X.outer) (hfr:X.env.frame=some X.env.locals) (hN:X.N.Nodup) (hi:X.N[i]?=some x) (hxl:Loc X.env.scope x) (hj:X.N[j]?=some n) (hnl:X.env.scope.names.lookup n=some .local) (hsu:∀a,PSs (X.held a) (b₀::suite) ts)
  (hs:swapsWith (.Call (.Name f np) (e::es) [] cpos) (some (.Name x px)) apos.line X.env=pure false:=by rfl) (hf:X.fn x=true\/X.env.scope.names.lookup x=some .local:=by first|exact .inl rfl|exact .inr rfl|assumption) (hdb:(f==("__debug__":Str))=false:=by decide)
  (hdc:(c==("__debug__":Str))=false:=by decide) (he:starEach (e::es) X.env=(false,eval e X.env)::starEach es X.env:=by rfl) (hpl:(backTo cpos (starEach es X.env)).any (·.1)=false:=by rfl) :
  PS X (.Try [.Assign [.Name x px] (.Call (.Name f np) (e::es) [] cpos) apos] [.ExceptHandler (some (.Name c cp)) (some n) (b₀::suite) hpos] [] [] pos) (tTry X.K S sp i j t ts):=by
 intro pins s σ H D I h;refine wpAny_Try_except (wpAny_execs_cons (wpAny_Assign_Name (wpAny_mono (zu5 F hr hg hm hkp hb ha I h (Xe:=_) (λH1 s1 ev s' I1 cx=>?_) hdb he hpl) (λv s1 zz=>ex5 zz λy H1 I1 r1 q1=>?_) λ_ _ z=>z) hs))
 ·-- an exception
  obtain⟨a,cls,H2,rfl,os,bare,un,hok,⟨oe,vs,T,oT,tts,t1,t2,t3,t4,t6,t7,t8,t9,n1,n2,h1,h2⟩,ee⟩:=cx;obtain⟨C,rfl,ms,ht⟩:=ee a rfl;have I2:Inv X pins σ H2 s':=I1.call' (ch:=[]) os un hok bare λb z=>nomatch z;have nex:∀b,b∉X.ex:=λb z=>by rw[hx]at z;cases z
  have s0:∀b,s1.heap.get? b=none->X.s₀.heap.get? b=none:=λb z=>by
   cases q:X.s₀.heap.get? b with
   |none=>rfl
   |some o =>
    obtain⟨o',e'⟩:=I1.base.there b o q (nex b);rw[z]at e';cases e'
  have pn:∀b,s1.heap.get? b=none->∀p∈X.pn++pins,p.1≠b:=λb z p hp q=>by
   have:=(I1.pin p hp).1;rw[q,z]at this;cases this
  have I3:=I2.adopt (o:=excO a (.ref C)) h1 (s0 a n1) t1 t3 (pn a n1) (zxf ⟨oe,vs,t1,t2,t3⟩);have h2':upd H2 a (excO a (.ref C)) T=none:=by rw[zan t6];exact h2
  have I4:=I3.adopt (o:=tbO T) h2' (s0 T n2) t7 t8 (pn T n2) (zvq ⟨oT,tts,t7,t8⟩);refine zq9 (base:=X.base) (outer:=X.outer) (L:=X.env.locals) (T:=T) (by rw[←hst];exact I.ok.frames) (by rw[←hst];exact I2.stack) hfr t1 t3 t4 t6 t7 t8 t9 λh'' kk sl tb ⟨oe',vs',T2,oT2,ts2,u1,u2,u3,u4,u5,u6,u7,u8,u9⟩=>?_;rw[←hst]at kk sl;have ea4:upd (upd H2 a (excO a (.ref C))) T (tbO T) a=some (excO a (.ref C)):=by rw[zan (Ne.symm t6),zao]
  have I5:=I4.touch (L:=[a,T]) (t':=s'.toks) (h':=h'') (λb o b1 b2 q=>kk b o b1 (λz=>b2 (by simp[z])) (λz=>b2 (by simp[z])) q) sl λb hb=>by
   simp only[y02,y07,or_false]at hb;rcases hb with rfl|rfl
   ·exact⟨_,ea4,⟨oe',vs',u1,u2.trans t2,u3⟩,_,u1⟩
   ·obtain⟨o,w,e1,e2⟩:=id tb;exact⟨_,zao,tb,o,e1⟩
  have T2n:s1.heap.get? T2=none:=by
   cases q:s1.heap.get? T2 with
   |none=>rfl
   |some o =>
    obtain⟨o',e'⟩:=un.there T2 o q (λz=>nomatch z);rw[u9]at e';cases e'
  have T2T:T2≠T:=λz=>by rw[z,t7]at u9;cases u9
  have HT2:upd (upd H2 a (excO a (.ref C))) T (tbO T) T2=none:=by
   rw[zan T2T,zan u5];cases q:H2 T2 with
   |none=>rfl
   |some o =>
    obtain⟨o',e'⟩:=zci (hok T2 o q);rw[u9]at e';cases e'
  have I6:=I5.adopt (o:=tbO T2) HT2 (s0 T2 T2n) u6 u7 (pn T2 T2n) (zvq ⟨oT2,ts2,u6,u7⟩);generalize eH:upd (upd (upd H2 a (excO a (.ref C))) T (tbO T)) T2 (tbO T2)=H3 at I6;have g3:Same H2 H3:=by rw[←eH];exact(zba h1 _).trans ((zba h2' _).trans (zba HT2 _))
  have ea3:H3 a=some (excO a (.ref C)):=by rw[←eH,zan (Ne.symm u5)];exact ea4
  have eT3:H3 T2=some (tbO T2):=by rw[←eH];exact zao
  refine zoz kS ms (zde (X:=X.held a) (I6.held (a:=a)) hgS hmS ⟨rfl,I6.kIn,⟨oe',u1,u2.trans t2⟩,?_⟩ hdc);refine zo4 I6 u1 u3 u4 u6 u7 (y20.mp u8).1 eT3 λh7 I7=>?_;refine zc1 (v:=V.ref a) I7 hN hj (.inl hnl) rfl (λs8 I8=>?_) (.inr hnl);refine wpAny_mono (hsu a pins s8 _ H3 _ (I8.held (a:=a)) (ht H3 g3 ea3)) (λfl s9 hp=>?_) λ_ _ z=>False.elim z;cases fl with
  |next =>
   obtain⟨σ9,H9,I9,⟨v,hv⟩,q9⟩:=hp;have I9':=I9.unheld I.ok;refine wpAny_bind (wpAny_bindName (zc1 (v:=V.non) I9' hN hj (.inl hnl) rfl (λs10 I10=>?_) (.inr hnl)));unfold unbindBehindTheSuite;refine wpAny_onRaise (zmm (v:=V.non) I10 hN hj hnl (y2a (by rw[I9'.len];exact(y0f.mp hj).1)) λs11 I11=>?_);rw[List.set_set]at I11;exact⟨_,H9,I11,q9⟩
  |brk=>obtain⟨_,_,_,z⟩:=hp;exact False.elim z
  |cont=>obtain⟨_,_,_,z⟩:=hp;exact False.elim z
  |ret u=>obtain⟨_,_,_,_,_,z⟩:=hp;exact False.elim z
 ·exact zc1 I1 hN hi hxl r1 (λs2 I2=>wpAny_execs_nil (wpAny_execs_nil ⟨_,H1,I2,q1⟩)) hf
end
theorem zxr{K:Frag}(X:K.In h)(hm:mg x=some (.ref C))(q:excIn K C bmB newId=true):OwnCls x C bmB newId mg h:=by
 refine⟨hm,?_⟩;unfold excIn at q;split at q
 ·rename_i dd cd sl ho;split at q
  ·rename_i C' bm k0 k1 k2 k3 n k5 e1 e2;simp only[y05,beq_iff_eq,Bool.not_eq_true']at q;obtain⟨⟨⟨⟨⟨z1,z2⟩,z3⟩,z4⟩,z5⟩,z6⟩:=q;have hC:=X _ _ ho;obtain⟨nm,bs,mro,ns,qn,hd,sn,sub,ab,col,del⟩:=cd;simp only at e1 z3 z5 z6;subst e1 z1 z2 z3;obtain⟨l⟩:=sl;simp only at e2;subst e2;exact⟨bm,ns,nm,qn,bs,hd,sn,sub,ab,col,dd,k0,k1,k2,k3,k5,_,hC,.of_isNs (isNs_of_in X z5),nsMap_none_of_in X z5 z6,tail_of_in X z4⟩
  ·cases q
 ·cases q
theorem zdo{X:Cx}{E:XK}{x:Str}{C:Addr}{B newId initId:String}{bm:List Value}{np cpos pos:Pos}{e₀:Expr}{rest:List Expr}{t:TA}(R:Rs X E)(hc:X.calm=true)(hg:Gl X x)(hm:X.mg x=some (.ref C))(hq:excIn X.K C bm newId=true)(FB:ExcBaseFacts B newId initId bm)(ha:PA X (e₀::rest) t)
  (he:starEach (e₀::rest) X.env=(false,eval e₀ X.env)::starEach rest X.env:=by rfl) (hp:(backTo cpos (starEach rest X.env)).any (·.1)=false:=by rfl) (hd:(x==("__debug__":Str))=false:=by decide) :
  PS X (.Raise (some (.Call (.Name x np) (e₀::rest) [] cpos)) none pos) (tRaise E (.ref C) t):=λpins s σ H D I h =>
 zqc R hc hg (zxr I.ok.mod.kin hm hq) FB ha he hp hd pins s σ H D I h
structure CalE(P:Program)(w:World)(K:Frag)(mg:Y1)(base:Heap)(n:Nat)(x:Str)(ps:List Str)(sp:Sp):Prop where
 ex:∃f fd,FnOk P w K mg base (CXE P w) n f fd ps sp/\Binds K fd ps []/\PySem.W.keepIn K (.ref f)=true/\mg x=some (.ref f)
theorem Dfn.calE{P:Program}{w:World}{K:Frag}{mg:Y1}{base:Heap}{x:Str}{st:Stmt}{N ps:List Str}{k:Nat}{sp:Sp}(d:Dfn K mg x st ps)(S:FnScope N ps (defScope st))(len:∀vs H Q E,sp vs H Q E->vs.length=ps.length)
  (hbody:∀(f:Addr) (cdv:Value) (A:Around) (outer:List Env) (s:Shared) (H:Hp) (vs:List V) (Q:VK) (E:XK),Room k (A.deeper (envOfC x (defScope st) s.heap.objs.size f cdv))->sp vs H Q E->Rs (cxOf (CXE P w) P w K mg base N x (defScope st) f cdv A outer s H E) E->
   ∃t,PSs (cxOf (CXE P w) P w K mg base N x (defScope st) f cdv A outer s H E) (defBody st) t/\t {nx:=λ_ H'=>Q .non H',rt:=Q} (start N vs) H):CalE P w K mg base (k+1) x ps sp:=by
 obtain⟨f,fd,F,b,m⟩:=d.ex;exact⟨f,fd,F.okE S len (hbody f),b,F.kp,m⟩
theorem zbt(K:Frag)(h:X.K=K:=by rfl):CallR X (.builtin "isinstance") (rIsX K):=h▸zr3
theorem zmh(K:Frag)(h:X.K=K:=by rfl):CallR X (.builtin "isinstance") (rIsXT K):=h▸zpo
theorem ztl{X:Cx}{k m:Nat}{x f c n:Str}{i j:Nat}{S:Addr}{ps:List Str}{sp:Sp}{e:Expr}{es:List Expr}{t:TA}{ts:TS}{px np cpos apos cp hpos pos:Pos}{b₀:Stmt}{suite:List Stmt}(C:CalE X.prog X.w X.K X.mg X.base m f ps sp)(hr:Room k X.A)(hle:m<=k)(hg:Gl X f)
  (ha:PA X.nox (e::es) t) (hgS:Gl X c) (hmS:X.mg c=some (.ref S)) (kS:KSup X.K S) (hx:X.ex=[]) (hst:X.stack=X.env::X.outer) (hfr:X.env.frame=some X.env.locals) (hN:X.N.Nodup) (hi:X.N[i]?=some x) (hxl:Loc X.env.scope x) (hj:X.N[j]?=some n)
  (hnl:X.env.scope.names.lookup n=some .local) (hsu:∀a,PSs (X.held a) (b₀::suite) ts)
  (hs:swapsWith (.Call (.Name f np) (e::es) [] cpos) (some (.Name x px)) apos.line X.env=pure false:=by rfl) (hf:X.fn x=true\/X.env.scope.names.lookup x=some .local:=by first|exact .inl rfl|exact .inr rfl|assumption) (hdb:(f==("__debug__":Str))=false:=by decide)
  (hdc:(c==("__debug__":Str))=false:=by decide) (h1:notStar e=true:=by rfl) (h2:es.all notStar=true:=by rfl) :
  PS X (.Try [.Assign [.Name x px] (.Call (.Name f np) (e::es) [] cpos) apos] [.ExceptHandler (some (.Name c cp)) (some n) (b₀::suite) hpos] [] [] pos) (tTry X.K S sp i j t ts):=by
 obtain⟨fa,fd,F,b,kp,mm⟩:=C.ex;exact zv3 F (hr.mono hle) hg mm kp b ha hgS hmS kS hx hst hfr hN hi hxl hj hnl hsu hs hf hdb hdc (za7 h1) (zbl h2)
end L2
namespace SM
open PySem PySem.Spec PyProof.Rows L2 SS
abbrev veM:List Value:=[.type "ValueError",.type "Exception",.type "BaseException",.type "object"]
end SM
namespace L2
open PySem PySem.Spec PyProof.Rows PySem.W PySem.Calls
theorem zei{X:Cx}{E:XK}{n k:Nat}{x:Str}{ps:List Str}{sp:Sp}{p pos:Pos}{e:Expr}{es:List Expr}{t:TA}(R:Rs X E)(C:CalE X.prog X.w X.K X.mg X.base n x ps sp)(hr:Room k X.A)(hle:n<=k)(hg:Gl X x)(ha:PA X (e::es) t)(hdb:(x==("__debug__":Str))=false:=by decide)
  (h1:notStar e=true:=by rfl) (h2:es.all notStar=true:=by rfl):PE X (.Call (.Name x p) (e::es) [] pos) (tCall sp [] E t):=by
 obtain⟨f,fd,F,b,kp,m⟩:=C.ex;exact znq F (hr.mono hle) hg m kp b .nil (R.passes λ_ _ _ h=>h) ha hdb (za7 h1) (zbl h2)
end L2
namespace SM
open PySem PySem.Spec PyProof.Rows L2 SS
def NoLen(H:Hp)(v:V)(n:Int):Prop:=(∃r:Int,v=.int r/\¬(0<=r/\r<n))\/∃k,Kd H v k/\k≠"int"
def zhl:Sp:=λvs H Q _=>∃v,vs=[v]/\((∃r:Int,v=.int r/\Q (.bl true) H)\/∃k,Kd H v k/\k≠"int"/\Q (.bl false) H)
def zhp:Sp:=λvs H Q _=>∃(v:V) (n:Int),vs=[v,.int n]/\((∃r:Int,v=.int r/\0<=r/\r<n/\Q (.bl true) H)\/(NoLen H v n/\Q (.bl false) H))
end SM
namespace L2
open PySem PySem.Spec PyProof.Rows PySem.W PySem.Calls
section
variable {X:Cx}{pins:Y2}{σ:St}{H:Hp}{s:Shared}{k:Nat}{fa:Addr}{fd:FuncData}{ps:List Str}{sp:Sp}
def tTryA(K:Frag)(S:Addr)(sp:Sp)(j:Nat)(t:TA)(ts:TS):TS:=λD σ H=>t σ H λvs H1=>sp vs H1 (λv H2=>D.nx σ H2) λcls oa H2=>∀a,oa=some a->∃C,cls=.ref C/\mroIn K C (.ref S)=some true/\
 ∀H3,Same H2 H3->H3 a=some (excO a cls)->ts {nx:=λσ' H'=>(∃v,σ'[j]?=some (some v))/\D.nx (σ'.set j none) H',rt:=λ_ _=>False} (σ.set j (some (.ref a))) H3
end
theorem zh2:OpR X (compareOp .LtE) (λx y H Q=>∃i j,x=.str i/\y=.str j/\Q (.bl (!(decide (j.cps.toList<i.cps.toList)))) H):=by
 infer_instance;obtain⟨i,j,rfl,rfl,q⟩:=h;obtain⟨t,rfl⟩:=rx;obtain⟨t',rfl⟩:=ry;exact PySem.P.le_str (za6 I q rfl)
def rIsXP(K:Frag):List V->Hp->VK->Prop:=λxs H Q=>∃(a C tp:Addr) (Cs:List Addr) (b:Bool),xs=[.ref a,.ref tp]/\H a=some (excO a (.ref C))/\KExc K C/\H tp=some (.tup (Cs.map V.ref))/\kitAny K (.ref C) (Cs.map Value.ref)=some b/\Q (.bl b) H
section
variable {tn:List Str}{cp:Y6}{g:TG}{tif:TT}{te:TE}{σ0:St}{Q:VK}{H1:Hp}
theorem zvg{K:Frag}{a:Addr}{xs:List V}(S:St->Prop)(p:Nat->Bool)(f:Nat->V)(hn:xs.length<=1000)(ha:SqL K H1 a xs)(h0:S (stB tn cp σ0))
  (hs:∀D i σ H x pt H2,xs[i]?=some x->Same H1 H->H1 D=none->H D=some (.lst (((List.range i).filter p).map f))->S σ->New H pt (.tup [.int (i:Int),x]) H2->g (.ref pt) σ H2 λσ2 H3=>tif σ2 H3 λc H4 =>
   if c=true then te σ2 H4 λv H5=>CStep D xs.length i (PRnF S p f H1) σ2 v H5 else CSkip D xs.length i (PRnF S p f H1) σ2 H4)
  (hd:∀D H,H1 D=none->Same H1 H->H D=some (.lst (((List.range xs.length).filter p).map f))->Q (.ref D) H):cBody tn cp g tif te σ0 Q (Ite K a) H1:=by
 refine zvh xs.length (λD=>PRnF S p f H1) (zaf hn) (λD hD=>⟨zba hD _,h0,rfl⟩) (λD i ys σ H _ hi _ q=>⟨xs,xs[i],q.1.seq ha,y0n hi⟩) (λD ys σ H _ _ q=>⟨xs,q.1.seq ha,y04 _⟩) ?_ ?_
 ·rintro D i ys σ H x H' hD hi hH hl ⟨p1,p2,rfl⟩ ⟨pt,u,e,n1,ex⟩;subst e;exact hs D i σ H u pt H' (ex xs (p1.seq ha)) p1 hD hH p2 n1
 ·rintro D ys σ H hD hH hl ⟨p1,p2,rfl⟩;exact hd D H hD p1 hH
end
end L2
namespace SM
open PySem PySem.Spec PyProof.Rows L2 SS
def cw(row:List Nat)(k:Nat):Nat:=(row.filter λl=>l/2^k%2==1).length
def isP(z:Str):Bool:=isNm (.str z) SMALL
def fitB(names:List Str)(row:List Nat):Bool:=(List.range names.length).all λk=>!isP (names.getD k (Str.ofString ""))||cw row k==1
def NmOk(z:Str):Prop:=Nam z SMALL\/Nam z GREAT
def FrOk(names:List Str):Prop:=names.length<=4/\∀z∈names,NmOk z
def zeo:Sp:=λvs H Q _=>∃(r:Int) (k:Nat),vs=[.int r,nV k]/\k<=4/\Q (.bl (decide (0<=r/\r<2^k))) H
def zho:Sp:=λvs H Q _=>∃(r:Addr) (row:List Nat) (k:Nat),vs=[.ref r,nV k]/\H r=some (.lst (row.map nV))/\row.length<=200/\(∀l∈row,l<32)/\k<=4/\∀H',Same H H'->Q (nV (cw row k)) H'
def zmu:Sp:=λvs H Q _=>∃(f r:Addr) (names:List Str) (row:List Nat),vs=[.ref f,.ref r]/\H f=some (.lst (names.map V.str))/\FrOk names/\H r=some (.lst (row.map nV))/\row.length<=200/\(∀l∈row,l<32)/\∀H',Same H H'->Q (.bl (fitB names row)) H'
theorem zxm:∀l,l<32->∀t,t<5->Builtin.bitAnd (((l:Nat):Int)/2^t) 1=if(l/2^t%2==1)=true then 1 else 0:=by decide+kernel
theorem zsx(k:Nat)(hk:k<=4):∀(row:List Nat),(∀l∈row,l<32)->(row.map λ(l:Nat)=>Builtin.bitAnd ((l:Int)/2^k) 1).sum=((cw row k:Nat):Int)
 |[],_=>rfl
 |l::row,h=>by
  have ih:=zsx k hk row λx hx=>h x (y09 _ hx);rw[y0k,y2s,ih,zxm l (h l (y0c ..)) k (by omega)];unfold cw;rw[List.filter_cons];split
  ·rw[y0a];omega
  ·omega
theorem zrb(h:NmOk z):z.length<=1000:=by
 have key:∀l,Nam z l->z.length<=1000:=λl hl=>by
  obtain⟨d,ds,e,_,h3,_⟩:=hl.ex;have:z.length=z.cps.toList.length:=by simp[Str.length]
  rw[this,e,y0a];omega
 rcases h with h|h
 ·exact key _ h
 ·exact key _ h
theorem zvc(c:Nat):decide (nV c=V.int 1)=(c==1):=by
 by_cases h:c=1
 ·subst h;rfl
 ·rw[decide_eq_false (λe=>h (by injection e with e;omega))];simp[h]
theorem zi1:∀d∈SMALL.cps.toList,(!decide ([d]<(Str.ofString "a").cps.toList))=true/\(!decide ((Str.ofString "z").cps.toList<[d]))=true:=by decide+kernel
theorem ze6:∀d∈GREAT.cps.toList,(!decide ([d]<(Str.ofString "a").cps.toList))=false/\signIn d SMALL=false:=by decide+kernel
theorem zrc(h:NmOk z):∃d ds,z.cps.toList=d::ds/\(isP z=true->(!decide ([d]<(Str.ofString "a").cps.toList))=true/\(!decide ((Str.ofString "z").cps.toList<[d]))=true)/\(isP z=false->(!decide ([d]<(Str.ofString "a").cps.toList))=false):=by
 rcases h with h|h
 ·obtain⟨d,ds,e,h1,_⟩:=h.ex;refine⟨d,ds,e,λ_=>zi1 d h1,λhp=>?_⟩;have:isP z=true:=zh8 zg1 h;rw[this]at hp;cases hp
 ·obtain⟨d,ds,e,h1,_⟩:=h.ex;refine⟨d,ds,e,λhp=>?_,λ_=>(ze6 d h1).1⟩;have:isP z=false:=by simp[isP,isNm,nameB,e,(ze6 d h1).2]
  rw[this]at hp;cases hp
theorem zxo(h:k<4):(0:Int)<2^k/\(2:Int)^k<=8:=by
 have:k=0\/k=1\/k=2\/k=3:=by omega
 rcases this with rfl|rfl|rfl|rfl<;>decide
theorem at_m(hk:k<4):atI [V.int 1,V.int 2,V.int 4,V.int 8] ((k:Nat):Int)=some (V.int ((2:Int)^k)):=by
 have:k=0\/k=1\/k=2\/k=3:=by omega
 rcases this with rfl|rfl|rfl|rfl
 ·exact zak (j:=0) rfl
 ·exact zak (j:=1) rfl
 ·exact zak (j:=2) rfl
 ·exact zak (j:=3) rfl
theorem ztk(ha:SqL X.K H a xs)(hb:SqL X.K H b xs)(fl:∀x∈xs,flatV x=true/\eqV x x=true):RcOk X 1 H (.ref a) (.ref b) true:=by
 have f:xs.all flatV=true:=y0q.mpr λx hx=>(fl x hx).1;have r:=zlp (X:=X) ha hb f f;rw[show(xs.length==xs.length&&(List.range xs.length).all λj=>eqV (xs.getD j .non) (xs.getD j .non))=true by
  rw[beq_self_eq_true,y1b,y0q];intro j hj;have hj':=y2d.mp hj;rw[y1c,y0n hj'];exact(fl _ (y1q hj')).2]at r
 exact r
theorem zu8(ha:SqL X.K H a xs)(hb:SqL X.K H b xs)(fl:∀x∈xs,flatV x=true/\eqV x x=true):EqOk X (k+1) H (.ref a) (.ref b) true:=by
 by_cases hab:a=b
 ·subst hab;exact zo8
 ·exact .of_rc hab ((ztk ha hb fl).up (by omega))
theorem zks(e:z.cps.toList=d::ds)(h1:d∈l.cps.toList)(h2:ds.length<=3)(h3:∀x∈ds,x∈FIGS.cps.toList):Nam z l:=⟨d,ds,e,h1,h2,h3⟩
theorem zel(a b:Str):(a++b).cps.toList=a.cps.toList++b.cps.toList:=by
 show(Str.append a b).cps.toList=_;simp[Str.append]
theorem len_list(z:Str):z.length=z.cps.toList.length:=by simp[Str.length]
theorem zve{α:Type}{xs:List α}{lo hi:Option Int}{x:α}(h:x∈cutL xs lo hi):x∈xs:=List.mem_of_mem_drop (List.mem_of_mem_take h)
end SM
namespace L2
open PySem PySem.Spec PyProof.Rows PySem.W PySem.Calls
section
variable {X:Cx}{pins:Y2}{σ:St}{H:Hp}{s:Shared}{k:Nat}{fa:Addr}{fd:FuncData}{ps:List Str}{sp:Sp}
def tTry2A(K:Frag)(S:Addr)(sp:Sp)(j:Nat)(tb:TS)(t:TA)(ts:TS):TS:=λD σ H=>tb {nx:=λσ1 H1=>tTryA K S sp j t ts D σ1 H1,rt:=λ_ _=>False} σ H
end
def rUpper:V->List V->Hp->VK->Prop:=λx vs H Q=>∃z,x=.str z/\vs=[]/\Builtin.Str.tooLong (Txt.upper z).length=false/\Q (.str (Txt.upper z)) H
theorem zre:MtR X "str.upper" rUpper:=by
 intro pins s σ H x xs v us Q I rx rs h;obtain⟨z,rfl,rfl,hf,q⟩:=h;obtain⟨t,rfl⟩:=rx;cases rs;exact SC.upper hf ⟨.str _,H,I.tok _,⟨_,rfl⟩,q⟩
end L2
namespace PySem
open AutoSeq1
theorem ze2(l b:Addr)(items items2:Array Value)(n n2:Nat)(dd:Option Addr)(sl:Y8)(hs0:¬(!items.isEmpty&&Builtin.List.listTooLong (items.size+items2.size))=true)(hs1:items.size<=sizeLine)(hs2:items.size+items2.size<=sizeLine+1):
  Meets (Builtin.«list.extend» ⟨[.ref l,.ref b],[]⟩) (λ_ R s=>s.heap.get? l=some {cls:=.type "list",dict:=none,data:=.seq items n,slots:=#[]}/\s.heap.get? b=some {cls:=.type "tuple",dict:=dd,data:=.seq items2 n2,slots:=sl}/\R (.ok (.ret Value.none)) {s with heap:=s.heap.update l (Obj.mapSeq λx=>x++items2),toks:=s.toks}) :=
 .of_wp λpg wd Ar Re st0 hyp=>by
  obtain⟨hp0,ga,dr,tks,ost⟩:=st0;obtain⟨el,eb,fin⟩:=hyp;have s1:=idx_int;have s2:=AutoSeq1.sub_tuple_tuple;have s3:=AutoSeq1.sub_list_list;have s4:=AutoSeq1.sub_tuple_list;have s5:=AutoSeq1.sub_list_tuple;have fit:(items++items2).size<=sizeLine+1:=by rw[Array.size_append];omega
  wp_walk using(wpAny_updateSeq el rfl (hz:=hs1) (_hz':=fit)),wpAny_loadPart' el,wpAny_loadPart' eb
  exact⟨_,rfl,fin⟩
end PySem
namespace L2
open PySem PySem.Spec PyProof.Rows PySem.W PySem.Calls
def rExtendT(K:Frag):V->List V->Hp->VK->Prop:=λx vs H Q=>∃l b xs zs,x=.ref l/\vs=[.ref b]/\H l=some (.lst xs)/\SqT K H b zs/\xs.length+zs.length<=sizeLine/\Q .non (upd H l (.lst (xs++zs)))
theorem zlz:MtM X "list.extend" (rExtendT X.K):=by
 intro pins s σ H x vs v us Q I rx rv h;obtain⟨l,b,xs,zs,rfl,rfl,hH,hB,hz,q⟩:=h;cases rx;obtain⟨u,rfl,ru⟩:=rv.one;cases ru;obtain⟨z,its,n,r,hl,e⟩:=I.lstM hH;obtain⟨its2,r2,⟨⟨c2,dd2,da2,sl2⟩,e2,hc2,n2,hd2⟩,_⟩:=I.tuple hB;simp only at hc2 hd2;subst hc2 hd2;have hl2:=r2.length;have hsz:its.toArray.size+its2.toArray.size<=sizeLine:=by rw[y03,y03];omega
 have hlong:¬(!its.toArray.isEmpty&&Builtin.List.listTooLong (its.toArray.size+its2.toArray.size))=true:=by
  rw[notLongL hsz,y2l];exact y0e
 refine call_meets F.slot_list_extend ⟨_,e,rfl⟩ F.entry_list_extend (F.args_list_extend_2 _ _)
  (ze2 l b its.toArray its2.toArray n n2 dd2 sl2 hlong (by rw[y03];omega) (by omega)) ⟨e,e2,?_⟩
 refine⟨.non,_,I.lset (its':=its++its2) hH e (by simp) (r.append r2) ?_,rfl,q⟩;rw[y06];omega
theorem zjj(K:Frag)(h:X.K=K:=by rfl):MtM X "list.extend" (rExtendT K):=h▸zlz
end L2
namespace SM
open PySem PySem.Spec PyProof.Rows L2 SS
inductive TrZ where
 |nil
 |node (l:Int) (a b:TrZ)
def TrZ.size:TrZ->Nat
 |.nil=>0
 |.node _ a b=>1+a.size+b.size
def TrZ.lets:TrZ->List Int
 |.nil=>[]
 |.node l a b=>l::(b.lets++a.lets)
def TreeZ(H:Hp):V->TrZ->Prop
 |v,.nil=>v=.non
 |v,.node l a b=>∃p va vb,v=.ref p/\H p=some (.tup [.int l,va,vb])/\TreeZ H va a/\TreeZ H vb b
theorem TreeZ.ts(g:TupS H H'):∀{v:V} {t:TrZ},TreeZ H v t->TreeZ H' v t
 |_,.nil,h=>h
 |_,.node _ _ _,⟨p,va,vb,e,z,h1,h2⟩=>⟨p,va,vb,e,g _ _ z,TreeZ.ts g h1,TreeZ.ts g h2⟩
theorem TreeZ.same(h:TreeZ H v t)(g:Same H H'):TreeZ H' v t:=h.ts g.tups
theorem TrZ.lets_len:∀t:TrZ,t.lets.length=t.size
 |.nil=>rfl
 |.node _ a b=>by show(b.lets++a.lets).length+1=1+a.size+b.size;rw[y06,TrZ.lets_len a,TrZ.lets_len b];omega
def stk(ts:List TrZ):List Int:=ts.reverse.flatMap TrZ.lets
def stw(ts:List TrZ):Nat:=(ts.map λt=>2*t.size+1).sum
theorem zgd(ts:List TrZ)(t:TrZ):stk (ts++[t])=t.lets++stk ts:=by unfold stk;rw[List.reverse_append];simp
theorem zdh(ts:List TrZ)(t:TrZ):stw (ts++[t])=stw ts+(2*t.size+1):=by unfold stw;rw[y0r,List.sum_append];simp
theorem zr8(ts:List TrZ):ts.length<=stw ts:=by
 induction ts with
 |nil=>simp[stw]
 |cons t ts ih=>unfold stw at ih ⊢;rw[y0k,y2s,y0a];omega
theorem zjh{α:Type}(l:List α):l=[]\/∃L b,l=L++[b]:=by
 rcases List.eq_nil_or_concat l with h|⟨L,b,h⟩
 ·exact .inl h
 ·exact .inr ⟨L,b,by rw[h,List.concat_eq_append]⟩
theorem zex:∀{ys:List β} {xs:List α},Paired R xs (ys++[y])->∃xs0 x,xs=xs0++[x]/\Paired R xs0 ys/\R x y
 |[],_,.cons h .nil=>⟨[],_,rfl,.nil,h⟩
 |_::ys,_,.cons h t=>let⟨xs0,x,e,p,r⟩:=zex (ys:=ys) t;⟨_::xs0,x,by rw[e];rfl,.cons h p,r⟩
def zd3:Sp:=λvs H Q _=>∃(v:V) (t:TrZ),vs=[v]/\TreeZ H v t/\t.size<=100/\∀D H',H D=none->Same H H'->H' D=some (.lst (t.lets.map V.int))->Q (.ref D) H'
def zem(C:Addr):Sp:=λvs H Q E=>∃(f:Addr) (v:V) (names:List Str) (t:TrZ),vs=[.ref f,v]/\H f=some (.lst (names.map V.str))/\FrOk names/\TreeZ H v t/\t.size<=100/\
 ((∃row:List Nat,t.lets=row.map (λ(n:Nat)=>(n:Int))/\(∀l∈row,l<2^names.length)/\∀H',Same H H'->Q (.bl (fitB names row)) H')\/((∃x∈t.lets,¬(0<=x/\x<2^names.length))/\∀e H',Same H H'->H' e=none->E (.ref C) (some e) H'))
open PySem
def rowWords:List Str:=["in","same","within","ahead","next"]
def bit(c k:Nat):Bool:=c/2^k%2==1
abbrev Rd:=List Bool
def mkRel(wd:Str)(one other:Bool)(l r:Nat):Nat :=
 if one=true then(if(if wd="left" then l=1 else if wd="right" then r=1 else(l=1\/r=1))then 2 else 3)
 else if other=true then 1 else if l≠1/\r≠1 then 0 else if wd="above" then 1 else 3
def mkN(wd:Str)(one other:Bool)(l r:Nat):Nat :=
 if l=2\/r=2 then 2 else if l=3\/r=3 then 3 else
 if wd="within" then(if one=true/\other=false then 3 else 0)else
 if wd="in" then(if one=true then(if other=true then 2 else 3)else 0)else
 if wd="same" then(if one=true\/other=true then(if one=true/\other=true then 2 else 3)else 0)else mkRel wd one other l r
theorem zrf(wd:Str)(one other:Bool)(l r:Nat):mkRel wd one other l r<4:=by
 unfold mkRel
 repeat' split
 all_goals omega
theorem zwz(wd:Str)(one other:Bool)(l r:Nat):mkN wd one other l r<4:=by
 unfold mkN;split;omega;split;omega;split
 ·split<;>omega
 split
 ·repeat' split
  all_goals omega
 split
 ·repeat' split
  all_goals omega
 ·exact zrf _ _ _ _ _
def holdM(wd:Str)(m:Nat):Bool:=decide (m=2)||(decide (wd="within")&&decide (m=0))
end SM
namespace L2
def Itr3(lo c:Int)(n:Nat):It:=⟨λi _=>i<n,λi H x H'=>H'=H/\x=.int (lo+i*c),λi _=>n<=i⟩
def iRng3(ta:TA):TI:=λσ H R=>ta σ H λvs H1=>∃i j c:Int,vs=[.int i,.int j,.int c]/\c≠0/\Builtin.Range.small i j c=true/\(j-i).natAbs<1000/\c.natAbs<1000/\0<=Builtin.Range.rangeSize i j c/\R (Itr3 i c (Builtin.Range.rangeSize i j c).toNat) H1
structure DfnM(K:Frag)(C:Addr)(m q:Str)(st:Stmt)(ps:List Str):Prop where
 ex:∃f fd,Fun K m q st f fd/\Binds K fd ps []/\Meth K C m f
structure CalM(P:Program)(w:World)(K:Frag)(mg:Y1)(base:Heap)(n:Nat)(C:Addr)(m:Str)(ps:List Str)(sp:Sp):Prop where
 ex:∃f fd,FnOk P w K mg base CX0 n f fd ps sp/\Binds K fd ps []/\Meth K C m f
structure DfnI(K:Frag)(C:Addr)(q:Str)(st:Stmt)(ps:List Str):Prop where
 ex:∃f fd,Fun K "__init__" q st f fd/\Binds K fd ps []/\Mk K C f
structure CalI(P:Program)(w:World)(K:Frag)(mg:Y1)(base:Heap)(n:Nat)(C:Addr)(x:Str)(ps:List Str)(sp:Sp):Prop where
 ex:∃f fd,FnOk P w K mg base CX0 n f fd ps sp/\Binds K fd ps []/\Mk K C f
 mg:mg x=some (.ref C)
section
variable {P:Program}{w:World}{K:Frag}{mg:Y1}{base:Heap}{C:Addr}
theorem DfnM.cal{m q:Str}{st:Stmt}{N ps:List Str}{k:Nat}{sp:Sp}(d:DfnM K C m q st ps)(S:FnScope N ps (defScope st))(len:∀vs H Q E,sp vs H Q E->vs.length=ps.length)
  (hbody:∀(f:Addr) (cdv:Value) (A:Around) (outer:List Env) (s:Shared) (H:Hp) (vs:List V) (Q:VK) (E:XK),Room k (A.deeper (envOfC q (defScope st) s.heap.objs.size f cdv))->sp vs H Q E->
   ∃t,PSs (cxOf CX0 P w K mg base N q (defScope st) f cdv A outer s H E).nox (defBody st) t/\t {nx:=λ_ H'=>Q .non H',rt:=Q} (start N vs) H):CalM P w K mg base (k+1) C m ps sp:=by
 obtain⟨f,fd,F,b,M⟩:=d.ex;exact⟨f,fd,F.ok S len (hbody f),b,M⟩
theorem DfnI.cal{q x:Str}{st:Stmt}{N ps:List Str}{k:Nat}{sp:Sp}(d:DfnI K C q st ps)(hm:mg x=some (.ref C))(S:FnScope N ps (defScope st))(len:∀vs H Q E,sp vs H Q E->vs.length=ps.length)
  (hbody:∀(f:Addr) (cdv:Value) (A:Around) (outer:List Env) (s:Shared) (H:Hp) (vs:List V) (Q:VK) (E:XK),Room k (A.deeper (envOfC q (defScope st) s.heap.objs.size f cdv))->sp vs H Q E->
   ∃t,PSs (cxOf CX0 P w K mg base N q (defScope st) f cdv A outer s H E).nox (defBody st) t/\t {nx:=λ_ H'=>Q .non H',rt:=Q} (start N vs) H):CalI P w K mg base (k+1) C x ps sp:=by
 obtain⟨f,fd,F,b,M⟩:=d.ex;exact⟨⟨f,fd,F.ok S len (hbody f),b,M⟩,hm⟩
theorem DfnM.never{m q:Str}{st:Stmt}{ps:List Str}{sp:Sp}(d:DfnM K C m q st ps)(no:∀vs H Q E,¬sp vs H Q E):CalM P w K mg base 0 C m ps sp:=by
 obtain⟨f,fd,F,b,M⟩:=d.ex;exact⟨f,fd,⟨λvs H Q E h=>absurd h (no _ _ _ _),λ_ _ _ _ _ _ _ _ _ _ _ _ _ h=>absurd h (no _ _ _ _)⟩,b,M⟩
theorem CalM.mono(c:CalM P w K mg base j C m ps sp)(h:j<=k):CalM P w K mg base k C m ps sp:=by
 obtain⟨f,fd,F,r⟩:=c.ex;exact⟨f,fd,F.mono h,r⟩
end
section
variable {X:Cx}{C:Addr}{n k:Nat}{m x:Str}{ps:List Str}{sp:Sp}{p pos apos:Pos}{o e:Expr}{es:List Expr}{ta:TE}{t:TA}
theorem zau{pl:Sem Bool}(M:CalM X.prog X.w X.K X.mg X.base n C m ps sp)(c:Cls X.K C)(hr:Room k X.A)(hle:n<=k)(he:PE X o ta)(ha:PA X (e::es) t)
  (h1:notStar e=true:=by rfl) (h2:es.all notStar=true:=by rfl)
  (ht:eval (.Call (.Attribute o m apos) (e::es) [] pos) X.env=(do
   let ov ←eval o X.env
   standAt apos.atName
   let(f,first) ←holding [ov] (getMethod ov m pl)
   callWith pos f first (backTo pos (starEach (e::es) X.env)) (backToKw pos (keywordEach [] X.env))):=by rfl) :
  PE X (.Call (.Attribute o m apos) (e::es) [] pos) (tMeth C m sp [] E0 ta t):=by
 obtain⟨f,fd,F,b,hm⟩:=M.ex;exact ztu (pl:=pl) he c hm F (hr.mono hle) b .nil pass0 ha (za7 h1) (zbl h2) ht
theorem zqj(M:CalI X.prog X.w X.K X.mg X.base n C x ps sp)(hr:Room k X.A)(hle:n+1<=k)(hg:Gl X x)(hdb:(x==("__debug__":Str))=false:=by decide):PE X (.Call (.Name x p) [] [] pos) (tMake C sp [] E0 tNil):=by
 obtain⟨f,fd,F,b,hm⟩:=M.ex;exact zqk hm F (hr.mono hle) hg M.mg b .nil pass0 hdb
end
theorem zso:∀(zs:List Str) (m:Nat) (h:m<zs.length),zs.idxOf zs[m]<=m
 |y::r,0,h=>by simp
 |y::r,m+1,h=>by
  rw[List.idxOf_cons];have:=zso r m (by simpa using h);cases(y==(y::r)[m+1])
  ·simp only[cond_false,List.getElem_cons_succ];omega
  ·simp
def rIndexT(K:Frag):V->List V->Hp->VK->Prop:=λx vs H Q=>∃(p:Addr) (zs:List Str) (z:Str),x=.ref p/\vs=[.str z]/\SqL K H p (zs.map V.str)/\z∈zs/\zs.length<=1000/\Q (.int ((zs.idxOf z:Nat):Int)) H
theorem zoi(hu:X.A.units+8<cLine):MtR X "list.index" (rIndexT X.K):=by
 intro pins s σ H x xs v us Q I rx rs h;obtain⟨p,zs,z,rfl,rfl,hx,hk,hz,q⟩:=h;cases rx;obtain⟨u,rfl,t,rfl⟩:=vals1 rs;obtain⟨vs,rv,pl,_⟩:=I.list hx;have hlen:=rv.length;rw[y00]at hlen;have hv:∀(i:Nat) (hi:i<zs.length),∃(h:i<vs.length) (t:Tok),vs[i]=.str zs[i] t:=λi hi=>by
  obtain⟨h',y⟩:=rv.at (j:=i) (by omega);rw[List.getElem_map]at y;obtain⟨t,e⟩:=(show∃t,vs[i]=Value.str zs[i] t from y);exact⟨by omega,t,e⟩
 obtain⟨⟨cls,dd,data,sl⟩,ho,hc,n,hd⟩:=pl.isList;simp only at hc hd;subst hc hd;have hj:zs.idxOf z<zs.length:=y2o.mpr hk;let e':Value->Bool:=λ|.str b _=>decide (b=z)|_=>false
 refine call_meets PySem.F.slot_list_index ⟨_,ho,rfl⟩ PySem.F.entry_list_index (PySem.F.args_list_index_2 _ _)
  (SeqAt.list_indexAt p vs.toArray n dd sl (.str z t) e' (zs.idxOf z) (by simp;omega) (by omega) ?_ ?_) ⟨ho,λy hy=>?_,?_⟩
 ·obtain⟨h,t',e⟩:=hv _ hj;show e' vs[zs.idxOf z]=true;rw[e];exact decide_eq_true (List.getElem_idxOf hj)
 ·intro m hm hlt;have hm':m<zs.length:=by simp at hm;omega
  obtain⟨h,t',e⟩:=hv m hm';show e' vs[m]=false;rw[e];refine decide_eq_false λc=>?_;have h2:zs.idxOf z<=m:=by
   rw[←c];exact zso zs m hm'
  omega
 ·obtain⟨i,hi,rfl⟩:=y2j (show y∈vs by simpa using hy);obtain⟨h,t',e⟩:=hv i (by omega);rw[e];exact zfa (X:=X) (k:=0) (H:=H) (x:=.str zs[i]) (y:=.str z) rfl rfl pins σ s X.A.in1 _ _ (by show X.A.units+1+0<cLine;omega) I ⟨t',rfl⟩ ⟨t,rfl⟩
 ·exact⟨.int _,H,I.tok _,⟨_,rfl⟩,q⟩
theorem zf6(K:Frag)(hu:X.A.units+8<cLine)(h:X.K=K:=by rfl):MtR X "list.index" (rIndexT K):=h▸zoi hu
section
variable {K:Frag}{C:Addr}
theorem dfnm_mk{m q:Str}{st:Stmt}{ps:List Str}{f:Addr}{oc:Value}{od an:Option Addr}{osl:Y8}{kV doc pm cdv ct:Value}(a:PySem.W.findIn K (.ref C) m=some (some (.ref f)))(i:PySem.W.isFn K (.ref f)=true)
  (l:K.lookup f=some ⟨oc,od,.func (PySem.W.fnOf m q (defArgs st) (defBody st) (defScope st) .none kV doc pm an cdv ct),osl⟩) (c:PySem.W.codeIn K cdv q=true) (k:PySem.W.keepIn K (.ref f)=true)
  (hb:∀(kV doc pm:Value) (an:Option Addr) (cdv ct:Value) (us:List Value),us.length=ps.length->bindArgs (PySem.W.fnOf m q (defArgs st) (defBody st) (defScope st) .none kV doc pm an cdv ct) ⟨us,[]⟩=pure (ps.zip us)):DfnM K C m q st ps :=
 ⟨f,_,zd8 l c k,(zd8 l c k).binds hb,⟨a,i,k⟩⟩
theorem dfni_mk{q:Str}{st:Stmt}{ps:List Str}{f:Addr}{oc:Value}{od an:Option Addr}{osl:Y8}{kV doc pm cdv ct:Value}(mk:PySem.W.makesIn K C=true)(a:PySem.W.findIn K (.ref C) "__init__"=some (some (.ref f)))(i:PySem.W.isFn K (.ref f)=true)(kc:PySem.W.keepIn K (.ref C)=true)
  (l:K.lookup f=some ⟨oc,od,.func (PySem.W.fnOf "__init__" q (defArgs st) (defBody st) (defScope st) .none kV doc pm an cdv ct),osl⟩) (c:PySem.W.codeIn K cdv q=true) (k:PySem.W.keepIn K (.ref f)=true)
  (hb:∀(kV doc pm:Value) (an:Option Addr) (cdv ct:Value) (us:List Value),us.length=ps.length->bindArgs (PySem.W.fnOf "__init__" q (defArgs st) (defBody st) (defScope st) .none kV doc pm an cdv ct) ⟨us,[]⟩=pure (ps.zip us)):DfnI K C q st ps :=
 ⟨f,_,zd8 l c k,(zd8 l c k).binds hb,⟨mk,a,i,kc⟩⟩
theorem noattr_mk(h:PySem.W.findIn K (.ref C) f=some none):NoAttr K C f:=h
end
def gLst(K:Frag)(n:Nat)(t:TGs):TG:=λv σ H Q=>∃a xs,v=.ref a/\SqL K H a xs/\xs.length=n/\t xs σ H Q
end L2
namespace SM
structure Thg where
 w:Nat
 step:List Nat->List (List Nat)
 fin:List Nat->Bool
theorem zkr{α:Type}[DecidableEq α]:∀{xs ys:List α},xs.Nodup->(∀x∈xs,x∈ys)->xs.length<=ys.length
 |[],_,_,_=>y10 _
 |x::xs,ys,hn,h=>by
  rw[y11]at hn;have hx:=h x y0c;have:=zkr (ys:=ys.erase x) hn.2 λy hy=>(List.mem_erase_of_ne (λe=>hn.1 (by rw[←e];exact hy))).mpr (h y (y09 _ hy));rw[List.length_erase_of_mem hx]at this;have:=List.length_pos_of_mem hx;rw[y0a];omega
open PySem PySem.Spec PyProof.Rows L2 SS
theorem zk9{c a:Nat}(hc:c<32)(ha:a<=4):(!decide (Builtin.bitAnd (c:Int) ((2^a:Nat):Int)=0))=bit c a:=by
 have h:∀(c:Fin 32) (a:Fin 5),(!decide (Builtin.bitAnd ((c:Nat):Int) ((2^(a:Nat):Nat):Int)=0))=bit c a:=by decide+kernel
 exact h ⟨c,hc⟩ ⟨a,by omega⟩
theorem zb9{f g:Str}{v:V}{r:List (Str×V)}(h:(f==g)=false):List.lookup f ((g,v)::r)=List.lookup f r:=by simp only[List.lookup,h]
theorem zk5{f:Str}{v:V}{r:List (Str×V)}:List.lookup f ((f,v)::r)=some v:=by simp only[List.lookup,BEq.rfl]
end SM
namespace SS
open PySem PySem.Spec PyProof.Rows L2
abbrev ch(s:Str):List Nat:=s.cps.toList
theorem zxi(h:ch a=ch b):a=b:=Str.ext' (Array.toList_inj.mp h)
end SS
namespace SM
open PySem PySem.Spec PyProof.Rows L2 SS
def tx(q:Rd):Str:=⟨(q.map λb=>if b=true then 114 else 108).toArray⟩
def toldN(b:Bool):Nat:=if b=true then 2 else 3
def sidesN(wd:Str)(l r:Nat):List Nat:=if wd="left" then[l]else if wd="right" then[r]else[l,r]
def zc2:Sp:=λvs H Q _=>∃b:Bool,vs=[.bl b]/\Q (nV (toldN b)) H
def zkb:Sp:=λvs H Q _=>∃(wd:Str) (l r:Nat),vs=[.str wd,nV l,nV r]/\∀p H',Same H H'->H' p=some (.tup ((sidesN wd l r).map nV))->Q (.ref p) H'
def zmx:Sp:=λvs H Q _=>∃(wd:Str) (one other:Bool) (l r:Nat),vs=[.str wd,.bl one,.bl other,nV l,nV r]/\∀H',Same H H'->Q (nV (mkRel wd one other l r)) H'
def zi0:Sp:=λvs H Q _=>∃(wd:Str) (one other:Bool) (l r:Nat),vs=[.str wd,.bl one,.bl other,nV l,nV r]/\∀H',Same H H'->Q (nV (mkN wd one other l r)) H'
def zkf:Sp:=λvs H Q _=>∃(wd:Str) (m:Nat),vs=[.str wd,nV m]/\Q (.bl (holdM wd m)) H
theorem ze7(xs:List Nat):(xs.map nV).all flatV=true:=by
 rw[y0q];intro v hv;obtain⟨_,_,rfl⟩:=y0l.mp hv;rfl
theorem zrq(l k:Nat):eqV (nV l) (nV k)=decide (l=k):=by
 show((l:Int)==(k:Int))=_;rw[y1w,beq_iff_eq,decide_eq_true_iff];omega
theorem in2(l r k:Nat):inV (nV k) [nV l,nV r]=decide (l=k\/r=k):=by
 show(eqV (nV l) (nV k)||(eqV (nV r) (nV k)||false))=_;rw[zrq,zrq,y37,Bool.decide_or]
theorem in1(l k:Nat):inV (nV k) [nV l]=decide (l=k):=by
 show(eqV (nV l) (nV k)||false)=_;rw[zrq,y37]
theorem zrj(wd:Str)(l r:Nat):inV (nV 1) ((sidesN wd l r).map nV)=decide (if wd="left" then l=1 else if wd="right" then r=1 else(l=1\/r=1)):=by
 unfold sidesN;by_cases h1:wd="left"
 ·rw[if_pos h1];rw[decide_eq_decide.mpr (show(if wd="left" then l=1 else if wd="right" then r=1 else(l=1\/r=1))↔l=1 by rw[if_pos h1])];exact in1 l 1
 ·rw[if_neg h1];by_cases h2:wd="right"
  ·rw[if_pos h2];rw[decide_eq_decide.mpr (show(if wd="left" then l=1 else if wd="right" then r=1 else(l=1\/r=1))↔r=1 by rw[if_neg h1,if_pos h2])];exact in1 r 1
  ·rw[if_neg h2];rw[decide_eq_decide.mpr (show(if wd="left" then l=1 else if wd="right" then r=1 else(l=1\/r=1))↔(l=1\/r=1) by rw[if_neg h1,if_neg h2])];exact in2 l r 1
structure SA where
 p:Addr
 dx:Addr
 pp:Addr
 pf:Addr
 pn:Addr
 ps:Addr
abbrev fl4(x y z t:V):List (Str×V):=[("parts",x),("forms",y),("numbers",z),("steps",t)]
abbrev SA.fl(A:SA):List (Str×V):=fl4 (.ref A.pp) (.ref A.pf) (.ref A.pn) (.ref A.ps)
theorem zct:List.lookup ("parts":Str) (fl4 x y z t)=some x:=zk5
theorem zbs:List.lookup ("forms":Str) (fl4 x y z t)=some y:=(zb9 (by decide)).trans zk5
theorem ze8:List.lookup ("steps":Str) (fl4 x y z t)=some t:=(zb9 (by decide)).trans ((zb9 (by decide)).trans ((zb9 (by decide)).trans zk5))
theorem zbd(h1:(f==("parts":Str))=false)(h2:(f==("forms":Str))=false)(h3:(f==("numbers":Str))=false)(h4:(f==("steps":Str))=false):List.lookup f (fl4 x y z t)=none:=(zb9 h1).trans ((zb9 h2).trans ((zb9 h3).trans ((zb9 h4).trans rfl)))
theorem zu4(x y z t:V):putF "steps" t (putF "numbers" z (putF "forms" y (putF "parts" x [])))=fl4 x y z t:=by
 show putF "steps" t (putF "numbers" z (putF "forms" y [("parts",x)]))=_;have e1:putF "forms" y [("parts",x)]=([("parts",x),("forms",y)]:List (Str×V)):=by
  show(if("parts":Str)="forms" then _ else _)=_;rw[if_neg (by decide)];rfl
 rw[e1];have e2:putF "numbers" z [("parts",x),("forms",y)]=([("parts",x),("forms",y),("numbers",z)]:List (Str×V)):=by
  show(if("parts":Str)="numbers" then _ else _::(if("forms":Str)="numbers" then _ else _))=_;rw[if_neg (by decide),if_neg (by decide)];rfl
 rw[e2];show(if("parts":Str)="steps" then _ else _::(if("forms":Str)="steps" then _ else _::(if("numbers":Str)="steps" then _ else _::_)))=_;rw[if_neg (by decide),if_neg (by decide),if_neg (by decide)];rfl
theorem zva(ad:Adopted X σ H1 Hq)(e:H1 b=some u):dropX X H2 b=H2 b:=by
 have hc:¬CellOf X b:=λhc=>by rw[ad.2.1 b hc]at e;cases e
 exact if_neg hc
def treeW:List Str:=["in","same","within","left","right","above"]
theorem zcy(h:wd∈treeW):∀z:Str,z∈(["not","and","some set","some place","or","all","some"]:List Str)->¬V.str wd=V.str z:=λz hz e=>by
 have:=V.str.inj e;subst this;revert h hz;simp only[treeW,y02,y07,or_false];rintro h hz;rcases hz with rfl|rfl|rfl|rfl|rfl|rfl|rfl<;>exact absurd h (by decide)
end SM
namespace L2
abbrev Key2:=Key ⊕ List Key
section
variable {prog:Program}{w:World}
def Is2(prog:Program)(w:World)(h:Heap):Key2->Value->Prop
 |.inl k,v=>(mixKind prog w).is k v=true
 |.inr l,v=>∃b,v=.ref b/\IsTupleKey (mixKind prog w) h l b
inductive Its2(prog:Program)(w:World)(h:Heap):List Key2->List Value->Prop
 |nil:Its2 prog w h [] []
 |cons {k:Key2} {v:Value} {ks:List Key2} {vs:List Value}:Is2 prog w h k v->Its2 prog w h ks vs->Its2 prog w h (k::ks) (v::vs)
def IsNest(prog:Program)(w:World)(h:Heap)(ks:List Key2)(a:Addr):Prop:=∃o items n,h.get? a=some o/\o.cls=.type "tuple"/\o.data=.seq items n/\Its2 prog w h ks items.toList
theorem zhe(h:(mixKind prog w).is k v=true):carriedByValue v=true:=(mixKind prog w).byValue _ _ h
theorem Is2.inj(hx:Is2 prog w h x v)(hy:Is2 prog w h y v):x=y:=by
 cases x with
 |inl k =>
  cases y with
  |inl j=>rw[(mixKind prog w).inj _ _ _ hx hy]
  |inr l =>
   obtain⟨b,rfl,_⟩:=hy;exact absurd (zhe hx) (by simp[carriedByValue])
 |inr l =>
  obtain⟨b,rfl,hb⟩:=hx;cases y with
  |inl j=>exact absurd (zhe hy) (by simp[carriedByValue])
  |inr l' =>
   obtain⟨b',e,hb'⟩:=hy;cases e;rw[hb.inj hb']
theorem Its2.inj:∀{x y:List Key2},Its2 prog w h x vs->Its2 prog w h y vs->x=y:=by
 intro x y hx
 induction hx generalizing y with
 |nil=>intro hy;cases hy;rfl
 |cons h1 _ ih =>
  intro hy;cases hy with
  |cons h2 t2=>rw[h1.inj h2,ih t2]
theorem IsNest.ty{s:Shared}(x:IsNest prog w s.heap ks a):s.TypeIs (.ref a) "tuple":=let⟨o,_,_,ho,hc,_⟩:=x;⟨o,ho,hc⟩
theorem IsNest.inj(hx:IsNest prog w h x a)(hy:IsNest prog w h y a):x=y:=by
 obtain⟨o,its,n,ho,_,hd,hi⟩:=hx;obtain⟨o',its',n',ho',_,hd',hi'⟩:=hy;rw[ho]at ho';cases ho';rw[hd]at hd';cases hd';exact hi.inj hi'
theorem Is2.keeps(x:Is2 prog w h k v)(ho:h.get? d=some o)(hd:o.data=.dict es ep)(hs:Heap.SameBut d h h'):Is2 prog w h' k v:=by
 cases k with
 |inl k=>exact x
 |inr l =>
  obtain⟨b,e,hb⟩:=x;exact⟨b,e,hb.keeps ho hd hs⟩
theorem Its2.keeps(ho:h.get? d=some o)(hd:o.data=.dict es ep)(hs:Heap.SameBut d h h')(x:Its2 prog w h ks vs):Its2 prog w h' ks vs:=by
 induction x with
 |nil=>exact .nil
 |cons h1 _ ih=>exact .cons (h1.keeps ho hd hs) ih
theorem IsNest.keeps(x:IsNest prog w h ks a)(ho:h.get? d=some o)(hd:o.data=.dict es ep)(hs:Heap.SameBut d h h'):IsNest prog w h' ks a:=by
 obtain⟨o',its,n,ho',hc,hd',hi⟩:=x;have ne:a≠d:=λe=>by
  subst e;rw[ho]at ho';cases ho';rw[hd]at hd';cases hd'
 exact⟨o',its,n,(hs.2 a ne).trans ho',hc,hd',hi.keeps ho hd hs⟩
def hash2(prog:Program)(w:World):Key2->Int
 |.inl k=>(mixKind prog w).hash k
 |.inr l=>tupleKeyHash (mixKind prog w) l
def draws2:Key2->Nat
 |.inl _=>1
 |.inr l=>l.length+1
def drawsN(ks:List Key2):Nat:=(ks.map draws2).foldr (· + ·) 0
theorem zjp(ks:List Key2)(k:Key2):drawsN (ks++[k])=drawsN ks+draws2 k:=by
 unfold drawsN
 induction ks with
 |nil=>simp
 |cons x r ih =>
  rw[y2v,y0k,List.foldr_cons,ih,y0k,List.foldr_cons];omega
variable {A:Around}{E:Y0}{s:Shared}
theorem zoy(hu:A.units<cLine)(x:Is2 prog w s.heap k v)(q:Q (hash2 prog w k) {s with toks:=s.toks+draws2 k}):wpAny (model prog w) A (pyHash v) Q E s:=by
 cases k with
 |inl k=>exact(mixKind prog w).pyHash x q
 |inr l =>
  obtain⟨b,rfl,hb⟩:=x;exact wpAny_pyHash_tuple hu hb q
def nestHash(prog:Program)(w:World)(ks:List Key2):Int:=reduceHash (Builtin.Tuple.tupleHashOf (ks.map (hash2 prog w)))
theorem zox(hu:A.units+1<cLine)(hk:IsNest prog w s.heap ks a)(q:Q (nestHash prog w ks) {s with toks:=s.toks+(drawsN ks+1)}):
  wpAny (model prog w) A (pyHash (.ref a)) Q E s:=by
 have ty:=hk.ty;obtain⟨o,its,n,ho,_,hd,hi⟩:=hk;unfold pyHash
 first|unfold pyHashByItsType|skip
 first|refine wpAny_bind (wpAny_cRoomFor_or (.inr (Nat.lt_of_succ_lt hu)) ?_)|skip
 refine wpAny_bind (wpAny_specialOf ty PySem.F.slot_tuple_hash.lookup ?_);show wpAny _ _ (if(some (Value.builtin "tuple.__hash__")==some Value.none)=true then _ else _) Q _ s;rw[if_neg (by rw[beq_builtin_none];exactλz=>nomatch z)];refine wpAny_bind (wpAny_specialOf ty PySem.F.slot_tuple_hash.lookup ?_);show wpAny _ _ (callSpecialIfBoundUnlessNone? (.ref a) "__hash__" _>>=λ_=>_) Q _ s;refine wpAny_bind (wpAny_callSpecialIfBoundUnlessNone?_slot ty PySem.F.slot_tuple_hash (wpAny_call_entry PySem.F.slot_tuple_hash ty PySem.F.entry_tuple_hash ?_ (PySem.F.args_tuple_hash_1 _)));show wpAny _ _ (Builtin.Tuple.tupleItemsOf (.ref a)>>=λ_=>_) _ _ s;refine wpAny_bind (wpAny_tupleItemsOf ho hd (wpAny_bind ?_));rw[←y38];refine wpAny_forIn_list _ (λleft (b:Array Int) s'=>∃d l,ks=d++l/\Its2 prog w s.heap l left/\b.toList=d.map (hash2 prog w)/\s'={s with toks:=s.toks+drawsN d}) _ ?_ ?_ _ _ ⟨[],ks,rfl,hi,rfl,rfl⟩
 ·rintro x left b s' ⟨d,l,rfl,hl,hb,rfl⟩;cases hl with
  |@cons k _ l' _ h1 hl' =>
   refine wpAny_bind (zoy (s:={s with toks:=s.toks+drawsN d}) hu h1 ?_);have e1:({s with toks:=s.toks+drawsN d+draws2 k}:Shared)={s with toks:=s.toks+drawsN (d++[k])}:=by rw[zjp,y36]
   first
    |exact wpAny_pure ⟨d++[k],l',by simp,hl',by simp[hb],e1⟩
    |exact wpAny_bind (wpAny_pure (wpAny_pure ⟨d++[k],l',by simp,hl',by simp[hb],e1⟩))
 ·rintro b s' ⟨d,l,rfl,hl,hb,rfl⟩;cases hl;rw[y1a]at q;show wpAny _ _ (retInt (Builtin.Tuple.tupleHashOf b.toList)) _ _ _;rw[hb];refine wpAny_ret_mkInt ?_;generalize hH:Builtin.Tuple.tupleHashOf (d.map (hash2 prog w))=z;unfold nestHash reduceHash at q;rw[hH]at q;show wpAny _ _ (if(decide (-(2:Int)^63<=z)&&decide (z<2^63))=true then _ else _) Q _ _;by_cases hr:(decide (-(2:Int)^63<=z)&&decide (z<2^63))=true
  ·rw[if_pos hr]at q ⊢;exact wpAny_pure (by simpa[y36]using q)
  ·rw[if_neg hr]at q ⊢;exact wpAny_bind (wpAny_rule (wpAny_pure (by simpa[y36]using q)))
theorem zxy:decide ((Sum.inl a:Key2)=Sum.inl b)=decide (a=b):=by
 by_cases e:a=b
 ·rw[e];simp
 ·rw[decide_eq_false e,decide_eq_false λq=>e (Sum.inl.inj q)]
theorem zxx:decide ((Sum.inr a:Key2)=Sum.inr b)=decide (a=b):=by
 by_cases e:a=b
 ·rw[e];simp
 ·rw[decide_eq_false e,decide_eq_false λq=>e (Sum.inr.inj q)]
theorem zkz(x:IsTupleKey (mixKind prog w) h l b):∃its,h.IsTuple b its:=by
 obtain⟨o,its,n,ho,hc,hd,_⟩:=x;exact⟨its,o,ho,hc,n,hd⟩
theorem zu7(hu:A.units<cLine)(hx:Is2 prog w s.heap x u)(hy:Is2 prog w s.heap y v)(q:Q (decide (x=y)) s):wpAny (model prog w) A (eqBool u v) Q E s:=by
 cases x with
 |inl k =>
  cases y with
  |inl j=>rw[zxy]at q;exact(mixKind prog w).eqBool hx hy q
  |inr l =>
   obtain⟨b,rfl,hb⟩:=hy;obtain⟨its,tb⟩:=zkz hb;rw[decide_eq_false (λz=>nomatch z)]at q;rcases za4 hx with⟨i,t,rfl,rfl⟩|⟨z,t,rfl,rfl⟩|⟨c,rfl,rfl⟩
   ·exact SeqAt.EqAt.int_tuple i t tb hu prog w E Q q
   ·exact SeqAt.EqAt.str_tuple z t tb hu prog w E Q q
   ·exact SeqAt.EqAt.bool_tuple c tb hu prog w E Q q
 |inr l =>
  obtain⟨b,rfl,hb⟩:=hx;cases y with
  |inl j =>
   obtain⟨its,tb⟩:=zkz hb;rw[decide_eq_false (λz=>nomatch z)]at q;rcases za4 hy with⟨i,t,rfl,rfl⟩|⟨z,t,rfl,rfl⟩|⟨c,rfl,rfl⟩
   ·exact SeqAt.EqAt.tuple_int i t tb hu prog w E Q q
   ·exact SeqAt.EqAt.tuple_str z t tb hu prog w E Q q
   ·exact SeqAt.EqAt.tuple_bool c tb hu prog w E Q q
  |inr l' =>
   obtain⟨b',rfl,hb'⟩:=hy;rw[zxx]at q;exact wpAny_eqBool_tuple hu hb hb' q
theorem zof(hu:A.units<cLine)(hx:IsNest prog w s.heap x a)(hy:IsNest prog w s.heap y b)(q:R (.done (.ret (.bool (decide (x=y))))) s):
  wpAny (model prog w) A (Builtin.«tuple.__eq__» ⟨[.ref a,.ref b],[]⟩) R E s:=by
 have tb:=hy.ty;obtain⟨oa,xs,na,hoa,_,hda,hia⟩:=hx;obtain⟨ob,ys,nb,hob,_,hdb,hib⟩:=hy;show wpAny _ _ (isInstance (.ref b) (.type "tuple")>>=λ_=>_) _ _ s;refine wpAny_bind (wpAny_isInstance tb isSubtype_tuple_tuple ?_);simp only[if_false,y1f,y2i];refine wpAny_bind (wpAny_tupleItemsOf hoa hda (wpAny_bind (wpAny_tupleItemsOf hob hdb (wpAny_bind ?_))));refine wpAny_forIn_list _ (λleft r s'=>r.1=none/\s'=s/\∃x' y' xs' ys',left=List.zip xs' ys'/\Its2 prog w s.heap x' xs'/\Its2 prog w s.heap y' ys'/\decide (x'=y')=decide (x=y)/\(xs'.length==ys'.length)=(xs.size==ys.size)) _ ?_ ?_ _ _
  ⟨rfl,rfl,x,y,xs.toList,ys.toList,rfl,hia,hib,rfl,by simp⟩
 ·rintro⟨u,v⟩ left r s' ⟨hr,rfl,x',y',xs',ys',hz,hx',hy',hdec,hlen⟩;cases hx' with
  |nil=>simp at hz
  |@cons k1 u' x2 xs2 h1 hx2 =>
   cases hy' with
   |nil=>simp at hz
   |@cons k2 v' y2 ys2 h2 hy2 =>
    rw[List.zip_cons_cons]at hz;cases hz;refine wpAny_bind (zu7 hu h1 h2 ?_);by_cases hk:k1=k2
    ·subst hk;rw[decide_eq_true rfl];simp only[if_false,y1f,y2i];refine wpAny_pure ⟨rfl,rfl,x2,y2,xs2,ys2,rfl,hx2,hy2,?_,by simpa using hlen⟩;rw[←hdec];by_cases hxy:x2=y2<;>simp[hxy]
    ·rw[decide_eq_false hk];simp only[if_true,Bool.not_false];have hf:decide (x=y)=false:=by rw[←hdec];simp[hk]
     rw[hf]at q;exact wpAny_bind (wpAny_pure (wpAny_pure (wpAny_pure q)))
 ·rintro⟨r1,r2⟩ s' ⟨hr,rfl,x',y',xs',ys',hz,hx',hy',hdec,hlen⟩;simp only at hr;subst hr;refine wpAny_pure ?_;have e:(xs.size==ys.size)=decide (x=y):=by
   rw[←hdec,←hlen];cases hx' with
   |nil=>cases hy'<;>simp
   |cons _ _ =>
    cases hy' with
    |nil=>simp
    |cons _ _=>simp at hz
  show R (.done (.ret (.bool (xs.size==ys.size)))) s';rw[e];exact q
theorem zu6(hu:A.units+1<cLine)(hx:IsNest prog w s.heap x a)(hy:IsNest prog w s.heap y b)(q:Q (decide (x=y)) s):wpAny (model prog w) A (eqBool (.ref a) (.ref b)) Q E s:=by
 unfold eqBool
 try with_reducible refine wpAny_holding ?_
 show wpAny _ _ (if(Value.ref a==Value.ref b)=true then _ else _) Q E s;by_cases hab:(Value.ref a==Value.ref b)=true
 ·rw[if_pos hab];cases eq_of_beq hab;cases hx.inj hy;exact wpAny_bind (wpAny_rule (wpAny_pure (by simpa using q)))
 ·rw[if_neg hab];exact wpAny_bind (wpAny_richCompare_same_room (op:=.Eq) hx.ty hy.ty PySem.F.slot_tuple_eq
   (wpAny_call_entry PySem.F.slot_tuple_eq hx.ty PySem.F.entry_tuple_eq (zof hu hx hy ⟨_,rfl,(λe=>nomatch e),wpAny_truthy_bool q⟩) (PySem.F.args_tuple_eq_2 _ _)) (Nat.lt_of_succ_lt hu))
theorem znf(hk:IsTupleKey (mixKind prog w) s.heap l a)(q:Q true s):wpAny (model prog w) A (eqIsQuiet (n+1) (.ref a)) Q E s:=by
 have ty:=hk.typeIs;obtain⟨o,its,m,ho,_,hd,hi⟩:=hk;unfold eqIsQuiet;refine wpAny_bind (wpAny_specialOf ty PySem.F.slot_tuple_eq.lookup ?_);show wpAny _ _ (isInstance (.ref a) (.type "tuple")>>=λ_=>_) _ _ s;refine wpAny_bind (wpAny_isInstance ty isSubtype_tuple_tuple ?_);simp only[if_false,y1f,y2i];refine wpAny_bind (wpAny_seqItems ho hd (wpAny_bind ?_));show wpAny _ _ (forIn its _ _) _ _ s;rw[←y38];refine wpAny_forIn_list _ (λleft r s'=>r.1=none/\s'=s/\∀v∈left,carriedByValue v=true) _ ?_ ?_ _ _ ⟨rfl,rfl,hi.byValue⟩
 ·rintro v left r s' ⟨hr,rfl,hall⟩;rw[eqIsQuiet_byValue _ (hall v y0c)];refine wpAny_bind (wpAny_pure ?_);simp only[if_false,y1f,y2i];exact wpAny_pure ⟨rfl,rfl,λu hm=>hall u (y09 _ hm)⟩
 ·rintro⟨r1,r2⟩ s' ⟨hr,rfl,_⟩;simp only at hr;subst hr;exact wpAny_pure q
theorem zlr(h:Is2 prog w s.heap k v)(q:Q true s):wpAny (model prog w) A (eqIsQuiet (n+1) v) Q E s:=by
 cases k with
 |inl k =>
  rw[eqIsQuiet_byValue _ (zhe h)];exact wpAny_pure q
 |inr l =>
  obtain⟨b,rfl,hb⟩:=h;exact znf hb q
theorem Its2.mem(x:Its2 prog w h ks vs):∀v∈vs,∃k,Is2 prog w h k v:=by
 induction x with
 |nil=>intro v hv;cases hv
 |@cons k v' ks vs h1 _ ih =>
  intro v hv;rcases y02.mp hv with rfl|hv
  ·exact⟨k,h1⟩
  ·exact ih v hv
theorem zlq(hk:IsNest prog w s.heap ks a)(q:Q true s):wpAny (model prog w) A (eqIsQuiet 8 (.ref a)) Q E s:=by
 have ty:=hk.ty;obtain⟨o,its,m,ho,_,hd,hi⟩:=hk;unfold eqIsQuiet;refine wpAny_bind (wpAny_specialOf ty PySem.F.slot_tuple_eq.lookup ?_);show wpAny _ _ (isInstance (.ref a) (.type "tuple")>>=λ_=>_) _ _ s;refine wpAny_bind (wpAny_isInstance ty isSubtype_tuple_tuple ?_);simp only[if_false,y1f,y2i];refine wpAny_bind (wpAny_seqItems ho hd (wpAny_bind ?_));show wpAny _ _ (forIn its _ _) _ _ s;rw[←y38];refine wpAny_forIn_list _ (λleft r s'=>r.1=none/\s'=s/\∀v∈left,∃k,Is2 prog w s.heap k v) _ ?_ ?_ _ _ ⟨rfl,rfl,hi.mem⟩
 ·rintro v left r s' ⟨hr,rfl,hall⟩;obtain⟨k,h1⟩:=hall v y0c;refine wpAny_bind (zlr h1 ?_);simp only[if_false,y1f,y2i];exact wpAny_pure ⟨rfl,rfl,λu hm=>hall u (y09 _ hm)⟩
 ·rintro⟨r1,r2⟩ s' ⟨hr,rfl,_⟩;simp only at hr;subst hr;exact wpAny_pure q
end
def nestKind(prog:Program)(w:World):HeapKind prog w (List Key2) where
 is:=IsNest prog w
 hash:=nestHash prog w
 draws:=λks=>drawsN ks+1
 room:=λA=>A.units+1<cLine
 inj:=λhx hy=>hx.inj hy
 keeps:=λx ho hd hs=>x.keeps ho hd hs
 pyHash:=λhu hk h=>zox hu hk h
 eqBool:=λhu hx hy h=>zu6 hu hx hy h
 quiet:=λhk h=>zlq hk h
abbrev NRow:=List Key2×Addr×V
def rowR(y:NRow)(x:List Key2×Addr×Value):Prop:=y.1=x.1/\y.2.1=x.2.1/\RelV y.2.2 x.2.2
def dN(P:Program)(w:World)(a:Addr)(ys:List NRow):HO:=.ext λh=>(a==sysModules)=false/\ys.length<=sizeLine/\∃xs:List (List Key2×Addr×Value),Paired rowR ys xs/\
 ∃o es ep,h.get? a=some o/\o.ExactDict/\o.data=.dict es ep/\es.toList=xs.map (entryOfKey (nestKind P w))/\(xs.map (·.1)).Nodup
def N2(H:Hp)(v:V):Key2->Prop
 |.inl k=>v=kV k
 |.inr l=>∃c,v=.ref c/\H c=some (.tup (l.map kV))
def NestAt(H:Hp)(b:Addr)(ks:List Key2):Prop:=∃vs,H b=some (.tup vs)/\Paired (N2 H) vs ks
def Keys(H:Hp)(ys:List NRow):Prop:=∀y∈ys,NestAt H y.2.1 y.1
theorem N2.ts(ts:TupS H H')(x:N2 H v k):N2 H' v k:=by
 cases k with
 |inl k=>exact x
 |inr l =>
  obtain⟨c,e,hc⟩:=x;exact⟨c,e,ts _ _ hc⟩
theorem NestAt.ts(x:NestAt H b ks)(ts:TupS H H'):NestAt H' b ks:=by
 obtain⟨vs,e,p⟩:=x;exact⟨vs,ts _ _ e,L2.Paired.mapP p λ_ _ z=>z.ts ts⟩
theorem Keys.ts(x:Keys H ys)(ts:TupS H H'):Keys H' ys:=λy hy=>(x y hy).ts ts
section
variable {P:Program}{w:World}{H:Hp}{h:Heap}{a b:Addr}
theorem NestAt.is(ok:HOk P w H h)(x:NestAt H b ks):IsNest P w h ks b:=by
 obtain⟨vs,e,p⟩:=x;obtain⟨_,its,r,o,h1,h2,n,h3⟩:=(show ObjOk P w H h b (.tup vs)from ok b _ e);refine⟨o,its.toArray,n,h1,h2,h3,?_⟩;have all:∀{vs:List V} {ks:List Key2},Paired (N2 H) vs ks->∀{us:List Value},Vals vs us->Its2 P w h ks us:=by
  intro vs ks q
  induction q with
  |nil=>intro us r;cases r;exact .nil
  |@cons v k vs ks hv _ ih =>
   intro us r;cases r with
   |cons rv rs =>
    refine .cons ?_ (ih rs);cases k with
    |inl k=>cases(show v=kV k from hv);exact zor rv
    |inr l =>
     obtain⟨c,rfl,hc⟩:=hv;exact⟨c,rv,zh9 ok hc⟩
 simpa using all p r
theorem zvb(ok:HOk P w H h)(e:H a=some (dN P w a ys))(kk:Keys H ys):(a==sysModules)=false/\ys.length<=sizeLine/\∃xs,Paired rowR ys xs/\h.DictOfH (nestKind P w) a xs:=by
 obtain⟨⟨hd,hz,xs,rel,o,es,ep,h1,h2,h3,h4,h5⟩,_,_⟩:=(show ObjOk P w H h a (dN P w a ys)from ok a _ e);refine⟨hd,hz,xs,rel,o,es,ep,h1,h2,h3,h4,λx hx=>?_,h5⟩;have all:∀{ys:List NRow} {xs:List (List Key2×Addr×Value)},Paired rowR ys xs->Keys H ys->∀x∈xs,(nestKind P w).is h x.1 x.2.1:=by
  intro ys xs q
  induction q with
  |nil=>intro _ x hx;cases hx
  |@cons y x ys xs hq _ ih =>
   intro kk z hz;rcases y02.mp hz with e|hz
   ·subst e;have:=(kk y y0c).is ok;rw[hq.1,hq.2.1]at this;exact this
   ·exact ih (λy hy=>kk y (y09 _ hy)) z hz
 exact all rel kk x hx
def valN(ys:List NRow)(k:List Key2):Option V:=(ys.find? λy=>decide (y.1=k)).map (·.2.2)
theorem zgs(r:Paired rowR ys xs)(k:List Key2):RelO (valN ys k) ((atKey xs k).map (·.2)):=by
 unfold valN atKey
 induction r with
 |nil=>exact True.intro
 |@cons y x ys xs hq _ ih =>
  rw[y1e,y1e,←hq.1];by_cases e:y.1=k
  ·rw[decide_eq_true e];exact hq.2.2
  ·rw[decide_eq_false e];exact ih
theorem zsu(hd:(a==sysModules)=false)(hz:ys.length<=sizeLine)(r:Paired rowR ys xs)(dd:h'.DictOfH (nestKind P w) a xs):ObjOk P w H' h' a (dN P w a ys):=by
 obtain⟨o,es,ep,h1,h2,h3,h4,_,h5⟩:=dd;refine⟨⟨hd,hz,xs,r,o,es,ep,h1,h2,h3,h4,h5⟩,⟨o,h1⟩,λg1 g2 x kp=>?_⟩;obtain⟨q1,q2,xs',q3,o',es',ep',q4,q5⟩:=x;exact⟨q1,q2,xs',q3,o',es',ep',kp _ q4,q5⟩
theorem znc(r:Paired rowR ys xs)(rv:RelV v u):Paired rowR (ys++[(k,b,v)]) (xs++[(k,b,u)]):=by
 induction r with
 |nil=>exact .cons ⟨rfl,rfl,rv⟩ .nil
 |cons h _ ih=>exact .cons h ih
end
section
variable {X:Cx}
def rNotInN(P:Program)(w:World):R2:=λy x H Q=>∃a b ys k,x=.ref a/\y=.ref b/\H a=some (dN P w a ys)/\Keys H ys/\NestAt H b k/\Q (.bl (!(valN ys k).isSome)) H
theorem znr(hu:X.A.units+8<cLine):OpR X (compareOp .NotIn) (rNotInN X.prog X.w):=by
 intro pins s σ H y x v u Q I ry rx h;obtain⟨a,b,ys,k,rfl,rfl,e,kk,nb,q⟩:=h;obtain rfl:u=Value.ref a:=rx;obtain rfl:v=Value.ref b:=ry;obtain⟨hd,hz,xs,rel,dd⟩:=zvb I.hok e kk;refine wpAny_notIn_heap (knd:=nestKind X.prog X.w) (show X.A.units+1+1<cLine by omega) (nb.is I.hok) hd dd ?_;have z:=(zgs rel k).isSome_eq;rw[y2m]at z;rw[←z];exact⟨.bl (!(valN ys k).isSome),H,I.tok _,rfl,q⟩
def sDPutN(P:Program)(w:World)(td ty tv:TE):TS:=λD σ H=>tv σ H λv H1=>td σ H1 λx H2=>ty σ H2 λy H3=>∃a b ys k,x=.ref a/\y=.ref b/\H3 a=some (dN P w a ys)/\Keys H3 ys/\NestAt H3 b k/\valN ys k=none/\ys.length<sizeLine/\
 ∀H4,H4=upd H3 a (dN P w a (ys++[(k,b,v)]))->D.nx σ H4
theorem zqe{td ty tv:TE}(hu:X.A.units+8<cLine)(ho:PE X o td)(hi:PE X i ty)(hv:PE X value tv)(hs:swapsWith value (some (.Subscript o i pos')) pos.line X.env=pure false):
  PS X (.Assign [.Subscript o i pos'] value pos) (sDPutN X.prog X.w td ty tv):=by
 intro pins s σ H D I h;refine wpAny_Assign_Subscript (thn (hv pins s σ H _ I h) λr s1 zz=>ex5 zz λv H1 I1 rv q1=>thn (ho pins s1 σ H1 _ I1 q1) λu s2 zz=>ex5 zz λx H2 I2 rx q2=>thn (hi pins s2 σ H2 _ I2 q2) λiv s3 ⟨y,H3,I3,ry,a,b,ys,k,ex,ey,e,kk,nb,hn,hl,q3⟩=>?_) hs;subst ex ey;obtain rfl:u=Value.ref a:=rx;obtain rfl:iv=Value.ref b:=ry;obtain⟨hd,hz,xs,rel,dd⟩:=zvb I3.hok e kk;have hzx:xs.length<=sizeLine:=by rw[←Paired.length rel];exact hz
 refine wpAny_setItem_heap (knd:=nestKind X.prog X.w) (hsz:=hzx) (show X.A.units+1+1<cLine by omega) (nb.is I3.hok) dd λh' dd' ss=>?_;have z:=(zgs rel k).isSome_eq;rw[hn,y2m]at z;have ek:atKey xs k=none:=by
  cases q:atKey xs k with
  |none=>rfl
  |some p=>rw[q]at z;cases z
 rw[storedH_new ek]at dd';have dd2:=dd';obtain⟨q,es,ep,hq,_⟩:=dd2;refine⟨σ,_,zg3 I3 (by rw[e];exact True.intro) ss ⟨q,hq⟩ (zsu hd ?_ (znc rel rv) dd'),q3 _ rfl⟩;rw[y06,y16];omega
def tDGetN(P:Program)(w:World)(td ty:TE):TE:=λσ H Q=>td σ H λx H1=>ty σ H1 λy H2=>∃a b ys k v,x=.ref a/\y=.ref b/\H2 a=some (dN P w a ys)/\Keys H2 ys/\NestAt H2 b k/\valN ys k=some v/\Q v H2
def tDNew2(P:Program)(w:World):TE:=λ_ H Q=>∀p H',New H p (dN P w p []) H'->Q (.ref p) H'
theorem zru(h:Heap)(hb:sysModules<h.objs.size):ObjOk P w H (h.push {cls:=.type "dict",data:=.dict #[]}) h.objs.size (dN P w h.objs.size []):=by
 refine zsu (xs:=[]) (beq_eq_false_iff_ne.mpr (y1p hb)) (y10 _) .nil ?_;exact⟨_,#[],_,y0b _ rfl,⟨rfl,rfl,rfl⟩,rfl,rfl,λx hx=>(nomatch hx),y3j⟩
theorem zqm:PE X (.Dict [] [] pos) (tDNew2 X.prog X.w):=λpins s σ H Q I h =>
 wpAny_Dict_empty ⟨.ref s.heap.objs.size,_,I.laid (a:=s.heap.objs.size) (o:=dN X.prog X.w s.heap.objs.size []) (t':=s.toks) (λ_ _ q=>y01 _ q) (y04 _) (zru s.heap I.big),rfl,h _ _ (.mk' (I.hok.fresh (y04 _)) _)⟩
theorem zqn(hu:X.A.units+8<cLine)(ho:PE X o td)(hi:PE X i ty)(hs:NoSl i):PE X (.Subscript o i pos) (tDGetN X.prog X.w td ty):=by
 intro pins s σ H Q I h;refine zmr PySem.F.slot_dict_getitem.lookup hs (thn (ho pins s σ H _ I h) λu s1 zz=>ex5 zz λx H1 I1 rx q1=>thn (hi pins s1 σ H1 _ I1 q1) λiv s2 zz=>ex5 zz λy H2 I2 ry zq=>?_);obtain⟨a,b,ys,k,v,ex,ey,e,kk,nb,hv,q2⟩:=zq;subst ex ey;obtain rfl:u=Value.ref a:=rx;obtain rfl:iv=Value.ref b:=ry;obtain⟨hd,hz,xs,rel,dd⟩:=zvb I2.hok e kk;obtain⟨w',hw,rw'⟩:=RelO.some_of (v:=v) (o:=(atKey xs k).map (·.2)) (by rw[←hv];exact zgs rel k);obtain⟨p,hp,hp2⟩:=y1r.mp hw;have ty:s2.TypeIs (.ref a) "dict":=by
  obtain⟨ob,_,_,ho',hx,_⟩:=id dd;exact⟨ob,ho',hx.1⟩
 refine⟨ty,wpAny_getItem_heap (knd:=nestKind X.prog X.w) (show X.A.units+1+1<cLine by omega) (nb.is I2.hok) dd hp ?_⟩;rw[hp2];exact⟨v,H2,I2.tok _,rw',q2⟩
end
open PySem
abbrev Rise(xs:Array Nat):Prop:=xs.toList.Pairwise (· < ·)
theorem zgt(h:Rise xs)(hij:i<j)(hj:j<xs.size):xs.getD i 0<xs.getD j 0:=by
 have:=y3i.mp h i j (by simpa using y2z hij hj) (by simpa using hj) hij;simp only[Array.getElem_toList]at this;rw[Array.getD,Array.getD,dif_pos (y2z hij hj),dif_pos hj];exact this
theorem zhf(h:Rise xs)(j:Nat):∀(fuel lo hi:Nat),lo<=hi->hi<=xs.size->hi-lo<=fuel->(∀i,i<lo->xs.getD i 0<j)->(∀i,hi<=i->i<xs.size->j<=xs.getD i 0)->
  SetTable.below.go xs j fuel lo hi<=xs.size/\(∀i,i<SetTable.below.go xs j fuel lo hi->xs.getD i 0<j)/\∀i,SetTable.below.go xs j fuel lo hi<=i->i<xs.size->j<=xs.getD i 0
 |0,lo,hi,h1,h2,h3,h4,h5=>by
  have e:lo=hi:=by omega
  unfold SetTable.below.go;exact⟨by omega,h4,λi hi'=>h5 i (by omega)⟩
 |fuel+1,lo,hi,h1,h2,h3,h4,h5=>by
  unfold SetTable.below.go;by_cases c:lo<hi
  ·rw[if_pos c];have hm:(lo+hi)/2<xs.size:=by omega
   have e:xs.getD ((lo+hi)/2) j=xs.getD ((lo+hi)/2) 0:=by rw[Array.getD,Array.getD,dif_pos hm,dif_pos hm]
   show _/\_/\_;simp only;by_cases c2:xs.getD ((lo+hi)/2) j<j
   ·rw[if_pos c2];refine zhf h j fuel ((lo+hi)/2+1) hi (by omega) h2 (by omega) (λi hi'=>?_) h5;by_cases c3:i=(lo+hi)/2
    ·rw[c3,←e];exact c2
    ·exact y2z (zgt h (j:=(lo+hi)/2) (by omega) hm) (by rw[←e];exact c2)
   ·rw[if_neg c2];refine zhf h j fuel lo ((lo+hi)/2) (by omega) (by omega) (by omega) h4 λi hi' hs=>?_;by_cases c3:i=(lo+hi)/2
    ·rw[c3,←e];omega
    ·have:=zgt h (i:=(lo+hi)/2) (j:=i) (by omega) hs;rw[e]at c2;omega
  ·rw[if_neg c];exact⟨by omega,h4,λi hi'=>h5 i (by omega)⟩
theorem zd1(h:Rise xs)(j:Nat):SetTable.below xs j<=xs.size/\(∀i,i<SetTable.below xs j->xs.getD i 0<j)/\∀i,SetTable.below xs j<=i->i<xs.size->j<=xs.getD i 0 :=
 zhf h j xs.size 0 xs.size (y10 _) (y04 _) (by omega) (λi hi=>absurd hi (y1s _)) λi h1 h2=>by omega
theorem zmj(h:Rise xs)(hi:i<xs.size):SetTable.below xs (xs.getD i 0+1)=i+1:=by
 obtain⟨h1,h2,h3⟩:=zd1 h (xs.getD i 0+1);by_cases c:SetTable.below xs (xs.getD i 0+1)<=i
 ·have:=h3 i c hi;omega
 ·by_cases c2:SetTable.below xs (xs.getD i 0+1)=i+1
  ·exact c2
  ·have:=h2 (i+1) (by omega);have:=zgt h (i:=i) (j:=i+1) (by omega) (by omega);omega
theorem zmi(h:Rise xs):SetTable.below xs 0=0:=by
 obtain⟨h1,h2,h3⟩:=zd1 h 0;by_cases c:SetTable.below xs 0=0
 ·exact c
 ·have:=h2 0 (by omega);omega
theorem zgz(xs:Array α)(p:Nat)(x:α):(SetTable.insertAt xs p x).toList=xs.toList.take p++x::xs.toList.drop p:=by
 unfold SetTable.insertAt;rw[Array.toList_append,y3b,Array.toList_extract,Array.toList_extract];simp;exact y0s (by simp)
theorem zi8(h:Rise xs)(hj:xs[SetTable.below xs j]? ≠ some j):Rise (SetTable.insertAt xs (SetTable.below xs j) j):=by
 obtain⟨h1,h2,h3⟩:=zd1 h j;show(SetTable.insertAt xs (SetTable.below xs j) j).toList.Pairwise (· < ·);rw[zgz];generalize SetTable.below xs j=p at *;have at':∀i (hi:i<xs.size),xs.getD i 0=xs.toList[i]'(by simpa using hi):=λi hi=>by rw[Array.getD,dif_pos hi];simp
 have gt:∀i,p<=i->i<xs.size->j<xs.getD i 0:=λi hp hi=>by
  have hle:=h3 i hp hi;by_cases c:i=p
  ·subst c;have hne:xs.getD i 0≠j:=λe=>hj (by rw[y18 hi,←e,Array.getD,dif_pos hi];rfl);omega
  ·have h4:=h3 p (y04 _) (by omega);have:=zgt h (i:=p) (j:=i) (by omega) hi;omega
 refine List.pairwise_append.mpr ⟨h.sublist (y39 _ _),List.pairwise_cons.mpr ⟨λy hy=>?_,h.sublist (List.drop_sublist _ _)⟩,λx hx y hy=>?_⟩
 ·obtain⟨i,hi,e⟩:=y2j hy;rw[List.getElem_drop]at e;have hi':p+i<xs.size:=by rw[y22]at hi;simp at hi;omega
  rw[←e,←at' _ hi'];exact gt _ (by omega) hi'
 ·have xlt:x<j:=by
   obtain⟨i,hi,e⟩:=y2j hx;rw[List.getElem_take]at e;have hi':i<p/\i<xs.size:=by rw[y12]at hi;simp at hi;omega
   rw[←e,←at' _ hi'.2];exact h2 i hi'.1
  rcases y02.mp hy with rfl|hy
  ·exact xlt
  ·obtain⟨i,hi,e⟩:=y2j hy;rw[List.getElem_drop]at e;have hi':p+i<xs.size:=by rw[y22]at hi;simp at hi;omega
   rw[←e,←at' _ hi'];have:=gt (p+i) (by omega) hi';omega
structure Tb(led:Bool)(t:SetTable):Prop where
 rise:Rise t.place
 led:t.led=led
 dum:t.dummies=#[]
theorem zpz(f m:Nat)(led:Bool):Tb led (.fresh f m led):=⟨List.Pairwise.nil,rfl,rfl⟩
theorem zcz(h:Tb led t)(n:Nat):Tb led (t.standIn n):=⟨by
 show(Array.range n).toList.Pairwise (· < ·);rw[Array.toList_range];exact y3l,h.led,rfl⟩
theorem zxp(h:Tb led t)(n:Nat):Tb led (t.orStandIn n):=by
 unfold SetTable.orStandIn;split
 ·exact h
 ·exact zcz h n
theorem zsj{t:SetTable}(h:t.dummies=#[])(j:Nat):SetTable.has t.dummies j=false:=by
 rw[h];unfold SetTable.has;rfl
theorem zeu{t:SetTable}(hd:t.dummies=#[])(hashAt:Nat->Int)(h:Int):∀(fuel:Nat) (p:SetTable.Probe) (j:Nat) (d:Option Nat),p.dummy=none->SetTable.probe.go t hashAt h fuel p=some (.empty j d)->d=none/\t.slot j=.empty
 |0,p,j,d,_,e=>by unfold SetTable.probe.go at e;cases e
 |fuel+1,p,j,d,hp,e=>by
  unfold SetTable.probe.go at e;have adv:∀q:SetTable.Probe,(t.advance q).dummy=q.dummy:=λq=>by unfold SetTable.advance;split<;>rfl
  cases c:t.slot p.j with
  |empty =>
   rw[c]at e;simp only[Option.some.injEq,SetTable.Met.empty.injEq]at e;obtain⟨rfl,rfl⟩:=e;exact⟨hp,c⟩
  |dummy =>
   exfalso;unfold SetTable.slot at c;simp only[zsj hd]at c;split at c<;>cases c
  |live i =>
   rw[c]at e;simp only at e;split at e
   ·cases e
   ·exact zeu hd hashAt h fuel _ j d (by rw[adv];exact hp) e
theorem zvp{t:SetTable}(h:Tb led t)(hj:t.slot j=.empty):Tb led (t.put j).1:=by
 refine⟨zi8 h.rise λe=>?_,h.led,?_⟩
 ·unfold SetTable.slot at hj;simp only[e,beq_self_eq_true,if_true]at hj;cases hj
 ·show(if SetTable.has t.dummies j then _ else t.dummies)=#[];rw[zsj h.dum];exact h.dum
theorem zmq(h:Tb led t)(es:Array (Int×Value))(k:Int)(x:Value):Tb led (layNew t es k x).2.1/\(layNew t es k x).2.2.1=false:=by
 unfold layNew;cases c:t.freeSlot k with
 |none=>exact⟨zcz h _,rfl⟩
 |some p =>
  obtain⟨slot,wd⟩:=p;unfold SetTable.freeSlot at c;cases c2:t.probe (λ_=>k+1) k (t.probeStart k)with
  |none=>rw[c2]at c;cases c
  |some m =>
   rw[c2]at c;cases m with
   |candidate j i nx=>cases c
   |empty j d =>
    obtain⟨rfl,he⟩:=zeu h.dum _ _ _ _ _ _ rfl c2;simp only[Option.some.injEq,Prod.mk.injEq]at c;obtain⟨rfl,rfl⟩:=c;exact⟨zxp (zvp h he) _,rfl⟩
theorem zoo{led plain:Bool}(e:SetTable.laid mask finger moves led plain hs=some (t,o)):Tb led t:=by
 unfold SetTable.laid at e;cases c:SetTable.layClean mask hs with
 |none=>rw[c]at e;cases e
 |some owner =>
  rw[c]at e;simp only[Option.bind_eq_bind,Option.bind_some,Option.pure_def,Option.some.injEq,Prod.mk.injEq]at e;obtain⟨rfl,rfl⟩:=e;refine⟨?_,rfl,rfl⟩;show List.Pairwise (· < ·) (List.map (λx:Nat×Nat=>x.1) ((List.range (mask+1)).filterMap λj=>(owner.getD j none).map (j,·)));have:∀l:List Nat,((l.filterMap λj=>(owner.getD j none).map (j,·)).map (·.1)).Sublist l:=λl=>by
   induction l with
   |nil=>exact List.Sublist.refl _
   |cons a l ih =>
    rw[y1j];cases c3:owner.getD a none with
    |none=>exact .cons _ ih
    |some v=>exact .cons_cons _ ih
  exact y3l.sublist (this _)
theorem zpx(h:Tb led t)(es:Array (Int×Value))(n:Nat):Tb led (relayAll t es n).2.1:=by
 unfold relayAll;cases c:t.relaid (es.map (·.1)) n with
 |none=>exact zcz h _
 |some p =>
  obtain⟨t',o⟩:=p;have:=zoo c;rw[h.led]at this;simp only;split
  ·exact this
  ·exact zcz h _
theorem znj(next:Nat->Nat):∀(fuel k:Nat) (left:List α) (out:Array α),left.length=fuel->(pickOrder.go next fuel k left out).toList.Perm (out.toList++left)
 |0,k,left,out,h=>by
  unfold pickOrder.go;rw[List.length_eq_zero_iff.mp h,y1a]
 |fuel+1,k,left,out,h=>by
  unfold pickOrder.go;have hlt:next k%left.length<left.length:=Nat.mod_lt _ (by omega)
  rw[y0n hlt];simp only;refine(znj next fuel (k+1) (left.eraseIdx (next k%left.length)) (out.push left[next k%left.length]) (by rw[y3g hlt];omega)).trans ?_;rw[y3b,y2c,List.singleton_append];refine List.Perm.append_left _ ?_;generalize next k%left.length=i at hlt
  have e:left=left.take i++left[i]::left.drop (i+1):=by rw[y3m,y3n]
  conv=>rhs;rw[e]
  rw[y3a];exact(List.perm_middle).symm
theorem zni(next:Nat->Nat)(xs:Array α):(pickOrder next xs).toList.Perm xs.toList:=by
 have:=znj next xs.size 0 xs.toList #[] (by simp)
 rw[show(#[]:Array α).toList=[]from rfl,y30]at this;exact this
section
variable {P:Program}{w:World}{T:Type}[DecidableEq T]{knd:KeyKind P w T}{A:Around}{E:Y0}{s:Shared}{led:Bool}
def SetT(knd:KeyKind P w T)(led:Bool)(h:Heap)(a:Addr)(S:T->Bool)(n:Nat):Prop :=
 ∃o es ep t,h.get? a=some o/\o.ExactSet/\o.data=.set es ep t/\(ElemsOf knd es.toList/\∀k,S k=true↔∃e∈es.toList,knd.is k e.2=true)/\(es.size<scanBound/\t.fits es.size=true/\es.size=n)/\Tb led t/\es.toList.Pairwise λx y=>∀k,knd.is k x.2=true->knd.is k y.2=false
theorem SetT.kept(x:SetT knd led h a S n)(k:∀o,h.get? a=some o->h'.get? a=some o):SetT knd led h' a S n :=
 let⟨o,es,ep,t,e,r⟩:=x;⟨o,es,ep,t,k o e,r⟩
theorem SetT.congr(x:SetT knd led h a S n)(e:∀k,S k=S' k)(en:n=n'):SetT knd led h a S' n':=by
 have:S=S':=funext e;subst this;subst en;exact x
theorem zpy(h:Tb led t):Tb led {t with plain:=false}:=⟨h.rise,h.led,h.dum⟩
theorem zgc{l l':List (Int×Value)}(h:l.Pairwise λx y=>∀k,knd.is k x.2=true->knd.is k y.2=false)(p:l'.Perm l):l'.Pairwise λx y=>∀k,knd.is k x.2=true->knd.is k y.2=false :=
 p.symm.pairwise h λ{x y} z k hk=>by
  cases c:knd.is k x.2 with
  |false=>rfl
  |true=>rw[z k c]at hk;cases hk
theorem zkh{h:Heap}{o:Obj}(ho:h.get? a=some o)(hx:o.ExactSet)(hd:o.data=.set es ep t){fs:Array (Int×Value)}{u:SetTable}
  (h1:ElemsOf knd fs.toList) (h2:∀k,S k=true↔∃e∈fs.toList,knd.is k e.2=true) (h3:fs.size<scanBound) (h4:u.fits fs.size=true) (tb:Tb led u) (ap:fs.toList.Pairwise λx y=>∀k,knd.is k x.2=true->knd.is k y.2=false) :
  (h.update a (Obj.putSet fs u)).get? a=some {o with data:=.set fs (ep+1) u}/\SetT knd led (h.update a (Obj.putSet fs u)) a S fs.size :=
 let z:=(SetOf_store (knd:=knd) (S':=S) ho hx hd h1 h2 h3 h4).1
 ⟨z,_,fs,ep+1,u,z,hx,rfl,⟨h1,h2⟩,⟨h3,h4,rfl⟩,tb,ap⟩
theorem zkg{g:Bool->Sem Unit}(hg:∀(b:Bool) (s1:Shared) (R:Unit->Shared->Prop),R () s1->wpAny (model P w) A (g b) R E s1){a:Addr}{o:Obj}{es:Array (Int×Value)}{ep:Nat}{t:SetTable}
  (ho:s.heap.get? a=some o) (hx:o.ExactSet) (hd:o.data=.set es ep t) {fs:Array (Int×Value)} {u:SetTable} {S:T->Bool} (h1:ElemsOf knd fs.toList) (h2:∀k,S k=true↔∃e∈fs.toList,knd.is k e.2=true)
  (h3:fs.size<scanBound) (h4:u.fits fs.size=true) (tb:Tb led u) (ap:fs.toList.Pairwise λx y=>∀k,knd.is k x.2=true->knd.is k y.2=false) {wd:Bool} {R:Option Bool->Shared->Prop}
  (h:∀h',Heap.SameBut a s.heap h'->SetT knd led h' a S fs.size->R (some true) {s with heap:=h'}) :
  wpAny (model P w) A (do
    storeSet a fs u
    if(!wd&&u.tooFull)=true then do
      g (relayAll u fs (SetTable.grown fs.size)).2.2
      storeSet a (relayAll u fs (SetTable.grown fs.size)).1 (relayAll u fs (SetTable.grown fs.size)).2.1
      pure (some true)
     else pure (some true)) R E s:=by
 refine wpAny_bind (wpAny_storeSet_of ho hd ?_ (fits_of_scanBound h3));obtain⟨o1,x1⟩:=zkh (S:=S) ho hx hd h1 h2 h3 h4 tb ap;have b1:=Heap.SameBut.update s.heap a (Obj.putSet fs u);split
 ·have p:=relayAll_perm u fs (SetTable.grown fs.size);have f:=relayAll_fits u fs (SetTable.grown fs.size);have tb2:=zpx tb fs (SetTable.grown fs.size);generalize relayAll u fs (SetTable.grown fs.size)=Z at p f tb2 ⊢;obtain⟨gs,v,gave⟩:=Z;dsimp only at p f tb2 ⊢;have sz:gs.size=fs.size:=by rw[←y19,p.length_eq,y19]
  have i3:gs.size<scanBound:=by rw[sz];exact h3
  refine wpAny_bind (hg _ _ _ (wpAny_bind (wpAny_storeSet_of o1 rfl ?_ (fits_of_scanBound i3))));obtain⟨_,x2⟩:=zkh (knd:=knd) (S:=S) o1 hx rfl (h1.perm p) (λk'=>(h2 k').trans ⟨λ⟨e,m,q⟩=>⟨e,p.mem_iff.mpr m,q⟩,λ⟨e,m,q⟩=>⟨e,p.mem_iff.mp m,q⟩⟩) i3 f tb2 (zgc ap p);rw[sz]at x2;exact wpAny_pure (h _ (b1.trans (Heap.SameBut.update _ a _)) x2)
 ·exact wpAny_pure (h _ b1 x1)
theorem ztg{a:Addr}{S:T->Bool}{n:Nat}{k:T}{x:Value}{Q:Bool->Shared->Prop}(hk:knd.is k x=true)(hs:x.scannable=true)(x0:SetT knd led s.heap a S n)(room:n+1<scanBound)
  (h:∀h',Heap.SameBut a s.heap h'->SetT knd led h' a (λk'=>S k'||decide (k'=k)) (if S k then n else n+1)->Q (!S k) {s with heap:=h'}):wpAny (model P w) A (setAddHashed a x (knd.hash k)) Q E s:=by
 obtain⟨o,es,ep,t,ho,hx,hd,⟨h1,h2⟩,⟨h3,h4,hn⟩,tb,ap⟩:=id x0;unfold setAddHashed setAddHashedIn;refine wpAny_holding (wpAny_bind (wpAny_setState_of ho hd h4 ?_));dsimp only;rw[byScan_of hs h3 h1];simp only[↓reduceIte];unfold setAddByScan;refine wpAny_bind (wpAny_bind (wpAny_rule (wpAny_bind (wpAny_setScan_of hk ho hd h4 h1 ?_))));cases c:List.findIdx? (λe=>knd.is k e.2) es.toList with
 |some j =>
  dsimp only;obtain⟨hj,hp,_⟩:=List.findIdx?_eq_some_iff_getElem.mp c;have sk:S k=true:=(h2 k).mpr ⟨_,y1q hj,hp⟩;have z:=h s.heap (Heap.SameBut.refl a s.heap) (x0.congr (λk'=>by
   cases e:S k' with
   |true=>rfl
   |false=>rw[y3k,eq_comm,decide_eq_false_iff_not];intro q;rw[q,sk]at e;cases e) (by rw[sk];rfl))
  rw[sk]at z;refine wpAny_pure (wpAny_pure ?_);cases s;exact z
 |none =>
  dsimp only;have no:=List.findIdx?_eq_none_iff.mp c;have sk:S k=false:=y0z.mpr λz=>by
   obtain⟨e,m,q⟩:=(h2 k).mp z;rw[no e m]at q;cases q
  have lp:=layNew_perm t es (knd.hash k) x;have lf:=layNew_fits t es (knd.hash k) x;obtain⟨lt,ld⟩:=zmq tb es (knd.hash k) x;generalize layNew t es (knd.hash k) x=Z at lp lf lt ld ⊢;obtain⟨fs,u,wd,gave⟩:=Z;dsimp only at lp lf lt ld ⊢;rw[y3b]at lp;have i1:ElemsOf knd fs.toList:=(h1.push hk hs).perm lp;have i2:∀k',(S k'||decide (k'=k))=true↔∃e∈fs.toList,knd.is k' e.2=true:=mem_push_iff hk h2 lp;have sz:fs.size=n+1:=by rw[←y19,lp.length_eq,y06,y19,hn];rfl
  have i3:fs.size<scanBound:=by rw[sz];exact room
  have ip:fs.toList.Pairwise λx y=>∀k,knd.is k x.2=true->knd.is k y.2=false:=by
   refine zgc (List.pairwise_append.mpr ⟨ap,List.pairwise_singleton _ _,λy hy z hz k' hk'=>?_⟩) lp;rw[y08.mp hz];cases q:knd.is k' x with
   |false=>rfl
   |true =>
    have e:=knd.inj x k' k q hk;rw[e,no y hy]at hk';cases hk'
  have fin:∀h',Heap.SameBut a s.heap h'->SetT knd led h' a (λk'=>S k'||decide (k'=k)) fs.size->Q true {s with heap:=h'}:=λh' b z=>by
   have:=h h' b;rw[sk]at this;rw[sz]at z;exact this z
  refine wpAny_bind ?_;have gw:∀(b:Bool) (s1:Shared) (R:Unit->Shared->Prop),R () s1->wpAny (model P w) A (match b with|true=>rule "set.scan.the-table-gave-way"|false=>pure ()) R E s1:=λb s1 R q=>by cases b<;>first|exact wpAny_pure q|exact wpAny_rule q
  refine gw _ _ _ ?_;split
  ·refine wpAny_bind ?_;rw[hashByValue_scannable 8 hs];refine wpAny_pure (zkg (led:=led) gw ho hx hd i1 i2 i3 ?_ ?_ ip λh' b z=>?_)
   ·split
    ·exact lf
    ·exact SetTable.fits_plain_off lf
   ·split
    ·exact lt
    ·exact zpy lt
   ·dsimp only;exact wpAny_pure (fin h' b z)
  ·refine wpAny_bind (wpAny_pure ?_);simp only[↓reduceIte];refine zkg (led:=led) gw ho hx hd i1 i2 i3 lf lt ip λh' b z=>?_;dsimp only;exact wpAny_pure (fin h' b z)
end
theorem slot_setit_next:Slot "set_iterator" "__next__" "set_iterator.__next__" :=
 .of (owner:="set_iterator") (n:="__next__") (by rw[typeLookup_type,builtinLookup_eq_fast];kernel_rfl) (by decide+kernel) (by decide+kernel) (by decide+kernel) (by first|exact .inl (by decide+kernel)|exact .inr (by decide+kernel)) (by rw[isSubtype_type];kernel_rfl)
theorem zcm:entryFor table "set_iterator.__next__"=some Builtin.«set_iterator.__next__»:=entryFor_of_fast (by kernel_rfl)
theorem zcw(v:Value):argsOk "set_iterator.__next__" ⟨[v],[]⟩:=by unfold argsOk;kernel_rfl
theorem zfp:entryFor table "set.__iter__"=some Builtin.«frozenset.__iter__»:=entryFor_alias (id':="frozenset.__iter__") (by kernel_rfl) rfl (by decide+kernel) (by kernel_rfl)
def byT(w:World):Bool:=w.params.followText "set-order"
inductive Way where
 |text
 |drawn (pt:Addr) (pl:List Nat)
 |place
def ordOf(w:World)(a:Addr)(es:Array (Int×Value))(ep:Nat):Way->List (Int×Value)
 |.text=>(pickOrder (w.params.setOrder a ep) es).toList
 |.drawn _ pl=>pl.filterMap λi=>es[i]?
 |.place=>es.toList
def WayOk(w:World)(es:Array (Int×Value))(t:SetTable):Way->Prop
 |.text=>byT w=true
 |.drawn _ pl=>byT w=false/\(!t.plain&&decide (es.size>1))=true/\pl.Perm (List.range es.size)
 |.place=>byT w=false/\(!t.plain&&decide (es.size>1))=false
def FirstIs(h:Heap)(t:SetTable)(i:Nat)(v:Value):Way->Prop
 |.text=>v=.int 0 0
 |.drawn pt pl=>v=.ref pt/\∃o n,h.get? pt=some o/\o.data=.seq (pl.map λj:Nat=>rawInt j).toArray n
 |.place=>∃j:Nat,v=.int j 0/\SetTable.below t.place j=i
structure SetSt(w:World)(it a:Addr)(es:Array (Int×Value))(ep:Nat)(t:SetTable)(y:Way)(i:Nat)(h:Heap):Prop where
 st:∃o,h.get? a=some o/\o.data=.set es ep t
 it:∃o v,h.get? it=some o/\o.cls=.type "set_iterator"/\o.data=.fields #[v,.int i 0,.ref a,.int es.size 0,.int ep 0]/\FirstIs h t i v y
theorem zo3{α β:Type}{f:α->Option β}{g:α->β}:∀(l:List α),(∀x∈l,f x=some (g x))->l.filterMap f=l.map g
 |[],_=>rfl
 |x::l,h=>by rw[y1j,h x y0c,y0k,zo3 l λy hy=>h y (y09 _ hy)]
section
variable {P:Program}{w:World}{A:Around}{E:Y0}{s:Shared}
theorem zgw(h:WayOk w es t y):(ordOf w a es ep y).Perm es.toList:=by
 cases y with
 |text=>exact zni _ _
 |place=>exact .refl _
 |drawn pt pl =>
  have e:es.toList=(List.range es.size).filterMap λi=>es[i]?:=by
   refine List.ext_getElem? λi=>?_;have:((List.range es.size).filterMap λi=>es[i]?)=(List.range es.size).map λi=>es.getD i default:=by
    refine zo3 _ λi hi=>?_;rw[y18 (y2d.mp hi),Array.getD,dif_pos (y2d.mp hi)];rfl
   rw[this,y0w];by_cases hi:i<es.size
   ·rw[List.getElem?_range hi,y1x,y18 hi,y25,Array.getD,dif_pos hi];rfl
   ·rw[y1v (by simpa using hi),y1v (by simpa using hi)];rfl
  rw[e];exact h.2.2.filterMap _
theorem zmg(hn:n≠0)(h:∀i d,i<n->Q i {s with drawn:=d}):wpAny M A (choose src n) Q E s :=
 λΓ p hΓ=>⟨hn,h _ _ (Nat.mod_lt _ (Nat.pos_of_ne_zero hn))⟩
theorem zrt(n:Nat):∀(xs:List α) (s:Shared) (Q:List α->Shared->Prop),xs.length=n->(∀ys d,ys.Perm xs->Q ys {s with drawn:=d})->wpAny M A (drawOrder n xs) Q E s:=by
 induction n with
 |zero =>
  intro xs s Q hn h;cases List.eq_nil_of_length_eq_zero hn;unfold drawOrder;exact wpAny_pure (h [] s.drawn (.refl _))
 |succ n ih =>
  intro xs s Q hn h;cases xs with
  |nil=>cases hn
  |cons x xs =>
   unfold drawOrder;refine wpAny_bind (zmg (by simp) λi d hi=>?_);rw[y0n hi];simp only;refine wpAny_bind (ih _ _ _ (by rw[y3g hi];omega) λys d' p=>?_);refine wpAny_pure (h _ d' ?_);generalize hl:x::xs=l at hi p ⊢;have e:l=l.take i++l[i]::l.drop (i+1):=by rw[y3m,y3n]
   rw[y3a]at p
   conv=>rhs;rw[e]
   exact(List.Perm.cons _ p).trans List.perm_middle.symm
theorem SetSt.ty{it a:Addr}{es:Array (Int×Value)}{ep:Nat}{t:SetTable}{y:Way}{i:Nat}(x:SetSt w it a es ep t y i s.heap):s.TypeIs (.ref it) "set_iterator":=let⟨o,_,ho,hc,_⟩:=x.it;⟨o,ho,hc⟩
theorem zbz{h:Heap}{o:Obj}{vs:Array Value}(ho:h.get? a=some o)(hd:o.data=.fields vs)(i:Nat)(x:Value):∃o',(h.update a (Obj.mapFields (·.setIfInBounds i x))).get? a=some o'/\o'.cls=o.cls/\o'.data=.fields (vs.setIfInBounds i x) :=
 ⟨_,y1m _ ho (Obj.isFreed_of_fields (Obj.data_mapFields hd _)),Obj.cls_mapFields ..,by rw[Obj.data_mapFields hd]⟩
theorem zs2{M:Model}{α:Type}{c:Prop}[Decidable c]{x y:Sem α}{Q:α->Shared->Prop}(hc:c)(h:wpAny M A x Q E s):wpAny M A (if c then x else y) Q E s:=by rw[if_pos hc];exact h
theorem zml{M:Model}{α:Type}{c:Prop}[Decidable c]{x y:Sem α}{Q:α->Shared->Prop}(hc:¬c)(h:wpAny M A y Q E s):wpAny M A (if c then x else y) Q E s:=by rw[if_neg hc];exact h
theorem zd4(ho:s.heap.get? a=some o)(hd:o.data=.set es ep t)(hf:t.fits es.size=true)(hb:byT w=true)
  (q:Q (((ordOf w a es ep .text)[i]?).map λe=>(e.2,j)) s):wpAny (model P w) A (setNext a j i ep) Q E s:=by
 unfold setNext;refine wpAny_bind (wpAny_setState_of ho hd hf ?_);dsimp only;unfold setsByText;refine wpAny_bind (wpAny_bind (wpAny_askSetting (wpAny_pure ?_)));refine zs2 hb (zml (by simp) ?_);unfold setWalk;refine wpAny_bind (wpAny_bind (wpAny_setState_of ho hd hf ?_));dsimp only;unfold setsByText;refine wpAny_bind (wpAny_bind (wpAny_askSetting (wpAny_pure ?_)));refine zs2 hb ?_;refine wpAny_bind (wpAny_askSetting (wpAny_pure (wpAny_pure ?_)));have e:(ordOf w a es ep .text)[i]?=(pickOrder (w.params.setOrder a ep) es)[i]?:=by show(pickOrder (w.params.setOrder a ep) es).toList[i]?=_;rw[y1x]
 rw[e]at q;exact q
theorem zdk(ho:s.heap.get? a=some o)(hd:o.data=.set es ep t)(hf:t.fits es.size=true)(hb:byT w=false)(hp:(!t.plain&&decide (es.size>1))=false)(tb:Tb (!byT w) t)
  (q:Q (match es[SetTable.below t.place j]?,t.place[SetTable.below t.place j]? with|some (_,x),some j=>some (x,j+1)|_,_=>none) s):wpAny (model P w) A (setNext a j i ep) Q E s:=by
 unfold setNext;refine wpAny_bind (wpAny_setState_of ho hd hf ?_);dsimp only;unfold setsByText;refine wpAny_bind (wpAny_bind (wpAny_askSetting (wpAny_pure ?_)));refine zml (λz=>by rw[show byT w=true from z]at hb;cases hb) (zml (λz=>by rw[show(!t.plain&&decide (es.size>1))=true from z]at hp;cases hp) ?_);have hl:t.led=true:=by rw[tb.led,hb];rfl
 refine wpAny_bind ?_;refine zml (c:=(!t.led && !es.isEmpty)=true) (by rw[hl];simp) (wpAny_pure (wpAny_pure q))
theorem zp5(hy:WayOk w es t y)(tb:Tb (!byT w) t)(hf:t.fits es.size=true)(st:SetSt w it a es ep t y i s.heap)(hne:a≠it)(hpt:∀pt pl,y=.drawn pt pl->pt≠it)(hx:(ordOf w a es ep y)[i]?=some (k,x))
  (q:∀h',SetSt w it a es ep t y (i+1) h'->Heap.SameBut it s.heap h'->Q (some x) {s with heap:=h'}):wpAny (model P w) A (pyNext (.ref it)) Q E s:=by
 have ty:=st.ty;obtain⟨⟨oa,ha,da⟩,oi,v,hi,ci,di,fi⟩:=st;unfold pyNext;refine wpAny_bind (wpAny_attempt (wpAny_callSpecial?_slot (name:=Str.ofString "__next__") ty slot_setit_next (wpAny_call_entry slot_setit_next ty zcm ?_ (zcw _))));unfold Builtin.«set_iterator.__next__»;refine wpAny_bind (wpAny_pure ?_);refine wpAny_bind (wpAny_fieldsOf hi di ?_);dsimp only;refine wpAny_bind (wpAny_setEntries_of ha da hf ?_);rw[if_neg (by simp)];simp only[y13];cases y with
 |text =>
  have fv:v=.int 0 0:=fi;subst fv;dsimp only;refine wpAny_bind (zd4 ha da hf hy ?_);rw[hx];dsimp only[y25];refine wpAny_bind (wpAny_setField hi di (by simp) ?_);obtain⟨o1,h1,c1,d1⟩:=zbz hi di 0 (rawInt ((0:Int).toNat:Int));refine wpAny_bind (wpAny_setField h1 d1 (by simp) ?_);obtain⟨o2,h2,c2,d2⟩:=zbz h1 d1 1 (rawInt ((i:Int)+1));have sb:=(Heap.SameBut.update s.heap it (Obj.mapFields (·.setIfInBounds 0 (rawInt ((0:Int).toNat:Int))))).trans (Heap.SameBut.update _ it (Obj.mapFields (·.setIfInBounds 1 (rawInt ((i:Int)+1)))));refine wpAny_pure ⟨x,rfl,wpAny_pure (q _ ⟨⟨oa,by rw[sb.2 a hne];exact ha,da⟩,o2,.int 0 0,h2,by rw[c2,c1,ci],by rw[d2];rfl,rfl⟩ sb)⟩
 |drawn pt pl =>
  obtain⟨fv,op,n,hp,dp⟩:=fi;subst fv;dsimp only;refine wpAny_bind (wpAny_seqItems hp dp ?_);dsimp only;obtain⟨j,hj,hjx⟩:∃j,pl[i]?=some j/\es[j]?=some (k,x):=by
   have e:ordOf w a es ep (.drawn pt pl)=pl.map λj=>es.getD j default:=zo3 _ λj hj=>by
    have:=y2d.mp (hy.2.2.mem_iff.mp hj);rw[y18 this,Array.getD,dif_pos this];rfl
   rw[e,y0w]at hx;obtain⟨j,hj,ej⟩:=y1r.mp hx;have hlt:=y2d.mp (hy.2.2.mem_iff.mp (y0g hj));refine⟨j,hj,?_⟩;rw[y18 hlt];rw[Array.getD,dif_pos hlt]at ej;exact congrArg some ej
  have hj':(pl.map λj:Nat=>rawInt j).toArray[i]?=some (.int j 0):=by
   rw[List.getElem?_toArray,y0w,hj];rfl
  rw[hj'];dsimp only;unfold setNextDrawn;refine wpAny_bind (wpAny_bind (wpAny_setState_of ha da hf ?_));dsimp only;refine zml (by simp) ?_;simp only[y13,hjx];refine wpAny_pure ?_;refine wpAny_bind (wpAny_setField hi di (by simp) ?_);obtain⟨o2,h2,c2,d2⟩:=zbz hi di 1 (rawInt ((i:Int)+1));have sb:=Heap.SameBut.update s.heap it (Obj.mapFields (·.setIfInBounds 1 (rawInt ((i:Int)+1))));refine wpAny_pure ⟨x,rfl,wpAny_pure (q _ ⟨⟨oa,by rw[sb.2 a hne];exact ha,da⟩,o2,.ref pt,h2,by rw[c2,ci],by rw[d2];rfl,rfl,op,n,by rw[sb.2 pt (hpt pt pl rfl)];exact hp,dp⟩ sb)⟩
 |place =>
  obtain⟨j,fv,fb⟩:=fi;subst fv;dsimp only;refine wpAny_bind (zdk ha da hf hy.1 hy.2 tb ?_);have hx':es[i]?=some (k,x):=by
   have:es.toList[i]?=some (k,x):=hx;rw[y1x]at this;exact this
  have hlt:i<es.size:=(y20.mp hx').1;have hpz:t.place.size=es.size:=by
   simp only[SetTable.fits,y05,beq_iff_eq]at hf;exact hf.1
  have hpl:t.place[i]?=some (t.place.getD i 0):=by rw[y18 (by omega),Array.getD,dif_pos (by omega)];rfl
  rw[y13,fb,hx',hpl];dsimp only;refine wpAny_bind (wpAny_setField hi di (by simp) ?_);obtain⟨o1,h1,c1,d1⟩:=zbz hi di 0 (rawInt ((t.place.getD i 0+1:Nat):Int));refine wpAny_bind (wpAny_setField h1 d1 (by simp) ?_);obtain⟨o2,h2,c2,d2⟩:=zbz h1 d1 1 (rawInt ((i:Int)+1));have sb:=(Heap.SameBut.update s.heap it (Obj.mapFields (·.setIfInBounds 0 (rawInt ((t.place.getD i 0+1:Nat):Int))))).trans (Heap.SameBut.update _ it (Obj.mapFields (·.setIfInBounds 1 (rawInt ((i:Int)+1)))));refine wpAny_pure ⟨x,rfl,wpAny_pure (q _ ⟨⟨oa,by rw[sb.2 a hne];exact ha,da⟩,o2,_,h2,by rw[c2,c1,ci],by rw[d2];rfl,t.place.getD i 0+1,rfl,zmj tb.rise (by omega)⟩ sb)⟩
theorem zgn{it:Addr}{h1:Heap}{Q:Y9}{R:Fin->Shared->Prop}(hh:A.handled=none)(e1:Heap.ExtBut it s.heap h1)(q:∀h',Heap.ExtBut it s.heap h'->Q none {s with heap:=h'}):
  wpAny (model P w) A.in1 (newExc (.type "StopIteration") []>>=raiseNew) R (λe s'=>wpAny (model P w) A (isInstance e (.type "StopIteration")>>=λb=>if b=true then pure none else throw e) Q E s') {s with heap:=h1}:=by
 refine wpAny_bind ?_;simp only[newExc,newTuple];refine wpAny_bind (wpAny_newObj_type (wpAny_bind (m:=firstArgMember _ _) (wpAny_of_eq (a:=Value.none) (by first|rfl|(simp only[firstArgMember];rfl)) (wpAny_newObj_type ?_ (by size_fits)))) (by size_fits));simp only[raiseNew];refine wpAny_bind (wpAny_handled ?_);rw[show A.in1.handled=none from hh];refine wpAny_bind (wpAny_pure (wpAny_throw ?_));refine wpAny_bind (wpAny_isInstance (s:={s with heap:=_}) (T:="StopIteration") (b:=true) ⟨_,y0b _ rfl,rfl⟩ isSubtype_stop ?_);exact wpAny_pure (q _ ((e1.push _).push _))
theorem ztf(hh:A.handled=none)(hy:WayOk w es t y)(tb:Tb (!byT w) t)(hf:t.fits es.size=true)(st:SetSt w it a es ep t y es.size s.heap)
  (q:∀h',Heap.ExtBut it s.heap h'->Q none {s with heap:=h'}):wpAny (model P w) A (pyNext (.ref it)) Q E s:=by
 have ty:=st.ty;obtain⟨⟨oa,ha,da⟩,oi,v,hi,ci,di,fi⟩:=st;unfold pyNext;refine wpAny_bind (wpAny_attempt (wpAny_callSpecial?_slot (name:=Str.ofString "__next__") ty slot_setit_next (wpAny_call_entry slot_setit_next ty zcm ?_ (zcw _))));unfold Builtin.«set_iterator.__next__»;refine wpAny_bind (wpAny_pure ?_);refine wpAny_bind (wpAny_fieldsOf hi di ?_);dsimp only;refine wpAny_bind (wpAny_setEntries_of ha da hf ?_);rw[if_neg (by simp)];simp only[y13];have hpz:t.place.size=es.size:=by
  simp only[SetTable.fits,y05,beq_iff_eq]at hf;exact hf.1
 cases y with
 |text =>
  have fv:v=.int 0 0:=fi;subst fv;dsimp only;refine wpAny_bind (zd4 ha da hf hy ?_);rw[y1v (by rw[(zgw (a:=a) (ep:=ep) hy).length_eq];simp)];dsimp only[Option.map_none];exact wpAny_bind (wpAny_setField hi di (by simp) (zgn hh (Heap.SameBut.update ..).extBut q))
 |drawn pt pl =>
  obtain⟨fv,op,n,hp,dp⟩:=fi;subst fv;dsimp only;refine wpAny_bind (wpAny_seqItems hp dp ?_);dsimp only;rw[y2y (by rw[y03,y00,hy.2.2.length_eq,y1y];exact y04 _)];dsimp only;show wpAny _ _ (setField (.ref it) 0 (rawInt 0)>>=λ_=>setField (.ref it) 2 Value.none>>=λ_=>(newExc (.type "StopIteration") []>>=raiseNew)) _ _ s;obtain⟨o1,h1,c1,d1⟩:=zbz hi di 0 (rawInt 0);refine wpAny_bind (wpAny_setField hi di (by simp) ?_);refine wpAny_bind (wpAny_setField h1 d1 (by simp) ?_);exact zgn (s:=s) hh ((Heap.SameBut.update s.heap it _).trans (Heap.SameBut.update _ it _)).extBut q
 |place =>
  obtain⟨j,fv,fb⟩:=fi;subst fv;dsimp only;refine wpAny_bind (zdk ha da hf hy.1 hy.2 tb ?_);rw[y13,fb,y2y (y04 _)];dsimp only;exact wpAny_bind (wpAny_setField hi di (by simp) (zgn hh (Heap.SameBut.update ..).extBut q))
theorem SetSt.kept{it a:Addr}{es:Array (Int×Value)}{ep:Nat}{t:SetTable}{y:Way}{i:Nat}{h h':Heap}(x:SetSt w it a es ep t y i h)(k:∀b o,(b=it\/b=a\/∃pl,y=.drawn b pl)->h.get? b=some o->h'.get? b=some o):SetSt w it a es ep t y i h':=by
 obtain⟨⟨oa,ha,da⟩,oi,v,hi,ci,di,fi⟩:=x;refine⟨⟨oa,k a oa (.inr (.inl rfl)) ha,da⟩,oi,v,k it oi (.inl rfl) hi,ci,di,?_⟩;cases y with
 |text=>exact fi
 |place=>exact fi
 |drawn pt pl =>
  obtain⟨fv,op,n,hp,dp⟩:=fi;exact⟨fv,op,n,k pt op (.inr (.inr ⟨pl,rfl⟩)) hp,dp⟩
def Way.fp:Way->List Addr
 |.drawn pt _=>[pt]
 |_=>[]
theorem Way.mem_fp{y:Way}:(∃pl,y=.drawn b pl)↔b∈y.fp:=by
 cases y with
 |text=>exact⟨λ⟨_,h⟩=>(nomatch h),λh=>(nomatch h)⟩
 |place=>exact⟨λ⟨_,h⟩=>(nomatch h),λh=>(nomatch h)⟩
 |drawn pt pl =>
  constructor
  ·rintro⟨pl',h⟩;cases h;exact y08.mpr rfl
  ·intro h;rw[y08.mp h];exact⟨pl,rfl⟩
theorem Walks.set(hh:A.handled=none)(hne:a≠it)(hpt:∀pt pl,y=.drawn pt pl->pt≠it)(hy:WayOk w es t y)(tb:Tb (!byT w) t)(hf:t.fits es.size=true)(hself:∀(s:Shared) (Q:Y0) (E:Y0),s.TypeIs (.ref it) "set_iterator"->Q (.ref it) s->wpAny (model P w) A (pyIter (.ref it)) Q E s):
  Walks P w A it (it::a::y.fp) [it] es.size (λi v=>∃k,(ordOf w a es ep y)[i]?=some (k,v)) (λi h=>SetSt w it a es ep t y i h) where
 sub:=λb hb=>by rw[y08.mp hb];exact y0c
 frame:=λi h h' x k=>x.kept λb o hb e=>k b (by
  rcases hb with rfl|rfl|hb
  ·exact y0c
  ·exact y09 _ y0c
  ·exact y09 _ (y09 _ (Way.mem_fp.mp hb))) o e
 item:=λi s Q E hi x q=>by
  have hl:i<(ordOf w a es ep y).length:=by rw[(zgw (a:=a) (ep:=ep) hy).length_eq];simpa using hi
  refine zp5 hy tb hf x hne hpt (y0n hl) λh' x' sb=>q _ h' s.toks ⟨_,y0n hl⟩ x' λb o hb e=>?_;rw[sb.2 b λz=>hb (by rw[z];exact y08.mpr rfl)];exact e
 done:=λs Q E x q=>ztf hh hy tb hf x λh' e1=>q h' s.toks λb o hb e=>e1 b o (λz=>hb (by rw[z];exact y08.mpr rfl)) e
 self:=λi s Q E x q=>hself s Q E x.ty q
end
local instance (priority:=10000):BEq Key:=instBEqOfDecidableEq
section
variable {prog:Program}{w:World}{A:Around}{E:Y0}{s:Shared}
theorem zi3(a:Value)
  (h:Q₁ (.ref s.heap.objs.size) {s with heap:=s.heap.push {cls:=.type "set",dict:=none,data:=.set #[] 0 (.fresh 0 0 (!byT w))} }) :
  codeAny (model prog w) A (.call (.builtin "set.__new__") ⟨[.type "set",a],[]⟩) (wants Q₁ E) s:=by
 refine codeAny_of_tree ?_;show wpAny _ A.in1 (do checkBuiltinCall "set.__new__" ⟨[.type "set",a],[]⟩;again (.builtin "set.__new__" ⟨[.type "set",a],[]⟩)) _ _ s;refine wpAny_bind (wpAny_of_eq (F.newCall_set_1 a) (wpAny_pure ⟨plainId_quiet F.plain_set_new _,codeAny_builtin F.entry_set_new ?_⟩));rw[Around.under_plainId F.plain_set_new _];unfold Builtin.«set.__new__» Builtin.Frozenset.newClass;have hsub:=sub_set_self;obtain⟨hp,g,d,tk,os⟩:=s;dsimp only
 wp_walk
 refine wpAny_askSetting (wpAny_pure ?_);dsimp only;simp only[newObj];refine wpAny_bind (wpAny_alloc (wpAny_pure ?_));exact wpAny_pure h
end
section
variable {P:Program}{w:World}{A:Around}{R:Result->Shared->Prop}{it:Addr}{fp wr:List Addr}{G:Array GenState->Array GenState->Prop}{n:Nat}{Pv:Nat->Value->Prop}{St:Nat->Shared->Prop}
def SetTs(P:Program)(w:World)(h:Heap)(a:Addr)(ks:List Int):Prop:=∃n,n<=ks.length/\SetT (intKind P w) (!byT w) h a (λk=>decide (k∈ks)) n
theorem SetTs.kept(x:SetTs P w h a ks)(k:∀o,h.get? a=some o->h'.get? a=some o):SetTs P w h' a ks:=let⟨n,l,x⟩:=x;⟨n,l,SetT.kept x k⟩
theorem zp6(h:(intKind P w).is k v=true):v.scannable=true:=by
 obtain⟨t,rfl⟩:=Value.isInt_shape h;rfl
theorem zlj(W:WalksS P w A.in1 it fp wr G n Pv St)(a:Addr)(ha:a∉fp)(ks:List Int)(hn:ks.length=n)(hv:∀i v,Pv i v->∀k,ks[i]?=some k->(intKind P w).is k v=true)(hb:n+1<scanBound):
  ∀(m i:Nat) (s:Shared),n-i=m->i<=n->St i s->SetTs P w s.heap a (ks.take i)->(∀s',Moved (a::wr) G s s'->SetTs P w s'.heap a ks->R (.ok (.ret .none)) s')->
   codeAny (model P w) A (.builtin "set.update.loop" ⟨[.ref a,.ref it],[]⟩) R s:=by
 have haw:a∉wr:=λh=>ha (W.sub _ h);have up:∀b∈wr,b∈a::wr:=λb h=>y09 _ h;intro m
 induction m with
 |zero =>
  intro i s hm hi st x q;obtain rfl:i=n:=by omega
  rw[y0s (y3c hn)]at x;refine codeAny_builtin F.entry_set_update_loop ?_;rw[Around.under_plainId F.plain_set_update_loop _];refine wpAny_bind (W.done s _ _ st λs' mv=>wpAny_pure (q s' (mv.mono up) (x.kept λo e=>mv.heap a _ haw e)))
 |succ m ih =>
  intro i s hm hi st x q;have lt:i<n:=by omega
  have hk:ks[i]?=some ks[i]:=by simp[hn,lt]
  refine codeAny_builtin F.entry_set_update_loop ?_;rw[Around.under_plainId F.plain_set_update_loop _];refine wpAny_bind (W.item i s _ _ lt st λv s' pv st' mv=>?_);have is:=hv i v pv _ hk;have x':=x.kept (h':=s'.heap) λo e=>mv.heap a _ haw e;refine wpAny_bind (m:=holding [v] (setAdd a v)) (wpAny_holding ?_);unfold setAdd;refine wpAny_holding (wpAny_bind ((intKind P w).pyHash (k:=ks[i]) is ?_));obtain⟨nn,hnn,x'⟩:=x';have room:nn<=i:=y15 hnn (by rw[y12];omega);refine ztg (knd:=intKind P w) (s:={s' with toks:=s'.toks+1}) is (zp6 is) x' (by omega) λh' sb x2=>?_;have x3:SetTs P w h' a (ks.take (i+1)):=by
   refine⟨_,?_,SetT.congr x2 (λk'=>?_) rfl⟩
   ·have el:(ks.take (i+1)).length=i+1:=by rw[y12];omega
    rw[el];split<;>omega
   ·rw[y1i,hk,Option.toList_some];rw[y1w];simp only[y3f,decide_eq_true_eq,y0j,y08]
  refine wpAny_pure ⟨plainId_quiet F.plain_set_update_loop _,ih (i+1) _ (by omega) lt (W.frame _ s' _ _ st' (y2r _) λb hb o e=>?_) x3 λs2 mv2 x4=>?_⟩
  ·rw[sb.2 b (λh=>ha (h▸hb))];exact e
  ·refine q s2 (Moved.trans W.gtrans ((mv.mono up).then_heap (y2r _) λb o hb e=>?_) mv2) x4;rw[sb.2 b (λh=>hb (h▸y0c))];exact e
end
section
variable {P:Program}{w:World}{A:Around}{E:Y0}{s:Shared}
set_option maxHeartbeats 3200000 in
theorem zhu(hh:A.handled=none)(hl:s.heap.IsList l its)(hk:ks.length=its.size)(hi:∀(i:Nat) v k,its[i]?=some v->ks[i]?=some k->(intKind P w).is k v=true)
  (hb:its.size+1<scanBound)
  (h:∀(h':Heap) (tk:Nat),SetTs P w h' s.heap.objs.size ks->(∀b o,b<s.heap.objs.size->s.heap.get? b=some o->h'.get? b=some o)->Q (.ref s.heap.objs.size) {s with heap:=h',toks:=tk}) :
  wpAny (model P w) A (call (.type "set") [.ref l]) Q E s:=by
 obtain⟨c,tl,hmro⟩:=F.called_set.mro;have made:=F.called_set.made;have sub:=F.called_set.sub;refine wpAny_call (codeAny_of_tree (wpAny_pure ⟨Code.quiet_builtin _ (by decide+kernel),codeAny_builtin F.entry_type_call ?_⟩));rw[Around.under_plain (weight_type_call_type "set" [.ref l] []) rfl];have a1:=F.called_set.notType;have a2:=F.called_set.canCreate;have a3:=F.typeCall_set_1 (.ref l)
 repeat (any_goals (first|assumption|wp_step))
 refine codeAny_mono (zi3 (.ref l) (E:=E) (Q₁:=λobj s1=>obj=.ref s.heap.objs.size/\s1={s with heap:=s.heap.push {cls:=.type "set",dict:=none,data:=.set #[] 0 (.fresh 0 0 (!byT w))} }) ⟨rfl,rfl⟩) λr s1 hr=>?_;cases r with
 |error e=>exact hr
 |ok fl =>
  cases fl with
  |ret obj =>
   obtain⟨rfl,rfl⟩:=hr;have at0:(s.heap.push {cls:=.type "set",dict:=none,data:=.set #[] 0 (.fresh 0 0 (!byT w))}).get? s.heap.objs.size=some {cls:=.type "set",dict:=none,data:=.set #[] 0 (.fresh 0 0 (!byT w))}:=y0b _ rfl;have ty:Shared.TypeIs {s with heap:=s.heap.push {cls:=.type "set",dict:=none,data:=.set #[] 0 (.fresh 0 0 (!byT w))} } (.ref s.heap.objs.size) "set":=⟨_,at0,rfl⟩;have i1:=F.called_set.init.lookup;have i2:=F.called_set.init.bind (.ref s.heap.objs.size)
   repeat (any_goals (first|assumption|wp_step))
   refine codeAny_mono (codeAny_call_builtin (R:=wants (λr s2=>r=.none/\∃h' tk,s2={s with heap:=h',toks:=tk}/\SetTs P w h' s.heap.objs.size ks/\
     (∀b o,b<s.heap.objs.size->s.heap.get? b=some o->h'.get? b=some o)) E) F.called_set.init.plain F.entry_set_init (check_set_init_1 ty ?_)) λr2 s2 hr2=>?_
   ·obtain⟨ol,ho,hc,nl,hd⟩:=hl;obtain⟨oc,od,oda,osl⟩:=ol;simp only at hc hd;subst hc;subst hd;have ho':(s.heap.push {cls:=.type "set",dict:=none,data:=.set #[] 0 (.fresh 0 0 (!byT w))}).get? l=some {cls:=.type "list",dict:=od,data:=.seq its nl,slots:=osl}:=y01 _ ho;have b1:=F.sub_list_set;have b2:=F.sub_list_frozenset;have b3:(Value.type "list"==Value.type "dict")=false:=by decide
    have hl1:(s.heap.push {cls:=.type "set",dict:=none,data:=.set #[] 0 (.fresh 0 0 (!byT w))}).IsList l its:=⟨_,ho',rfl,nl,rfl⟩;unfold Builtin.«set.__init__» noKeywords Builtin.Frozenset.updateFrom;generalize hPI:pyIter=PI
    wp_walk
    subst hPI;refine wpAny_pyIter_list hl1 ?_;refine wpAny_bind (wpAny_runValue ?_);have ll:l<s.heap.objs.size:=y0d ho;have h3:A.in1.in1.in1.handled=none:=by simp[hh]
    have ne:l≠(s.heap.push {cls:=.type "set",dict:=none,data:=.set #[] 0 (.fresh 0 0 (!byT w))}).objs.size:=by rw[y0v];exact y0h (y1o ll)
    have nf:s.heap.objs.size∉[(s.heap.push {cls:=.type "set",dict:=none,data:=.set #[] 0 (.fresh 0 0 (!byT w))}).objs.size,l]:=by
     rw[y0v];intro z;rcases y02.mp z with z|z
     ·exact absurd z (y0h (y1g _))
     ·exact absurd (y08.mp z) (y1p ll)
    refine zlj ((Walks.list h3 _ l ne its).toS) s.heap.objs.size nf ks hk (λi v pv k e=>hi i v k pv e) hb (its.size-0) 0 _ (by omega) (y10 _) ⟨⟨_,y0b _ rfl,rfl,rfl⟩,(hl1.push _)⟩ ?x0 ?q0
    case x0 =>
     refine SetTs.kept (h:=s.heap.push {cls:=.type "set",dict:=none,data:=.set #[] 0 (.fresh 0 0 (!byT w))}) ?_ λo e=>y01 _ e;rw[List.take_zero];obtain⟨o,es,ep,t,ho,hx,hd,h12,h3⟩:=(setObjOf_fresh (knd:=intKind P w) (!byT w)).setOf at0 (by unfold scanBound;omega);have eo:o=_:=(Option.some.inj (at0.symm.trans ho)).symm;subst eo;have hd':Data.set #[] 0 (.fresh 0 0 (!byT w))=Data.set es ep t:=hd;injection hd' with e1 e2 e3
     subst e1;subst e2;subst e3;exact⟨0,y04 _,_,_,_,_,at0,hx,rfl,⟨h12,λk=>by simp⟩,h3.2,zpz _ _ _,.nil⟩
    case q0 =>
     intro s' mv x';obtain⟨h',g',d',tk',os'⟩:=s';have eg:g'=s.gens:=mv.gens;have ed:d'=s.drawn:=mv.drawn;have eo:os'=s.os:=mv.os;subst eg;subst ed;subst eo;refine wpAny_pure (wpAny_pure ⟨rfl,h',tk',rfl,x',λb o hb e=>mv.heap b o ?_ (y01 _ (y01 _ e))⟩);rw[y0v];intro z;rcases y02.mp z with z|z
     ·exact absurd z (y0h hb)
     ·exact absurd (y08.mp z) (y0h (y1o hb))
   ·cases r2 with
    |error e=>exact hr2
    |ok f2 =>
     cases f2 with
     |ret r =>
      obtain⟨rfl,h',tk,rfl,x',k'⟩:=hr2
      repeat (any_goals (first|assumption|wp_step))
      exact h _ _ x' k'
     |_=>exact hr2.elim
  |_=>exact hr.elim
end
section
variable {P:Program}{w:World}{A:Around}{E:Y0}{s:Shared}
theorem zhh(v:Value):argsOk "set.__iter__" ⟨[v],[]⟩:=by unfold argsOk;kernel_rfl
theorem zls(ho:s.heap.get? a=some o)(hx:o.ExactSet)(hc:o.cls=.type "set")(hd:o.data=.set es ep t)(hf:t.fits es.size=true)(tb:Tb (!byT w) t)(hn:es.size<=sizeLine)
  (q:∀(it:Addr) (y:Way) (h':Heap) (d:Drawn),WayOk w es t y->a≠it->(∀pt pl,y=.drawn pt pl->pt≠it/\s.heap.objs.size<=pt)->s.heap.objs.size<=it->SetSt w it a es ep t y 0 h'->(∀b u,s.heap.get? b=some u->h'.get? b=some u)->Q (.ref it) {s with heap:=h',drawn:=d}) :
  wpAny (model P w) A (pyIter (.ref a)) Q E s:=by
 have hT:s.TypeIs (.ref a) "set":=⟨o,ho,hc⟩;refine wpAny_pyIter_slot hT F.slot_set_iter (wpAny_call_entry F.slot_set_iter hT zfp ?_ (zhh _));unfold Builtin.«frozenset.__iter__» Builtin.Frozenset.slot0 slotArgs;refine wpAny_bind (wpAny_bind (wpAny_pure ?_));unfold Builtin.Frozenset.addrOf;refine wpAny_pure ?_;unfold Builtin.Frozenset.sizeOf;refine wpAny_bind (wpAny_bind (wpAny_setEntries_of ho hd hf (wpAny_pure ?_)));unfold setDrawn;refine wpAny_bind (wpAny_bind (wpAny_setState_of ho hd hf ?_));dsimp only;unfold setsByText;refine wpAny_bind (wpAny_bind (wpAny_askSetting (wpAny_pure (wpAny_pure ?_))));have fin:∀(s2:Shared) (v:Value) (y:Way),WayOk w es t y->(∀b u,s.heap.get? b=some u->s2.heap.get? b=some u)->s2={s with heap:=s2.heap,drawn:=s2.drawn}->s.heap.objs.size<=s2.heap.objs.size->FirstIs s2.heap t 0 v y->(∀pt pl,y=.drawn pt pl->s.heap.objs.size<=pt/\pt<s2.heap.objs.size)->
   wpAny (model P w) A.in1 (do let e ←setEpoch a;let f ←newFields "set_iterator" [v,rawInt 0,.ref a,rawInt es.size,rawInt e];ret f) (λfin s'=>∃v,fin=PySem.Fin.done (.ret v)/\∃T' r,s'.TypeIs v T'/\typeLookup (Value.type T') (Str.ofString "__next__")=pure (some r)/\Q v s') E s2:=by
  intro s2 v y hy hk es2 le hv hpt;obtain⟨h2,g2,d2,tk2,os2⟩:=s2;have e1:g2=s.gens:=congrArg Shared.gens es2;have e2:tk2=s.toks:=congrArg Shared.toks es2;have e3:os2=s.os:=congrArg Shared.os es2;subst e1;subst e2;subst e3;unfold setEpoch;refine wpAny_bind (wpAny_bind (wpAny_setState_of (hk a o ho) hd hf (wpAny_pure ?_)));unfold newFields;refine wpAny_bind (wpAny_newObj_type (wpAny_pure ⟨_,rfl,"set_iterator",_,⟨_,y0b _ rfl,rfl⟩,slot_setit_next.lookup,?_⟩));have lt:a<h2.objs.size:=y0d (hk a o ho);have hk':∀b u,h2.get? b=some u->(h2.push {cls:=.type "set_iterator",data:=.fields #[v,.int 0 0,.ref a,.int es.size 0,.int ep 0]}).get? b=some u:=λb u e=>y01 _ e;refine q _ y _ d2 hy (y0h lt) (λpt pl e=>⟨y0h (hpt pt pl e).2,(hpt pt pl e).1⟩) le ⟨⟨o,hk' a o (hk a o ho),hd⟩,⟨_,v,y0b _ rfl,rfl,rfl,?_⟩⟩ λb u e=>hk' b u (hk b u e);cases y with
  |text=>exact hv
  |place=>exact hv
  |drawn pt pl =>
   obtain⟨e,o2,n2,h1,h2'⟩:=hv;exact⟨e,o2,n2,hk' _ _ h1,h2'⟩
 show wpAny _ _ (if(!byT w&&(!t.plain&&decide (es.size>1)))=true then _ else _) _ _ _;cases hb:byT w with
 |true =>
  rw[if_neg (by simp)];refine wpAny_bind (wpAny_pure ?_);exact fin s _ .text hb (λ_ _ e=>e) rfl (y04 _) rfl (λ_ _ e=>nomatch e)
 |false =>
  cases hp:(!t.plain&&decide (es.size>1))with
  |false =>
   rw[if_neg (by simp)];refine wpAny_bind (wpAny_pure ?_);exact fin s _ .place ⟨hb,hp⟩ (λ_ _ e=>e) rfl (y04 _) ⟨0,rfl,zmi tb.rise⟩ (λ_ _ e=>nomatch e)
  |true =>
   rw[if_pos (by simp)];refine wpAny_bind (zrt es.size (List.range es.size) s _ y1y λys d pm=>?_);have yl:ys.length=es.size:=by rw[pm.length_eq,y1y]
   refine wpAny_bind (wpAny_newTuple ?_ (by rw[y00,yl];exact hn));refine fin _ _ (.drawn s.heap.objs.size ys) ⟨hb,hp,pm⟩ (λ_ _ e=>y01 _ e) rfl ?_ ⟨rfl,_,_,y0b _ rfl,rfl⟩ λpt pl e=>?_
   ·show _<=(Heap.push _ _).objs.size;rw[y0v];exact y2r _
   ·cases e;refine⟨y04 _,?_⟩;show _<(Heap.push _ _).objs.size;rw[y0v];exact y1g _
end
section
variable {P:Program}{w:World}{A:Around}{E:Y0}{s:Shared}
theorem zcn:Slot "set_iterator" "__iter__" "set_iterator.__iter__" :=
 .of (owner:="set_iterator") (n:="__iter__") (by rw[typeLookup_type,builtinLookup_eq_fast];kernel_rfl) (by decide+kernel) (by decide+kernel) (by decide+kernel) (by first|exact .inl (by decide+kernel)|exact .inr (by decide+kernel)) (by rw[isSubtype_type];kernel_rfl)
theorem zee:entryFor table "set_iterator.__iter__"=some Builtin.«dict_keyiterator.__iter__» :=
 entryFor_alias (id':="dict_keyiterator.__iter__") (by kernel_rfl) rfl (by decide+kernel) (by kernel_rfl)
theorem zfh(v:Value):argsOk "set_iterator.__iter__" ⟨[v],[]⟩:=by unfold argsOk;kernel_rfl
theorem zlk:typeLookup (.type "set") (Str.ofString "__len__")=pure (some (.builtin "set.__len__")):=F.slot_set_len.lookup
theorem zjt(hh:A.handled=none)(ho:s.heap.get? a=some o)(hx:o.ExactSet)(hc:o.cls=.type "set")(hd:o.data=.set es ep t)(hf:t.fits es.size=true)(tb:Tb (!byT w) t)(hn:es.size<=sizeLine)
  (q:∀(vs:List Value) (h':Heap) (d:Drawn) (tk:Nat),vs.Perm (es.toList.map (·.2))->s.heap.objs.size<=h'.objs.size->s.toks<=tk->(∀b u,s.heap.get? b=some u->h'.get? b=some u)->Q vs {s with heap:=h',drawn:=d,toks:=tk}) :
  wpAny (model P w) A (collect (.ref a)) Q E s:=by
 have la:a<s.heap.objs.size:=y0d ho;unfold collect;refine wpAny_bind (wpAny_runValue (codeAny_builtin F.entry_proto_collect ?_));rw[Around.under_plainId F.plain_proto_collect _];show wpAny _ A.in1 (newList []>>=λl=>again (.builtin "list.__iadd__" ⟨[l,.ref a],[]⟩)) _ _ s;refine wpAny_bind (wpAny_newObj_type ?_);refine wpAny_pure ⟨plainId_quiet F.plain_list_iadd _,codeAny_builtin F.entry_list_iadd ?_⟩;rw[Around.under_plainId F.plain_list_iadd _];have hS₁:(s.heap.push {cls:=.type "list",data:=.seq ([]:List Value).toArray}).get? s.heap.objs.size=some {cls:=.type "list",data:=.seq ([]:List Value).toArray}:=y0b _ rfl;have ha₁:(s.heap.push {cls:=.type "list",data:=.seq ([]:List Value).toArray}).get? a=some o:=y01 _ ho;have h1:Builtin.List.listSameRef (.ref s.heap.objs.size) (.ref a)=false:=by simp[Builtin.List.listSameRef,y1p la]
 show wpAny _ A.in1 (Builtin.List.listExtendWith (.ref s.heap.objs.size) (.ref a) (.ref s.heap.objs.size)) _ _ _;unfold Builtin.List.listExtendWith;have hT:Shared.TypeIs {s with heap:=s.heap.push {cls:=.type "list",data:=.seq ([]:List Value).toArray} } (.ref a) "set":=⟨o,ha₁,hc⟩;refine wpAny_bind (wpAny_typeOf hT ?_);rw[if_neg (by rw[h1];decide)];refine wpAny_bind (zls (s:={s with heap:=s.heap.push {cls:=.type "list",data:=.seq ([]:List Value).toArray} }) ha₁ hx hc hd hf tb hn λit y h2 d wo hne hpt hit st k2=>?_);refine wpAny_bind (wpAny_holding ?_);have hT2:Shared.TypeIs {s with heap:=h2,drawn:=d} (.ref a) "set":=⟨o,k2 a o ha₁,hc⟩;unfold Builtin.List.listLengthHint;refine wpAny_bind (wpAny_specialOf hT2 zlk ?_);generalize hid:("set.__len__":String)=id0
 (fail_if_success (clear hid id0))
 wp_delta
 rw[show splitId id0=some ("set","__len__")from by subst hid;decide+kernel];subst hid;refine wpAny_bind (wpAny_isInstance (b:=true) hT2 (by rw[isSubtype_type];kernel_rfl) ?_);rw[if_neg (by decide)];refine zs2 (by decide+kernel) ?_;refine wpAny_bind (wpAny_typeOf hT2 (wpAny_pure ?_));show wpAny _ A.in1 (rule "list.extend.makes-room">>=λ_=>Builtin.List.listTouch (.ref s.heap.objs.size)>>=λ_ =>
  again (.builtin "list.extend.loop" ⟨[.ref s.heap.objs.size,.ref it,.ref s.heap.objs.size],[]⟩)) _ _ _
 refine wpAny_bind (wpAny_rule ?_);have hS2:=k2 _ _ hS₁;refine wpAny_bind ?_;show wpAny _ A.in1 (updateSeq s.heap.objs.size (·.push .none)>>=λ_=>updateSeq s.heap.objs.size (·.pop)) _ _ _;refine wpAny_bind (wpAny_updateSeq hS2 rfl ?_);have hS₂:=y1m (Obj.mapSeq (·.push Value.none)) hS2 rfl;refine wpAny_updateSeq hS₂ rfl ?_;have hS₃:=y1m (Obj.mapSeq (·.pop)) hS₂ rfl;have oth:∀b o,b≠s.heap.objs.size->h2.get? b=some o->((h2.update s.heap.objs.size (Obj.mapSeq (·.push Value.none))).update s.heap.objs.size (Obj.mapSeq (·.pop))).get? b=some o :=
  λb o hb e=>(y1k _ _ (Ne.symm hb)).trans ((y1k _ _ (Ne.symm hb)).trans e)
 have hself:∀(s:Shared) (Q:Y0) (E:Y0),s.TypeIs (.ref it) "set_iterator"->Q (.ref it) s->wpAny (model P w) A.in1 (pyIter (.ref it)) Q E s:=λs Q E hT q=>by
  refine wpAny_pyIter_slot hT zcn (wpAny_call_entry zcn hT zee ?_ (zfh _));show wpAny _ _ (ret (.ref it)) _ _ s;exact wpAny_pure ⟨_,rfl,"set_iterator",_,hT,slot_setit_next.lookup,q⟩
 have sz1:(s.heap.push {cls:=.type "list",data:=.seq ([]:List Value).toArray}).objs.size=s.heap.objs.size+1:=y0v ..;have hit':s.heap.objs.size+1<=it:=by rw[←sz1];exact hit
 have ptne:∀b,b∈y.fp->b≠s.heap.objs.size:=λb hb=>by
  obtain⟨pl,e⟩:=Way.mem_fp.mpr hb;have:=(hpt b pl e).2;have z:s.heap.objs.size+1<=b:=by rw[←sz1];exact this
  exact y1p z
 have W:=(Walks.set (P:=P) (A:=A.in1) (ep:=ep) hh hne (λpt pl e=>(hpt pt pl e).1) wo tb hf hself).toS;have hSf:s.heap.objs.size∉it::a::y.fp:=λhm=>by
  rcases y02.mp hm with z|hm
  ·exact y0h hit' z
  rcases y02.mp hm with z|hm
  ·exact y1p la z
  ·exact ptne _ hm rfl
 refine wpAny_pure ⟨plainId_quiet F.plain_extend_loop _,codeAny_extend_loopS W hn _ hSf _ es.size 0 _ _ _ rfl (y10 _) ?_ hS₃ (ItemsOf.nil _) λs' acc' c' hm hS' hacc=>?_⟩
 ·refine st.kept λb u hb e=>oth b u ?_ e;rcases hb with rfl|rfl|hb
  ·exact y1p hit'
  ·exact y0h la
  ·exact ptne b (Way.mem_fp.mp hb)
 show wpAny _ A (load s.heap.objs.size>>=_) _ _ s';refine wpAny_bind (wpAny_load hS' (wpAny_pure ?_));obtain⟨h',g',d',tk',os'⟩:=s';have eg:g'=s.gens:=hm.gens;have ed:d'=d:=hm.drawn;have eo:os'=s.os:=hm.os;subst eg;subst ed;subst eo;have op:=zgw (a:=a) (ep:=ep) wo;have ol:(ordOf w a es ep y).length=es.size:=by rw[op.length_eq,y19]
 have hacc':acc'.toList=(ordOf w a es ep y).map (·.2):=by
  refine List.ext_getElem? λj=>?_;rw[y0w,y1x];cases e:acc'[j]? with
  |none =>
   have:acc'.size<=j:=Array.getElem?_eq_none_iff.mp e;rw[hacc.1]at this;rw[y1v (by omega)];rfl
  |some v =>
   obtain⟨k,hk⟩:=hacc.2 j v e;rw[hk];rfl
 refine q _ h' d' tk' (by rw[hacc'];exact op.map _) (y1d (y0d hS')) hm.toks λb u e=>?_;have lb:b<s.heap.objs.size:=y0d e;refine hm.heap b u (λhb=>?_) (oth b u (y0h lb) (k2 b u (y01 _ e)));rcases y02.mp hb with z|z
 ·exact y0h lb z
 ·rw[y08.mp z]at lb;exact absurd (y2z lb hit') (y1h _)
end
def iv:Value->Int
 |.int i _=>i
 |_=>0
theorem zov:∀{l:List Value},(∀v∈l,∃i t,v=.int i t)->IntsAre l (l.map iv)
 |[],_=>.nil
 |v::r,h=>by
  obtain⟨i,t,rfl⟩:=h v y0c;exact .cons i t (zov λv hv=>h v (y09 _ hv))
section
variable {P:Program}{w:World}{A:Around}{E:Y0}{s:Shared}
theorem zfo{l:List Int}(h1:l.Pairwise (·<=·))(h2:l.Nodup):l.Pairwise (· < ·):=by
 have:=List.Pairwise.and h1 h2;exact this.imp λ⟨a,b⟩=>by omega
theorem zlh{ks:List Int}(hh:A.handled=none)(x:SetTs P w s.heap a ks)(h64:ks.length<64)
  (q:∀(L:Addr) (vs:List Value) (ns:List Int) (n:Nat) (h':Heap) (d:Drawn) (tk:Nat),IntsAre vs ns->ns.Pairwise (· < ·)->(∀k,k∈ns↔k∈ks)->s.heap.objs.size<=L->h'.get? L=some (seqObj "list" vs.toArray n)->s.toks<=tk->(∀b u,s.heap.get? b=some u->h'.get? b=some u)->Q (.ref L) {s with heap:=h',drawn:=d,toks:=tk}) :
  wpAny (model P w) A (call (.builtin "sorted") [.ref a]) Q E s:=by
 obtain⟨n,hn,o,es,ep,t,ho,hx,hd,⟨h1,h2⟩,⟨h3,h4,hsz⟩,tb,ap⟩:=x;refine Calls.call_function_entry kind_sorted plain_sorted entry_sorted (args_sorted1 _) ?_;unfold Builtin.«sorted»;refine wpAny_bind (m:=checkCount "sorted" 1 1 _) (wpAny_pure ?_);refine wpAny_bind (zjt hh ho hx hx.1 hd h4 tb (show es.size<=sizeLine by unfold sizeLine;omega) λvs h' d tk pm le htk hk=>?_);have hint:∀v∈vs,∃i t,v=.int i t:=λv hv=>by
  obtain⟨e,he,rfl⟩:=y0l.mp (pm.mem_iff.mp hv);obtain⟨⟨k,hk,_⟩,_⟩:=h1 e he;obtain⟨t,e⟩:=Value.isInt_shape hk;exact⟨k,t,e⟩
 have hI:=zov hint;have vl:vs.length<64:=by
  rw[pm.length_eq,y00,y19];omega
 refine wpAny_bind (wpAny_newList ?_);have hoL:(h'.push (seqObj "list" vs.toArray 0)).get? h'.objs.size=some (seqObj "list" vs.toArray 0):=y0b _ rfl;show wpAny _ _ _ _ _ {s with heap:=h'.push (seqObj "list" vs.toArray 0),drawn:=d,toks:=tk};refine wpAny_bind (wpAny_holding (wpAny_call_entry slot_list_sort ⟨_,hoL,rfl⟩ entry_list_sort (list_sort_tree hoL hI vl λout ns' a1 a2 a3=>⟨_,rfl,?_⟩) (args_list_sort _)));have iv_is:∀e∈es.toList,(intKind P w).is (iv e.2) e.2=true:=λe he=>by
  obtain⟨⟨k,hk,_⟩,_⟩:=h1 e he;obtain⟨t,e'⟩:=Value.isInt_shape hk;rw[e']at hk ⊢;exact hk
 have pe:ns'.Perm (es.toList.map λe=>iv e.2):=by
  refine a2.trans ?_;have:=pm.map iv;rwa[y0t]at this
 obtain⟨ne,hat⟩:=sortedHeap_at (out:=out) hoL;refine wpAny_pure ⟨_,rfl,q _ out.toList ns' ne _ d tk a1 (zfo a3 ?_) (λk=>?_) le hat htk λb u e=>?_⟩
 ·refine pe.nodup_iff.mpr ?_;rw[List.Nodup,List.pairwise_map];refine List.Pairwise.imp_of_mem (λ{x y} hx hy z e=>?_) ap;have h:=z _ (iv_is x hx);rw[e,iv_is y hy]at h;cases h
 ·rw[pe.mem_iff,y0l];have:=h2 k;rw[decide_eq_true_eq]at this;rw[this];constructor
  ·rintro⟨e,he,rfl⟩;exact⟨e,he,iv_is e he⟩
  ·rintro⟨e,he,hk⟩;obtain⟨t,e'⟩:=Value.isInt_shape hk;exact⟨e,he,by rw[e'];rfl⟩
 ·have lb:b<h'.objs.size:=y0i (y0d e) le;refine(sortedHeap_old (y0h lb) ?_).trans (y01 _ (hk b u e));rw[y0v];exact y1o lb
end
theorem Inv.drew{X:Cx}{pins:Y2}{σ:St}{H:Hp}{s:Shared}(I:Inv X pins σ H s)(d:Drawn):Inv X pins σ H {s with drawn:=d}:=by
 obtain⟨h1,h2,h3,h4,h5,h6,h7,h8,h9,h10,h11⟩:=I;exact⟨h1,h2,h3,h4,h5,h6,h7,h8,h9,h10,h11⟩
def setI(P:Program)(w:World)(a:Addr)(ns:List Int):HO:=.ext λh=>SetTs P w h a ns
theorem zil(hc:X.calm=true):CallR X (.type "set") (λxs H Q=>∃(p:Addr) (ns:List Int),xs=[.ref p]/\SqL X.K H p (ns.map V.int)/\ns.length<=1000/\∀a,H a=none->Q (.ref a) (upd H a (setI X.prog X.w a ns))):=by
 intro pins s σ H xs us Q I r h;obtain⟨p,ks,rfl,hx,hz,q⟩:=h;obtain⟨u,rfl,rx⟩:=vals1 r;cases(show u=Value.ref p from rx);obtain⟨vs,rv,pl,_⟩:=I.list hx;have lv:=rv.length;rw[y00]at lv;refine zhu (ks:=ks) (I.ok.hd hc) pl.isList (by rw[y03];exact lv) (λi v k e1 e2=>?_) (by rw[y03];unfold scanBound;omega) λh' tk x k=>?_
 ·have e1':vs[i]?=some v:=by simpa using e1
  obtain⟨u,e,q⟩:=rv.get (i:=i) (x:=V.int k) (by rw[y0w,e2];rfl);rw[e1']at e;cases e;obtain⟨t,rfl⟩:=q;show Value.isInt k (.int k t)=true;unfold Value.isInt;simp
 ·refine⟨.ref s.heap.objs.size,_,I.laid (t':=tk) (λb u e=>k b u (y0d e) e) (y04 _) ?_,rfl,q _ I.fresh⟩;obtain⟨n,hn,o,es,ep,t,ho,rest⟩:=id x;exact⟨x,⟨o,ho⟩,λh1 h2 x1 k1=>x1.kept k1⟩
theorem zft:∀{vs:List Value} {ns:List Int},IntsAre vs ns->Vals (ns.map V.int) vs
 |_,_,.nil=>.nil
 |_,_,.cons n t h=>.cons ⟨t,rfl⟩ (zft h)
def rSortS(P:Program)(w:World):List V->Hp->VK->Prop:=λxs H Q=>∃(p:Addr) (ns:List Int),xs=[.ref p]/\H p=some (setI P w p ns)/\ns.length<64/\∀(ms:List Int),ms.Pairwise (· < ·)->(∀k,k∈ms↔k∈ns)->∀L H',New H L (.lst (ms.map V.int)) H'->Q (.ref L) H'
theorem zfd(hc:X.calm=true):CallR X (.builtin "sorted") (rSortS X.prog X.w):=by
 intro pins s σ H xs us Q I r h;obtain⟨p,ns,rfl,hx,hz,q⟩:=h;obtain⟨u,rfl,rx⟩:=vals1 r;cases(show u=Value.ref p from rx);obtain⟨x,_⟩:=I.hok p _ hx;refine zlh (I.ok.hd hc) x hz λL vs ms n h' d tk a1 a2 a3 le hat htk k=>?_;have vl:Vals (ms.map V.int) vs:=zft a1;have nf:H L=none:=I.hok.fresh le;refine⟨.ref L,_,(I.laid (t':=tk) (o:=.lst (ms.map V.int)) k le ⟨?_,vs,n,vl,hat⟩).drew d,rfl,q ms a2 a3 L _ (New.mk' nf _)⟩;rw[y00];have nd:ms.Nodup:=a2.imp λh=>by omega
 have:ms.length<=ns.length:=nd.length_le_of_subset λy hy=>(a3 y).mp hy;exact zaf (by omega)
end L2
namespace SM
open PySem PySem.Spec PyProof.Rows L2 SS
structure Ask(H:Hp)(v:V):Prop where
 t:Thing H v
 ts:∀a xs,v=.ref a->H a=some (.lst xs)->Things H xs
def zfv(C:Addr):Sp:=λvs H Q E=>∃v,vs=[v]/\Ask H v/\(frB H v=true->∀H',Same H H'->Q .non H')/\(frB H v=false->∀a H',Same H H'->H' a=none->E (.ref C) (some a) H')
abbrev kI(n:Nat):Key2:=.inl (.inl (n:Int))
structure LA where
 p:Addr
 dx:Addr
 pf:Addr
 pn:Addr
 ps:Addr
def FL2(H:Hp)(v:V)(k:List Key2):Prop:=∃a,v=.ref a/\NestAt H a k
section
variable {P:Program}{w:World}{C:Addr}{A:LA}{fs:List (List Key2)}{sts:List (List Key×V)}{H H':Hp}
theorem FL2.ts(h:FL2 H v k)(g:TupS H H'):FL2 H' v k:=let⟨a,e,n⟩:=h;⟨a,e,n.ts g⟩
theorem zkt{α:Type}[DecidableEq α](x:α)(xs:List α)(k:α):nOf (x::xs) k=if x=k then 0 else 1+nOf xs k:=by
 unfold nOf;rw[List.idxOf_cons];by_cases e:x=k
 ·rw[if_pos e,beq_iff_eq.mpr e];rfl
 ·rw[if_neg e,beq_eq_false_iff_ne.mpr e];simp only[cond_false];omega
theorem tabN:∀{ys:List NRow} {fs:List (List Key2)} (d:Nat),ys.map (·.1)=fs->(∀i y,ys[i]?=some y->y.2.2=nV (d+i))->∀k,(k∈fs->valN ys k=some (nV (d+nOf fs k)))/\(¬k∈fs->valN ys k=none)
 |[],_,d,rfl,_,k=>⟨λh=>by simp at h,λ_=>rfl⟩
 |y::ys,_,d,rfl,hv,k=>by
  have h0:=hv 0 y rfl;have ih:=tabN (ys:=ys) (d+1) rfl (λi z hz=>by rw[hv (i+1) z (by simpa using hz),show d+(i+1)=d+1+i by omega]) k;have ev:valN (y::ys) k=if y.1=k then some y.2.2 else valN ys k:=by
   unfold valN;rw[y1e];by_cases e:y.1=k
   ·rw[decide_eq_true e,if_pos e];rfl
   ·rw[decide_eq_false e,if_neg e]
  rw[ev,y0k,zkt];by_cases e:y.1=k
  ·rw[if_pos e,if_pos e];exact⟨λ_=>by rw[h0],λh=>absurd (by rw[e];exact y0c) h⟩
  ·rw[if_neg e,if_neg e];refine⟨λh=>?_,λh=>ih.2 λz=>h (y09 _ z)⟩;rw[ih.1 ((y02.mp h).resolve_left λz=>e z.symm),show d+(1+nOf (ys.map (·.1)) k)=d+1+nOf (ys.map (·.1)) k by omega]
end
inductive Co where
 |bare (wd:Str) (i j:Nat)
 |neg (c:Co)
 |con (c e:Co)
 |so (st:Bool) (i:Nat) (c:Co)
def Co.hgt:Co->Nat
 |.bare _ _ _=>0
 |.neg c=>c.hgt+1
 |.con c e=>max c.hgt e.hgt+1
 |.so _ _ c=>c.hgt+1
def Co.cost:Co->Nat
 |.bare _ _ _=>2
 |.neg c=>c.cost+2
 |.con c e=>c.cost+e.cost+2
 |.so _ _ c=>4*c.cost+2
theorem Co.cost2(c:Co):2<=c.cost:=by cases c<;>simp only[Co.cost]<;>omega
def tv:Co->Bool
 |.bare wd _ _=>holdM wd 0
 |.neg c=>!tv c
 |.con c e=>tv c&&tv e
 |.so st _ c=>st&&tv c
def soW(st:Bool):Str:=if st=true then "some set" else "some place"
def PtOf(cs:List Co)(vs:List V):Co->Prop
 |.bare wd i j=>wd∈treeW/\i<=4/\j<=4/\vs=[.str wd,nV (2^i),nV (2^j)]
 |.neg c=>∃a,vs=[.str "not",nV a]/\cs[a]?=some c
 |.con c e=>∃a b,vs=[.str "and",nV a,nV b]/\cs[a]?=some c/\cs[b]?=some e
 |.so st i c=>∃a,i<=4/\vs=[.str (soW st),nV (2^i),nV a]/\cs[a]?=some c
theorem zfy{α:Type}{xs ys:List α}(h:xs <+:ys){a:Nat}{c:α}(e:xs[a]?=some c):ys[a]?=some c:=by
 obtain⟨zs,rfl⟩:=h;rw[y0u (y0f.mp e).1];exact e
theorem PtOf.more(h:cs <+:cs')(p:PtOf cs vs c):PtOf cs' vs c:=by
 cases c with
 |bare wd i j=>exact p
 |neg c=>obtain⟨a,e,q⟩:=p;exact⟨a,e,zfy h q⟩
 |con c e=>obtain⟨a,b,e,q,r⟩:=p;exact⟨a,b,e,zfy h q,zfy h r⟩
 |so st i c=>obtain⟨a,hi,e,q⟩:=p;exact⟨a,hi,e,zfy h q⟩
def keysL(xs:List Nat):List Key:=xs.map λ(x:Nat)=>.inl (x:Int)
def soF(st:Bool)(u:Nat)(xs:List Nat):List Key2:=if st=true then[.inr (keysL xs)]else[kI u,.inr (keysL xs)]
def four:List (List Key2):=[[kI 0],[kI 1],[kI 2],[kI 3]]
def Or3(n:Nat)(b:Bool)(p:Prop):Prop:=(n=2/\b=true)\/(n=3/\b=false)\/p
def Un(F:List (List Key2))(d:Nat):Co->Nat->Bool->Prop
 |.bare wd _ _,n,b=>n<2/\b=holdM wd n
 |.neg c,n,b=>Un F d c n (!b)
 |.con c e,n,b=>4<=n/\∃x y b1 b2,F[n]?=some [kI x,kI y]/\Or3 x b1 (Un F d c x b1)/\Or3 y b2 (Un F d e y b2)/\b=(b1&&b2)
 |.so st _ c,n,b=>4<=n/\∃(u:Nat) (xs:List Nat) (f:Nat->Bool),F[n]?=some (soF st u xs)/\xs.length<=d/\(∀x∈xs,Or3 x (f x) (Un F d c x (f x)))/\(st=false->∃b,Or3 u b (Un F d c u b))/\b=xs.any f
def Sg(F:List (List Key2))(d:Nat)(c:Co)(n:Nat)(b:Bool):Prop:=Or3 n b (Un F d c n b)
section
variable {F F':List (List Key2)}{d d':Nat}
theorem zs4:∀{c:Co} {n:Nat} {b:Bool},Un F d c n b->n≠2/\n≠3
 |.bare _ _ _,n,b,h=>by have:=h.1;omega
 |.neg c,n,b,h=>zs4 (c:=c) h
 |.con _ _,n,b,h=>by have:=h.1;omega
 |.so _ _ _,n,b,h=>by have:=h.1;omega
theorem Or3.map(h:Or3 n b p)(f:p->q):Or3 n b q:=by
 rcases h with h|h|h
 ·exact .inl h
 ·exact .inr (.inl h)
 ·exact .inr (.inr (f h))
theorem Un.more(hF:∀(n:Nat) k,F[n]?=some k->F'[n]?=some k)(hd:d<=d'):∀{c:Co} {n:Nat} {b:Bool},Un F d c n b->Un F' d' c n b
 |.bare _ _ _,n,b,h=>h
 |.neg c,n,b,h=>Un.more hF hd (c:=c) h
 |.con c e,n,b,⟨h4,x,y,b1,b2,e1,h1,h2,e2⟩=>⟨h4,x,y,b1,b2,hF _ _ e1,h1.map (Un.more hF hd),h2.map (Un.more hF hd),e2⟩
 |.so st i c,n,b,⟨h4,u,xs,f,e1,hl,h1,h2,e2⟩=>⟨h4,u,xs,f,hF _ _ e1,y15 hl hd,λx hx=>(h1 x hx).map (Un.more hF hd),λhs=>let⟨b,z⟩:=h2 hs;⟨b,z.map (Un.more hF hd)⟩,e2⟩
theorem Sg.more(hF:∀(n:Nat) k,F[n]?=some k->F'[n]?=some k)(hd:d<=d')(h:Sg F d c n b):Sg F' d' c n b:=Or3.map h (Un.more hF hd)
theorem zvn(h4:4<=F.length):∀{c:Co} {n:Nat} {b:Bool},Un F d c n b->∃k,F[n]?=some k
 |.bare _ _ _,n,b,h=>⟨_,y0n (by have:=h.1;omega)⟩
 |.neg c,n,b,h=>zvn h4 (c:=c) h
 |.con _ _,n,b,⟨_,_,_,_,_,e,_⟩=>⟨_,e⟩
 |.so _ _ _,n,b,⟨_,_,_,_,e,_⟩=>⟨_,e⟩
theorem Sg.t(h:Sg F d c n b)(e:n=2):b=true:=by
 rcases h with h|h|h
 ·exact h.2
 ·omega
 ·exact absurd e (zs4 h).1
theorem Sg.f(h:Sg F d c n b)(e:n=3):b=false:=by
 rcases h with h|h|h
 ·omega
 ·exact h.2
 ·exact absurd e (zs4 h).2
theorem Sg.un(h:Sg F d c n b)(h2:n≠2)(h3:n≠3):Un F d c n b:=by
 rcases h with h|h|h
 ·exact absurd h.1 h2
 ·exact absurd h.1 h3
 ·exact h
theorem Sg.yes(h:b=true):Sg F d c 2 b:=.inl ⟨rfl,h⟩
theorem Sg.no(h:b=false):Sg F d c 3 b:=.inr (.inl ⟨rfl,h⟩)
def trn(n:Nat):Nat:=if n=2 then 3 else if n=3 then 2 else n
theorem Sg.neg(h:Sg F d c n b):Sg F d (.neg c) (trn n) (!b):=by
 unfold trn;by_cases e2:n=2
 ·rw[if_pos e2];exact .no (by rw[h.t e2];rfl)
 rw[if_neg e2];by_cases e3:n=3
 ·rw[if_pos e3];exact .yes (by rw[h.f e3];rfl)
 rw[if_neg e3];refine .inr (.inr ?_);show Un F d c n (!!b);rw[Bool.not_not];exact h.un e2 e3
theorem ztd(h:n<4):∃b,Sg F d (.bare wd i j) n b:=by
 by_cases e2:n=2
 ·exact⟨true,.inl ⟨e2,rfl⟩⟩
 by_cases e3:n=3
 ·exact⟨false,.inr (.inl ⟨e3,rfl⟩)⟩
 exact⟨holdM wd n,.inr (.inr ⟨by omega,rfl⟩)⟩
end
theorem zk1(h:fs <+:fs'):∀(n:Nat) k,(four++fs)[n]?=some k->(four++fs')[n]?=some k:=by
 intro n k e;obtain⟨z,rfl⟩:=h;exact zfy (show four++fs <+:four++(fs++z)from⟨z,by rw[y2c]⟩) e
def PL(H:Hp)(cs:List Co)(v:V)(c:Co):Prop:=∃a vs,v=.ref a/\H a=some (.tup vs)/\PtOf cs vs c
def StW(cs:List Co)(F:List (List Key2))(sts:List (List Key×V)):Prop:=∀(k c l r:Nat) v,valV sts [.inl (k:Int),.inl (c:Int),.inl (l:Int),.inl (r:Int)]=some v->∃co m b,cs[k]?=some co/\v=nV m/\Sg F 3 co m b
structure Sn(P:Program)(w:World)(C:Addr)(A:SA)(cs:List Co)(fs:List (List Key2))(sts:List (List Key×V))(H:Hp):Prop where
 e1:H A.p=some (.ins C A.dx A.fl)
 ep:∃rs,H A.pp=some (.lst rs)/\Paired (PL H cs) rs cs
 ef:∃rs,H A.pf=some (.lst rs)/\Paired (FL2 H) rs (four++fs)
 en:∃ys,H A.pn=some (dN P w A.pn ys)/\Keys H ys/\ys.map (·.1)=fs/\∀i y,ys[i]?=some y->y.2.2=nV (4+i)
 es:H A.ps=some (.dT sts)
 st:StW cs (four++fs) sts
 nf:A.pp≠A.pf
def Up4(A:SA)(H H':Hp):Prop:=∀b o,b≠A.pp->b≠A.pf->b≠A.pn->b≠A.ps->H b=some o->H' b=some o
theorem Up4.refl(A:SA)(H:Hp):Up4 A H H:=λ_ _ _ _ _ _ e=>e
theorem Same.up4(g:Same H H'):Up4 A H H':=λb o _ _ _ _ e=>g b o e
theorem Up4.trans(a:Up4 A H H1)(b:Up4 A H1 H2):Up4 A H H2:=λc o n1 n2 n3 n4 e=>b c o n1 n2 n3 n4 (a c o n1 n2 n3 n4 e)
section
variable {P:Program}{w:World}{C:Addr}{A:SA}{cs cs':List Co}{fs fs' fs2:List (List Key2)}{sts sts' sts2:List (List Key×V)}{H H' H2:Hp}
theorem Sn.tups(L:Sn P w C A cs fs sts H)(u:Up4 A H H'):TupS H H':=λb o h=>by
 obtain⟨rs,e1,_⟩:=L.ep;obtain⟨qs,e2,_⟩:=L.ef;obtain⟨ys,e3,_⟩:=L.en;exact u b _ (λz=>by rw[z,e1]at h;cases h) (λz=>by rw[z,e2]at h;cases h) (λz=>by rw[z,e3]at h;cases h) (λz=>by rw[z,L.es]at h;cases h) h
theorem Sn.lst(L:Sn P w C A cs fs sts H)(u:Up4 A H H')(n1:b≠A.pp)(n2:b≠A.pf)(h:H b=some (.lst xs)):H' b=some (.lst xs):=by
 obtain⟨ys,e3,_⟩:=L.en;exact u b _ n1 n2 (λz=>by rw[z,e3]at h;cases h) (λz=>by rw[z,L.es]at h;cases h) h
theorem PL.ts(h:PL H cs v c)(g:TupS H H'):PL H' cs v c:=let⟨a,vs,e,n,p⟩:=h;⟨a,vs,e,g _ _ n,p⟩
theorem Sn.same(L:Sn P w C A cs fs sts H)(g:Same H H'):Sn P w C A cs fs sts H':=by
 obtain⟨rs,e1,e1'⟩:=L.ep;obtain⟨qs,e2,e2'⟩:=L.ef;obtain⟨ys,e3,e4,e5,e6⟩:=L.en;exact⟨g _ _ L.e1,⟨rs,g _ _ e1,L2.Paired.mapP e1' λ_ _ z=>z.ts g.tups⟩,⟨qs,g _ _ e2,L2.Paired.mapP e2' λ_ _ z=>z.ts g.tups⟩,⟨ys,g _ _ e3,e4.ts g.tups,e5,e6⟩,g _ _ L.es,L.st,L.nf⟩
theorem Up4.same(z0:H0 A.pp=none)(z1:H0 A.pf=none)(z2:H0 A.pn=none)(z3:H0 A.ps=none)(g:Same H0 H)(u:Up4 A H H'):Same H0 H':=λb o h=>u b o (λe=>by rw[e,z0]at h;cases h) (λe=>by rw[e,z1]at h;cases h) (λe=>by rw[e,z2]at h;cases h) (λe=>by rw[e,z3]at h;cases h) (g b o h)
theorem StW.more(S:StW cs (four++fs) sts)(h:fs <+:fs'):StW cs (four++fs') sts:=λk c l r v e=>let⟨co,m,b,h1,h2,h3⟩:=S k c l r v e;⟨co,m,b,h1,h2,h3.more (zk1 h) (y04 _)⟩
theorem Sn.part(L:Sn P w C A cs fs sts H){k:Nat}{c:Co}(h:cs[k]?=some c):∃rs a vs,H A.pp=some (.lst rs)/\rs[k]?=some (.ref a)/\H a=some (.tup vs)/\PtOf cs vs c:=by
 obtain⟨rs,e2,e2'⟩:=L.ep;obtain⟨v,ev,a,vs,rfl,nb,p⟩:=Paired.at2 e2' h;exact⟨rs,a,vs,e2,ev,nb,p⟩
theorem Sn.form(L:Sn P w C A cs fs sts H){n:Nat}{k:List Key2}(h:(four++fs)[n]?=some k):∃rs a,H A.pf=some (.lst rs)/\rs[n]?=some (.ref a)/\NestAt H a k:=by
 obtain⟨rs,e2,e2'⟩:=L.ef;obtain⟨v,ev,a,rfl,nb⟩:=Paired.at2 e2' h;exact⟨rs,a,e2,ev,nb⟩
structure Nx(P:Program)(w:World)(C:Addr)(A:SA)(cs:List Co)(fs:List (List Key2))(sts:List (List Key×V))(k:Nat)(H:Hp)(fs':List (List Key2))(sts':List (List Key×V))(H':Hp):Prop where
 up:Up4 A H H'
 sn:Sn P w C A cs fs' sts' H'
 pre:fs <+:fs'
 lf:fs'.length<=fs.length+k
 ls:sts'.length<=sts.length+k
theorem Nx.trans(a:Nx P w C A cs fs sts k H fs' sts' H')(b:Nx P w C A cs fs' sts' k' H' fs2 sts2 H2):Nx P w C A cs fs sts (k+k') H fs2 sts2 H2 :=
 ⟨a.up.trans b.up,b.sn,a.pre.trans b.pre,by have:=a.lf;have:=b.lf;omega,by have:=a.ls;have:=b.ls;omega⟩
theorem Nx.le(a:Nx P w C A cs fs sts k H fs' sts' H')(h:k<=k'):Nx P w C A cs fs sts k' H fs' sts' H':=⟨a.up,a.sn,a.pre,by have:=a.lf;omega,by have:=a.ls;omega⟩
theorem Nx.same0(L:Sn P w C A cs fs sts H)(g:Same H H'):Nx P w C A cs fs sts k H fs sts H':=⟨Same.up4 g,L.same g,y3d _,by omega,by omega⟩
theorem Nx.bef(g:Same H H')(a:Nx P w C A cs fs sts k H' fs' sts' H2):Nx P w C A cs fs sts k H fs' sts' H2:=⟨(Same.up4 g).trans a.up,a.sn,a.pre,a.lf,a.ls⟩
theorem Nx.aft(a:Nx P w C A cs fs sts k H fs' sts' H')(g:Same H' H2):Nx P w C A cs fs sts k H fs' sts' H2:=⟨a.up.trans (Same.up4 g),a.sn.same g,a.pre,a.lf,a.ls⟩
theorem Nx.sg(a:Nx P w C A cs fs sts k H fs' sts' H')(h:Sg (four++fs) d c n b):Sg (four++fs') d c n b:=h.more (zk1 a.pre) (y04 _)
end
def zkd(P:Program)(w:World)(C:Addr):Sp:=λvs H Q _=>∃(p dx:Addr) (H0:Hp),vs=[.ref p]/\H=upd (upd H0 dx (.own p)) p (.ins C dx [])/\H0 p=none/\H0 dx=none/\dx≠p/\∀(A:SA) H',A.p=p->Sn P w C A [] [] [] H'->Same H0 H'->H0 A.pp=none->H0 A.pf=none->H0 A.pn=none->H0 A.ps=none->Q .non H'
def zdt(P:Program)(w:World)(C:Addr):Sp:=λvs H Q _=>∃(A:SA) (a:Addr) (cs:List Co) (fs:List (List Key2)) (sts:List (List Key×V)) (k:List Key2),vs=[.ref A.p,.ref a]/\Sn P w C A cs fs sts H/\fs.length<=900/\NestAt H a k/\∀fs' H' (m:Nat),Nx P w C A cs fs sts 1 H fs' sts H'->4<=m->(four++fs')[m]?=some k->Q (nV m) H'
def zj9:Sp:=λvs H Q _=>∃n:Nat,vs=[nV n]/\∀H',Same H H'->Q (nV (trn n)) H'
def zgi(K:Frag):Sp:=λvs H Q _=>∃(b:Addr) (ns:List Nat),vs=[.ref b]/\H b=some (.lst (ns.map nV))/\ns.length<=40/\∀(t:Addr) (xs:List Nat) H',Same H H'->H' t=some (.tup (xs.map nV))->(∀x,x∈xs↔x∈ns/\x≠3)->xs.length<=ns.length->Q (.ref t) H'
def zgh(P:Program)(w:World)(C:Addr):Sp:=λvs H Q _=>∃(A:SA) (cs:List Co) (fs:List (List Key2)) (sts:List (List Key×V)) (d x y:Nat) (c e:Co) (b1 b2:Bool),vs=[.ref A.p,nV x,nV y]/\Sn P w C A cs fs sts H/\fs.length<=900/\Sg (four++fs) d c x b1/\Sg (four++fs) d e y b2/\∀fs' H' (n:Nat),Nx P w C A cs fs sts 1 H fs' sts H'->Sg (four++fs') d (.con c e) n (b1&&b2)->Q (nV n) H'
def zge(P:Program)(w:World)(C:Addr):Sp:=λvs H Q _=>∃(A:SA) (a:Addr) (cs:List Co) (fs:List (List Key2)) (sts:List (List Key×V)) (d:Nat) (c:Co) (ns:List Nat) (f:Nat->Bool),vs=[.ref A.p,.ref a]/\Sn P w C A cs fs sts H/\fs.length<=900/\H a=some (.lst (ns.map nV))/\ns.length<=d/\d<=3/\(∀x∈ns,Sg (four++fs) d c x (f x))/\∀fs' H' (n:Nat),Nx P w C A cs fs sts 1 H fs' sts H'->(∀i,Sg (four++fs') d (.so true i c) n (ns.any f))->Q (nV n) H'
def zgf(P:Program)(w:World)(C:Addr):Sp:=λvs H Q _=>∃(A:SA) (a:Addr) (cs:List Co) (fs:List (List Key2)) (sts:List (List Key×V)) (d u:Nat) (c:Co) (bu:Bool) (ns:List Nat) (f:Nat->Bool),vs=[.ref A.p,nV u,.ref a]/\Sn P w C A cs fs sts H/\fs.length<=900/\H a=some (.lst (ns.map nV))/\ns.length<=d/\d<=3/\(∀x∈ns,Sg (four++fs) d c x (f x))/\Sg (four++fs) d c u bu/\∀fs' H' (n:Nat),Nx P w C A cs fs sts 1 H fs' sts H'->(∀i,Sg (four++fs') d (.so false i c) n (ns.any f))->Q (nV n) H'
def zmv(P:Program)(w:World)(C:Addr)(lv:Nat):Sp:=λvs H Q _=>∃(A:SA) (cs:List Co) (fs:List (List Key2)) (sts:List (List Key×V)) (k:Nat) (c:Co),vs=[.ref A.p,nV k]/\Sn P w C A cs fs sts H/\cs[k]?=some c/\c.hgt<lv/\fs.length+c.cost<=500/\∀fs' H' (n:Nat),Nx P w C A cs fs sts c.cost H fs' sts H'->Sg (four++fs') 1 c n (tv c)->Q (nV n) H'
def zvr(P:Program)(w:World)(C:Addr)(lv:Nat):Sp:=λvs H Q _=>∃(A:SA) (cs:List Co) (fs:List (List Key2)) (sts:List (List Key×V)) (k n d:Nat) (c:Co) (b:Bool),vs=[.ref A.p,nV k,nV n]/\Sn P w C A cs fs sts H/\cs[k]?=some c/\c.hgt<lv/\d<=3/\Sg (four++fs) d c n b/\∀H',Same H H'->Q (.bl b) H'
def zgl(P:Program)(w:World)(C:Addr)(lv:Nat):Sp:=λvs H Q _=>∃(A:SA) (cs:List Co) (fs:List (List Key2)) (sts:List (List Key×V)) (k t l r:Nat) (c:Co) (b1 b2:Bool),vs=[.ref A.p,nV k,nV t,nV l,nV r]/\Sn P w C A cs fs sts H/\cs[k]?=some c/\c.hgt<lv/\t<32/\Sg (four++fs) 1 c l b1/\Sg (four++fs) 1 c r b2/\fs.length+c.cost<=500/\sts.length+c.cost<=500/\∀fs' sts' H' (n:Nat) (b:Bool),Nx P w C A cs fs sts c.cost H fs' sts' H'->Sg (four++fs') 3 c n b->Q (nV n) H'
def zsb(P:Program)(w:World)(C:Addr)(lv:Nat):Sp:=λvs H Q _=>∃(A:SA) (cs:List Co) (fs:List (List Key2)) (sts:List (List Key×V)) (k t l r:Nat) (c:Co) (b1 b2:Bool),vs=[.ref A.p,nV k,nV t,nV l,nV r]/\Sn P w C A cs fs sts H/\cs[k]?=some c/\c.hgt<lv/\t<32/\Un (four++fs) 1 c l b1/\Un (four++fs) 1 c r b2/\fs.length+c.cost<=500/\sts.length+c.cost<=500/\∀fs' sts' H' (n:Nat) (b:Bool),Nx P w C A cs fs sts (c.cost-1) H fs' sts' H'->Sg (four++fs') 3 c n b->Q (nV n) H'
def zsc(P:Program)(w:World)(C:Addr)(lv:Nat):Sp:=λvs H Q _=>∃(A:SA) (cs:List Co) (fs:List (List Key2)) (sts:List (List Key×V)) (a t i:Nat) (pa ta tb:Addr) (xs ys:List Nat) (c:Co),vs=[.ref A.p,.ref pa,nV t,.ref ta,.ref tb]/\Sn P w C A cs fs sts H/\H pa=some (.tup [.str "some set",nV (2^i),nV a])/\i<=4/\cs[a]?=some c/\c.hgt<lv/\t<32/\H ta=some (.tup (xs.map nV))/\H tb=some (.tup (ys.map nV))/\xs.length<=1/\ys.length<=1/\(∀x∈xs,∃b,Sg (four++fs) 1 c x b)/\(∀y∈ys,∃b,Sg (four++fs) 1 c y b)/\fs.length+(4*c.cost+2)<=500/\sts.length+(4*c.cost+2)<=500/\∀fs' sts' H' (n:Nat) (b:Bool),Nx P w C A cs fs sts (4*c.cost+1) H fs' sts' H'->Sg (four++fs') 3 (.so true i c) n b->Q (nV n) H'
def zsd(P:Program)(w:World)(C:Addr)(lv:Nat):Sp:=λvs H Q _=>∃(A:SA) (cs:List Co) (fs:List (List Key2)) (sts:List (List Key×V)) (a t i u v:Nat) (pa la ra ta tb:Addr) (xs ys:List Nat) (c:Co),vs=[.ref A.p,.ref pa,nV t,.ref la,.ref ra]/\Sn P w C A cs fs sts H/\H pa=some (.tup [.str "some place",nV (2^i),nV a])/\i<=4/\cs[a]?=some c/\c.hgt<lv/\t<32/\H la=some (.tup [nV u,.ref ta])/\H ra=some (.tup [nV v,.ref tb])/\H ta=some (.tup (xs.map nV))/\H tb=some (.tup (ys.map nV))/\xs.length<=1/\ys.length<=1/\(∀x∈xs,∃b,Sg (four++fs) 1 c x b)/\(∀y∈ys,∃b,Sg (four++fs) 1 c y b)/\(∃b,Sg (four++fs) 1 c u b)/\(∃b,Sg (four++fs) 1 c v b)/\fs.length+(4*c.cost+2)<=500/\sts.length+(4*c.cost+2)<=500/\∀fs' sts' H' (n:Nat) (b:Bool),Nx P w C A cs fs sts (4*c.cost+1) H fs' sts' H'->Sg (four++fs') 3 (.so false i c) n b->Q (nV n) H'
def coreS:List Str->Sy->Co
 |tl,.bare wd n m=>.bare wd (tl.idxOf n) (tl.idxOf m)
 |tl,.neg s=>.neg (coreS tl s)
 |tl,.two wd s t=>if wd="or" then .neg (.con (.neg (coreS tl s)) (.neg (coreS tl t)))else .con (coreS tl s) (coreS tl t)
 |tl,.qu wd n s=>if wd="all" then .neg (.so (!isP n) tl.length (.neg (coreS (tl++[n]) s)))else .so (!isP n) tl.length (coreS (tl++[n]) s)
def lvS:Sy->Nat
 |.bare _ _ _=>0
 |.neg s=>lvS s+1
 |.two wd s t=>max (lvS s) (lvS t)+(if wd="or" then 4 else 1)
 |.qu wd _ s=>lvS s+(if wd="all" then 4 else 1)
def szS:Sy->Nat
 |.bare _ _ _=>1
 |.neg s=>szS s+1
 |.two wd s t=>szS s+szS t+(if wd="or" then 4 else 1)
 |.qu wd _ s=>szS s+(if wd="all" then 3 else 1)
def OkS:List Str->Sy->Prop
 |tl,.bare wd n m=>wd∈treeW/\n∈tl/\m∈tl/\tl.length<=4
 |tl,.neg s=>OkS tl s
 |tl,.two _ s t=>OkS tl s/\OkS tl t
 |tl,.qu _ n s=>n.length<=4/\tl.length<=3/\OkS (tl++[n]) s
def zkc(P:Program)(w:World)(C:Addr)(lv:Nat):Sp:=λvs H Q _=>∃(A:SA) (b:Addr) (v:V) (s:Sy) (tl:List Str) (cs:List Co),vs=[.ref A.p,v,.ref b]/\Sn P w C A cs [] [] H/\Rep H v s/\OkS tl s/\lvS s<lv/\H b=some (.lst (tl.map V.str))/\b≠A.pp/\b≠A.pf/\cs.length+szS s<=500/\∀cs' H' (k:Nat),Up4 A H H'->Sn P w C A cs' [] [] H'->cs <+:cs'->cs'.length<=cs.length+szS s->cs'[k]?=some (coreS tl s)->Q (nV k) H'
theorem zdf:List.lookup ("numbers":Str) (fl4 x y z t)=some z:=(zb9 (by decide)).trans ((zb9 (by decide)).trans zk5)
theorem inN(xs:List Nat)(k:Nat):inV (nV k) (xs.map nV)=decide (k∈xs):=by
 induction xs with
 |nil=>rfl
 |cons x xs ih =>
  show(eqV (nV x) (nV k)||inV (nV k) (xs.map nV))=_;rw[ih,zrq,←Bool.decide_or];exact decide_eq_decide.mpr ⟨λh=>h.elim (λe=>by rw[e];exact y0c) (y09 _),λh=>(y02.mp h).imp Eq.symm id⟩
theorem zla{ns xs:List Nat}(hs:∀x∈ns,Sg F d c x (g x))(hx:∀x,x∈xs↔x∈ns/\x≠3):ns.any g=xs.any g:=by
 rw[y1w,y23,y23];refine⟨λ⟨x,h,e⟩=>⟨x,(hx x).mpr ⟨h,λz=>?_⟩,e⟩,λ⟨x,h,e⟩=>⟨x,((hx x).mp h).1,e⟩⟩;rw[(hs x h).f z]at e;cases e
theorem zdx(xs:List Nat):(keysL xs).map kV=xs.map nV:=by
 unfold keysL;rw[y0t];rfl
theorem zoh{α:Type}[DecidableEq α]{k:α}:∀{fs:List α},k∈fs->fs[nOf fs k]?=some k
 |[],h=>nomatch h
 |f::fs,h=>by
  rw[zkt];by_cases e:f=k
  ·rw[if_pos e,e];rfl
  ·rw[if_neg e,Nat.add_comm,y2t];exact zoh ((y02.mp h).resolve_left λz=>e z.symm)
section
variable {P:Program}{w:World}{C:Addr}{A:SA}{cs cs':List Co}{fs fs' fs2:List (List Key2)}{sts sts' sts2:List (List Key×V)}{H0 H H' H2:Hp}{D:Addr}
theorem Sn.wr(L:Sn P w C A cs fs sts H)(hD:H D=some (.lst ys))(n1:D≠A.pp)(n2:D≠A.pf):Sn P w C A cs fs sts (upd H D (.lst zs)):=by
 obtain⟨rs,e1,e1'⟩:=L.ep;obtain⟨qs,e2,e2'⟩:=L.ef;obtain⟨ws,e3,e4,e5,e6⟩:=L.en;have ts:TupS H (upd H D (.lst zs)):=TupS.wr hD _;exact⟨by rw[zan (zcc L.e1 hD (by intro z;cases z))];exact L.e1,⟨rs,by rw[zan (Ne.symm n1)];exact e1,L2.Paired.mapP e1' λ_ _ z=>z.ts ts⟩,⟨qs,by rw[zan (Ne.symm n2)];exact e2,L2.Paired.mapP e2' λ_ _ z=>z.ts ts⟩,⟨ws,by rw[zan (zcc e3 hD (by intro z;cases z))];exact e3,e4.ts ts,e5,e6⟩,by rw[zan (zcc L.es hD (by intro z;cases z))];exact L.es,L.st,L.nf⟩
theorem Up4.wr(u:Up4 A H0 H)(hD:H0 D=none)(o:HO):Up4 A H0 (upd H D o):=λb x n1 n2 n3 n4 e=>by
 rw[zan (λz=>by rw[z,hD]at e;cases e)];exact u b x n1 n2 n3 n4 e
theorem Nx.wr(N:Nx P w C A cs fs sts k H0 fs' sts' H)(h0:H0 D=none)(hD:H D=some (.lst ys))(n1:D≠A.pp)(n2:D≠A.pf):Nx P w C A cs fs sts k H0 fs' sts' (upd H D (.lst zs)):=⟨N.up.wr h0 _,N.sn.wr hD n1 n2,N.pre,N.lf,N.ls⟩
theorem Sn.nD(L:Sn P w C A cs fs sts H)(h:H D=none):D≠A.pp/\D≠A.pf:=by
 obtain⟨rs,e1,_⟩:=L.ep;obtain⟨qs,e2,_⟩:=L.ef;exact⟨(zas e1 h).symm,(zas e2 h).symm⟩
end
def wordS:Sy->Str
 |.bare wd _ _=>wd
 |.neg _=>"not"
 |.two wd _ _=>wd
 |.qu wd _ _=>wd
theorem zki(r:Rep H v s):∃a xs,v=.ref a/\H a=some (.tup (.str (wordS s)::xs)):=by
 cases r with
 |bare hw e=>exact⟨_,_,rfl,e⟩
 |neg e _=>exact⟨_,_,rfl,e⟩
 |two hw e _ _=>exact⟨_,_,rfl,e⟩
 |qu hw e _=>exact⟨_,_,rfl,e⟩
theorem zhw(r:Rep H v s)(g:TupS H H'):Rep H' v s:=by
 induction r with
 |bare hw e=>exact .bare hw (g _ _ e)
 |neg e _ ih=>exact .neg (g _ _ e) ih
 |two hw e _ _ ih1 ih2=>exact .two hw (g _ _ e) ih1 ih2
 |qu hw e _ ih=>exact .qu hw (g _ _ e) ih
theorem zvf(tl:List Str)(s t:Sy):coreS tl (.two "or" s t)=coreS tl (.neg (.two "and" (.neg s) (.neg t))):=by
 simp only[coreS];rw[if_pos trivial,if_neg (by decide)]
theorem zr1(tl:List Str)(n:Str)(s:Sy):coreS tl (.qu "all" n s)=coreS tl (.neg (.qu "some" n (.neg s))):=by
 simp only[coreS];rw[if_pos trivial,if_neg (by decide)]
def szL(ss:List Sy):Nat:=(ss.map szS).sum
structure Many(H:Hp)(a:Addr)(tl:List Str)(lv:Nat)(sy:Sy)(its:List V)(ss:List Sy):Prop where
 e:H a=some (.tup (.str (wordS sy)::its))
 rs:Reps H its ss
 ok:∀s∈ss,OkS tl s/\lvS s<lv
 sz:szL ss+1=szS sy
 nb:sy.isBare=false
 ns:wordS sy≠"some"
 ne:its≠[]
 ln:its.length<=2
 core:∀(co':List Co) (ks:List Nat),ks.length=its.length->(∀(j k:Nat),ks[j]?=some k->∃s,ss[j]?=some s/\co'[k]?=some (coreS tl s))->PtOf co' (.str (wordS sy)::ks.map nV) (coreS tl sy)
theorem zur(r:Rep H (.ref a) sy)(ok:OkS tl sy)(hlv:lvS sy<lv+1)(hor:wordS sy≠"or")(hal:wordS sy≠"all"):
  (∃wd n m,sy=.bare wd n m)\/(∃n s,sy=.qu "some" n s)\/∃its ss,Many H a tl lv sy its ss:=by
 cases r with
 |bare hw e=>exact .inl ⟨_,_,_,rfl⟩
 |neg e r1 =>
  rename_i x s;refine .inr (.inr ⟨[x],[s],e,.cons r1 .nil,λz hz=>?_,by simp only[szL,szS,y0k,y2e,y2s,List.sum_nil];omega,rfl,(show¬("not":Str)="some" by decide),(by simp),(by simp),λco' ks hl h=>?_⟩)
  ·rw[y08.mp hz];exact⟨ok,by have:lvS s+1<lv+1:=hlv;omega⟩
  ·match ks,hl with
   |[k],_ =>
    obtain⟨s',es,ek⟩:=h 0 k rfl;cases es;exact⟨k,rfl,ek⟩
 |two hw e r1 r2 =>
  rename_i wd x y s t;obtain rfl:wd="and":=by
   rcases y02.mp hw with h|h
   ·exact h
   ·exact absurd (y08.mp h) hor
  have h1:max (lvS s) (lvS t)+1<lv+1:=by have:max (lvS s) (lvS t)+(if("and":Str)="or" then 4 else 1)<lv+1:=hlv;rwa[if_neg (by decide)]at this
  refine .inr (.inr ⟨[x,y],[s,t],e,.cons r1 (.cons r2 .nil),λz hz=>?_,?_,rfl,(show¬("and":Str)="some" by decide),(by simp),(by simp),λco' ks hl h=>?_⟩)
  ·rcases y02.mp hz with rfl|hz
   ·exact⟨ok.1,by omega⟩
   ·rw[y08.mp hz];exact⟨ok.2,by omega⟩
  ·simp only[szL,szS,y0k,y2e,y2s,List.sum_nil];rw[if_neg (by decide)];omega
  ·match ks,hl with
   |[k,l],_ =>
    obtain⟨s',es,ek⟩:=h 0 k rfl;cases es;obtain⟨s',es,el⟩:=h 1 l rfl;cases es;simp only[coreS];rw[if_neg (by decide)];exact⟨k,l,rfl,ek,el⟩
 |qu hw e r1 =>
  rename_i wd n x s;obtain rfl:wd="some":=by
   rcases y02.mp hw with h|h
   ·exact h
   ·exact absurd (y08.mp h) hal
  exact .inr (.inl ⟨_,_,rfl⟩)
theorem Reps.at:∀{vs:List V} {ss:List Sy},Reps H vs ss->∀{i:Nat} {v:V},vs[i]?=some v->∃s,ss[i]?=some s/\Rep H v s
 |_,_,.nil,i,v,h=>by simp at h
 |_,_,.cons r q,0,v,h=>by cases h;exact⟨_,rfl,r⟩
 |_,_,.cons r q,i+1,v,h=>Reps.at q (i:=i) h
theorem zp1{ss:List Sy}(h:ss[i]?=some s):szL (ss.take (i+1))=szL (ss.take i)+szS s:=by
 unfold szL;rw[y1i,h,y0r,List.sum_append];rfl
theorem zr7(ss:List Sy)(i:Nat):szL (ss.take i)<=szL ss:=by
 induction ss generalizing i with
 |nil=>simp[szL]
 |cons s ss ih=>cases i with
  |zero=>simp[szL]
  |succ i =>
   have:=ih i;simp only[szL,List.take_succ_cons,y0k,y2s]at this ⊢;omega
theorem bor32a:∀t:Fin 32,∀i:Fin 5,0<=Builtin.bitOr ((t.val:Nat):Int) ((2^i.val:Nat):Int)/\Builtin.bitOr ((t.val:Nat):Int) ((2^i.val:Nat):Int)<32:=by decide+kernel
theorem bor32(ht:t<32)(hi:i<=4):∃t':Nat,V.int (Builtin.bitOr ((t:Nat):Int) ((2^i:Nat):Int))=nV t'/\t'<32:=by
 obtain⟨h1,h2⟩:=bor32a ⟨t,ht⟩ ⟨i,by omega⟩;simp only at h1 h2;refine⟨(Builtin.bitOr ((t:Nat):Int) ((2^i:Nat):Int)).toNat,?_,by omega⟩;show V.int _=V.int _;rw[Int.toNat_of_nonneg h1]
theorem zvu{F:List (List Key2)}{d:Nat}{c:Co}{zs:List Nat}(h:∀z∈zs,∃b,Sg F d c z b):∃f:Nat->Bool,∀z∈zs,Sg F d c z (f z):=by
 classical
 refine⟨λz=>if hz:z∈zs then(h z hz).choose else false,λz hz=>?_⟩;show Sg F d c z (if hz:z∈zs then(h z hz).choose else false);rw[dif_pos hz];exact(h z hz).choose_spec
theorem zk4(nf:NestAt H af [kI x,kI y]):H af=some (.tup [nV x,nV y]):=by
 obtain⟨vf,evf,pvf⟩:=nf;cases pvf with
 |cons h1 pv=>cases pv with
  |cons h2 pv=>cases pv;rw[evf,show _=_ from h1,show _=_ from h2];rfl
theorem zk2(nf:NestAt H af (soF true u xs)):∃tx,H af=some (.tup [.ref tx])/\H tx=some (.tup (xs.map nV)):=by
 obtain⟨vf,evf,pvf⟩:=nf;cases pvf with
 |cons h1 pv=>cases pv;obtain⟨tx,rfl,et⟩:=h1;exact⟨tx,evf,by rw[et,zdx]⟩
theorem zk3(nf:NestAt H af (soF false u xs)):∃tx,H af=some (.tup [nV u,.ref tx])/\H tx=some (.tup (xs.map nV)):=by
 obtain⟨vf,evf,pvf⟩:=nf;cases pvf with
 |cons h1 pv=>cases pv with
  |cons h2 pv=>cases pv;obtain⟨tx,rfl,et⟩:=h2;exact⟨tx,by rw[evf,show _=_ from h1];rfl,by rw[et,zdx]⟩
section
variable {P:Program}{w:World}{C:Addr}{A:SA}{co:List Co}{fs fs':List (List Key2)}{sts sts':List (List Key×V)}{H H':Hp}{c:Co}{p0:Addr}{lv a:Nat}
theorem zjz(ek:co[a]?=some c)(hh:c.hgt<lv)(hf:fs.length+(4*c.cost+2)<=500)(hs:sts.length+(4*c.cost+2)<=500)(htt:tt<32)(hm:m<=3)(sx:∃b,Sg (four++fs) 1 c x b)(sy:∃b,Sg (four++fs) 1 c y b)(N:Nx P w C A co fs sts (m*c.cost) H fs' sts' H')
  (qz:∀fs2 sts2 H2 n b,Nx P w C A co fs' sts' c.cost H' fs2 sts2 H2->Nx P w C A co fs sts ((m+1)*c.cost) H fs2 sts2 H2->Sg (four++fs2) 3 c n b->Qz (nV n) H2):zgl P w C lv [.ref A.p,nV a,nV tt,nV x,nV y] H' Qz E:=by
 obtain⟨bx,sx⟩:=sx;obtain⟨by',sy⟩:=sy;have hmc:m*c.cost<=3*c.cost:=y2g _ hm;have l1:=N.lf;have l2:=N.ls;refine⟨A,co,fs',sts',a,tt,x,y,c,bx,by',rfl,N.sn,ek,hh,htt,N.sg sx,N.sg sy,by omega,by omega,λfs2 sts2 H2 n b N2 s2=>qz fs2 sts2 H2 n b N2 ?_ s2⟩;rw[Nat.add_mul,Nat.one_mul];exact N.trans N2
def Gs(P:Program)(w:World)(C:Addr)(A:SA)(co:List Co)(fs:List (List Key2))(sts:List (List Key×V))(c:Co)(H:Hp)(p0:Addr)(m k:Nat)(H':Hp):Prop:=∃(fs':List (List Key2)) (sts':List (List Key×V)) (zs:List Nat),Nx P w C A co fs sts (m*c.cost) H fs' sts' H'/\H' p0=some (.lst (zs.map nV))/\zs.length<=k/\∀z∈zs,∃b,Sg (four++fs') 3 c z b
theorem zhd(h0:H p0=none)(k1:p0≠A.pp)(k2:p0≠A.pf)(ek:co[a]?=some c)(hh:c.hgt<lv)(hf:fs.length+(4*c.cost+2)<=500)(hs:sts.length+(4*c.cost+2)<=500)(htt:tt<32)(hm:m<=3)(hk:k<=3)(sx:∃b,Sg (four++fs) 1 c x b)(sy:∃b,Sg (four++fs) 1 c y b)(G:Gs P w C A co fs sts c H p0 m k H')
  (qz:∀n H2 (ys':List V),Up4 A H' H2->H2 p0=some (.lst ys')->ys'.length<=k->Gs P w C A co fs sts c H p0 (m+1) (k+1) (upd H2 p0 (.lst (ys'++[nV n])))->Qz (nV n) H2):zgl P w C lv [.ref A.p,nV a,nV tt,nV x,nV y] H' Qz E:=by
 obtain⟨fs',sts',zs,N,ez,hz,hsz⟩:=G;refine zjz ek hh hf hs htt hm sx sy N λfs2 sts2 H2 n b N2 N3 s2=>?_;have e2:=N.sn.lst N2.up k1 k2 ez;refine qz n H2 _ N2.up e2 (by rw[y00];exact hz) ⟨fs2,sts2,zs++[n],N3.wr h0 e2 k1 k2,?_,by rw[y06];simp only[y0a,y0m];omega,λz hz'=>?_⟩
 ·rw[zao,y0r];rfl
 ·rcases y0j.mp hz' with h|h
  ·obtain⟨b',s'⟩:=hsz z h;exact⟨b',N2.sg s'⟩
  ·rw[y08.mp h];exact⟨b,s2⟩
theorem Gs.up(G:Gs P w C A co fs sts c H p0 m k H'):Up4 A H H':=let⟨_,_,_,N,_⟩:=G;N.up
theorem Gs.e1(G:Gs P w C A co fs sts c H p0 m k H'):H' A.p=some (.ins C A.dx A.fl):=let⟨_,_,_,N,_⟩:=G;N.sn.e1
theorem Gs.at(G:Gs P w C A co fs sts c H p0 m k H'):∃zs,H' p0=some (.lst zs):=let⟨_,_,_,_,e,_⟩:=G;⟨_,e⟩
theorem Gs.le(G:Gs P w C A co fs sts c H p0 m k H')(h:m<=m')(hk:k<=k'):Gs P w C A co fs sts c H p0 m' k' H':=let⟨fs',sts',zs,N,e,hz,h1⟩:=G;⟨fs',sts',zs,N.le (y2g _ h),e,by omega,h1⟩
def Gs2(P:Program)(w:World)(C:Addr)(A:SA)(co:List Co)(fs:List (List Key2))(sts:List (List Key×V))(c:Co)(H:Hp)(D D2:Addr)(m k k2:Nat)(H':Hp):Prop:=∃(fs':List (List Key2)) (sts':List (List Key×V)) (zs us:List Nat),Nx P w C A co fs sts (m*c.cost) H fs' sts' H'/\H' D=some (.lst (zs.map nV))/\zs.length<=k/\(∀z∈zs,∃b,Sg (four++fs') 3 c z b)/\H' D2=some (.lst (us.map nV))/\us.length<=k2/\∀z∈us,∃b,Sg (four++fs') 3 c z b
theorem Gs2.up(G:Gs2 P w C A co fs sts c H D D2 m k k2 H'):Up4 A H H':=let⟨_,_,_,_,N,_⟩:=G;N.up
theorem Gs2.e1(G:Gs2 P w C A co fs sts c H D D2 m k k2 H'):H' A.p=some (.ins C A.dx A.fl):=let⟨_,_,_,_,N,_⟩:=G;N.sn.e1
theorem Gs.no2(G:Gs P w C A co fs sts c H p0 m k H')(h:H' D2=none):H D2=none/\D2≠A.pp/\D2≠A.pf/\D2≠p0:=by
 obtain⟨fs',sts',zs,N,e,_⟩:=G;obtain⟨n1,n2⟩:=N.sn.nD h;obtain⟨ys,e3,_⟩:=N.sn.en;refine⟨?_,n1,n2,(zas e h).symm⟩;cases hh:H D2 with
 |none=>rfl
 |some o =>
  have:=N.up D2 o n1 n2 (zas e3 h).symm (zas N.sn.es h).symm hh;rw[h]at this;cases this
theorem Gs.two(G:Gs P w C A co fs sts c H p0 m k H')(h:H' D2=none):Gs2 P w C A co fs sts c H p0 D2 m k 0 (upd H' D2 (.lst [])):=by
 obtain⟨h0,n1,n2,n3⟩:=G.no2 h;obtain⟨fs',sts',zs,N,e,hz,hs⟩:=G;exact⟨fs',sts',zs,[],N.aft (zba h _),by rw[zan (Ne.symm n3)];exact e,hz,hs,zao,y04 _,λz hz=>nomatch hz⟩
theorem zr4(h0:H D2=none)(k1:D≠A.pp)(k2':D≠A.pf)(k3:D2≠A.pp)(k4:D2≠A.pf)(k5:D2≠D)(ek:co[a]?=some c)(hh:c.hgt<lv)(hf:fs.length+(4*c.cost+2)<=500)(hs:sts.length+(4*c.cost+2)<=500)(htt:tt<32)(hm:m<=3)(sx:∃b,Sg (four++fs) 1 c x b)(sy:∃b,Sg (four++fs) 1 c y b)(G:Gs2 P w C A co fs sts c H D D2 m k k2 H')
  (qz:∀n H2 (ys':List V),H2 D2=some (.lst ys')->ys'.length<=k2->Gs2 P w C A co fs sts c H D D2 (m+1) k (k2+1) (upd H2 D2 (.lst (ys'++[nV n])))->Qz (nV n) H2):zgl P w C lv [.ref A.p,nV a,nV tt,nV x,nV y] H' Qz E:=by
 obtain⟨fs',sts',zs,us,N,ez,hz,hsz,eu,hu,hsu⟩:=G;refine zjz ek hh hf hs htt hm sx sy N λfs2 sts2 H2 n b N2 N3 s2=>?_;have e2:=N.sn.lst N2.up k1 k2' ez;have e3:=N.sn.lst N2.up k3 k4 eu;refine qz n H2 _ e3 (by rw[y00];exact hu) ⟨fs2,sts2,zs,us++[n],N3.wr h0 e3 k3 k4,by rw[zan (Ne.symm k5)];exact e2,hz,λz hz'=>let⟨b',s'⟩:=hsz z hz';⟨b',N2.sg s'⟩,by rw[zao,y0r];rfl,by rw[y06];simp only[y0a,y0m];omega,λz hz'=>?_⟩;rcases y0j.mp hz' with h|h
 ·obtain⟨b',s'⟩:=hsu z h;exact⟨b',N2.sg s'⟩
 ·rw[y08.mp h];exact⟨b,s2⟩
theorem Gs2.join(h0:H D=none)(k1:D≠A.pp)(k2':D≠A.pf)(G:Gs2 P w C A co fs sts c H D D2 m k k2 H'):∃ys zs,H' D=some (.lst ys)/\H' D2=some (.lst zs)/\ys.length<=k/\zs.length<=k2/\Gs P w C A co fs sts c H D m (k+k2) (upd H' D (.lst (ys++zs))):=by
 obtain⟨fs',sts',zs,us,N,ez,hz,hsz,eu,hu,hsu⟩:=G;refine⟨_,_,ez,eu,by rw[y00];exact hz,by rw[y00];exact hu,fs',sts',zs++us,N.wr h0 ez k1 k2',by rw[zao,y0r],by rw[y06];omega,λz hz'=>?_⟩;rcases y0j.mp hz' with h|h
 ·exact hsz z h
 ·exact hsu z h
end
def okT:V->Bool
 |.str z=>decide (z.length<=1000)
 |.int _=>true
 |.non=>true
 |_=>false
theorem zj7:∀{v:V},okT v=true->Thing H v
 |.str z,h=>Thing.str (of_decide_eq_true h)
 |.int _,_=>⟨⟨_,.int _⟩,λz e=>by cases e⟩
 |.non,_=>⟨⟨_,.non⟩,λz e=>by cases e⟩
 |.bl _,h=>by cases h
 |.ref _,h=>by cases h
 |.ty _,h=>by cases h
theorem zfu(h:xs.length<=1000)(h2:xs.all okT=true):Things H xs:=⟨h,λy hy=>zj7 (y0q.mp h2 y hy)⟩
theorem zd2(e:H a=some (.lst xs))(h:xs.length<=1000)(h2:xs.all okT=true)(hf:frameB xs=false):Ask H (.ref a)/\frB H (.ref a)=false:=by
 refine⟨⟨⟨⟨_,.lst e⟩,λz e=>by cases e⟩,λa' ys ea ee=>?_⟩,?_⟩
 ·cases ea;rw[e]at ee;cases ee;exact zfu h h2
 ·unfold frB;simp only[e];exact hf
theorem zvk(e:H a=some (.tup xs)):Ask H (.ref a)/\frB H (.ref a)=false:=by
 refine⟨⟨⟨⟨_,.tup e⟩,λz e=>by cases e⟩,λa' ys ea ee=>?_⟩,?_⟩
 ·cases ea;rw[e]at ee;cases ee
 ·unfold frB;simp only[e]
theorem zhg(h:okT v=true):Ask H v/\frB H v=false:=by
 refine⟨⟨zj7 h,λa ys ea ee=>?_⟩,?_⟩
 ·subst ea;cases h
 ·cases v with
  |ref a=>cases h
  |_=>rfl
theorem Ask.same(ak:Ask H v)(g:Same H H'):Ask H' v/\frB H' v=frB H v:=by
 obtain⟨⟨k,kd⟩,hz⟩:=ak.t;cases kd with
 |lst e =>
  rename_i a xs;refine⟨⟨ak.t.same g,λa' ys ea ee=>?_⟩,?_⟩
  ·cases ea;rw[g _ _ e]at ee;cases ee;exact(ak.ts a xs rfl e).same g
  ·unfold frB;simp only[e,g _ _ e]
 |tup e =>
  refine⟨⟨ak.t.same g,λa' ys ea ee=>?_⟩,?_⟩
  ·cases ea;rw[g _ _ e]at ee;cases ee
  ·unfold frB;simp only[e,g _ _ e]
 |dK e =>
  refine⟨⟨ak.t.same g,λa' ys ea ee=>?_⟩,?_⟩
  ·cases ea;rw[g _ _ e]at ee;cases ee
  ·unfold frB;simp only[e,g _ _ e]
 |non=>exact⟨⟨ak.t.same g,λa' ys ea ee=>(by cases ea)⟩,rfl⟩
 |bl b=>exact⟨⟨ak.t.same g,λa' ys ea ee=>(by cases ea)⟩,rfl⟩
 |int b=>exact⟨⟨ak.t.same g,λa' ys ea ee=>(by cases ea)⟩,rfl⟩
 |str b=>exact⟨⟨ak.t.same g,λa' ys ea ee=>(by cases ea)⟩,rfl⟩
theorem _root_.L2.Made.up(M:Made X H H1 name qual params body scope f)(fz:Frz H1 H1'):Made X (λ_=>none) H1' name qual params body scope f:=by
 obtain⟨cl,ct,c',oc,pm,l1,l2,l3,l4,l5⟩:=M.ex;exact⟨(λb o e=>by cases e),rfl,cl,ct,c',oc,pm,l1,l2,fz _ _ _ l3,l4,fz _ _ _ l5⟩
section
variable {P:Program}{w:World}{C:Addr}{A:SA}{cs:List Co}{fs:List (List Key2)}{sts:List (List Key×V)}{H H':Hp}
theorem Sn.frz(L:Sn P w C A cs fs sts H)(u:Up4 A H H'):Frz H H':=λb o x h=>by
 obtain⟨rs,e1,_⟩:=L.ep;obtain⟨qs,e2,_⟩:=L.ef;obtain⟨ys,e3,_⟩:=L.en;exact u b _ (λz=>by rw[z,e1]at h;cases h) (λz=>by rw[z,e2]at h;cases h) (λz=>by rw[z,e3]at h;cases h) (λz=>by rw[z,L.es]at h;cases h) h
theorem Sn.drop(L:Sn P w C A cs fs sts H)(g:SameN H H'):Sn P w C A cs fs sts H':=by
 obtain⟨rs,e1,e1'⟩:=L.ep;obtain⟨qs,e2,e2'⟩:=L.ef;obtain⟨ys,e3,e4,e5,e6⟩:=L.en;have ts:TupS H H':=λb o e=>g _ _ e (λ_ _ z=>nomatch z);exact⟨g _ _ L.e1 (λ_ _ z=>nomatch z),⟨rs,g _ _ e1 (λ_ _ z=>nomatch z),L2.Paired.mapP e1' λ_ _ z=>z.ts ts⟩,⟨qs,g _ _ e2 (λ_ _ z=>nomatch z),L2.Paired.mapP e2' λ_ _ z=>z.ts ts⟩,⟨ys,g _ _ e3 (λ_ _ z=>by cases z),e4.ts ts,e5,e6⟩,g _ _ L.es (λ_ _ z=>nomatch z),L.st,L.nf⟩
end
theorem zuq{cl:Y4}{A:SA}{H H2:Hp}(u:Up4 A (dropL cl H) H2):Up4 A H (mixL cl H H2):=λb o h1 h2 h3 h4 e=>by
 classical
 show(if InCl cl b then H b else H2 b)=some o;by_cases hc:InCl cl b
 ·rw[if_pos hc];exact e
 ·rw[if_neg hc];exact u b o h1 h2 h3 h4 (by show(if InCl cl b then none else H b)=some o;rw[if_neg hc];exact e)
theorem zpb(ad:Adopted X σ H1 Hq)(fz:Frz Hq H5):SameN H5 (L2.dropX X H5):=λb u e n=>by
 classical
 show(if CellOf X b then none else H5 b)=some u;rw[if_neg]
 ·exact e
 rintro⟨x,hx⟩;obtain⟨o,v,h1,_⟩:=ad.2.2.2 x b hx;have:=fz _ _ _ h1;rw[e]at this;exact n _ _ (Option.some.inj this)
def zgk(z:Nat)(R0:Hp->Prop)(R1:Nat->Hp->Prop):Sp:=λvs H Q _=>vs=[nV 0,nV z,nV z]/\R0 H/\∀n H',Frz H H'->TupS H H'->R1 n H'->Q (nV n) H'
def zhn(P:Program)(w:World)(K:Frag)(mg:Y1)(base:Heap)(kc d:Nat):Sp:=λvs H Q _=>∃(R0:Hp->Prop) (R1:Nat->Hp->Prop) (v:V) (z:Nat) (f:Addr) (fd:FuncData),vs=[v,nV z,.ref f]/\H f=some (fnO fd f)/\CloH P w K mg base kc H f 3 (zgk z R0 R1)/\R0 H/\
 0<d/\((v=.non/\Q (nV z) H)\/(2<=d/\∃p,v=.ref p/\H p=some (.tup [nV 0,.non,.non])/\∀n H',Frz H H'->TupS H H'->R1 n H'->Q (nV n) H'))
structure Sml(tl:List Str)(s:Sy):Prop where
 ok:OkS tl s
 lv:lvS s<10
 sz:szS s<=100
 hg:(coreS tl s).hgt<8
 co:(coreS tl s).cost<=250
def zka(Pt:Addr)(qs:Y3):Sp:=λvs H Q _=>∃(v b:V) (bf:Addr) (s:Sy) (tl:List Str),vs=[v,.ref bf,b]/\TabOk H Pt qs/\Rep H v s/\H bf=some (.lst (tl.map V.str))/\Sml tl s/\
 ((b=.non/\∀H',Same H H'->Q (.bl (tv (coreS tl s))) H')\/((∃p,b=.ref p/\H p=some (.tup [nV 0,.non,.non]))/\∀bb H',Same H H'->Q (.bl bb) H'))
def FrT(H:Hp)(fv:V):Prop:=∃(a:Addr) (tl:List Str),fv=.ref a/\H a=some (.lst (tl.map V.str))/\frameB (tl.map V.str)=true/\tl.length<=3
def zsa(CF:Addr):Sp:=λvs H Q E=>∃fv,vs=[fv]/\Ask H fv/\(¬FrT H fv->∀a H',Same H H'->H' a=none->E (.ref CF) (some a) H')/\(FrT H fv->∀H',Same H H'->Q .non H')
def zr9(CF CS:Addr):Sp:=λvs H Q E=>∃v fv,vs=[v,fv]/\Exp H 12 v/\Ask H fv/\(¬FrT H fv->∀a H',Same H H'->H' a=none->E (.ref CF) (some a) H')/\(FrT H fv->¬SayOk H SS.rowWords 3 v fv->∀a H',Same H H'->H' a=none->E (.ref CS) (some a) H')/\(FrT H fv->SayOk H SS.rowWords 3 v fv->∀H',Same H H'->Q .non H')
structure Gd51(H:Hp)(v:V)(b:Addr)(tl:List Str)(s:Sy):Prop where
 eb:H b=some (.lst (tl.map V.str))
 fo:FrOk tl
 l3:tl.length<=3
 l4:∀z∈tl,z.length<=4
 fr:frameB (tl.map V.str)=true
 rp:Rep H v s
 wf:wfB s=true
 dp:s.depth<=12
 pt:s.parts<=60
 lt:letB SS.rowWords 3 tl s=true
 sm:Sml tl s
theorem Gd51.same(G:Gd51 H v b tl s)(g:Same H H'):Gd51 H' v b tl s:=⟨g _ _ G.eb,G.fo,G.l3,G.l4,G.fr,G.rp.same g,G.wf,G.dp,G.pt,G.lt,G.sm⟩
theorem Gd51.frt(G:Gd51 H v b tl s):FrT H (.ref b):=⟨b,tl,rfl,G.eb,G.fr,G.l3⟩
theorem Gd51.say(G:Gd51 H v b tl s):SayOk H SS.rowWords 3 v (.ref b):=⟨b,tl,s,rfl,G.eb,G.fr,⟨G.rp,G.wf,G.dp,G.pt⟩,G.lt⟩
theorem Gd51.ask(G:Gd51 H v b tl s):Ask H (.ref b):=by
 refine⟨⟨⟨_,.lst G.eb⟩,λz e=>by cases e⟩,λa' ys ea ee=>?_⟩;cases ea;rw[G.eb]at ee;cases ee;exact ziw (by have:=G.l3;omega) (λz hz=>by have:=G.l4 z hz;omega)
def zmt(CT CF CS:Addr)(Pt:Addr)(qs:Y3):Sp:=λvs H Q E=>∃(v fv b:V) (t:TrZ),vs=[v,fv,b]/\TabOk H Pt qs/\Exp H 12 v/\Ask H fv/\TreeZ H b t/\t.size<=5/\
 ((¬FrT H fv/\∀a H',Same H H'->H' a=none->E (.ref CF) (some a) H')\/
  (FrT H fv/\¬SayOk H SS.rowWords 3 v fv/\∀a H',Same H H'->H' a=none->E (.ref CS) (some a) H')\/
  (∃bf tl s,fv=.ref bf/\Gd51 H v bf tl s/\(((∃x∈t.lets,¬(0<=x/\x<2^tl.length))/\∀a H',Same H H'->H' a=none->E (.ref CT) (some a) H')\/
   (t=.nil/\∀H',Same H H'->Q (.bl (fitB tl []&&tv (coreS tl s))) H')\/(t=.node 0 .nil .nil/\∀bb H',Same H H'->Q (.bl bb) H'))))
end SM
namespace L2
def SameB(D:Addr)(H H':Hp):Prop:=∀b o,b≠D->H b=some o->H' b=some o
theorem Same.b(g:Same H H')(D:Addr):SameB D H H':=λb o _ e=>g b o e
theorem SameB.trans(a:SameB D H H1)(b:SameB D H1 H2):SameB D H H2:=λc o n e=>b c o n (a c o n e)
theorem SameB.wr(o:HO):SameB D H (upd H D o):=λb u n e=>by rw[zan n];exact e
end L2
namespace SM
open PySem PySem.Spec PyProof.Rows L2 SS
def bad4:List Str:=["q9","q8","Q9","Q8"]
def NG(tl:List Str):Prop:=∀z∈tl,NmOk z/\z∉bad4
def tails51:List (List Nat):=[[],[48],[55],[52,50],[57,57,57]]
def tails52:List (List Nat):=[[],[49],[49,50],[53],[51,48,53]]
def Nm51(n p:Int)(z:Str):Prop:=∃(a:Nat) (t:List Nat) (big:Bool),(a:Int)=(n+7*p)%26/\t∈tails51/\z.cps.toList=(if big=true then 65+a else 97+a)::t
theorem zp3:∀a:Fin 26,97+a.val∈SMALL.cps.toList/\65+a.val∈GREAT.cps.toList:=by decide+kernel
theorem zp0:∀t∈tails51++tails52,t.length<=3/\∀x∈t,x∈FIGS.cps.toList:=by decide+kernel
theorem zpr:∀z∈bad4,∀t∈tails51,z.cps.toList.drop 1≠t:=by decide+kernel
theorem zuo(h:Nm51 n p z):NmOk z/\z∉bad4:=by
 obtain⟨a,t,big,ea,ht,ez⟩:=h;have ha:a<26:=by
  have:=y0y (n+7*p) (show(0:Int)<26 by decide);omega
 obtain⟨h1,h2⟩:=zp3 ⟨a,ha⟩;obtain⟨t1,t2⟩:=zp0 t (y1n _ ht);refine⟨?_,λhz=>zpr z hz t ht (by rw[ez];rfl)⟩;cases big with
 |true=>exact .inr (zks ez h2 t1 t2)
 |false=>exact .inl (zks ez h1 t1 t2)
theorem zup(hz:Nm51 n p z)(hy:Nm51 n q y)(hp0:0<=p)(hp:p<=2)(hq0:0<=q)(hq:q<=2)(hne:p≠q):z≠y:=by
 rintro rfl;obtain⟨a,t,big,ea,ht,ez⟩:=hz;obtain⟨b,u,bg,eb,hu,ey⟩:=hy;rw[ez]at ey;have e1:=List.head_eq_of_cons_eq ey;have ha:=y0y (n+7*p) (show(0:Int)<26 by decide);have hb:=y0y (n+7*q) (show(0:Int)<26 by decide);have ha0:=y17 (n+7*p) (show(26:Int)≠0 by decide);have hb0:=y17 (n+7*q) (show(26:Int)≠0 by decide);have hab:a=b:=by
  cases big<;>cases bg<;>simp only[if_true,if_false,y1f]at e1<;>omega
 omega
theorem nodup51{tl:List Str}(hl:tl.length<=3)(h:∀(i:Nat) z,tl[i]?=some z->Nm51 n (i:Int) z):tl.Nodup:=by
 rw[List.nodup_iff_pairwise_ne,y3i];intro i j hi hj hij;exact zup (h i _ (y0n hi)) (h j _ (y0n hj)) (by omega) (by omega) (by omega) (by omega) (by omega)
theorem NG.len(h:NG tl):∀z∈tl,z.length<=4:=λz hz=>by
 rcases(h z hz).1 with h|h
 ·exact(zgy h).2
 ·exact(zgy h).2
theorem zh7(h:NmOk z):isName (.str z)=true:=by
 unfold isName;rcases h with h|h
 ·rw[zh8 zg1 h];rfl
 ·rw[zh8 zk0 h,Bool.or_true]
theorem NG.frame(h:NG tl)(hl:tl.length<=3)(nd:tl.Nodup):frameB (tl.map V.str)=true:=by
 refine zmb (by rw[y00];omega) (y0q.mpr λy hy=>?_) (List.Pairwise.map V.str (λa b (h:a≠b) z=>h (V.str.inj z)) nd);obtain⟨z,mz,rfl⟩:=y0l.mp hy;exact zh7 (h z mz).1
def zmw:Sp:=λvs H Q _=>∃(k n p:Int),vs=[.int k,.int n,.int p]/\0<=p/\p<=10/\∀z H',Nm51 n p z->Same H H'->Q (.str z) H'
def zmz:Sp:=λvs H Q _=>∃(n:Int) (many:Nat),vs=[.int n,nV many]/\many<=3/\∀(D:Addr) (tl:List Str) (H':Hp),H D=none->Same H H'->H' D=some (.lst (tl.map V.str))->NG tl->tl.Nodup->tl.length=many->Q (.ref D) H'
def zgg:Sp:=λvs H Q _=>∃(n:Int) (b:Addr) (tl:List Str),vs=[.int n,.ref b]/\H b=some (.lst (tl.map V.str))/\tl.length<=3/\∀z H',Same H H'->NmOk z->z∉bad4->z∉tl->Q (.str z) H'
def Leaf(tl:List Str)(s:Sy):Prop:=(tl=[]/\s=.qu "some" "k3" (.bare "same" "k3" "k3"))\/∃wd n m,s=.bare wd n m/\wd∈treeW/\n∈tl/\m∈tl/\wfB s=true
def zdj:Sp:=λvs H Q _=>∃(n:Int) (b:Addr) (tl:List Str),vs=[.int n,.ref b]/\H b=some (.lst (tl.map V.str))/\NG tl/\tl.length<=3/\∀v s H',Same H H'->Rep H' v s->Leaf tl s->Q v H'
def zB(d:Nat):Nat:=match d with|0=>2|1=>8|_=>20
def cB(d:Nat):Nat:=match d with|0=>10|1=>52|_=>220
def pB(d:Nat):Nat:=match d with|0=>2|1=>5|_=>11
structure Ds(d:Nat)(tl:List Str)(s:Sy):Prop where
 wf:wfB s=true
 lt:letB SS.rowWords 3 tl s=true
 ok:OkS tl s
 lv:lvS s<=1+4*d
 sz:szS s<=zB d
 hg:(coreS tl s).hgt<=1+3*d
 co:(coreS tl s).cost<=cB d
 dp:s.depth<=2+d
 pt:s.parts<=pB d
theorem Ds.leaf(hd:d<=2)(hl:tl.length<=3)(h:Leaf tl s):Ds d tl s:=by
 have z0:2<=zB d:=by rcases(show d=0\/d=1\/d=2 by omega)with rfl|rfl|rfl<;>decide
 have c0:10<=cB d:=by rcases(show d=0\/d=1\/d=2 by omega)with rfl|rfl|rfl<;>decide
 have p0:2<=pB d:=by rcases(show d=0\/d=1\/d=2 by omega)with rfl|rfl|rfl<;>decide
 rcases h with⟨rfl,rfl⟩|⟨wd,n,m,rfl,hw,hn,hm,wf⟩
 ·refine⟨by decide+kernel,by decide+kernel,⟨by decide+kernel,by decide,by decide+kernel,by decide+kernel,by decide+kernel,by decide⟩,?_,?_,?_,?_,?_,?_⟩
  ·show 0+(if("some":Str)="all" then 4 else 1)<=_;rw[if_neg (by decide)];omega
  ·show 1+(if("some":Str)="all" then 3 else 1)<=_;rw[if_neg (by decide)];omega
  ·simp only[coreS];rw[if_neg (by decide)];show 0+1<=_;omega
  ·simp only[coreS];rw[if_neg (by decide)];show 4*2+2<=_;omega
  ·show 1+1<=_;omega
  ·show 2<=_;omega
 ·refine⟨wf,?_,⟨hw,hn,hm,by omega⟩,by show 0<=_;omega,by show 1<=_;omega,by show 0<=_;omega,by show 2<=_;omega,by show 1<=_;omega,by show 1<=_;omega⟩;simp only[letB,y05,decide_eq_true_eq];refine⟨⟨hl,?_⟩,hn,hm⟩;intro h;revert hw;simp only[SS.rowWords,y02,y07,or_false]at h;rcases h with rfl|rfl<;>decide
theorem Ds.neg(hd:d+1<=2)(hl:tl.length<=3)(h:Ds d tl s):Ds (d+1) tl (.neg s):=by
 have z0:zB d+1<=zB (d+1):=by rcases(show d=0\/d=1 by omega)with rfl|rfl<;>decide
 have c0:cB d+2<=cB (d+1):=by rcases(show d=0\/d=1 by omega)with rfl|rfl<;>decide
 have p0:pB d+1<=pB (d+1):=by rcases(show d=0\/d=1 by omega)with rfl|rfl<;>decide
 obtain⟨h1,h2,h3,h4,h5,h6,h7,h8,h9⟩:=h;refine⟨h1,?_,h3,by show lvS s+1<=_;omega,by show szS s+1<=_;omega,by show(coreS tl s).hgt+1<=_;omega,by show(coreS tl s).cost+2<=_;omega,by show s.depth+1<=_;omega,by show s.parts+1<=_;omega⟩;simp only[letB,y05,decide_eq_true_eq];exact⟨⟨hl,by decide⟩,h2⟩
theorem Ds.two{d:Nat}{tl:List Str}{wd:Str}{s t:Sy}(hd:d+1<=2)(hl:tl.length<=3)(hw:wd="and"\/wd="or")(h:Ds d tl s)(k:Ds d tl t):Ds (d+1) tl (.two wd s t):=by
 have z0:2*zB d+4<=zB (d+1):=by rcases(show d=0\/d=1 by omega)with rfl|rfl<;>decide
 have c0:2*cB d+8<=cB (d+1):=by rcases(show d=0\/d=1 by omega)with rfl|rfl<;>decide
 have p0:2*pB d+1<=pB (d+1):=by rcases(show d=0\/d=1 by omega)with rfl|rfl<;>decide
 obtain⟨h1,h2,h3,h4,h5,h6,h7,h8,h9⟩:=h;obtain⟨k1,k2,k3,k4,k5,k6,k7,k8,k9⟩:=k;refine⟨by simp only[wfB,h1,k1,Bool.and_self],?_,⟨h3,k3⟩,?_,?_,?_,?_,by show max s.depth t.depth+1<=_;omega,by show s.parts+t.parts+1<=_;omega⟩
 ·simp only[letB,y05,decide_eq_true_eq];refine⟨⟨hl,?_⟩,h2,k2⟩;rcases hw with rfl|rfl<;>decide
 ·show max (lvS s) (lvS t)+(if wd="or" then 4 else 1)<=_;split<;>omega
 ·show szS s+szS t+(if wd="or" then 4 else 1)<=_;split<;>omega
 ·simp only[coreS];rcases hw with rfl|rfl
  ·rw[if_neg (by decide)];show max (coreS tl s).hgt (coreS tl t).hgt+1<=_;omega
  ·rw[if_pos rfl];show max ((coreS tl s).hgt+1) ((coreS tl t).hgt+1)+1+1<=_;omega
 ·simp only[coreS];rcases hw with rfl|rfl
  ·rw[if_neg (by decide)];show(coreS tl s).cost+(coreS tl t).cost+2<=_;omega
  ·rw[if_pos rfl];show(coreS tl s).cost+2+((coreS tl t).cost+2)+2+2<=_;omega
theorem Ds.qu{d:Nat}{tl:List Str}{wd n:Str}{s:Sy}(hd:d+1<=2)(hl:tl.length<=2)(hw:wd="some"\/wd="all")(hn:NmOk n)(hnt:n∉tl)(h:Ds d (tl++[n]) s):Ds (d+1) tl (.qu wd n s):=by
 have z0:zB d+3<=zB (d+1):=by rcases(show d=0\/d=1 by omega)with rfl|rfl<;>decide
 have c0:4*cB d+12<=cB (d+1):=by rcases(show d=0\/d=1 by omega)with rfl|rfl<;>decide
 have p0:pB d+1<=pB (d+1):=by rcases(show d=0\/d=1 by omega)with rfl|rfl<;>decide
 obtain⟨h1,h2,h3,h4,h5,h6,h7,h8,h9⟩:=h;have hn4:n.length<=4:=by
  rcases hn with h|h
  ·exact(zgy h).2
  ·exact(zgy h).2
 refine⟨by simp only[wfB,h1,zh7 hn,Bool.and_self],?_,⟨hn4,by omega,h3⟩,?_,?_,?_,?_,by show s.depth+1<=_;omega,by show s.parts+1<=_;omega⟩
 ·simp only[letB,y05,decide_eq_true_eq];refine⟨⟨by omega,?_⟩,hnt,h2⟩;rcases hw with rfl|rfl<;>decide
 ·show lvS s+(if wd="all" then 4 else 1)<=_;split<;>omega
 ·show szS s+(if wd="all" then 3 else 1)<=_;split<;>omega
 ·simp only[coreS];rcases hw with rfl|rfl
  ·rw[if_neg (by decide)];show(coreS (tl++[n]) s).hgt+1<=_;omega
  ·rw[if_pos rfl];show(coreS (tl++[n]) s).hgt+1+1+1<=_;omega
 ·simp only[coreS];rcases hw with rfl|rfl
  ·rw[if_neg (by decide)];show 4*(coreS (tl++[n]) s).cost+2<=_;omega
  ·rw[if_pos rfl];show 4*((coreS (tl++[n]) s).cost+2)+2+2<=_;omega
theorem Ds.sml(h:Ds 2 tl s):Sml tl s:=⟨h.ok,by have:=h.lv;omega,by have:szS s<=20:=h.sz;omega,by have:=h.hg;omega,by have:_<=220:=h.co;omega⟩
def zc3(d:Nat):Sp:=λvs H Q _=>∃(l b:Addr) (ns:List Int) (tl:List Str),vs=[.ref l,.ref b,nV d]/\H l=some (.lst (ns.map V.int))/\ns.length<=3/\H b=some (.lst (tl.map V.str))/\l≠b/\NG tl/\tl.length<=3/\d<=2/\
 ∀v s (ns':List Int) H',SameB l H H'->H' l=some (.lst (ns'.map V.int))->ns'.length<=3->Rep H' v s->Ds d tl s->Q v H'
def BO(tl:List Str)(s:Sy):Prop:=∃wd n m,s=.bare wd n m/\wd∈treeW/\n∈tl/\m∈tl/\wfB s=true
theorem zlg(h:wd∈treeW):wd∈bareWords:=by
 revert h;simp only[treeW,bareWords,y02,y07,or_false];rintro(h|h|h|h|h|h)<;>simp[h]
def Lst51(H0:Hp)(tl:List Str)(p3:Addr)(k:Nat)(ne:Prop)(H:Hp):Prop:=Same H0 H/\H0 p3=none/\∃ys,H p3=some (.lst ys)/\ys.length<=k/\(∀y∈ys,∃s,Rep H y s/\BO tl s)/\(ne->ys≠[])
section
variable {H0 H H':Hp}{tl:List Str}{p3:Addr}{k:Nat}{ne:Prop}
theorem Lst51.app(L:Lst51 H0 tl p3 k ne H)(g:Same H H')(r:Rep H' y s)(b:BO tl s):∃ys,H' p3=some (.lst ys)/\ys.length<=k/\Lst51 H0 tl p3 (k+1) True (upd H' p3 (.lst (ys++[y]))):=by
 obtain⟨g0,h0,ys,e,hl,hr,_⟩:=L;have e':=g _ _ e;have ts:TupS H' (upd H' p3 (.lst (ys++[y]))):=TupS.wr e' _;refine⟨ys,e',hl,(g0.trans g).wr h0 _,h0,ys++[y],zao,by rw[y06];simp only[y0a,y0m];omega,λz hz=>?_,λ_=>by simp⟩;rcases y0j.mp hz with h|h
 ·obtain⟨s',r',b'⟩:=hr z h;exact⟨s',zhw (r'.same g) ts,b'⟩
 ·rw[y08.mp h];exact⟨s,zhw r ts,b⟩
theorem Lst51.cat(L:Lst51 H0 tl p3 k ne H)(g:Same H H')(hu:∀y∈us,∃s,Rep H' y s/\BO tl s)(h3:us.length=3):∃ys,H' p3=some (.lst ys)/\ys.length<=k/\∀H'',New H' p (.lst (ys++us)) H''->Lst51 H0 tl p (k+3) True H'':=by
 obtain⟨g0,h0,ys,e,hl,hr,_⟩:=L;refine⟨ys,g _ _ e,hl,λH'' nn=>⟨g0.trans (g.trans nn.g),(g0.trans g).free nn.nil,ys++us,nn.at',by rw[y06];omega,λz hz=>?_,λ_ z=>?_⟩⟩
 ·rcases y0j.mp hz with h|h
  ·obtain⟨s',r',b'⟩:=hr z h;exact⟨s',(r'.same g).same nn.g,b'⟩
  ·obtain⟨s',r',b'⟩:=hu z h;exact⟨s',r'.same nn.g,b'⟩
 ·have:=(List.append_eq_nil_iff.mp z).2;rw[this]at h3;cases h3
theorem Lst51.le(L:Lst51 H0 tl p3 k ne H)(h:k<=k')(hn:ne'->ne):Lst51 H0 tl p3 k' ne' H:=by
 obtain⟨g0,h0,ys,e,hl,hr,hne⟩:=L;exact⟨g0,h0,ys,e,by omega,hr,λz=>hne (hn z)⟩
end
theorem zoe(h:NmOk z)(hp:isP z=false):isSt z=true:=by
 rcases h with h|h
 ·have:isP z=true:=zh8 zg1 h;rw[this]at hp;cases hp
 ·exact zh8 zk0 h
theorem zxl(hw:wd∈treeW)(hx:x∈tl)(hy:y∈tl)(wf:wfB (.bare wd x y)=true):BO tl (.bare wd x y):=⟨wd,x,y,rfl,hw,hx,hy,wf⟩
end SM
namespace L2
structure RoomH(k:Nat)(A:Around):Prop where
 dp:A.depth+3*k+5<recursionLimit
 un:A.units+16*k+200<cLine
theorem RoomH.mono(r:RoomH k A)(h:j<=k):RoomH j A:=⟨by have:=r.dp;omega,by have:=r.un;omega⟩
theorem RoomH.deeper(r:RoomH (k+1) A)(env:Env):RoomH k (A.deeper env) :=
 ⟨by have:=r.dp;show A.depth+1+3*k+5<_;omega,by have:=r.un;show A.units+3+16*k+200<_;omega⟩
theorem RoomH.depth(r:RoomH k A):A.depth<recursionLimit:=by have:=r.dp;omega
theorem Room.toH(r:Room k A)(v:Option Value):RoomH k (A.mark v):=⟨r.dp,r.un⟩
structure FnOkH(P:Program)(w:World)(K:Frag)(mg:Y1)(base:Heap)(CX:CXT)(k:Nat)(f:Addr)(fd:FuncData)(ps:List Str)(sp:Sp):Prop where
 len:∀vs H Q E,sp vs H Q E->vs.length=ps.length
 run:∀(A:Around) (outer:List Env) (s:Shared) (H:Hp) (args:Args) (us:List Value) (vs:List V) (Q:VK) (E:XK),RoomH k A->Env0 P w K mg base A outer s H->BindsTo s fd args (ps.zip us)->Vals vs us->sp vs H Q E->
  codeAny (model P w) A (.call (.ref f) args) (CR CX outer P w H s Q E) s
section
variable {X:Cx}{CX:CXT}{k:Nat}{f C:Addr}{fd:FuncData}{ps:List Str}{sp:Sp}{dvs:List V}{ds:List Value}{E:XK}{x m:Str}{p pos apos:Pos}{e o:Expr}{es:List Expr}{ta:TE}{t:TA}
theorem ztj{pins:Y2}{σ:St}{H:Hp}{s:Shared}{Q:VK}{us:List Value}{vs:List V}(F:FnOkH X.prog X.w X.K X.mg X.base CX k f fd ps sp)(hr:RoomH k X.A)(hb:Binds X.K fd ps ds)(hd:Vals dvs ds)(hx:Passes CX X E)
  (I:Inv X pins σ H s) (r:Vals vs us) (h:sp (vs++dvs) H Q E):wpAny (model X.prog X.w) X.A (call (.ref f) us) (EP X pins σ Q) X.xe s:=by
 have r2:Vals (vs++dvs) (us++ds):=r.append hd;have hl:(us++ds).length=ps.length:=by rw[←r2.length];exact F.len _ _ _ _ h
 refine wpAny_call (codeAny_mono (F.run X.A X.stack s H ⟨us,[]⟩ (us++ds) (vs++dvs) Q E hr I.env0 (hb s us I.kIn hl) r2 h) λr s' hq=>?_);cases r with
 |error e=>exact hx pins σ H s e s' I hq
 |ok fl =>
  cases fl with
  |ret u=>exact I.after hq
  |next=>exact False.elim hq
  |brk=>exact False.elim hq
  |cont=>exact False.elim hq
theorem zqs(F:FnOkH X.prog X.w X.K X.mg X.base CX k f fd ps sp)(hr:RoomH k X.A)(hg:Gl X x)(hm:X.mg x=some (.ref f))(hk:PySem.W.keepIn X.K (.ref f)=true)(hb:Binds X.K fd ps ds)(hd:Vals dvs ds)(hx:Passes CX X E)
  (ha:PA X (e::es) t) (hdb:(x==("__debug__":Str))=false:=by decide) (he:starEach (e::es) X.env=(false,eval e X.env)::starEach es X.env:=by rfl) (hpl:(backTo pos (starEach es X.env)).any (·.1)=false:=by rfl) :
  PE X (.Call (.Name x p) (e::es) [] pos) (tCall sp dvs E t):=by
 intro pins s σ H Q I h;refine wpAny_Call_Name_kw (zde I hg hm ?_ hdb);refine PySem.W.callWith_K (h₀:=X.base) I.ok.mod.kin hk (thn (ha pos pins s σ H _ I h) λus s1 zz=>ex5 zz λvs H1 I1 r q=>⟨I1.kIn,?_⟩) he hpl;exact ztj F hr hb hd hx I1 r q
end
def cxOfH(CX:CXT)(P:Program)(w:World)(K:Frag)(mg:Y1)(base:Heap)(N:List Str)(qual:Str)(scope:Scope)(f:Addr)(cd:Value)(A:Around)(outer:List Env)(s:Shared)(H:Hp)(E:XK):Cx where
 prog:=P
 w:=w
 K:=K
 mg:=mg
 base:=base
 A:=A.deeper (envOfC qual scope s.heap.objs.size f cd)
 N:=N
 s₀:=s
 H₀:=H
 env:=envOfC qual scope s.heap.objs.size f cd
 outer:=outer
 stack:=envOfC qual scope s.heap.objs.size f cd::outer
 ex:=[]
 calm:=false
 fn:=λ_=>true
 pn:=[]
 xe:=λe s'=>wpAny (model P w) (A.deeper (envOfC qual scope s.heap.objs.size f cd)) (leaving (envOfC qual scope s.heap.objs.size f cd) e) (λ_ s''=>CX outer H s E e s'') (λe' s''=>CX outer H s E e' s'') s'
theorem zl6{CX:CXT}{P:Program}{w:World}{K:Frag}{mg:Y1}{base:Heap}{N ps:List Str}{qual:Str}{scope:Scope}{f:Addr}{cd:Value}{A:Around}{outer:List Env}{s s1:Shared}{H:Hp}{E:XK}{us:List Value}{vs:List V}
  (S:FnScope N ps scope) (e0:Env0 P w K mg base A outer s H) (hl:vs.length=ps.length) (r:Vals vs us)
  (x:InCallC s s.heap.objs.size (bindL (envOfC qual scope s.heap.objs.size f cd).kindOf (ps.zip us) λ_=>none) (cellsFrom (s.heap.objs.size+1) scope.names []) (bindC (envOfC qual scope s.heap.objs.size f cd).kindOf (ps.zip us) λ_=>none) s1) :
  Inv (cxOfH CX P w K mg base N qual scope f cd A outer s H E) [] (start N vs) H s1:=by
 have hpl:ps.length<=N.length:=by have:=congrArg List.length S.pre;rw[y12]at this;omega
 obtain⟨h1,tk,rfl,hk⟩:=x.done;have noA:∀b:Addr,b∉(cxOfH CX P w K mg base N qual scope f cd A outer s H E).ex:=λb z=>absurd (show b∈([]:List Addr)from z) (by simp);refine⟨⟨e0.mod,S.kind,rfl,rfl,y04 _,λy z c h1 h2=>?_,λy hy=>?_,λy c _ h=>?_,(λh=>nomatch h),Around.frames_deeper e0.frames,.inr ⟨rfl,rfl⟩,λb z=>absurd z (noA b),e0.bs,e0.bsz,λb _ _=>noA b,λb z=>absurd z (noA b),e0.funs,e0.frf⟩,
  rfl,e0.bare,Un.kept hk,⟨_,x.toInCall.ns,λi y v h1 h2 h3=>?_⟩,λy c h=>⟨_,x.cell y c h⟩,e0.hok.fresh (y04 _),λy c h=>?_,λp hp=>absurd (show p∈([]:Y2)from hp) (by simp),e0.hok.kept hk,?_⟩
 ·exact name_of_addr x.apart (PySem.mem_of_lookup h1) (PySem.mem_of_lookup h2)
 ·have hy:scope.names.lookup y=some .cell\/scope.names.lookup y=some .free:=hy;rcases hy with hy|hy
  ·exact zek hy
  ·exact absurd rfl (S.nofree _ (PySem.mem_of_lookup hy))
 ·exact y1d (x.above y c (PySem.mem_of_lookup h))
 ·have hi:i<vs.length:=by
   unfold start at h2;by_cases hi:i<vs.length
   ·exact hi
   ·rw[y0o (by simpa using hi)]at h2;rw[y27]at h2;split at h2<;>cases h2
  have ha:vs[i]?=some v:=by
   unfold start at h2;rw[y0u (by simpa using hi),y0w]at h2;cases e:vs[i]? with
   |none=>rw[e]at h2;cases h2
   |some a=>rw[e]at h2;cases h2;rfl
  obtain⟨u,hu,rv⟩:=r.get ha;have hp:ps[i]?=some y:=by
   rw[←S.pre,y2p (by omega)];exact h1
  have ndP:ps.Nodup:=by rw[←S.pre];exact S.nd.sublist (y39 _ _)
  refine⟨u,rv,?_⟩;rcases S.par y (y0g hp)with k|k
  ·exact .inl ⟨k,zfe ndP hp hu k⟩
  ·obtain⟨c,e⟩:=zek (n:=s.heap.objs.size+1) k;refine .inr ⟨.inl k,c,e,?_⟩;have q:=x.cell y c e;rw[zff ndP hp hu (by show scope.names.lookup y≠_;rw[k];decide)]at q;exact q
 ·exact e0.hok.fresh (y1d (x.above y c (PySem.mem_of_lookup h)))
 ·unfold start;show _=N.length;rw[y06,y00,y1u];omega
theorem zxa{CX:CXT}{P:Program}{w:World}{K:Frag}{mg:Y1}{base:Heap}{k:Nat}{f:Addr}{name qual:Str}{params:Arguments}{body:List Stmt}{scope:Scope}{dV kV doc pm cdv ct oc:Value}{an od:Option Addr}
  {osl:Y8} {N ps:List Str} {sp:Sp} (lk:K.lookup f=some ⟨oc,od,.func (PySem.W.fnOf name qual params body scope dV kV doc pm an cdv ct),osl⟩) (hcd:PySem.W.codeIn K cdv qual=true) (S:FnScope N ps scope)
  (len:∀vs H Q E,sp vs H Q E->vs.length=ps.length)
  (hbody:∀(A:Around) (outer:List Env) (s:Shared) (H:Hp) (vs:List V) (Q:VK) (E:XK),RoomH k (A.deeper (envOfC qual scope s.heap.objs.size f cdv))->sp vs H Q E->
   ∃t,PSs (cxOfH CX P w K mg base N qual scope f cdv A outer s H E) body t/\t {nx:=λ_ H'=>Q .non H',rt:=Q} (start N vs) H) :
  FnOkH P w K mg base CX (k+1) f (PySem.W.fnOf name qual params body scope dV kV doc pm an cdv ct) ps sp:=by
 refine⟨len,λA outer s H args us vs Q E hr e0 hb r hsp=>?_⟩;have hl:=len _ _ _ _ hsp;have KX:K.In s.heap:=e0.mod.kin.keeps λb o e=>(e0.bs b o e).1;have lim:s.heap.NoLimit:=e0.mod.nolimit.keeps λb o e=>(e0.bs b o e).1;have hkind:∀y∈ps.zip us,scope.names.lookup y.1=some .local\/(scope.names.lookup y.1=some .cell/\((cellsFrom (s.heap.objs.size+1) scope.names []).lookup y.1).isSome=true):=λ⟨n,v⟩ hy=>by
  rcases S.par n (y26 hy).1 with q|q
  ·exact .inl q
  ·exact .inr ⟨q,PySem.W.cellsFrom_some _ _ _ (.inl q)⟩
 refine codeAny_call_function hr.depth (KX _ _ lk) rfl S.co S.gen rfl (PySem.W.codeRec_of KX hcd) (hb _ _ _ _ ?_);refine wpAny_newFunctionEnv_cells S.kind hkind λenv he s1 x=>?_;subst he;refine⟨lim.keeps x.toInCall.keep,codeAny_func ?_⟩;obtain⟨t,ht,hq⟩:=hbody A outer s H vs Q E (hr.deeper _) hsp;have I:Inv (cxOfH CX P w K mg base N qual scope f cdv A outer s H E) [] (start N vs) H s1:=zl6 S e0 hl r x;refine wpAny_mono (ht [] s1 (start N vs) H _ I hq) (λfl s' hs=>?_) λe s' hs=>hs;have fin:∀{σ':St} {H':Hp} {v:V} {u:Value},Inv (cxOfH CX P w K mg base N qual scope f cdv A outer s H E) [] σ' H' s'->RelV v u->Q v H'->CE outer P w H s Q u s' :=
  λ{σ' H' v u} J rv q=>⟨v,H',J.os,J.bare,J.base,J.hok,rv,q⟩
 cases fl with
 |ret u =>
  obtain⟨v,σ',H',J,rv,q⟩:=hs;exact fin J rv q
 |next =>
  obtain⟨σ',H',J,q⟩:=hs;exact fin (v:=V.non) (u:=Value.none) J rfl q
 |brk =>
  obtain⟨_,_,_,q⟩:=hs;exact False.elim q
 |cont =>
  obtain⟨_,_,_,q⟩:=hs;exact False.elim q
section
variable {P:Program}{w:World}{K:Frag}{mg:Y1}{base:Heap}
theorem Fun.okH{x qual:Str}{st:Stmt}{f:Addr}{fd:FuncData}{N ps:List Str}{k:Nat}{sp:Sp}(F:Fun K x qual st f fd)(S:FnScope N ps (defScope st))(len:∀vs H Q E,sp vs H Q E->vs.length=ps.length)
  (hbody:∀(cdv:Value) (A:Around) (outer:List Env) (s:Shared) (H:Hp) (vs:List V) (Q:VK) (E:XK),RoomH k (A.deeper (envOfC qual (defScope st) s.heap.objs.size f cdv))->sp vs H Q E->
   ∃t,PSs (cxOfH CX0 P w K mg base N qual (defScope st) f cdv A outer s H E).nox (defBody st) t/\t {nx:=λ_ H'=>Q .non H',rt:=Q} (start N vs) H):FnOkH P w K mg base CX0 (k+1) f fd ps sp:=by
 obtain⟨oc,od,kV,doc,pm,an,cdv,ct,osl,rfl,lk,hcd⟩:=F.ex;refine zxa lk hcd S len λA outer s H vs Q E hr hsp=>?_;obtain⟨t,h,q⟩:=hbody cdv A outer s H vs Q E hr hsp;exact⟨t,h.nox,q⟩
structure CalH(P:Program)(w:World)(K:Frag)(mg:Y1)(base:Heap)(n:Nat)(x:Str)(ps:List Str)(sp:Sp):Prop where
 ex:∃f fd,FnOkH P w K mg base CX0 n f fd ps sp/\Binds K fd ps []/\PySem.W.keepIn K (.ref f)=true/\mg x=some (.ref f)
theorem Dfn.calH{x:Str}{st:Stmt}{N ps:List Str}{k:Nat}{sp:Sp}(d:Dfn K mg x st ps)(S:FnScope N ps (defScope st))(len:∀vs H Q E,sp vs H Q E->vs.length=ps.length)
  (hbody:∀(f:Addr) (cdv:Value) (A:Around) (outer:List Env) (s:Shared) (H:Hp) (vs:List V) (Q:VK) (E:XK),RoomH k (A.deeper (envOfC x (defScope st) s.heap.objs.size f cdv))->sp vs H Q E->
   ∃t,PSs (cxOfH CX0 P w K mg base N x (defScope st) f cdv A outer s H E).nox (defBody st) t/\t {nx:=λ_ H'=>Q .non H',rt:=Q} (start N vs) H):CalH P w K mg base (k+1) x ps sp:=by
 obtain⟨f,fd,F,b,m⟩:=d.ex;exact⟨f,fd,F.okH S len (hbody f),b,F.kp,m⟩
end
section
variable {X:Cx}{n k:Nat}{x:Str}{ps:List Str}{sp:Sp}{p pos:Pos}{e:Expr}{es:List Expr}{t:TA}
theorem zno(C:CalH X.prog X.w X.K X.mg X.base n x ps sp)(hr:RoomH k X.A)(hle:n<=k)(hg:Gl X x)(ha:PA X (e::es) t)(hdb:(x==("__debug__":Str))=false:=by decide)
  (h1:notStar e=true:=by rfl) (h2:es.all notStar=true:=by rfl):PE X (.Call (.Name x p) (e::es) [] pos) (tCall sp [] E0 t):=by
 obtain⟨f,fd,F,b,kp,m⟩:=C.ex;exact zqs F (hr.mono hle) hg m kp b .nil pass0 ha hdb (za7 h1) (zbl h2)
end
end L2
namespace SM
open PySem PySem.Spec PyProof.Rows L2 SS
def mk51(ci:Nat):List V:=V.bl true::(List.range 9).map λj=>V.bl (decide (j=ci))
def ziz(cs:List Addr):Sp:=λvs H Q _=>∃(a:Addr) (ci:Nat),vs=[.ref a]/\ci<=2/\H a=some (excO a (.ref (cs.getD ci 0)))/\∀D H',H D=none->Same H H'->H' D=some (.lst (mk51 ci))->Q (.ref D) H'
def Td(H':Hp)(p:Addr)(ms:List V)(x:V):Prop:=∃D,H' p=some (.tup [.ref D,x])/\H' D=some (.lst ms)
def Ask51(H:Hp)(v fv b:V)(Q:List V->V->Prop):Prop:=∃t:TrZ,Exp H 12 v/\Ask H fv/\TreeZ H b t/\t.size<=5/\
 ((¬FrT H fv/\Q (mk51 1) .non)\/(FrT H fv/\¬SayOk H SS.rowWords 3 v fv/\Q (mk51 2) .non)\/
  (∃bf tl s,fv=.ref bf/\Gd51 H v bf tl s/\(((∃x∈t.lets,¬(0<=x/\x<2^tl.length))/\Q (mk51 0) .non)\/(t=.nil/\Q [] (.bl (fitB tl []&&tv (coreS tl s))))\/(t=.node 0 .nil .nil/\∀bb,Q [] (.bl bb)))))
def zen(Pt:Addr)(qs:Y3):Sp:=λvs H Q _=>∃v fv b:V,vs=[v,fv,b]/\TabOk H Pt qs/\Ask51 H v fv b λms x=>∀p H',Same H H'->Td H' p ms x->Q (.ref p) H'
theorem FrT.back(ak:Ask H fv)(g:Same H H')(h:FrT H' fv):FrT H fv:=by
 obtain⟨a,tl,rfl,e,hf,h3⟩:=h;obtain⟨⟨k,kd⟩,_⟩:=ak.t;refine⟨a,tl,rfl,?_,hf,h3⟩;cases kd with
 |lst e'=>rw[g _ _ e']at e;rw[e',e]
 |tup e'=>rw[g _ _ e']at e;cases e
 |dK e'=>rw[g _ _ e']at e;cases e
theorem FrT.same(h:FrT H fv)(g:Same H H'):FrT H' fv:=let⟨a,tl,e1,e,hf,h3⟩:=h;⟨a,tl,e1,g _ _ e,hf,h3⟩
theorem zp7(ex:Exp H 12 v)(ft:FrT H fv)(g:Same H H')(h:SayOk H' bw mo v fv):SayOk H bw mo v fv:=by
 obtain⟨a,tl,rfl,e,hfr,h3⟩:=ft;obtain⟨a',tl',s,ea,ee,f1,⟨r,hw,hd,hp⟩,hl⟩:=h;cases ea;have h1:=zdn r hw hd;rw[zb0 g ex]at h1;obtain⟨s',r',hw',hd'⟩:=zby h1;have es:=r.det (r'.same g);subst es;rw[g _ _ e]at ee;have et:tl=tl':=zc0 (HO.lst.inj (Option.some.inj ee));subst et;exact⟨a,tl,s,rfl,e,f1,⟨r',hw',hd',hp⟩,hl⟩
theorem Ask51.same(h:Ask51 H v fv b Q)(g:Same H H'):Ask51 H' v fv b Q:=by
 obtain⟨t,ex,ask,tz,h5,h⟩:=h;refine⟨t,ex.same g,(ask.same g).1,tz.same g,h5,?_⟩;rcases h with⟨nf,q⟩|⟨ft,ns,q⟩|⟨bf,tl,s,e,G,h⟩
 ·exact .inl ⟨λz=>nf (z.back ask g),q⟩
 ·exact .inr (.inl ⟨ft.same g,λz=>ns (zp7 ex ft g z),q⟩)
 ·exact .inr (.inr ⟨bf,tl,s,e,G.same g,h⟩)
end SM
namespace L2
def FnNd(N:List Str):Prop:=N.Nodup
instance (N:List Str):Decidable (FnNd N):=inferInstanceAs (Decidable N.Nodup)
structure CalF(P:Program)(w:World)(K:Frag)(mg:Y1)(base:Heap)(n:Nat)(f:Addr)(ps:List Str)(sp:Sp):Prop where
 ex:∃fd,FnOk P w K mg base CX0 n f fd ps sp/\Binds K fd ps []/\PySem.W.keepIn K (.ref f)=true
theorem Cal.fn{P:Program}{w:World}{K:Frag}{mg:Y1}{base:Heap}{n:Nat}{x:Str}{ps:List Str}{sp:Sp}(C:Cal P w K mg base n x ps sp):∃f,CalF P w K mg base n f ps sp/\mg x=some (.ref f):=by
 obtain⟨f,fd,F,b,k,m⟩:=C.ex;exact⟨f,⟨fd,F,b,k⟩,m⟩
theorem zg2(o i:Expr)(p:Pos)(args:List Expr)(keywords:List Keyword)(pos:Pos)(env:Env):eval (.Call (.Subscript o i p) args keywords pos) env=(do
  let f ←eval (.Subscript o i p) env
  callWith pos f [] (backTo pos (starEach args env)) (backToKw pos (keywordEach keywords env))):=rfl
def tCallX(fl:List Addr)(sp:Sp)(tf:TE)(t:TA):TE:=λσ H Q=>tf σ H λv H1=>∃f,f∈fl/\v=.ref f/\t σ H1 λvs H2=>sp vs H2 Q E0
theorem zqq{X:Cx}{k n:Nat}{fl:List Addr}{ps:List Str}{sp:Sp}{p pos:Pos}{o i e:Expr}{es:List Expr}{tf:TE}{t:TA}(C:∀f∈fl,CalF X.prog X.w X.K X.mg X.base n f ps sp)(hr:Room k X.A)(hle:n<=k)(hf:PE X (.Subscript o i p) tf)(ha:PA X (e::es) t)(h1:notStar e=true:=by rfl)(h2:es.all notStar=true:=by rfl):
  PE X (.Call (.Subscript o i p) (e::es) [] pos) (tCallX fl sp tf t):=by
 intro pins s σ H Q I h;rw[zg2];refine wpAny_bind (thn (hf pins s σ H _ I h) λu s1 zz=>ex5 zz λv H1 I1 r1 zq=>?_);obtain⟨f,mf,e1,h⟩:=zq;subst e1;obtain⟨fd,F,b,hk⟩:=(C f mf).ex;cases(show u=Value.ref f from r1);refine PySem.W.callWith_K (h₀:=X.base) I1.ok.mod.kin hk (thn (ha pos pins s1 σ _ _ I1 h) λus s2 zz=>ex5 zz λvs H2 I2 r q=>⟨I2.kIn,?_⟩) (za7 h1) (zbl h2);exact znb F (hr.mono hle) b .nil pass0 I2 r (by rw[y1a];exact q)
section
variable {X:Cx}
def rNeF(K:Frag):R2:=λx y H Q=>∃(a b:Addr) (xs ys:List V),x=.ref a/\y=.ref b/\SqL K H a xs/\SqL K H b ys/\xs.all flatV=true/\ys.all flatV=true/\Q (.bl (!(xs.length==ys.length&&(List.range xs.length).all λj=>eqV (xs.getD j .non) (ys.getD j .non)))) H
theorem zwf(hu:X.A.units+8<cLine):OpR X (compareOp .NotEq) (rNeF X.K):=by
 infer_instance;obtain⟨a,b,xs,ys,rfl,rfl,h1,h2,f1,f2,q⟩:=h;cases(show v=Value.ref a from rx);cases(show u=Value.ref b from ry);obtain⟨us,r1,p1,_⟩:=I.list h1;obtain⟨vs,r2,p2,_⟩:=I.list h2;have l1:=r1.length;have l2:=r2.length;have hu':X.A.units<cLine:=by omega
 by_cases hl:us.length=vs.length
 ·have z:=SeqAt.RcNeAt.lists (A:=X.A) (s:=s) (e:=λj=>eqV (xs.getD j .non) (ys.getD j .non)) p1.isList p2.isList (by rw[y03,y03];exact hl) hu' λj h1 h2=>by
   rw[y03]at h1 h2;obtain⟨g1,q1⟩:=r1.at h1;obtain⟨g2,q2⟩:=r2.at h2;have e1:xs.getD j .non=xs[j]:=by rw[y1c,y0n g1];rfl
   have e2:ys.getD j .non=ys[j]:=by rw[y1c,y0n g2];rfl
   rw[e1,e2];refine zo9 (by simpa using q1) (by simpa using q2) ?_ ?_
   ·exact y0q.mp f1 _ (y1q g1)
   ·exact y0q.mp f2 _ (y1q g2)
  rw[show(xs.length==ys.length)=true by simp;omega,y1b]at q;rw[y03,←l1]at z;exact z _ _ _ _ ⟨.bl (!((List.range xs.length).all λj=>eqV (xs.getD j .non) (ys.getD j .non))),H,I,rfl,q⟩
 ·have z:=SeqAt.RcNeAt.lists_lengths (A:=X.A) (s:=s) p1.isList p2.isList (by rw[y03,y03];simpa using hl) hu';rw[show(xs.length==ys.length)=false by simp;omega,y14]at q;exact z _ _ _ _ ⟨.bl true,H,I,rfl,q⟩
theorem zns(K:Frag)(hu:X.A.units+8<cLine)(h:X.K=K:=by rfl):OpR X (compareOp .NotEq) (rNeF K):=h▸zwf hu
end
end L2
namespace SM
open PySem PySem.Spec PyProof.Rows L2 SS
section
variable {H H':Hp}{tl:List Str}{p:Addr}{xs:List V}{v x y o:V}{w n m:Str}{s:Sy}
theorem ze9(e:H p=some (.tup xs))(hl:xs.length<=1000)(h:∀x∈xs,∀n,Exp H n x):∀n,Exp H n (.ref p)
 |0=>Thing.tup e
 |n+1=>Exp.tup e hl λx hx=>h x hx n
theorem zo6(e:H p=some (.lst xs)):∀n,Exp H n (.ref p)
 |0=>Thing.lst e
 |n+1=>⟨Thing.lst e,λa ys ea ee=>by cases ea;rw[e]at ee;cases ee⟩
theorem zxd(e:H p=some (.dK kvs)):∀n,Exp H n (.ref p)
 |0=>Thing.dK e
 |n+1=>⟨Thing.dK e,λa ys ea ee=>by cases ea;rw[e]at ee;cases ee⟩
theorem zej(t:Thing H v)(h:∀a,v ≠ .ref a):∀n,Exp H n v
 |0=>t
 |n+1=>⟨t,λa _ ea _=>absurd ea (h a)⟩
theorem zai(h:z.length<=1000):∀n,Exp H n (.str z):=zej (.str h) (λ_ e=>nomatch e)
theorem zo7:∀n,Exp H n (.int i):=zej (.int i) (λ_ e=>nomatch e)
theorem zo5:∀n,Exp H n .non:=zej .non (λ_ e=>nomatch e)
theorem zxe:∀n,Exp H n (.bl b):=zej (.bl b) (λ_ e=>nomatch e)
def BadR(H:Hp)(tl:List Str)(v:V):Prop:=∀s,Rep H v s->wfB s=true->s.depth<=12->letB SS.rowWords 3 tl s=true->False
def BadX(H:Hp)(tl:List Str)(v:V):Prop:=(∀n,Exp H n v)/\BadR H tl v
theorem BadX.same(h:BadX H tl v)(g:Same H H'):BadX H' tl v:=by
 refine⟨λn=>(h.1 n).same g,λs r hw hd hl=>?_⟩;have h1:=zdn r hw hd;rw[zb0 g (h.1 12)]at h1;obtain⟨s',r',hw',hd'⟩:=zby h1;have es:=r.det (r'.same g);subst es;exact h.2 s r' hw' hd' hl
theorem BadX.no(h:BadX H tl v)(e:H b=some (.lst (tl.map V.str))):¬SayOk H SS.rowWords 3 v (.ref b):=by
 rintro⟨a,tl',s,ea,ee,f1,⟨r,hw,hd,hp⟩,hl⟩;cases ea;rw[e]at ee;have et:tl=tl':=zc0 (HO.lst.inj (Option.some.inj ee));subst et;exact h.2 s r hw hd hl
theorem zi9(r:Rep H v s):∃a ys,v=.ref a/\H a=some (.tup ys):=let⟨a,xs,e,h⟩:=zki r;⟨a,_,e,h⟩
theorem zjg(h:∀a,v ≠ .ref a):∀s,¬Rep H v s:=λs r=>let⟨a,_,e,_⟩:=zi9 r;h a e
theorem zww(e:H p=some (.lst xs)):∀s,¬Rep H (.ref p) s:=λs r=>by
 obtain⟨a,ys,ea,ee⟩:=zi9 r;cases ea;rw[e]at ee;cases ee
theorem BadR.nr(h:∀s,¬Rep H v s):BadR H tl v:=λs r=>absurd r (h s)
theorem zja(e:H p=some (.tup xs))(r:Rep H (.ref p) s):(∃w n m,xs=[.str w,.str n,.str m]/\w∈bareWords/\s=.bare w n m)\/(∃x s1,xs=[.str "not",x]/\Rep H x s1/\s=.neg s1)\/(∃w x y s1 s2,xs=[.str w,x,y]/\w∈(["and","or"]:List Str)/\Rep H x s1/\Rep H y s2/\s=.two w s1 s2)\/(∃w n x s1,xs=[.str w,.str n,x]/\w∈(["some","all"]:List Str)/\Rep H x s1/\s=.qu w n s1):=by
 cases r with
 |bare hw e'=>rw[e]at e';cases e';exact .inl ⟨_,_,_,rfl,hw,rfl⟩
 |neg e' h=>rw[e]at e';cases e';exact .inr (.inl ⟨_,_,rfl,h,rfl⟩)
 |two hw e' h1 h2=>rw[e]at e';cases e';exact .inr (.inr (.inl ⟨_,_,_,_,_,rfl,hw,h1,h2,rfl⟩))
 |qu hw e' h=>rw[e]at e';cases e';exact .inr (.inr (.inr ⟨_,_,_,_,rfl,hw,h,rfl⟩))
theorem words_dis:(∀w∈bareWords,w∉(["and","or"]:List Str)/\w∉(["some","all"]:List Str)/\w≠"not")/\(∀w∈(["some","all"]:List Str),w∉bareWords/\w∉(["and","or"]:List Str))/\∀w∈(["and","or"]:List Str),w∉bareWords/\w∉(["some","all"]:List Str):=by decide+kernel
theorem zwy(e:H p=some (.tup xs))(h2:xs.length≠2)(h3:xs.length≠3):∀s,¬Rep H (.ref p) s:=λs r=>by
 rcases zja e r with⟨_,_,_,rfl,_⟩|⟨_,_,rfl,_⟩|⟨_,_,_,_,_,rfl,_⟩|⟨_,_,_,_,rfl,_⟩
 ·exact h3 rfl
 ·exact h2 rfl
 ·exact h3 rfl
 ·exact h3 rfl
theorem b_len(e:H p=some (.tup xs))(h2:xs.length≠2)(h3:xs.length≠3):BadR H tl (.ref p):=.nr (zwy e h2 h3)
theorem b_2(e:H p=some (.tup [o,x]))(h:o ≠ .str "not"):BadR H tl (.ref p):=.nr λs r=>by
 rcases zja e r with⟨_,_,_,e1,_⟩|⟨_,_,e1,_⟩|⟨_,_,_,_,_,e1,_⟩|⟨_,_,_,_,e1,_⟩<;>injection e1 with e1 e2
 ·cases e2
 ·exact h e1
 ·cases e2
 ·cases e2
theorem b_3(e:H p=some (.tup [o,x,y]))(h:∀w,o=.str w->w∉bareWords/\w∉(["and","or"]:List Str)/\w∉(["some","all"]:List Str)):BadR H tl (.ref p):=.nr λs r=>by
 rcases zja e r with⟨_,_,_,e1,hw,_⟩|⟨_,_,e1,_⟩|⟨_,_,_,_,_,e1,hw,_⟩|⟨_,_,_,_,e1,hw,_⟩
 ·injection e1 with e1 _;exact(h _ e1).1 hw
 ·injection e1 with e1 e2;cases e2
 ·injection e1 with e1 _;exact(h _ e1).2.1 hw
 ·injection e1 with e1 _;exact(h _ e1).2.2 hw
theorem zfg(e:H p=some (.tup [.str w,x,y]))(hw:w∈bareWords)(h:∀n m,x=.str n->y=.str m->wfB (.bare w n m)=false\/w∈SS.rowWords\/n∉tl\/m∉tl):BadR H tl (.ref p):=λs r wf _ hl=>by
 obtain⟨d1,d2,d3⟩:=words_dis.1 w hw;rcases zja e r with⟨_,_,_,e1,_,rfl⟩|⟨_,_,e1,_⟩|⟨_,_,_,_,_,e1,hw',_⟩|⟨_,_,_,_,e1,hw',_⟩
 ·injection e1 with e1 e2
  injection e2 with e2 e3
  injection e3 with e3 _
  cases V.str.inj e1;simp only[letB,y05,decide_eq_true_eq]at hl;rcases h _ _ e2 e3 with h|h|h|h
  ·rw[h]at wf;cases wf
  ·exact hl.1.2 h
  ·exact h hl.2.1
  ·exact h hl.2.2
 ·injection e1 with e1 e2;cases e2
 ·injection e1 with e1 _;cases V.str.inj e1;exact d1 hw'
 ·injection e1 with e1 _;cases V.str.inj e1;exact d2 hw'
theorem zd9(e:H p=some (.tup [.str w,.str n,.str m]))(hw:w∈bareWords)(h:wfB (.bare w n m)=false\/w∈SS.rowWords\/n∉tl\/m∉tl):BadR H tl (.ref p):=zfg e hw λn' m' e1 e2=>by cases e1;cases e2;exact h
theorem zvi(e:H p=some (.tup [.str w,x,y]))(hw:w∈(["some","all"]:List Str))(h:∀n,x=.str n->isName (.str n)=false\/n∈tl\/BadR H (tl++[n]) y):BadR H tl (.ref p):=λs r wf hd hl=>by
 obtain⟨d1,d2⟩:=words_dis.2.1 w hw;rcases zja e r with⟨_,_,_,e1,hw',_⟩|⟨_,_,e1,_⟩|⟨_,_,_,_,_,e1,hw',_⟩|⟨_,n',_,s1,e1,_,r1,rfl⟩
 ·injection e1 with e1 _;cases V.str.inj e1;exact d1 hw'
 ·injection e1 with e1 e2;cases e2
 ·injection e1 with e1 _;cases V.str.inj e1;exact d2 hw'
 ·injection e1 with e1 e2
  injection e2 with e2 e3
  injection e3 with e3 _
  subst e3;simp only[letB,y05,decide_eq_true_eq]at hl;simp only[wfB,y05]at wf;have hd':s1.depth+1<=12:=hd;rcases h _ e2 with h|h|h
  ·rw[h]at wf;cases wf.1
  ·exact hl.2.1 h
  ·exact h s1 r1 wf.2 (by omega) hl.2.2
theorem b_qu(e:H p=some (.tup [.str w,.str n,y]))(hw:w∈(["some","all"]:List Str))(h:isName (.str n)=false\/n∈tl\/BadR H (tl++[n]) y):BadR H tl (.ref p):=zvi e hw λn' e1=>by cases e1;exact h
theorem zxn(e:H p=some (.tup [.str "not",x]))(h:BadR H tl x):BadR H tl (.ref p):=λs r wf hd hl=>by
 rcases zja e r with⟨_,_,_,e1,_⟩|⟨_,s1,e1,r1,rfl⟩|⟨_,_,_,_,_,e1,_⟩|⟨_,_,_,_,e1,_⟩<;>injection e1 with e1 e2
 ·cases e2
 ·injection e2 with e2 _
  subst e2;simp only[letB,y05,decide_eq_true_eq]at hl;have hd':s1.depth+1<=12:=hd;exact h s1 r1 wf (by omega) hl.2
 ·cases e2
 ·cases e2
theorem zxz(e:H p=some (.tup [.str w,x,y]))(hw:w∈(["and","or"]:List Str))(h:BadR H tl y):BadR H tl (.ref p):=λs r wf hd hl=>by
 obtain⟨d1,d2⟩:=words_dis.2.2 w hw;rcases zja e r with⟨_,_,_,e1,hw',_⟩|⟨_,_,e1,_⟩|⟨_,_,_,s1,s2,e1,_,r1,r2,rfl⟩|⟨_,_,_,_,e1,hw',_⟩
 ·injection e1 with e1 _;cases V.str.inj e1;exact d1 hw'
 ·injection e1 with e1 e2;cases e2
 ·injection e1 with e1 e2
  injection e2 with e2 e3
  injection e3 with e3 _
  subst e3;simp only[letB,y05,decide_eq_true_eq]at hl;simp only[wfB,y05]at wf;have hd':max s1.depth s2.depth+1<=12:=hd;exact h s2 r2 wf.2 (by omega) hl.2.2
 ·injection e1 with e1 _;cases V.str.inj e1;exact d2 hw'
end
def words13:List Str:=bareWords++(["not","and","or","some","all"]:List Str)
structure Odd(H:Hp)(o:V):Prop where
 ex:∀n,Exp H n o
 st:∀z,o=.str z->isName (.str z)=false/\z∉words13
 nr:∀a xs,o=.ref a->H a=some (.tup xs)->xs.length=1
section
variable {H H':Hp}{tl:List Str}{p:Addr}{o x y z t:V}{w n m:Str}
theorem Odd.same(h:Odd H o)(g:Same H H'):Odd H' o:=⟨λn=>(h.ex n).same g,h.st,λa xs ea e=>by subst ea;exact h.nr a xs rfl ((h.ex 0).thing.same_tup g e)⟩
theorem Odd.no(h:Odd H o):∀s,¬Rep H o s:=λs r=>by
 obtain⟨a,ys,rfl,e⟩:=zi9 r;have hl:=h.nr a ys rfl e;exact zwy e (by omega) (by omega) s r
theorem zwx{z:Str}(h:isName (.str z)=false):isPl z=false/\isSt z=false:=by
 unfold isName at h;rw[Bool.or_eq_false_iff]at h;exact h
theorem zwv(h:Odd H o):∀n m,x=.str n->o=.str m->wfB (.bare w n m)=false\/w∈SS.rowWords\/n∉tl\/m∉tl:=λn m _ e=>by
 obtain⟨h1,h2⟩:=zwx (h.st m e).1;refine .inl ?_;simp only[wfB,h1,h2,y2l];split
 ·rfl
 ·split<;>rfl
theorem zwu(h:Odd H o):∀n m,o=.str n->y=.str m->wfB (.bare w n m)=false\/w∈SS.rowWords\/n∉tl\/m∉tl:=λn m e _=>by
 obtain⟨h1,h2⟩:=zwx (h.st n e).1;refine .inl ?_;simp only[wfB,h1,h2,y14];split
 ·rfl
 ·split<;>rfl
theorem zwt(h:Odd H o):∀n,o=.str n->isName (.str n)=false\/n∈tl\/BadR H (tl++[n]) y:=λn e=>.inl (h.st n e).1
theorem zxu(h:Odd H o):∀w,o=.str w->w∉bareWords/\w∉(["and","or"]:List Str)/\w∉(["some","all"]:List Str):=λw e=>by
 have:=(h.st w e).2;unfold words13 at this;rw[y0j]at this;refine⟨λz=>this (.inl z),λz=>this (.inr ?_),λz=>this (.inr ?_)⟩
 ·simp only[y02,y07,or_false]at z ⊢;rcases z with z|z<;>simp[z]
 ·simp only[y02,y07,or_false]at z ⊢;rcases z with z|z<;>simp[z]
theorem zun(h:Odd H o):o ≠ .str "not":=λe=>(h.st _ e).2 (by decide+kernel)
theorem zsr(e:H p=some (.tup [x]))(hx:∀n,Exp H n x):∀n,Exp H n (.ref p):=ze9 e (by simp) λa ha=>by rw[y08.mp ha];exact hx
theorem zid(e:H p=some (.tup [x,y]))(hx:∀n,Exp H n x)(hy:∀n,Exp H n y):∀n,Exp H n (.ref p):=ze9 e (by simp) λa ha=>by
 simp only[y02,y07,or_false]at ha;rcases ha with rfl|rfl
 ·exact hx
 ·exact hy
theorem za9(e:H p=some (.tup [x,y,z]))(hx:∀n,Exp H n x)(hy:∀n,Exp H n y)(hz:∀n,Exp H n z):∀n,Exp H n (.ref p):=ze9 e (by simp) λa ha=>by
 simp only[y02,y07,or_false]at ha;rcases ha with rfl|rfl|rfl
 ·exact hx
 ·exact hy
 ·exact hz
theorem zxc(e:H p=some (.tup [x,y,z,t]))(hx:∀n,Exp H n x)(hy:∀n,Exp H n y)(hz:∀n,Exp H n z)(ht:∀n,Exp H n t):∀n,Exp H n (.ref p):=ze9 e (by simp) λa ha=>by
 simp only[y02,y07,or_false]at ha;rcases ha with rfl|rfl|rfl|rfl
 ·exact hx
 ·exact hy
 ·exact hz
 ·exact ht
end
def zm1:Sp:=λvs H Q _=>∃n:Int,vs=[.int n]/\∀v H',Same H H'->Ask H' v->¬FrT H' v->Q v H'
def zep:Sp:=λvs H Q _=>∃(n:Int) (v:V) (s:Sy) (tl:List Str),vs=[.int n,v]/\Rep H v s/\wfB s=true/\NG tl/\∀v' H',Same H H'->BadX H' tl v'->Q v' H'
def BI51(c:Int)(v:V)(tl:List Str)(H:Hp)(n:Nat)(σ:L2.St)(H':Hp):Prop:=Same H H'/\∃(L:Addr) (xs:List V),σ=[some (.int c),some v,some (.ref L)]/\H L=none/\H' L=some (.lst xs)/\xs.length=n/\∀x∈xs,BadX H' tl x
def BO51(c:Int)(v o:V)(tl:List Str)(H:Hp)(n:Nat)(σ:L2.St)(H':Hp):Prop:=Same H H'/\∃(L:Addr) (xs:List V),σ=[some (.int c),some v,some o,some (.ref L)]/\H L=none/\H' L=some (.lst xs)/\xs.length=n/\∀x∈xs,BadX H' tl x
theorem zxb(hL:H L=some (.lst ys)):∀(n:Nat) (v:V),Exp H n v->Exp (upd H L (.lst zs)) n v:=by
 have kd:∀{v:V},Thing H v->Thing (upd H L (.lst zs)) v:=λ{v} h=>by
  obtain⟨⟨k,h1⟩,h2⟩:=h;refine⟨?_,h2⟩;cases h1 with
  |non=>exact⟨_,.non⟩
  |bl b=>exact⟨_,.bl b⟩
  |int i=>exact⟨_,.int i⟩
  |str z=>exact⟨_,.str z⟩
  |lst e =>
   rename_i a xs;by_cases h:a=L
   ·subst h;exact⟨_,.lst zao⟩
   ·exact⟨_,.lst (by rw[zan h];exact e)⟩
  |tup e=>exact⟨_,.tup (TupS.wr hL _ _ _ e)⟩
  |dK e=>exact⟨_,.dK (by rw[zan (zcc e hL (by intro z;cases z))];exact e)⟩
 intro n
 induction n with
 |zero=>intro v h;exact kd h
 |succ n ih =>
  intro v h;refine⟨kd h.1,λa xs ea e=>?_⟩;have e':H a=some (.tup xs):=by
   by_cases h:a=L
   ·subst h;rw[zao]at e;cases e
   ·rw[zan h]at e;exact e
  obtain⟨h1,h2⟩:=h.2 a xs ea e';exact⟨h1,λx hx=>ih x (h2 x hx)⟩
theorem BadX.wr(hL:H L=some (.lst ys))(b:BadX H tl v):BadX (upd H L (.lst zs)) tl v:=by
 refine⟨λn=>zxb hL n v (b.1 n),λs r=>b.2 s (zhw r λa xs e=>?_)⟩;by_cases h:a=L
 ·subst h;rw[zao]at e;cases e
 ·rw[zan h]at e;exact e
def zms(Pt:Addr)(qs:Y3):Sp:=λvs H Q _=>∃(v:V) (bf:Addr) (n:Int) (s:Sy) (tl:List Str),vs=[v,.ref bf,.int n]/\TabOk H Pt qs/\Gd51 H v bf tl s/\NG tl/\0<=n/\∀H',Same H H'->Q (.bl true) H'
def mkI(i:Nat):List V:=if i%2=1 then mk51 1 else if i/2%2=1 then mk51 2 else mk51 0
def exI(i:Nat)(b:Bool):List V:=[V.bl true,V.bl (decide (0+(i:Int)=4)),V.bl (decide ((0+(i:Int))%2=1)),V.bl b]++(List.replicate (Int.toNat 6) [V.bl false]).flatten
theorem eqm0:∀i:Fin 8,0<i.val->((mkI i.val).length==(exI i.val (if i.val=2 then true else decide (0+((i.val:Nat):Int)=6))).length&&(List.range (mkI i.val).length).all λj=>eqV ((mkI i.val).getD j .non) ((exI i.val (if i.val=2 then true else decide (0+((i.val:Nat):Int)=6))).getD j .non))=true:=by decide+kernel
theorem eqm(i:Fin 8)(h:0<i.val)(b:Bool)(hb:(i.val=2/\b=true)\/(i.val≠2/\b=decide (0+((i.val:Nat):Int)=6))):((mkI i.val).length==(exI i.val b).length&&(List.range (mkI i.val).length).all λj=>eqV ((mkI i.val).getD j .non) ((exI i.val b).getD j .non))=true:=by
 have:=eqm0 i h;rcases hb with⟨h2,rfl⟩|⟨h2,rfl⟩
 ·rw[if_pos h2]at this;exact this
 ·rw[if_neg h2]at this;exact this
theorem flm:∀i:Fin 8,(mkI i.val).all flatV=true/\∀b,(exI i.val b).all flatV=true:=by decide+kernel
end SM
namespace L2
def rInsert:V->List V->Hp->VK->Prop:=λx vs H Q=>∃(l:Addr) (xs:List V) (i:Nat) (y:V),x=.ref l/\vs=[.int i,y]/\H l=some (.lst xs)/\i<=xs.length/\xs.length<=1000/\∀H',H'=upd H l (.lst (xs.take i++y::xs.drop i))->Q .non H'
end L2
set_option maxHeartbeats 4000000
namespace L2
open PySem
theorem fitS{n:Nat}{P:List Value->Prop}(h:∀a us,us.length=n->P (a::us)):∀us:List Value,us.length=n+1->P us
 |a::us,e=>h a us (Nat.succ.inj e)
theorem fit0{P:List Value->Prop}(h:P []):∀us:List Value,us.length=0->P us
 |[],_=>h
theorem fit1{P:List Value->Prop}(h:∀a,P [a]):∀us:List Value,us.length=1->P us:=fitS λa=>fit0 (h a)
theorem fit2{P:List Value->Prop}(h:∀a b,P [a,b]):∀us:List Value,us.length=2->P us:=fitS λa=>fit1 (h a)
theorem fit3{P:List Value->Prop}(h:∀a b c,P [a,b,c]):∀us:List Value,us.length=3->P us:=fitS λa=>fit2 (h a)
theorem fit4{P:List Value->Prop}(h:∀a b c d,P [a,b,c,d]):∀us:List Value,us.length=4->P us:=fitS λa=>fit3 (h a)
theorem fit5{P:List Value->Prop}(h:∀a b c d e,P [a,b,c,d,e]):∀us:List Value,us.length=5->P us:=fitS λa=>fit4 (h a)
end L2
namespace K51
open PySem PySem.Spec PyProof.Rows L2 SS SM
local macro_rules| `(tactic|trivial)=>`(tactic|((try dsimp only[rEqI,rNeI,rInDc,rLenD,rLenT,rDictOf,rMaxL,rIndex,rCatTN,rCatTE,tDNewN,tDNewTN,tDisp1T,rNeM,rRange2,rListRng,rRepN,rPopAt,rSetL,gSub,ipI,tDGet,tDGet2,sDPut,iEnum,iEZ,iZipL,tLam,tCallA,tCallV,tDef,iRng3,rIndexT,tFld,sFld,tMeth,tMake,gLst,rPop,rExtendT,rNotInN,sDPutN,tDGetN,tDNew2,rSortS,tTry,tRaise,tTryA,tTry2A,rIsX,rIsXT,rIsXP,rUpper,rInsert,tCallX,rNeF,iZip,rInD,rIxD,rLen,rAll,rAny,rSum,rListOf,rEqS,rNeS,rSlTN,rStrB,tTupN,tLstN,rSlLN,rCatN,cxK,cxP,cxW,tSeq,tIfS,tTest,tB,tOp,tUn,tC,tAnd,tOr,tNot,tAndV,tOrV,tNotV,tIf,tNext,tBreak,tCont,tDrop,tRet,tRetN,gName,gNil,gCons,gTup,tAsg,tPar,tAug,rI,rI0,rU,rEq,rNe,tChain,tNil,tCons,tTup,tLst,tCall,tCB,tNoPart,tPart,tSl,rSlT,rSlL,rSlS,rIxL,rIxT,rIxS,rIn,tBM0,tBM,tyV,rAppend,rExtend,rCat,rZfill,rEqD,iList,iTup,iStr,iRng1,iRng2,tYes,tDisp,tPairs,zvw,zvv,znd,zse,zkj,zkk,List.set_cons_zero,List.set_cons_succ,y30,y1a,zvx,zvy,zv0,zv1,zv2]);(try simp only[exists_eq',rEqI,rNeI,rInDc,rLenD,rLenT,rDictOf,rMaxL,rIndex,rCatTN,rCatTE,tDNewN,tDNewTN,tDisp1T,rNeM,rRange2,rListRng,rRepN,rPopAt,rSetL,gSub,ipI,tDGet,tDGet2,sDPut,iEnum,iEZ,iZipL,tLam,tCallA,tCallV,tDef,iRng3,rIndexT,tFld,sFld,tMeth,tMake,gLst,rPop,rExtendT,rNotInN,sDPutN,tDGetN,tDNew2,rSortS,tTry,tRaise,tTryA,tTry2A,rIsX,rIsXT,rIsXP,rUpper,rInsert,tCallX,rNeF,iZip,rInD,rIxD,rLen,rAll,rAny,rSum,rListOf,rEqS,rNeS,rSlTN,rStrB,tTupN,tLstN,rSlLN,rCatN,cxK,cxP,cxW,tSeq,tIfS,tTest,tB,tOp,tUn,tC,tAnd,tOr,tNot,tAndV,tOrV,tNotV,tIf,tNext,tBreak,tCont,tDrop,tRet,tRetN,gName,gNil,gCons,gTup,tAsg,tPar,tAug,rI,rI0,rU,rEq,rNe,tChain,tNil,tCons,tTup,tLst,tCall,tCB,tNoPart,tPart,tSl,rSlT,rSlL,rSlS,rIxL,rIxT,rIxS,rIn,tBM0,tBM,tyV,rAppend,rExtend,rCat,rZfill,rEqD,iList,iTup,iStr,iRng1,iRng2,tYes,tDisp,tPairs,zvw,zvv,znd,zse,zkj,zkk,List.set_cons_zero,List.set_cons_succ,y30,y2v,y1a,V.int.injEq,V.str.injEq,V.bl.injEq,V.ref.injEq,V.ty.injEq,List.cons.injEq,and_true,true_and,exists_eq_left,exists_eq_left',exists_and_left,exists_eq,exists_const,if_true,if_false,ite_true,ite_false,zvx,zvy,zv0,zv1,zv2,Option.some.injEq,exists_eq_right,exists_eq_right',and_assoc,reduceCtorEq,false_and,and_false,false_or,or_false,exists_false])))
def top(i:Nat):Stmt:=PySem.Challenge.pw_setsays_k51_tree_holds_refused.main.body.getD i (.Pass ⟨0,0,0,0⟩)
structure Txt(K:Frag)(mg:Y1)(w:World)(tw ow fa cStandings cSayError:Addr)(cs:List Addr):Prop where
 b_isinstance:mg "isinstance"=none
 b_tuple:mg "tuple"=none
 b_str:mg "str"=none
 b_list:mg "list"=none
 b_int:mg "int"=none
 b_bool:mg "bool"=none
 b_set:mg "set"=none
 b_len:mg "len"=none
 b_all:mg "all"=none
 b_any:mg "any"=none
 b_sum:mg "sum"=none
 b_max:mg "max"=none
 b_zip:mg "zip"=none
 b_range:mg "range"=none
 b_enumerate:mg "enumerate"=none
 b_sorted:mg "sorted"=none
 b_ValueError:mg "ValueError"=none
 g_FIGURES:GlV mg "FIGURES" (.str FIGS)
 g_LONGEST_NAME:GlV mg "LONGEST_NAME" (.int 4)
 g_SMALL_LETTERS:GlV mg "SMALL_LETTERS" (.str SMALL)
 g_GREAT_LETTERS:GlV mg "GREAT_LETTERS" (.str GREAT)
 g_MOST_NAMES:GlV mg "MOST_NAMES" (.int 4)
 g_MOST_TREE_NAMES:GlV mg "MOST_TREE_NAMES" (.int 3)
 g_DEEPEST:GlV mg "DEEPEST" (.int 12)
 g_MOST_PARTS:GlV mg "MOST_PARTS" (.int 60)
 g_WAITING:GlV mg "WAITING" (.int 0)
 g_SECOND:GlV mg "SECOND" (.int 1)
 g_YES:GlV mg "YES" (.int 2)
 g_NO:GlV mg "NO" (.int 3)
 g_TELLING_WORDS:GlV mg "TELLING_WORDS" (.ref tw)
 t_TELLING_WORDS:∀H,SqT K H tw [.str "some",.str "all"]
 g_ROW_WORDS:GlV mg "ROW_WORDS" (.ref ow)
 t_ROW_WORDS:∀H,SqT K H ow [.str "ahead",.str "next"]
 g_FORMS:GlV mg "FORMS" (.ref fa)
 f_FORMS:Forms K w fa
 m_Standings:mg "Standings"=some (.ref cStandings)
 cl_Standings:Cls K cStandings
 n_parts:NoAttr K cStandings "parts"
 n_forms:NoAttr K cStandings "forms"
 n_numbers:NoAttr K cStandings "numbers"
 n_steps:NoAttr K cStandings "steps"
 m_SayError:mg "SayError"=some (.ref cSayError)
 m_NoTree:mg "NoTree"=some (.ref (cs.getD 0 0))
 m_NoFrame:mg "NoFrame"=some (.ref (cs.getD 1 0))
 m_NoSaying:mg "NoSaying"=some (.ref (cs.getD 2 0))
 m_NoText:mg "NoText"=some (.ref (cs.getD 3 0))
 m_NoRow:mg "NoRow"=some (.ref (cs.getD 4 0))
 m_NoWidth:mg "NoWidth"=some (.ref (cs.getD 5 0))
 m_NoNumber:mg "NoNumber"=some (.ref (cs.getD 6 0))
 m_TooGreat:mg "TooGreat"=some (.ref (cs.getD 7 0))
 m_NoLine:mg "NoLine"=some (.ref (cs.getD 8 0))
 k_SayError:KSup K cSayError
 kx0:KExc K (cs.getD 0 0)
 ms0:PySem.W.mroIn K (cs.getD 0 0) (.ref cSayError)=some true
 iV0:PySem.W.kitOne K (.ref (cs.getD 0 0)) (.type "ValueError")=some true
 q0_0:PySem.W.kitOne K (.ref (cs.getD 0 0)) (.ref (cs.getD 0 0))=some true
 q0_1:PySem.W.kitOne K (.ref (cs.getD 0 0)) (.ref (cs.getD 1 0))=some false
 q0_2:PySem.W.kitOne K (.ref (cs.getD 0 0)) (.ref (cs.getD 2 0))=some false
 q0_3:PySem.W.kitOne K (.ref (cs.getD 0 0)) (.ref (cs.getD 3 0))=some false
 q0_4:PySem.W.kitOne K (.ref (cs.getD 0 0)) (.ref (cs.getD 4 0))=some false
 q0_5:PySem.W.kitOne K (.ref (cs.getD 0 0)) (.ref (cs.getD 5 0))=some false
 q0_6:PySem.W.kitOne K (.ref (cs.getD 0 0)) (.ref (cs.getD 6 0))=some false
 q0_7:PySem.W.kitOne K (.ref (cs.getD 0 0)) (.ref (cs.getD 7 0))=some false
 q0_8:PySem.W.kitOne K (.ref (cs.getD 0 0)) (.ref (cs.getD 8 0))=some false
 x_NoTree:PySem.W.excIn K (cs.getD 0 0) veM "ValueError.__new__"=true
 kx1:KExc K (cs.getD 1 0)
 ms1:PySem.W.mroIn K (cs.getD 1 0) (.ref cSayError)=some true
 iV1:PySem.W.kitOne K (.ref (cs.getD 1 0)) (.type "ValueError")=some true
 q1_0:PySem.W.kitOne K (.ref (cs.getD 1 0)) (.ref (cs.getD 0 0))=some false
 q1_1:PySem.W.kitOne K (.ref (cs.getD 1 0)) (.ref (cs.getD 1 0))=some true
 q1_2:PySem.W.kitOne K (.ref (cs.getD 1 0)) (.ref (cs.getD 2 0))=some false
 q1_3:PySem.W.kitOne K (.ref (cs.getD 1 0)) (.ref (cs.getD 3 0))=some false
 q1_4:PySem.W.kitOne K (.ref (cs.getD 1 0)) (.ref (cs.getD 4 0))=some false
 q1_5:PySem.W.kitOne K (.ref (cs.getD 1 0)) (.ref (cs.getD 5 0))=some false
 q1_6:PySem.W.kitOne K (.ref (cs.getD 1 0)) (.ref (cs.getD 6 0))=some false
 q1_7:PySem.W.kitOne K (.ref (cs.getD 1 0)) (.ref (cs.getD 7 0))=some false
 q1_8:PySem.W.kitOne K (.ref (cs.getD 1 0)) (.ref (cs.getD 8 0))=some false
 x_NoFrame:PySem.W.excIn K (cs.getD 1 0) veM "ValueError.__new__"=true
 kx2:KExc K (cs.getD 2 0)
 ms2:PySem.W.mroIn K (cs.getD 2 0) (.ref cSayError)=some true
 iV2:PySem.W.kitOne K (.ref (cs.getD 2 0)) (.type "ValueError")=some true
 q2_0:PySem.W.kitOne K (.ref (cs.getD 2 0)) (.ref (cs.getD 0 0))=some false
 q2_1:PySem.W.kitOne K (.ref (cs.getD 2 0)) (.ref (cs.getD 1 0))=some false
 q2_2:PySem.W.kitOne K (.ref (cs.getD 2 0)) (.ref (cs.getD 2 0))=some true
 q2_3:PySem.W.kitOne K (.ref (cs.getD 2 0)) (.ref (cs.getD 3 0))=some false
 q2_4:PySem.W.kitOne K (.ref (cs.getD 2 0)) (.ref (cs.getD 4 0))=some false
 q2_5:PySem.W.kitOne K (.ref (cs.getD 2 0)) (.ref (cs.getD 5 0))=some false
 q2_6:PySem.W.kitOne K (.ref (cs.getD 2 0)) (.ref (cs.getD 6 0))=some false
 q2_7:PySem.W.kitOne K (.ref (cs.getD 2 0)) (.ref (cs.getD 7 0))=some false
 q2_8:PySem.W.kitOne K (.ref (cs.getD 2 0)) (.ref (cs.getD 8 0))=some false
 x_NoSaying:PySem.W.excIn K (cs.getD 2 0) veM "ValueError.__new__"=true
seal PE PT PW PA PS PSs
section
variable {P:Program}{w:World}{K:Frag}{mg:Y1}{base:Heap}{tw ow fa cStandings cSayError:Addr}{cs:List Addr}
abbrev s_is_letter_with_figures:Stmt:=top 17
theorem zb8:FnScope ["thing","letters"] ["thing","letters"] (defScope s_is_letter_with_figures):={}
theorem zxt(T:Txt K mg w tw ow fa cStandings cSayError cs)(d:Dfn K mg "is_letter_with_figures" s_is_letter_with_figures ["thing","letters"]):Cal P w K mg base 1 "is_letter_with_figures" ["thing","letters"] zs8:=by
 refine d.cal zb8 (λvs H Q E h=>?_) (λf cdv A outer s H vs Q E hr h=>?_)
 ·obtain⟨x,l,k,rfl,_⟩:=h;rfl
 obtain⟨x,l,k,rfl,hk,hz,q⟩:=h;refine⟨_,(zab (za0 (PW.pt (zdc (zcl (zbg (za5 zbv (by rfl) T.b_isinstance boot_isinstance (pa_c (pv 0) (pa_c (zb3 (v:=.ty "str") (by rfl) T.b_str boot_str (by rfl)) zaa))))) (zdc (zam zbb (pv 0) zae (nomark _)) (zcq (zam zh4 (za5 zin (by rfl) T.b_len boot_len (pa_c (pv 0) zaa)) (zaz (by rfl) T.g_LONGEST_NAME) (nomark _)))))) (zad (zaj zdw)) zap) (zad (zaj (zcb (za8 zh3 (zar zky (pv 0) zac (λ_ _=>rfl)) (pv 1) (by with_unfolding_all rfl)) (zb1 (za5 (zbh K rfl) (by rfl) T.b_all boot_all (pa_c (zbc ["sign"] [] (CompOk.of rfl (by rfl) (by rfl)) (by rfl) (zv8 (zch zvt (pv 0) (zcg zac) zev)) (λ_ _ _ _ _=>(za2 (i:=0) (show List.Nodup (["sign"]:List Str) by decide+kernel) (by rfl) (Or.inl (by rfl)))) (λ_ _ _ _ _=>zb5) (λ_ _ _ _ _=>(za8 zh3 (pv 0) (zaz (by rfl) T.g_FIGURES) (by with_unfolding_all rfl)))) zaa))))))),?_⟩;refine za3 [some x,some (.str l)] rfl ?_;trivial;refine⟨k,hk,by decide,?_⟩;cases hk with
 |str z =>
  have hz':=hz z rfl;have hl:=zix z;rw[show(!subT "str" "str")=false by decide];trivial;refine ite2 (λc=>?_) (λc=>?_)
  ·have c':=of_decide_eq_true c;subst c';exact q H (Same.refl H)
  have c':=of_decide_eq_false (y0z.mpr c);have ne:z.cps.toList≠[]:=λe=>c' (ext_toList e);refine⟨by have:=small1000 hz';omega,?_⟩;obtain⟨c0,r0,e0⟩:=List.exists_cons_of_ne_nil ne;have q':∀H',Same H H'->Q (.bl (decide (r0.length<=3)&&signIn c0 l&&r0.all λd=>signIn d FIGS)) H':=λH' g=>by
   have h:=q H' g;simp only[isNm,nameB,e0]at h;exact h
  rw[e0,y0a]at hl;refine ite2 (λc=>?_) (λc=>?_)
  ·have c2:=of_decide_eq_true c;have h:=q' H (Same.refl H);rw[show decide (r0.length<=3)=false by simp;omega,y14,y14]at h;exact h
  have c2:=of_decide_eq_false (y0z.mpr c);rw[show decide (r0.length<=3)=true by simp;omega,y1b]at q';refine⟨by have:=small1000 hz';omega,c0,by rw[e0];exact za1,?_⟩;refine ite2 (λc=>?_) (λc=>?_)
  ·rw[show signIn c0 l=true from c,y1b]at q';have es:(Txt.slice z (some 1) none).cps.toList=r0:=by
    rw[zm4,show((1:Int))=((1:Nat):Int)from rfl,zcv,e0];rfl
   have en:(Txt.slice z (some 1) none).cps.size=r0.length:=by rw[←es];simp
   refine⟨by have:=small1000 hz';omega,?_⟩;refine zxk (λD i ys σ H'=>Same H H'/\(∃v,σ=[v])/\ys=(r0.take i).map λd=>V.bl (signIn d FIGS)) (by rw[en];exact y1d (small1000 (by omega))) (λD hD=>⟨zba hD _,⟨none,rfl⟩,rfl⟩) ?_ ?_
   ·rintro D i ys σ H' d hD hi hd hD' hys ⟨g,⟨v,rfl⟩,rfl⟩;trivial;refine cstep (by rw[en];exact y1d (small1000 (by omega))) hi hD' hys ⟨λb o e=>?_,⟨_,rfl⟩,?_⟩
    ·rw[zan (zas e hD)];exact g b o e
    ·rw[en]at hi;have e1:r0[i]?=some d:=by rw[←es];simpa using hd
     rw[y1i,e1,y0r];rfl
   ·rintro D ys σ H' hD hD' hys ⟨g,_,rfl⟩;rw[en,y0s (y04 _)]at hD';refine⟨_,rfl,r0.map λd=>signIn d FIGS,.of (by rw[hD',y0t];rfl),?_⟩;have h:=q' H' g;rw[y32];exact h
  ·have h:=q' H (Same.refl H);rw[show signIn c0 l=false from y0z.mpr c,y14]at h;exact h
 |non=>exact q H (Same.refl H)
 |bl b=>exact q H (Same.refl H)
 |int i=>exact q H (Same.refl H)
 |lst e=>exact q H (Same.refl H)
 |tup e=>exact q H (Same.refl H)
 |dK e=>exact q H (Same.refl H)
abbrev s_is_place:Stmt:=top 18
theorem zi5:FnScope ["thing"] ["thing"] (defScope s_is_place):={}
theorem zq1(T:Txt K mg w tw ow fa cStandings cSayError cs)(d:Dfn K mg "is_place" s_is_place ["thing"])(C_is_letter_with_figures:Cal P w K mg base 1 "is_letter_with_figures" ["thing","letters"] zs8):Cal P w K mg base 2 "is_place" ["thing"] (zfj SMALL):=by
 refine d.cal zi5 (λvs H Q E h=>?_) (λf cdv A outer s H vs Q E hr h=>?_)
 ·obtain⟨x,k,rfl,_⟩:=h;rfl
 obtain⟨x,k,rfl,hk,hz,q⟩:=h;refine⟨_,(zad (zaj (zah C_is_letter_with_figures hr (by omega) (by rfl) (pa_c (pv 0) (pa_c (zaz (by rfl) T.g_SMALL_LETTERS) zaa))))),?_⟩;refine za3 [some x] rfl ?_;trivial;exact⟨x,SMALL,k,rfl,hk,hz,q⟩
abbrev s_is_set:Stmt:=top 19
theorem zm9:FnScope ["thing"] ["thing"] (defScope s_is_set):={}
theorem zwk(T:Txt K mg w tw ow fa cStandings cSayError cs)(d:Dfn K mg "is_set" s_is_set ["thing"])(C_is_letter_with_figures:Cal P w K mg base 1 "is_letter_with_figures" ["thing","letters"] zs8):Cal P w K mg base 2 "is_set" ["thing"] (zfj GREAT):=by
 refine d.cal zm9 (λvs H Q E h=>?_) (λf cdv A outer s H vs Q E hr h=>?_)
 ·obtain⟨x,k,rfl,_⟩:=h;rfl
 obtain⟨x,k,rfl,hk,hz,q⟩:=h;refine⟨_,(zad (zaj (zah C_is_letter_with_figures hr (by omega) (by rfl) (pa_c (pv 0) (pa_c (zaz (by rfl) T.g_GREAT_LETTERS) zaa))))),?_⟩;refine za3 [some x] rfl ?_;trivial;exact⟨x,GREAT,k,rfl,hk,hz,q⟩
abbrev s_is_name:Stmt:=top 20
theorem zlm:FnScope ["thing"] ["thing"] (defScope s_is_name):={}
theorem zxs(T:Txt K mg w tw ow fa cStandings cSayError cs)(d:Dfn K mg "is_name" s_is_name ["thing"])(C_is_place:Cal P w K mg base 2 "is_place" ["thing"] (zfj SMALL))(C_is_set:Cal P w K mg base 2 "is_set" ["thing"] (zfj GREAT)):Cal P w K mg base 3 "is_name" ["thing"] zp2:=by
 refine d.cal zlm (λvs H Q E h=>?_) (λf cdv A outer s H vs Q E hr h=>?_)
 ·obtain⟨x,rfl,_⟩:=h;rfl
 obtain⟨x,rfl,⟨⟨k,hk⟩,hz⟩,q⟩:=h;refine⟨_,(zad (zaj (ztt (zah C_is_place hr (by omega) (by rfl) (pa_c (pv 0) zaa)) (zb1 (zah C_is_set hr (by omega) (by rfl) (pa_c (pv 0) zaa)))))),?_⟩;refine za3 [some x] rfl ?_;trivial;refine⟨x,k,rfl,hk,hz,λH1 g1=>⟨_,rfl,ite2 (λc=>?_) (λc=>⟨x,k,rfl,hk.same g1,hz,λH2 g2=>?_⟩)⟩⟩
 ·have h:=q H1 g1;rw[show isName x=true by unfold isName;rw[c,Bool.true_or]]at h;exact h
 ·have h:=q H2 (g1.trans g2);rw[show isName x=isNm x GREAT by unfold isName;rw[y0z.mpr c,y3k]]at h;exact h
abbrev s_is_frame:Stmt:=top 21
theorem zi6:FnScope ["thing"] ["thing"] (defScope s_is_frame):={}
theorem zq7(T:Txt K mg w tw ow fa cStandings cSayError cs)(d:Dfn K mg "is_frame" s_is_frame ["thing"])(C_is_name:Cal P w K mg base 3 "is_name" ["thing"] zp2):Cal P w K mg base 4 "is_frame" ["thing"] zta:=by
 refine d.cal zi6 (λvs H Q E h=>?_) (λf cdv A outer s H vs Q E hr h=>?_)
 ·obtain⟨x,rfl,_⟩:=h;rfl
 obtain⟨x,rfl,⟨⟨k,hk⟩,hz⟩,hxs,q⟩:=h;refine⟨_,(zab (za0 (PW.pt (zdc (zcl (zbg (za5 zbv (by rfl) T.b_isinstance boot_isinstance (pa_c (pv 0) (pa_c (zb3 (v:=.ty "list") (by rfl) T.b_list boot_list (by rfl)) zaa))))) (zcq (zam zh4 (za5 (zat K) (by rfl) T.b_len boot_len (pa_c (pv 0) zaa)) (zaz (by rfl) T.g_MOST_NAMES) (nomark _))))) (zad (zaj zdw)) zap) (zad (zaj (zcb (za5 (zbh K rfl) (by rfl) T.b_all boot_all (pa_c (zbc ["name"] [] (CompOk.of rfl (by rfl) (by rfl)) (by rfl) (zbi K (pv 0)) (λ_ _ _ _ _=>(za2 (i:=0) (show List.Nodup (["name"]:List Str) by decide+kernel) (by rfl) (Or.inl (by rfl)))) (λ_ _ _ _ _=>zb5) (λ_ _ _ _ _=>(zah C_is_name hr (by omega) (by rfl) (pa_c (pv 0) zaa)))) zaa)) (zb1 (za8 zbb (za5 zhc (by rfl) T.b_len boot_len (pa_c (zew (zik rfl) (by rfl) T.b_set boot_set (pa_c (pv 0) zaa)) zaa)) (za5 (zat K) (by rfl) T.b_len boot_len (pa_c (pv 0) zaa)) (nomark _))))))),?_⟩;refine za3 [some x] rfl ?_;trivial;refine⟨k,hk,by decide,?_⟩;cases hk with
 |lst e =>
  rename_i a xs;obtain⟨hl,hy⟩:=hxs a xs rfl e;have hS:SqL K H a xs:=.of e;have ef:frB H (.ref a)=frameB xs:=by simp only[frB,e]
  rw[ef]at q;refine iteF ⟨a,rfl,xs,.inl hS,?_⟩;refine ite2 (λc=>?_) (λc=>⟨a,rfl,⟨xs,hS⟩,?_⟩)
  ·have c':=of_decide_eq_true c;have h:=q H (Same.refl H);rw[show frameB xs=false by unfold frameB;rw[decide_eq_false (by omega),y14,y14]]at h;exact h
  have c':=of_decide_eq_false (y0z.mpr c);have ef2:frameB xs=(xs.all isName&&decide xs.Nodup):=by unfold frameB;rw[decide_eq_true (by omega),y1b]
  rw[ef2]at q;refine zg9 (K:=K) (a:=a) (xs:=xs) (λD i ys σ H'=>Same H H'/\(∃v,σ=[v])/\ys=(xs.take i).map λy=>V.bl (isName y)) (zaf hl) (λD hD=>⟨zba hD _,⟨none,rfl⟩,rfl⟩) (λD i ys σ H' _ _ _ ⟨g,_⟩=>g.seq hS) ?_ ?_
  ·rintro D i ys σ H' y hD hi hx hD' hys ⟨g,⟨v,rfl⟩,rfl⟩;trivial;refine⟨y,rfl,(hy y (y0g hx)).same g,λH2 g2=>?_⟩;refine cstep (zaf hl) hi (g2 _ _ hD') hys ⟨λb o e=>?_,⟨_,rfl⟩,?_⟩
   ·rw[zan (zas e hD)];exact g2 b o (g b o e)
   ·rw[y1i,hx,y0r];rfl
  ·rintro D ys σ H' hD hD' hys ⟨g,_,rfl⟩;rw[y0s (y04 _)]at hD';refine⟨D,rfl,xs.map isName,.of (by rw[hD',y0t];rfl),?_⟩;rw[y32,show(id∘isName)=isName from rfl];refine ite2 (λca=>?_) (λca=>?_)
   ·obtain⟨ks,ek,nk⟩:=zf5 ca;have lk:ks.length=xs.length:=by rw[ek,y00]
    refine⟨a,rfl,ks,ek▸g.seq hS,by omega,λb H3 n3=>⟨ks,n3.at',by omega,a,rfl,xs,.inl (n3.g.seq (g.seq hS)),?_⟩⟩;have h:=q _ (g.trans n3.g);rw[ca,y1b]at h;have ed:decide xs.Nodup=decide (((onceK [] ks).length:Int)=(xs.length:Int)):=by
     refine decide_eq_decide.mpr ?_;rw[nk,←znz,lk];omega
    rw[ed]at h;exact h
   ·have h:=q H' g;rw[y0z.mpr ca,y14]at h;exact h
 |non=>exact q H (Same.refl H)
 |bl b=>exact q H (Same.refl H)
 |int i=>exact q H (Same.refl H)
 |str z=>exact q H (Same.refl H)
 |tup e =>
  have h:=q H (Same.refl H);simp only[frB,e]at h;exact h
 |dK e =>
  have h:=q H (Same.refl H);simp only[frB,e]at h;exact h
abbrev s_is_of_sort:Stmt:=top 29
theorem zgp:FnScope ["thing","sort","deepest"] ["thing","sort","deepest"] (defScope s_is_of_sort):={}
theorem zn3{n k:Nat}(hk:3<=k)(T:Txt K mg w tw ow fa cStandings cSayError cs)(d:Dfn K mg "is_of_sort" s_is_of_sort ["thing","sort","deepest"])(C_is_place:Cal P w K mg base 2 "is_place" ["thing"] (zfj SMALL))(C_is_set:Cal P w K mg base 2 "is_set" ["thing"] (zfj GREAT))(C_is_name:Cal P w K mg base 3 "is_name" ["thing"] zp2)
  (C_has_form:Cal P w K mg base k "has_form" ["thing","deepest"] (zgj n)):Cal P w K mg base (k+1) "is_of_sort" ["thing","sort","deepest"] (ziy n):=by
 refine d.cal zgp (λvs H Q E h=>?_) (λf cdv A outer s H vs Q E hr h=>?_)
 ·obtain⟨v,s,rfl,_⟩:=h;rfl
 obtain⟨v,so,rfl,ex,q⟩:=h;obtain⟨⟨kd,hkd⟩,hz⟩:=ex.thing;have e1:∀b:Str,decide (V.str so=V.str b)=decide (so=b):=λb=>by simp
 refine⟨_,(zab (za0 (zam zbb (pv 1) zae (nomark _)) (zad (zaj (zah C_is_place hr (by omega) (by rfl) (pa_c (pv 0) zaa)))) zap) (zab (za0 (zam zbb (pv 1) zae (nomark _)) (zad (zaj (zah C_is_set hr (by omega) (by rfl) (pa_c (pv 0) zaa)))) zap) (zab (za0 (zam zbb (pv 1) zae (nomark _)) (zad (zaj (zah C_is_name hr (by omega) (by rfl) (pa_c (pv 0) zaa)))) zap) (zad (zaj (zah C_has_form hr (by omega) (by rfl) (pa_c (pv 0) (pa_c (pv 2) zaa)))))))),?_⟩;refine za3 [some v,some (.str so),some (.int n)] rfl ?_;trivial;unfold sortB at q;refine ite2 (λc=>?_) λc=>?_
 ·rw[if_pos (of_decide_eq_true c)]at q;exact⟨v,kd,rfl,hkd,hz,q⟩
 rw[if_neg (of_decide_eq_false (y0z.mpr c))]at q;refine ite2 (λc=>?_) λc=>?_
 ·rw[if_pos (of_decide_eq_true c)]at q;exact⟨v,kd,rfl,hkd,hz,q⟩
 rw[if_neg (of_decide_eq_false (y0z.mpr c))]at q;refine ite2 (λc=>?_) λc=>?_
 ·rw[if_pos (of_decide_eq_true c)]at q;exact⟨v,rfl,⟨⟨kd,hkd⟩,hz⟩,q⟩
 rw[if_neg (of_decide_eq_false (y0z.mpr c))]at q;exact⟨v,rfl,ex,q⟩
abbrev s_has_form:Stmt:=top 30
theorem sc_has_form:FnScope ["thing","deepest","sorts"] ["thing","deepest"] (defScope s_has_form):={}
theorem zn7{n k:Nat}(T:Txt K mg w tw ow fa cStandings cSayError cs)(d:Dfn K mg "has_form" s_has_form ["thing","deepest"])(C_is_of_sort:Cal P w K mg base k "is_of_sort" ["thing","sort","deepest"] (sp_sort' n)):Cal P w K mg base (k+1) "has_form" ["thing","deepest"] (zgj n):=by
 refine d.cal sc_has_form (λvs H Q E h=>?_) (λf cdv A outer s H vs Q E hr h=>?_)
 ·obtain⟨v,rfl,_⟩:=h;rfl
 obtain⟨v,rfl,ex,q⟩:=h;refine⟨_,(zab (za0 (PW.pt (zdc (zam zbb (pv 1) zac (nomark _)) (zdc (zcl (zbg (za5 zbv (by rfl) T.b_isinstance boot_isinstance (pa_c (pv 0) (pa_c (zb3 (v:=.ty "tuple") (by rfl) T.b_tuple boot_tuple (by rfl)) zaa))))) (zcq (zam zbb (za5 (zat K) (by rfl) T.b_len boot_len (pa_c (pv 0) zaa)) zac (nomark _)))))) (zad (zaj zdw)) zap) (zab (za0 (PW.pt (zdc (zcl (zbg (za5 zbv (by rfl) T.b_isinstance boot_isinstance (pa_c (zar (zal K) (pv 0) zac (λ_ _=>rfl)) (pa_c (zb3 (v:=.ty "str") (by rfl) T.b_str boot_str (by rfl)) zaa))))) (zcq (zam (zh0 K w) (zar (zal K) (pv 0) zac (λ_ _=>rfl)) (zaz (by rfl) T.g_FORMS) (by with_unfolding_all rfl))))) (zad (zaj zdw)) zap) (zab (zav (i:=2) sc_has_form.nd rfl (Or.inl rfl) (zar (zw8 K w) (zaz (by rfl) T.g_FORMS) (zar (zal K) (pv 0) zac (λ_ _=>rfl)) (λ_ _=>rfl))) (zab (za0 (zam znt (za5 (zat K) (by rfl) T.b_len boot_len (pa_c (pv 0) zaa)) (zaw zf1 zac (za5 (zat K) (by rfl) T.b_len boot_len (pa_c (pv 2) zaa))) (nomark _)) (zad (zaj zdw)) zap) (zad (zaj (za5 (zbh K rfl) (by rfl) T.b_all boot_all (pa_c (zbc ["part","sort"] [(1,"deepest")] (CompOk.of rfl (by rfl) (by rfl)) (by rfl) (ztq K (by rfl) T.b_zip (pa_c (zch (zeh K) (pv 0) (zcg zac) zev) (pa_c (pv 2) zaa))) (λ_ _ _ _ _=>(zjc K (n:=2) rfl (zc4 (za2 (i:=0) (show List.Nodup (["part","sort","deepest"]:List Str) by decide+kernel) (by rfl) (Or.inl (by rfl))) (zc4 (za2 (i:=1) (show List.Nodup (["part","sort","deepest"]:List Str) by decide+kernel) (by rfl) (Or.inl (by rfl))) zjb)))) (λ_ _ _ _ _=>zb5) (λ_ _ _ _ _=>(zah C_is_of_sort hr (by omega) (by rfl) (pa_c (pv 0) (pa_c (pv 1) (pa_c (zaw zey (pv 2) zac) zaa)))))) zaa)))))))),?_⟩;refine za3 [some v,some (.int n),none] rfl ?_;trivial;cases n with
 |zero =>
  exact itT (show((0:Nat):Int)=0 from rfl) (q H (Same.refl H))
 |succ n =>
 rw[decide_eq_false (show¬((n+1:Nat):Int)=0 by omega)];ac_rfl;obtain⟨⟨⟨kd,hkd⟩,hz⟩,hin⟩:=id ex;refine zk ?_;refine iteF ⟨kd,hkd,by decide,?_⟩;cases hkd with
 |tup e =>
  rename_i a xs;obtain⟨hl,hx⟩:=hin a xs rfl e;have hS:SqT K H a xs:=.of e;refine iteF ⟨a,rfl,xs,.inr hS,?_⟩;cases xs with
  |nil =>
   have h:=q H (Same.refl H);simp only[formH,e]at h;exact iteT h
  |cons x0 r =>
  rw[decide_eq_false (show¬(((x0::r).length:Nat):Int)=0 by rw[y0a];omega)];ac_rfl;obtain⟨⟨k0,hk0⟩,_⟩:=(hx x0 y0c).thing;refine zk ?_;refine iteF (ixm hS za1 ⟨k0,hk0,by decide,?_⟩);cases hk0 with
  |str wd =>
   have q':∀H',Same H H'->Q (.bl (match forms.lookup wd with|some ss=>zipB (formH H n) r ss|none=>false)) H':=λH' g=>by
    have h:=q H' g;simp only[formH,e]at h;exact h
   obtain⟨fm,hd,hf⟩:=T.f_FORMS.ex;refine iteF (ixm hS za1 ⟨wd,rfl,fm,hd,?_⟩);rcases hf wd with⟨ss,b,hls,hfw,hst⟩|⟨hls,hfw⟩
   ·rw[hls]at q';replace q':∀H',Same H H'->Q (.bl (zipB (formH H n) r ss)) H':=q';rw[hfw];refine iteF (ixm hS za1 ⟨wd,rfl,fm,hd,.ref b,hfw,a,rfl,_,.inr hS,b,rfl,_,.inr (hst H),?_⟩);rw[y0a,y00];by_cases hlen:r.length=ss.length
    ·rw[decide_eq_true (show(((r.length+1:Nat)):Int)=1+(ss.length:Int) by omega)];refine iteF ⟨a,rfl,_,hS,zhr (by simp),λp H1 n1=>?_⟩;have ec:cutL (V.str wd::r) (some 1) none=r:=by
      rw[show((1:Int))=((1:Nat):Int)from rfl,zcv];rfl
     rw[ec]at n1;have lr:r.length<=1000:=by rw[y0a]at hl;omega
     refine⟨b,rfl,⟨_,.of n1.at'⟩,⟨_,hst H1⟩,zxh (K:=K) (a:=p) (b:=b) (xs:=r) (ys:=ss.map V.str) (λσ=>∃v1 v2,σ=[v1,v2,some (.int ((n+1:Nat):Int))]) (λi=>.bl (sortB (formH H n) (r.getD i .non) (ss.getD i ""))) lr (by rw[y00];exact hlen) (.of n1.at') (hst H1) ⟨_,_,rfl⟩ ?_ ?_⟩
     ·rintro D i σ G G' pp x y ex1 ey1 g hD hD' ⟨v1,v2,rfl⟩ nw;rw[y0w]at ey1;obtain⟨sx,es,rfl⟩:=y1r.mp ey1;have hi:i<r.length:=(y0f.mp ex1).1;have mx:x∈r:=y0g ex1;have gx:Same H G':=n1.g.trans (g.trans nw.g);have exx:=hx x (y09 _ mx);trivial;refine⟨_,.of nw.at',rfl,_,_,rfl,_,_,rfl,rfl,?_⟩;have en:(((n+1:Nat):Int)-1)=(n:Int):=by omega
      rw[en];refine⟨x,sx,rfl,exx.same gx,λG2 g2=>zjr lr hi hD (g2 _ _ (nw.g _ _ hD')) (g.trans (nw.g.trans g2)) ⟨_,_,rfl⟩ ?_⟩;have e1:r.getD i .non=x:=by rw[y1c,ex1];rfl
      have e2:ss.getD i ""=sx:=by rw[y1c,es];rfl
      rw[e1,e2];unfold sortB;rw[zb0 gx exx]
     ·intro D G hD g eD;refine⟨D,rfl,(List.range r.length).map λi=>sortB (formH H n) (r.getD i .non) (ss.getD i ""),.of (by rw[eD,y0t];rfl),?_⟩;have h:=q' G (n1.g.trans g);rw[zfr hlen]at h;rw[y32];exact h
    ·rw[decide_eq_false (show¬(((r.length+1:Nat)):Int)=1+(ss.length:Int) by omega)];have h:=q' H (Same.refl H);rw[zj3 hlen]at h;exact iteT h
   ·rw[hls]at q';rw[hfw];exact iteT (q' H (Same.refl H))
  |_ =>
   have h:=q H (Same.refl H);simp only[formH,e]at h;exact iteT h
 |non=>exact iteT (q H (Same.refl H))
 |bl b=>exact iteT (q H (Same.refl H))
 |int i=>exact iteT (q H (Same.refl H))
 |str z=>exact iteT (q H (Same.refl H))
 |lst e =>
  have h:=q H (Same.refl H);simp only[formH,e]at h;exact iteT h
 |dK e =>
  have h:=q H (Same.refl H);simp only[formH,e]at h;exact iteT h
theorem zlb(T:Txt K mg w tw ow fa cStandings cSayError cs)(d1:Dfn K mg "is_of_sort" s_is_of_sort ["thing","sort","deepest"])(d2:Dfn K mg "has_form" s_has_form ["thing","deepest"])(C1:Cal P w K mg base 2 "is_place" ["thing"] (zfj SMALL))(C2:Cal P w K mg base 2 "is_set" ["thing"] (zfj GREAT))(C3:Cal P w K mg base 3 "is_name" ["thing"] zp2):
  ∀n,Cal P w K mg base (2*n+4) "has_form" ["thing","deepest"] (zgj n)/\Cal P w K mg base (2*n+5) "is_of_sort" ["thing","sort","deepest"] (ziy n)
 |0=>by
  have c:=zn7 (n:=0) T d2 ((d1.never (sp:=sp_sort' 0) λvs H Q E h=>h).mono (y10 3):Cal P w K mg base 3 _ _ _);exact⟨c,zn3 (by decide) T d1 C1 C2 C3 c⟩
 |n+1=>by
  have ih:=zlb T d1 d2 C1 C2 C3 n;have c:=zn7 (n:=n+1) T d2 ih.2;exact⟨c,zn3 (by omega) T d1 C1 C2 C3 c⟩
abbrev s_inner_sayings:Stmt:=top 31
theorem zed:FnScope ["saying"] ["saying"] (defScope s_inner_sayings):={}
theorem zq5(T:Txt K mg w tw ow fa cStandings cSayError cs)(d:Dfn K mg "inner_sayings" s_inner_sayings ["saying"]):Cal P w K mg base 1 "inner_sayings" ["saying"] zcf:=by
 refine d.cal zed (λvs H Q E h=>?_) (λf cdv A outer s H vs Q E hr h=>?_)
 ·obtain⟨a,xs,rfl,_⟩:=h;rfl
 obtain⟨a,xs,rfl,e,hl,hk,q⟩:=h;refine⟨_,(zad (zaj (zbc ["thing"] [] (CompOk.of rfl (by rfl) (by rfl)) (by rfl) (zcr K (pv 0)) (λ_ _ _ _ _=>(za2 (i:=0) (show List.Nodup (["thing"]:List Str) by decide+kernel) (by rfl) (Or.inl (by rfl)))) (λ_ _ _ _ _=>(zhz (zbg (za5 zbv (by rfl) T.b_isinstance boot_isinstance (pa_c (pv 0) (pa_c (zb3 (v:=.ty "tuple") (by rfl) T.b_tuple boot_tuple (by rfl)) zaa)))))) (λ_ _ _ _ _=>(pv 0))))),?_⟩;refine za3 [some (.ref a)] rfl ?_;trivial;have hS:SqT K H a xs:=.of e;refine⟨⟨xs,hS⟩,zxj (λσ=>∃v,σ=[v]) (isT H) id hl hS ⟨_,rfl⟩ ?_ ?_⟩
 ·rintro D i σ H' x hi hm hx g hD hD' ⟨v,rfl⟩;obtain⟨k,hk'⟩:=hk x hm;trivial;refine⟨k,hk'.same g,by decide,?_⟩;rw[Kd.isT hk'];cases ht:isT H x with
  |true=>exact iteT (zg7 hl hx ht hD hD' g ⟨_,rfl⟩ rfl)
  |false=>exact iteF (zg8 hx ht hD' g ⟨_,rfl⟩)
 ·intro D H' hD g hD';rw[y35]at hD';exact q D H' hD g hD'
abbrev s_is_bare:Stmt:=top 32
theorem zln:FnScope ["saying"] ["saying"] (defScope s_is_bare):={}
theorem zn6(T:Txt K mg w tw ow fa cStandings cSayError cs)(d:Dfn K mg "is_bare" s_is_bare ["saying"])(C_inner_sayings:Cal P w K mg base 1 "inner_sayings" ["saying"] zcf):Cal P w K mg base 2 "is_bare" ["saying"] zdi:=by
 refine d.cal zln (λvs H Q E h=>?_) (λf cdv A outer s H vs Q E hr h=>?_)
 ·obtain⟨v,s,rfl,_⟩:=h;rfl
 obtain⟨v,sy,rfl,r,q⟩:=h;have hu:=zib hr 8 (by decide);refine⟨_,(zad (zaj (za8 (znw hu) (zah C_inner_sayings hr (by omega) (by rfl) (pa_c (pv 0) zaa)) (zaq zaa) (nomark _)))),?_⟩;refine za3 [some v] rfl ?_;trivial;ac_rfl;obtain⟨a,xs,rfl,e,hl,hk,hp⟩:=r.items;refine zk ?_;refine⟨a,xs,rfl,e,by omega,hk,λD H1 hD g1 eD=>⟨by decide,λp H2 n2=>⟨_,(zkl (k:=0) (.of (n2.g _ _ eD)) n2.lst).up (by decide),?_⟩⟩⟩;have h:=q H2 (g1.trans n2.g);have eb:sy.isBare=decide (xs.filter (isT H)=[]):=by
  generalize xs.filter (isT H)=ys at hp;cases sy with
  |bare w n m=>cases hp;rfl
  |neg s=>cases hp;rfl
  |two w s t=>cases hp;rfl
  |qu w n s=>cases hp;rfl
 rw[eb]at h;exact h
abbrev s_count_parts:Stmt:=top 33
theorem zfm:FnScope ["saying"] ["saying"] (defScope s_count_parts):={}
theorem zq8{n:Nat}(T:Txt K mg w tw ow fa cStandings cSayError cs)(d:Dfn K mg "count_parts" s_count_parts ["saying"])(C_inner_sayings:Cal P w K mg base 1 "inner_sayings" ["saying"] zcf)(C_count_parts:Cal P w K mg base (n+1) "count_parts" ["saying"] (zeg n)):Cal P w K mg base (n+1+1) "count_parts" ["saying"] (zeg (n+1)):=by
 refine d.cal zfm (λvs H Q E h=>?_) (λf cdv A outer s H vs Q E hr h=>?_)
 ·obtain⟨v,s,rfl,_⟩:=h;rfl
 obtain⟨v,sy,rfl,r,hd,q⟩:=h;refine⟨_,(zad (zaj (zaw zf1 zac (za5 (zds K rfl) (by rfl) T.b_sum boot_sum (pa_c (zbc ["inner"] [] (CompOk.of rfl (by rfl) (by rfl)) (by rfl) (zbi K (zah C_inner_sayings hr (by omega) (by rfl) (pa_c (pv 0) zaa))) (λ_ _ _ _ _=>(za2 (i:=0) (show List.Nodup (["inner"]:List Str) by decide+kernel) (by rfl) (Or.inl (by rfl)))) (λ_ _ _ _ _=>zb5) (λ_ _ _ _ _=>(zah C_count_parts hr (by omega) (by rfl) (pa_c (pv 0) zaa)))) zaa))))),?_⟩;refine za3 [some v] rfl ?_;trivial;obtain⟨a,xs,rfl,e,hl,hk,hp⟩:=r.items;refine⟨a,xs,rfl,e,by omega,hk,λD1 H1 hD1 g1 e1=>⟨D1,rfl,⟨_,.of e1⟩,?_⟩⟩;have hpl:=Paired.len hp;have l3:(xs.filter (isT H)).length<=1000:=y15 (y1l _ _) (by omega);refine zpl (K:=K) (a:=D1) (xs:=xs.filter (isT H)) (λσ=>∃v,σ=[v]) (λi=>.int (((sy.inner[i]?).map Sy.parts).getD 0)) l3 (.of e1) ⟨_,rfl⟩ ?_ ?_
 ·rintro D i σ H' x hi hx g hD hD' ⟨v,rfl⟩;obtain⟨t,et,rt⟩:=Paired.at hp hx;have dt:=(ze5 (y0g et)).1;trivial;refine⟨x,t,rfl,rt.same (g1.trans g),by omega,λH2 g2=>zjr l3 hi hD (g2 _ _ hD') (g.trans g2) ⟨_,rfl⟩ (by rw[et];rfl)⟩
 ·intro D H' hD g eD;refine⟨D,rfl,(List.range (xs.filter (isT H)).length).map λi=>(((sy.inner[i]?).map Sy.parts).getD 0:Nat),.of (by rw[eD,y0t];rfl),?_⟩;have h:=q H' (g1.trans g);have es:(1:Int)+((List.range (xs.filter (isT H)).length).map λi=>((((sy.inner[i]?).map Sy.parts).getD 0:Nat):Int)).sum=(sy.parts:Int):=by
   rw[hpl];cases sy with
   |bare w n m=>rfl
   |neg s=>show(1:Int)+((s.parts:Int)+0)=((s.parts+1:Nat):Int);omega
   |two w s t=>show(1:Int)+((s.parts:Int)+((t.parts:Int)+0))=((s.parts+t.parts+1:Nat):Int);omega
   |qu w n s=>show(1:Int)+((s.parts:Int)+0)=((s.parts+1:Nat):Int);omega
  rw[es];exact h
theorem ziu(T:Txt K mg w tw ow fa cStandings cSayError cs)(d:Dfn K mg "count_parts" s_count_parts ["saying"])(C1:Cal P w K mg base 1 "inner_sayings" ["saying"] zcf):∀n,Cal P w K mg base (n+1) "count_parts" ["saying"] (zeg n)
 |0=>(d.never λvs H Q E h=>by obtain⟨v,s,_,_,hd,_⟩:=h;exact absurd hd (y1s _)).mono (by decide)
 |n+1=>zq8 T d C1 (ziu T d C1 n)
abbrev s_is_any_saying:Stmt:=top 34
theorem zec:FnScope ["thing"] ["thing"] (defScope s_is_any_saying):={}
theorem zob(T:Txt K mg w tw ow fa cStandings cSayError cs)(d:Dfn K mg "is_any_saying" s_is_any_saying ["thing"])(C_has_form:Cal P w K mg base 28 "has_form" ["thing","deepest"] (zgj 12))(C_count_parts:Cal P w K mg base 14 "count_parts" ["saying"] (zeg 13)):Cal P w K mg base 29 "is_any_saying" ["thing"] zhq:=by
 refine d.cal zec (λvs H Q E h=>?_) (λf cdv A outer s H vs Q E hr h=>?_)
 ·obtain⟨v,rfl,_⟩:=h;rfl
 obtain⟨v,rfl,ex,q⟩:=h;refine⟨_,(zad (zaj (zcb (zah C_has_form hr (by omega) (by rfl) (pa_c (pv 0) (pa_c (zaz (by rfl) T.g_DEEPEST) zaa))) (zb1 (za8 zwg (zah C_count_parts hr (by omega) (by rfl) (pa_c (pv 0) zaa)) (zaz (by rfl) T.g_MOST_PARTS) (nomark _)))))),?_⟩;refine za3 [some v] rfl ?_;trivial;refine⟨v,rfl,ex,λH1 g1=>⟨_,rfl,ite2 (λc=>?_) λc=>q false H1 g1 ⟨λz=>(by cases z),λ⟨s,r,hw,hd,_⟩=>absurd (zdn r hw hd) c⟩⟩⟩;obtain⟨sy,r,hw,hd⟩:=zby c;refine⟨v,sy,rfl,r.same g1,by omega,λH2 g2=>⟨_,rfl,q _ H2 (g1.trans g2) ⟨λz=>⟨sy,r,hw,hd,?_⟩,λ⟨s,r',_,_,hp⟩=>?_⟩⟩⟩
 ·have:=of_decide_eq_true z;omega
 ·rw[r.det r'];exact decide_eq_true (by omega)
abbrev s_is_let:Stmt:=top 35
theorem zna:FnScope ["saying","known","barred","most"] ["saying","known","barred","most"] (defScope s_is_let):={}
theorem zwl{n:Nat}{bw:List Str}(T:Txt K mg w tw ow fa cStandings cSayError cs)(d:Dfn K mg "is_let" s_is_let ["saying","known","barred","most"])(C_inner_sayings:Cal P w K mg base 1 "inner_sayings" ["saying"] zcf)(C_is_bare:Cal P w K mg base 2 "is_bare" ["saying"] zdi)
  (C_is_let:Cal P w K mg base (n+2) "is_let" ["saying","known","barred","most"] (zhm K bw n)):Cal P w K mg base (n+1+2) "is_let" ["saying","known","barred","most"] (zhm K bw (n+1)):=by
 refine d.cal zna (λvs H Q E h=>?_) (λf cdv A outer s H vs Q E hr h=>?_)
 ·obtain⟨v,a,ba,s,tl,mo,rfl,_⟩:=h;rfl
 obtain⟨v,a,ba,sy,tl,mo,rfl,r,hd,ea,hl,hb,q⟩:=h;refine⟨_,(zab (za0 (PW.pt (zdc (zam zh4 (za5 (zat K) (by rfl) T.b_len boot_len (pa_c (pv 1) zaa)) (pv 3) (nomark _)) (zcq (zam (zay K) (zar (zal K) (pv 0) zac (λ_ _=>rfl)) (pv 2) (by with_unfolding_all rfl))))) (zad (zaj zdw)) zap) (zab (za0 (zam (zay K) (zar (zal K) (pv 0) zac (λ_ _=>rfl)) (zaz (by rfl) T.g_TELLING_WORDS) (by with_unfolding_all rfl)) (zad (zaj (zcb (za8 (zbx K) (zar (zal K) (pv 0) zac (λ_ _=>rfl)) (pv 1) (by with_unfolding_all rfl)) (zb1 (zah C_is_let hr (by omega) (by rfl) (pa_c (zar (zal K) (pv 0) zac (λ_ _=>rfl)) (pa_c (zaw zbr (pv 1) (zaq (pa_c (zar (zal K) (pv 0) zac (λ_ _=>rfl)) zaa))) (pa_c (pv 2) (pa_c (pv 3) zaa))))))))) zap) (zab (za0 (zbg (zah C_is_bare hr (by omega) (by rfl) (pa_c (pv 0) zaa))) (zad (zaj (za5 (zbh K rfl) (by rfl) T.b_all boot_all (pa_c (zbc ["name"] [(1,"known")] (CompOk.of rfl (by rfl) (by rfl)) (by rfl) (zcr K (zch (zeh K) (pv 0) (zcg zac) zev)) (λ_ _ _ _ _=>(za2 (i:=0) (show List.Nodup (["name","known"]:List Str) by decide+kernel) (by rfl) (Or.inl (by rfl)))) (λ_ _ _ _ _=>zb5) (λ_ _ _ _ _=>(za8 (zay K) (pv 0) (pv 1) (by with_unfolding_all rfl)))) zaa)))) zap) (zad (zaj (za5 (zbh K rfl) (by rfl) T.b_all boot_all (pa_c (zbc ["inner"] [(1,"known"),(2,"barred"),(3,"most")] (CompOk.of rfl (by rfl) (by rfl)) (by rfl) (zbi K (zah C_inner_sayings hr (by omega) (by rfl) (pa_c (pv 0) zaa))) (λ_ _ _ _ _=>(za2 (i:=0) (show List.Nodup (["inner","known","barred","most"]:List Str) by decide+kernel) (by rfl) (Or.inl (by rfl)))) (λ_ _ _ _ _=>zb5) (λ_ _ _ _ _=>(zah C_is_let hr (by omega) (by rfl) (pa_c (pv 0) (pa_c (pv 1) (pa_c (pv 2) (pa_c (pv 3) zaa))))))) zaa))))))),?_⟩;refine za3 [some v,some (.ref a),some (.ref ba),some (.int mo)] rfl ?_;trivial;rw[zut]at q;refine⟨_,.inl (.of ea),ite2 (λc=>?_) λc=>?_⟩
 ·have c':=of_decide_eq_true c;rw[y00]at c';have h:=q H (Same.refl H);rw[decide_eq_false (by omega),y14,y14]at h;exact h
 have c':=of_decide_eq_false (y0z.mpr c);rw[y00]at c';rw[decide_eq_true (by omega),y1b]at q;have tw':=T.t_TELLING_WORDS H;ac_rfl;obtain⟨p0,rest,ev,e0⟩:∃p rest,v=.ref p/\H p=some (.tup (.str (wordOf sy)::rest)):=by
  cases r with
  |bare hw e=>exact⟨_,_,rfl,e⟩
  |neg e hx=>exact⟨_,_,rfl,e⟩
  |two hw e h1 h2=>exact⟨_,_,rfl,e⟩
  |qu hw e hx=>exact⟨_,_,rfl,e⟩
 refine zk ?_;subst ev;refine ixm (.of e0) za1 ⟨_,.inr (hb H),rfl,zcs bw,?_⟩;rw[zb7];by_cases hwb:wordOf sy∈bw
 ·rw[decide_eq_true hwb];have h:=q H (Same.refl H);rw[decide_eq_false (λz=>z hwb),y14]at h;exact iteT h
 rw[decide_eq_false hwb];rw[decide_eq_true hwb,y1b]at q;refine iteF (ixm (.of e0) za1 ⟨_,.inr tw',rfl,rfl,?_⟩);have other:(∀w n t,sy ≠ .qu w n t)->sy.isBare=false->∀H1,Same H H1->zcf [.ref p0] H1 (λx H1=>∃a_1,x=V.ref a_1/\(∃xs,SqL K H1 a_1 xs)/\
   cBody ["inner"] [(1,"known"),(2,"barred"),(3,"most")] (gName 0) tYes (tCall (zhm K bw n) [] E0 (tCons (tVar 0) (tCons (tVar 1) (tCons (tVar 2) (tCons (tVar 3) tNil)))))
    [some (.ref p0),some (V.ref a),some (V.ref ba),some (V.int mo)] (λx H1=>∃p,x=V.ref p/\∃x,SqL K H1 p (List.map V.bl x)/\Q (V.bl (x.all id)) H1) (Itl K a_1) H1) E0:=by
  intro nq hbare H1 g1;ac_rfl;obtain⟨p1,xs,ev',e,hl3,hk,pr⟩:=r.items;refine zk ?_;cases ev';rw[zl2 nq hbare]at q;have eis:xs.filter (isT H1)=xs.filter (isT H):=List.filter_congr λy hy=>by
   obtain⟨k,z⟩:=hk y hy;rw[←Kd.isT z,←Kd.isT (z.same g1)]
  have hpl:=Paired.len pr;have l3:(xs.filter (isT H)).length<=1000:=y15 (y1l _ _) (by omega);refine⟨p0,xs,rfl,g1 _ _ e,by omega,λy hy=>let⟨k,z⟩:=hk y hy;⟨k,z.same g1⟩,λD1 H2 hD1 g2 e2=>⟨D1,rfl,⟨_,.of e2⟩,?_⟩⟩;rw[eis]at e2;have g12:=g1.trans g2;refine zpl (K:=K) (a:=D1) (xs:=xs.filter (isT H)) (λσ=>∃v,σ=[v,some (V.ref a),some (V.ref ba),some (V.int mo)]) (λi=>.bl (((sy.inner[i]?).map (letB bw mo tl)).getD true)) l3 (.of e2) ⟨_,rfl⟩ ?_ ?_
  ·rintro D i σ H' x hi hx g hD hD' ⟨v,rfl⟩;obtain⟨t,et,rt⟩:=Paired.at pr hx;have dt:=(ze5 (y0g et)).1;have gx:=g12.trans g;trivial;exact⟨x,a,ba,t,tl,mo,rfl,rt.same gx,by omega,gx _ _ ea,by omega,hb,λH3 g3=>zjr l3 hi hD (g3 _ _ hD') (g.trans g3) ⟨_,rfl⟩ (by rw[et];rfl)⟩
  ·intro D H' hD g eD;refine⟨D,rfl,(List.range (xs.filter (isT H)).length).map λi=>((sy.inner[i]?).map (letB bw mo tl)).getD true,.of (by rw[eD,y0t];rfl),?_⟩;rw[hpl,zcx];exact q H' (g12.trans g)
 cases r with
 |qu hw e hx =>
  rename_i wd nm x t;rw[show wordOf (Sy.qu wd nm t)=wd from rfl,zmp wd hw];replace q:∀H',Same H H'->Q (.bl (decide (nm∉tl)&&letB bw mo (tl++[nm]) t)) H':=q;have dn:=zrx wd nm t;refine iteT (ixm (.of e) (zak (j:=1) rfl) ⟨_,.inl (.of ea),rfl,zcs tl,?_⟩);rw[zb7];by_cases hn:nm∈tl
  ·rw[decide_eq_true hn];have h:=q H (Same.refl H);rw[decide_eq_false (λz=>z hn),y14]at h;exact iteF h
  rw[decide_eq_false hn];rw[decide_eq_true hn,y1b]at q;refine iteT (ixm (.of e) (zak (j:=2) rfl) (ixm (.of e) (zak (j:=1) rfl) (mkT λp1 H1 n1=>⟨_,n1.g _ _ ea,_,n1.at',zaf (by rw[y00,y16];omega),λp2 H2 n2=>?_⟩)));have g2:=n1.g.trans n2.g;exact⟨x,p2,ba,t,tl++[nm],mo,rfl,hx.same g2,by omega,by rw[n2.at',y0r];rfl,by rw[y06,y16];omega,hb,λH3 g3=>q H3 (g2.trans g3)⟩
 |neg e hx =>
  rw[show wordOf (Sy.neg _)=("not":Str)from rfl,zra];exact iteF ⟨_,_,rfl,.neg e hx,λH1 g1=>⟨_,rfl,iteF (other (λ_ _ _ z=>by cases z) rfl H1 g1)⟩⟩
 |two hw e h1 h2 =>
  rename_i wd x y t1 t2;rw[show wordOf (Sy.two wd t1 t2)=wd from rfl,zos wd hw];exact iteF ⟨_,_,rfl,.two hw e h1 h2,λH1 g1=>⟨_,rfl,iteF (other (λ_ _ _ z=>by cases z) rfl H1 g1)⟩⟩
 |bare hw e =>
  rename_i wd nm m;rw[show wordOf (Sy.bare wd nm m)=wd from rfl,zpq wd hw];replace q:∀H',Same H H'->Q (.bl (decide (nm∈tl)&&decide (m∈tl))) H':=q;refine iteF ⟨_,_,rfl,.bare hw e,λH1 g1=>⟨_,rfl,iteT ⟨p0,rfl,_,.of (g1 _ _ e),zhr (by simp),λp H2 n2=>⟨⟨_,.of n2.at'⟩,?_⟩⟩⟩⟩;have ec:cutL [V.str wd,V.str nm,V.str m] (some 1) none=[nm,m].map V.str:=by
   rw[show((1:Int))=((1:Nat):Int)from rfl,zcv];rfl
  rw[ec]at n2;have g:=g1.trans n2.g;refine zsy (K:=K) (a:=p) (xs:=[nm,m].map V.str) (λσ=>∃v,σ=[v,some (.ref a)]) (λy=>.bl (inV y (tl.map V.str))) (by simp) (.of n2.at') ⟨_,rfl⟩ ?_ ?_
  ·rintro D i σ H' x hi hm hx g' hD hD' ⟨v,rfl⟩;have fx:flatV x=true:=by
    obtain⟨z,_,rfl⟩:=y0l.mp hm;rfl
   trivial;exact⟨_,.inl (.of (g' _ _ (g _ _ ea))),fx,zcs tl,zdz (by simp) hx hD hD' g' ⟨_,rfl⟩ rfl⟩
  ·intro D H' hD g' hD';refine⟨D,rfl,[decide (nm∈tl),decide (m∈tl)],.of ?_,?_⟩
   ·rw[hD'];show some (HO.lst [.bl (inV (.str nm) (tl.map V.str)),.bl (inV (.str m) (tl.map V.str))])=_;rw[zb7,zb7];rfl
   ·have h:=q H' (g.trans g');rw[show[decide (nm∈tl),decide (m∈tl)].all id=(decide (nm∈tl)&&(decide (m∈tl)&&true))from rfl,Bool.and_true];exact h
theorem zpt{bw:List Str}(T:Txt K mg w tw ow fa cStandings cSayError cs)(d:Dfn K mg "is_let" s_is_let ["saying","known","barred","most"])(C1:Cal P w K mg base 1 "inner_sayings" ["saying"] zcf)(C2:Cal P w K mg base 2 "is_bare" ["saying"] zdi):
  ∀n,Cal P w K mg base (n+2) "is_let" ["saying","known","barred","most"] (zhm K bw n)
 |0=>(d.never λvs H Q E h=>by obtain⟨v,a,ba,s,tl,mo,_,_,hd,_⟩:=h;exact absurd hd (y1s _)).mono (by decide)
 |n+1=>zwl T d C1 C2 (zpt T d C1 C2 n)
abbrev s_is_tree_saying:Stmt:=top 36
theorem zdu:FnScope ["thing","frame"] ["thing","frame"] (defScope s_is_tree_saying):={}
theorem zn5(T:Txt K mg w tw ow fa cStandings cSayError cs)(d:Dfn K mg "is_tree_saying" s_is_tree_saying ["thing","frame"])(C_is_frame:Cal P w K mg base 4 "is_frame" ["thing"] zta)(C_is_any_saying:Cal P w K mg base 29 "is_any_saying" ["thing"] zhq)
  (C_is_let:Cal P w K mg base 15 "is_let" ["saying","known","barred","most"] (zhm K SS.rowWords 13)):Cal P w K mg base 30 "is_tree_saying" ["thing","frame"] (zke SS.rowWords 3):=by
 refine d.cal zdu (λvs H Q E h=>?_) (λf cdv A outer s H vs Q E hr h=>?_)
 ·obtain⟨v,fv,rfl,_⟩:=h;rfl
 obtain⟨v,fv,rfl,ex,tf,hf,q⟩:=h;refine⟨_,(zad (zaj (zcb (zah C_is_frame hr (by omega) (by rfl) (pa_c (pv 1) zaa)) (zcb (zah C_is_any_saying hr (by omega) (by rfl) (pa_c (pv 0) zaa)) (zb1 (zah C_is_let hr (by omega) (by rfl) (pa_c (pv 0) (pa_c (pv 1) (pa_c (zaz (by rfl) T.g_ROW_WORDS) (pa_c (zaz (by rfl) T.g_MOST_TREE_NAMES) zaa)))))))))),?_⟩;refine za3 [some v,some fv] rfl ?_;trivial;refine⟨fv,rfl,tf,hf,λH1 g1=>⟨_,rfl,ite2 (λc=>?_) λc=>q false H1 g1 ⟨λz=>(by cases z),λ⟨a,tl,s,ev,e,hfr,_⟩=>absurd (show frB H fv=true by rw[ev];simp only[frB,e];exact hfr) c⟩⟩⟩;ac_rfl;obtain⟨a,tl,rfl,e,hfr,h4⟩:=zsp c;refine zk ?_;refine⟨v,rfl,ex.same g1,λb H2 g2 hb=>⟨_,rfl,?_⟩⟩;have back:(∃s,AnySay H1 v s)↔∃s,AnySay H v s:=⟨λ⟨s,r,hw,hd,hp⟩=>by
   have h1:=zdn r hw hd;rw[zb0 g1 ex]at h1;ac_rfl;obtain⟨s',r',hw',hd'⟩:=zby h1;refine zk ?_;rw[r.det (r'.same g1)]at hp;exact⟨s',r',hw',hd',hp⟩,λ⟨s,r,hw,hd,hp⟩=>⟨s,r.same g1,hw,hd,hp⟩⟩
 rw[back]at hb;refine ite2 (λcb=>?_) λcb=>q false H2 (g1.trans g2) ⟨λz=>(by cases z),λ⟨_,_,s,_,_,_,as,_⟩=>absurd (hb.mpr ⟨s,as⟩) cb⟩;ac_rfl;obtain⟨sy,as⟩:=hb.mp cb;obtain⟨r,hw,hd,hp⟩:=id as;refine zk ?_;refine⟨v,a,ow,sy,tl,3,rfl,r.same (g1.trans g2),by omega,g2 _ _ (g1 _ _ e),by omega,T.t_ROW_WORDS,λH3 g3=>q _ H3 (g1.trans (g2.trans g3)) ⟨λz=>⟨a,tl,sy,rfl,e,hfr,as,z⟩,λ⟨a',tl',s',ev,e',_,as',z⟩=>?_⟩⟩;cases ev;rw[e]at e';have et:tl=tl':=by
  have:=(Option.some.inj e');exact zc0 (HO.lst.inj this)
 subst et;rw[r.det as'.1];exact z
abbrev s_check_frame:Stmt:=top 37
theorem zfn:FnScope ["frame"] ["frame"] (defScope s_check_frame):={}
theorem zlw(T:Txt K mg w tw ow fa cStandings cSayError cs)(d:Dfn K mg "check_frame" s_check_frame ["frame"])(C_is_frame:Cal P w K mg base 4 "is_frame" ["thing"] zta):CalE P w K mg base 5 "check_frame" ["frame"] (zfv (cs.getD 1 0)):=by
 refine d.calE zfn (λvs H Q E h=>?_) (λf cdv A outer s H vs Q E hr h R=>?_)
 ·obtain⟨v,rfl,_⟩:=h;rfl
 obtain⟨v,rfl,ask,q,qx⟩:=h;refine⟨_,(zad (za0 (zcl (zbg (zah C_is_frame hr (by omega) (by rfl) (pa_c (pv 0) zaa)))) (zad (zdo R rfl (by rfl) T.m_NoFrame T.x_NoFrame F.excBase_ValueError (pa_c zae zaa))) zap)),?_⟩;refine za3 [some v] rfl ?_;trivial;refine⟨v,rfl,ask.t,ask.ts,λH1 g1=>⟨_,rfl,?_⟩⟩;cases hb:frB H v with
 |true=>exact iteF (q hb H1 g1)
 |false=>exact iteT (mkT λa0 n0=>qx hb a0 H1 g1 n0)
abbrev s_check_tree_frame:Stmt:=top 38
theorem zda:FnScope ["frame"] ["frame"] (defScope s_check_tree_frame):={}
theorem zwo(T:Txt K mg w tw ow fa cStandings cSayError cs)(d:Dfn K mg "check_tree_frame" s_check_tree_frame ["frame"])(C_check_frame:CalE P w K mg base 5 "check_frame" ["frame"] (zfv (cs.getD 1 0))):CalE P w K mg base 6 "check_tree_frame" ["frame"] (zsa (cs.getD 1 0)):=by
 refine d.calE zda (λvs H Q E h=>?_) (λf cdv A outer s H vs Q E hr h R=>?_)
 ·obtain⟨v,rfl,_⟩:=h;rfl
 obtain⟨v,rfl,ask,qx,q⟩:=h;refine⟨_,(zab (zbj (zei R C_check_frame hr (by omega) (by rfl) (pa_c (pv 0) zaa))) (zad (za0 (zam zh4 (za5 (zat K) (by rfl) T.b_len boot_len (pa_c (pv 0) zaa)) (zaz (by rfl) T.g_MOST_TREE_NAMES) (nomark _)) (zad (zdo R rfl (by rfl) T.m_NoFrame T.x_NoFrame F.excBase_ValueError (pa_c zae zaa))) zap))),?_⟩;refine za3 [some v] rfl ?_;trivial;refine⟨v,rfl,ask,λhb H1 g1=>?_,λhb=>qx ?_⟩
 ·refine atom λzG zk=>?_;obtain⟨a,tl,rfl,e,hfr,h4⟩:=zsp hb;refine zk ?_;refine⟨a,rfl,_,.inl (.of (g1 _ _ e)),?_⟩;rw[y00];by_cases h3:tl.length<=3
  ·exact itF (by omega) (q ⟨a,tl,rfl,e,hfr,h3⟩ H1 g1)
  ·refine itT (by omega) (mkT λa0 n0=>qx ?_ a0 H1 g1 n0);rintro⟨a',tl',ea,ee,_,hl⟩;cases ea;rw[e]at ee;have et:tl=tl':=zc0 (HO.lst.inj (Option.some.inj ee));subst et;exact h3 hl
 ·rintro⟨a,tl,rfl,e,hfr,_⟩;have:frB H (.ref a)=true:=by unfold frB;simp only[e];exact hfr
  rw[this]at hb;cases hb
abbrev s_check_tree_let:Stmt:=top 39
theorem zdv:FnScope ["saying","frame"] ["saying","frame"] (defScope s_check_tree_let):={}
theorem zwn(T:Txt K mg w tw ow fa cStandings cSayError cs)(d:Dfn K mg "check_tree_let" s_check_tree_let ["saying","frame"])(C_check_tree_frame:CalE P w K mg base 6 "check_tree_frame" ["frame"] (zsa (cs.getD 1 0)))(C_is_tree_saying:Cal P w K mg base 30 "is_tree_saying" ["thing","frame"] (zke SS.rowWords 3)):CalE P w K mg base 31 "check_tree_let" ["saying","frame"] (zr9 (cs.getD 1 0) (cs.getD 2 0)):=by
 refine d.calE zdv (λvs H Q E h=>?_) (λf cdv A outer s H vs Q E hr h R=>?_)
 ·obtain⟨v,fv,rfl,_⟩:=h;rfl
 obtain⟨v,fv,rfl,ex,ask,q1,q2,q3⟩:=h;refine⟨_,(zab (zbj (zei R C_check_tree_frame hr (by omega) (by rfl) (pa_c (pv 1) zaa))) (zad (za0 (zcl (zbg (zah C_is_tree_saying hr (by omega) (by rfl) (pa_c (pv 0) (pa_c (pv 1) zaa))))) (zad (zdo R rfl (by rfl) T.m_NoSaying T.x_NoSaying F.excBase_ValueError (pa_c zae zaa))) zap))),?_⟩;refine za3 [some v,some fv] rfl ?_;trivial;refine⟨fv,rfl,ask,q1,λhb H1 g1=>?_⟩;ac_rfl;obtain⟨a,tl,rfl,e,hfr,h3⟩:=id hb;have e1:=g1 _ _ e;have th:Things H (tl.map V.str):=ask.ts a _ rfl e;have back:SayOk H1 SS.rowWords 3 v (.ref a)↔SayOk H SS.rowWords 3 v (.ref a):=by
  constructor
  ·rintro⟨a',tl',s,ea,ee,f1,⟨r,hw,hd,hp⟩,hl⟩;cases ea;have h1:=zdn r hw hd;rw[zb0 g1 ex]at h1;obtain⟨s',r',hw',hd'⟩:=zby h1;have es:=r.det (r'.same g1);subst es;rw[e1]at ee;have et:tl=tl':=zc0 (HO.lst.inj (Option.some.inj ee));subst et;exact⟨a,tl,s,rfl,e,f1,⟨r',hw',hd',hp⟩,hl⟩
  ·rintro⟨a',tl',s,ea,ee,f1,⟨r,hw,hd,hp⟩,hl⟩;cases ea;exact⟨a,tl',s,rfl,g1 _ _ ee,f1,⟨r.same g1,hw,hd,hp⟩,hl⟩
 refine zk ?_;refine⟨v,.ref a,rfl,ex.same g1,⟨⟨_,.lst e1⟩,λz e=>by cases e⟩,(λa' xs ea ee=>by cases ea;rw[e1]at ee;cases ee;exact th.same g1),λtb H2 g2 hb2=>⟨_,rfl,?_⟩⟩;rw[back]at hb2;cases tb with
 |true=>exact iteF (q3 hb (hb2.mp rfl) H2 (g1.trans g2))
 |false=>exact iteT (mkT λa0 n0=>q2 hb (λz=>by cases hb2.mpr z) a0 H2 (g1.trans g2) n0)
abbrev s_gone_up:Stmt:=top 63
theorem zlo:FnScope ["tree","first","coming"] ["tree","first","coming"] (defScope s_gone_up):={}
theorem zh6(T:Txt K mg w tw ow fa cStandings cSayError cs)(d:Dfn K mg "gone_up" s_gone_up ["tree","first","coming"]):∀dd,Cal P w K mg base (30+dd) "gone_up" ["tree","first","coming"] (zhn P w K mg base 30 dd)
 |0=>(d.never λvs H Q E z=>by obtain⟨_,_,_,_,_,_,_,_,_,_,h,_⟩:=z;exact absurd h (y1h _)).mono (by omega)
 |dd+1=>by
  have C_gone_up:=zh6 T d dd;refine d.cal zlo (λvs H Q E h=>?_) (λf cdv A outer s H vs Q E hr h=>?_)
  ·obtain⟨R0,R1,v,z,pf,fd,rfl,_⟩:=h;rfl
  obtain⟨R0,R1,v,z,pf,fd,rfl,ef,cl,hR,_,h⟩:=h;change Room (30+dd) _ at hr;refine⟨_,(zab (za0 (zam zwh (pv 0) zbw (nomark _)) (zad (zaj (pv 1))) zap) (zad (zaj (znm 2 30 3 (zgk z R0 R1) hr (by omega) (pa_c (zar (zal K) (pv 0) zac (λ_ _=>rfl)) (pa_c (zah C_gone_up hr (by omega) (by rfl) (pa_c (zar (zal K) (pv 0) zac (λ_ _=>rfl)) (pa_c (pv 1) (pa_c (pv 2) zaa)))) (pa_c (zah C_gone_up hr (by omega) (by rfl) (pa_c (zar (zal K) (pv 0) zac (λ_ _=>rfl)) (pa_c (pv 1) (pa_c (pv 2) zaa)))) zaa))))))),?_⟩;refine za3 [some v,some (nV z),some (.ref pf)] rfl ?_;trivial;rcases h with⟨rfl,q⟩|⟨h1,p,rfl,ep,q⟩
  ·exact itT rfl q
  ·exact itF (λh=>nomatch h) ⟨pf,rfl,fd,ef,ixm (.of ep) za1 (ixm (.of ep) (zak (j:=1) rfl) ⟨R0,R1,.non,z,pf,fd,rfl,ef,cl,hR,by omega,.inl ⟨rfl,ixm (.of ep) (zak (j:=2) rfl) ⟨R0,R1,.non,z,pf,fd,rfl,ef,cl,hR,by omega,.inl ⟨rfl,ef,cl,rfl,rfl,hR,q⟩⟩⟩⟩)⟩
abbrev s_tree_holds_by:Stmt:=top 65
theorem sc_tree_holds_by:FnScope ["saying","frame","tree","standings","part","coming"] ["saying","frame","tree"] (defScope s_tree_holds_by):={}
abbrev qs_tree_holds_by:List (Pos×Str):=[(⟨281,4,282,57⟩,"tree_holds_by.<locals>.coming")]
theorem zqz{c Pt:Addr}(T:Txt K mg w tw ow fa cStandings cSayError cs)(d:DfnC K mg "tree_holds_by" s_tree_holds_by ["saying","frame","tree"] c Pt)(kb:BltK base mg)(C_gone_up:Cal P w K mg base (30+2) "gone_up" ["tree","first","coming"] (zhn P w K mg base 30 2))(C_Standings:CalI P w K mg base 1 cStandings "Standings" ["self"] (zkd P w cStandings))(C_Standings_part_of:CalM P w K mg base (3+10) cStandings "part_of" ["self","saying","names"] (zkc P w cStandings 10))(C_Standings_of_nothing:CalM P w K mg base (3+8) cStandings "of_nothing" ["self","number"] (zmv P w cStandings 8))(C_Standings_above:CalM P w K mg base (4+3*8+1) cStandings "above" ["self","number","letter","left","right"] (zgl P w cStandings 8))(C_Standings_with_whole:CalM P w K mg base (2+8) cStandings "with_whole" ["self","number","standing"] (zvr P w cStandings 8)):Cal P w K mg base 33 "tree_holds_by" ["saying","frame","tree"] (zka Pt qs_tree_holds_by):=by
 refine d.cal sc_tree_holds_by (λvs H Q E h=>?_) (λf A outer s H vs Q E hr h=>?_)
 ·obtain⟨v,b,bf,s,tl,rfl,_⟩:=h;rfl
 obtain⟨v,b,bf,sy,tl,rfl,tab,rp,eb,sm,q⟩:=h;refine⟨_,(zab (zav (i:=3) sc_tree_holds_by.nd rfl (Or.inr rfl) (zqj C_Standings hr (by omega) (by rfl))) (zab (zav (i:=4) sc_tree_holds_by.nd rfl (Or.inr rfl) (zau C_Standings_part_of T.cl_Standings hr (by omega) (pv 3) (pa_c (pv 0) (pa_c (pv 1) zaa)))) (zab (zv4 (qs:=qs_tree_holds_by) "tree_holds_by.<locals>.coming" (j:=5) rfl d.code kb (by rfl) (by rfl) sc_tree_holds_by.nd rfl rfl) (zad (zaj (zau C_Standings_with_whole T.cl_Standings hr (by omega) (pv 3) (pa_c (pv 4) (pa_c (znp C_gone_up hr (by omega) (by rfl) (λ_=>rfl) (pa_c (pv 2) (pa_c (zau C_Standings_of_nothing T.cl_Standings hr (by omega) (pv 3) (pa_c (pv 4) zaa)) (pa_c (pv 5) zaa)))) zaa)))))))),?_⟩;refine za3 [some v,some (.ref bf),some b,none,none,none] rfl ?_;trivial;intro p dx hp hdx ne;refine⟨p,dx,H,rfl,rfl,hp,hdx,ne,λSA H1 epA I g1 z1 z2 z3 z4=>⟨rfl,?_⟩⟩;subst epA;have nm:∀m:Str,_->List.lookup m SA.fl=none:=λm (h:m∈(["part_of","of_nothing","with_whole","above"]:List Str))=>by
  simp only[y02,y07,or_false]at h;rcases h with rfl|rfl|rfl|rfl<;>exact zbd (by decide) (by decide) (by decide) (by decide)
 have hsz:=sm.sz;have hco:=sm.co;refine mtm I.e1 (nm _ (by decide)) ⟨SA,bf,v,sy,tl,[],rfl,I,rp.same g1,sm.ok,sm.lv,g1 _ _ eb,(λz=>by rw[z,z1]at eb;cases eb),(λz=>by rw[z,z2]at eb;cases eb),by rw[y0m];omega,λco H2 k u2 Lb pre hl ek=>⟨?_,λfl H3 M=>?_⟩⟩
 ·exact tab.same (Up4.same z1 z2 z3 z4 g1 u2)
 have g2:Same H H2:=Up4.same z1 z2 z3 z4 g1 u2;have g3:=g2.trans M.old;have L3:=Lb.same M.old;refine mtm L3.e1 (nm _ (by decide)) (mtm L3.e1 (nm _ (by decide)) ⟨SA,co,[],[],k,coreS tl sy,rfl,L3,ek,sm.hg,by rw[y0m];omega,λfs4 H4 n4 N4 s4 Hq ad=>?_⟩);have L4:=N4.sn;have hlf:=N4.lf;rw[y0m]at hlf;have g4:Same H H4:=Up4.same z1 z2 z3 z4 g3 N4.up;have M4:=M.up (L3.frz N4.up);have Lq:=L4.same ad.up;have gq:Same H Hq:=g4.trans ad.up;obtain⟨fdl,efl⟩:=M4.fn;have cl:CloH P w K mg base 30 Hq fl 3 (zgk n4 (λH'=>Sn P w cStandings SA co fs4 [] H'/\Same H H') (λn H'=>∃fs' sts' bb,Sn P w cStandings SA co fs' sts' H'/\Sg (four++fs') 3 (coreS tl sy) n bb/\Same H H')):=by
  refine M4.clo_s (own:=["letter","left","right"]) (ps:=["letter","left","right"]) (cap:=["part","standings"]) (cv:=[nV k,.ref SA.p]) (k:=29) (Same.refl _) ad ⟨rfl,rfl,rfl,by decide+kernel,rfl,by decide+kernel,by decide+kernel,by decide+kernel⟩ (y04 _) (.cons ⟨4,rfl,rfl,.inl rfl⟩ (.cons ⟨3,rfl,rfl,.inl rfl⟩ .nil)) (λcl ct cd pm=>L2.fit3 λ_ _ _=>rfl) ?_;rintro clo c' A' outer' s' H' vs Q' hr hcl fz fz2 hl' ⟨rfl,⟨L',gg⟩,q'⟩;refine⟨_,(zad (zaj (zau C_Standings_above T.cl_Standings hr (by omega) (pv 4) (pa_c (pv 3) (pa_c (pv 0) (pa_c (pv 1) (pa_c (pv 2) zaa))))))),?_⟩;refine za3 [some (nV 0),some (nV n4),some (nV n4),some (nV k),some (.ref SA.p)] rfl ?_;trivial;have Ld:=L'.drop hcl.n;refine mtm Ld.e1 (nm _ (by decide)) ⟨SA,co,fs4,[],k,0,n4,n4,coreS tl sy,_,_,rfl,Ld,ek,sm.hg,by decide,s4,s4,by omega,by rw[y0m];omega,λfs5 sts5 H5 n5 b5 N5 s5 hn=>?_⟩;have um:=zuq N5.up;exact q' n5 _ (L'.frz um) (L'.tups um) ⟨fs5,sts5,b5,N5.sn.same (zw0 hn),s5,Up4.same z1 z2 z3 z4 gg um⟩
 have back:∀H5,Same H H5->Same H (dropX (cxOf CX0 P w K mg base ["saying","frame","tree","standings","part","coming"] "tree_holds_by" (defScope s_tree_holds_by) f (Value.ref c) A outer s H E).nox H5):=λH5 g5 b' o' e'=>by
  rw[zva ad (g4 _ _ e')];exact g5 _ _ e'
 rcases q with⟨rfl,q⟩|⟨⟨p,rfl,ep⟩,q⟩
 ·refine⟨_,_,.non,n4,fl,fdl,rfl,ad.up _ _ efl,cl,⟨Lq,gq⟩,by decide,.inl ⟨rfl,?_⟩⟩;exact⟨SA,co,fs4,[],k,n4,1,coreS tl sy,_,rfl,Lq.drop (zpb ad (Frz.refl _)),ek,sm.hg,by decide,s4,λH7 g7=>q H7 ((back _ gq).trans g7)⟩
 ·refine⟨_,_,.ref p,n4,fl,fdl,rfl,ad.up _ _ efl,cl,⟨Lq,gq⟩,by decide,.inr ⟨by decide,p,rfl,gq _ _ ep,λn H5 f5 t5 ⟨fs',sts',bb,L5,s5,g5⟩=>?_⟩⟩;exact⟨SA,co,fs',sts',k,n,3,coreS tl sy,bb,rfl,L5.drop (zpb ad f5),ek,sm.hg,by decide,s5,λH7 g7=>q bb H7 ((back _ g5).trans g7)⟩
abbrev s_is_whole:Stmt:=top 41
theorem zi4:FnScope ["thing"] ["thing"] (defScope s_is_whole):={}
theorem zn0(T:Txt K mg w tw ow fa cStandings cSayError cs)(d:Dfn K mg "is_whole" s_is_whole ["thing"]):Cal P w K mg base 1 "is_whole" ["thing"] zhl:=by
 refine d.cal zi4 (λvs H Q E h=>?_) (λf cdv A outer s H vs Q E hr h=>?_)
 ·obtain⟨v,rfl,_⟩:=h;rfl
 obtain⟨v,rfl,h⟩:=h;refine⟨_,(zad (zaj (zcb (za5 zbv (by rfl) T.b_isinstance boot_isinstance (pa_c (pv 0) (pa_c (zb3 (v:=.ty "int") (by rfl) T.b_int boot_int (by rfl)) zaa))) (zb1 (zsg (za5 zbv (by rfl) T.b_isinstance boot_isinstance (pa_c (pv 0) (pa_c (zb3 (v:=.ty "bool") (by rfl) T.b_bool boot_bool (by rfl)) zaa)))))))),?_⟩;refine za3 [some v] rfl ?_;trivial;rcases h with⟨r,rfl,q⟩|⟨k,kd,nk,q⟩
 ·exact⟨_,.int r,by decide,iteT ⟨_,.int r,by decide,q⟩⟩
 ·refine⟨_,kd,by decide,?_⟩;cases kd with
  |bl b=>exact iteT ⟨_,.bl b,by decide,q⟩
  |int=>exact absurd rfl nk
  |_=>exact iteF q
abbrev s_is_below:Stmt:=top 42
theorem zi7:FnScope ["thing","bound"] ["thing","bound"] (defScope s_is_below):={}
theorem zn9(T:Txt K mg w tw ow fa cStandings cSayError cs)(d:Dfn K mg "is_below" s_is_below ["thing","bound"])(C_is_whole:Cal P w K mg base 1 "is_whole" ["thing"] zhl):Cal P w K mg base 2 "is_below" ["thing","bound"] zhp:=by
 refine d.cal zi7 (λvs H Q E h=>?_) (λf cdv A outer s H vs Q E hr h=>?_)
 ·obtain⟨v,n,rfl,_⟩:=h;rfl
 obtain⟨v,n,rfl,h⟩:=h;refine⟨_,(zad (zaj (zcb (zah C_is_whole hr (by omega) (by rfl) (pa_c (pv 0) zaa)) (zb1 (zqp zwg zqv zac (pv 0) (pv 1)))))),?_⟩;refine za3 [some v,some (.int n)] rfl ?_;trivial;rcases h with⟨r,rfl,h0,h1,q⟩|⟨⟨r,rfl,hn⟩|⟨k,kd,nk⟩,q⟩
 ·refine⟨_,rfl,.inl ⟨r,rfl,_,rfl,iteT ⟨r,rfl,?_⟩⟩⟩;refine itT h0 ⟨r,rfl,?_⟩;rw[decide_eq_true h1];exact q
 ·refine⟨_,rfl,.inl ⟨r,rfl,_,rfl,iteT ⟨r,rfl,?_⟩⟩⟩;by_cases h0:0<=r
  ·refine itT h0 ⟨r,rfl,?_⟩;rw[decide_eq_false (λh1=>hn ⟨h0,h1⟩)];exact q
  ·exact itF h0 q
 ·exact⟨_,rfl,.inr ⟨k,kd,nk,_,rfl,iteF q⟩⟩
abbrev s_is_letter:Stmt:=top 44
theorem zhv:FnScope ["thing","tracks"] ["thing","tracks"] (defScope s_is_letter):={}
theorem zjf(T:Txt K mg w tw ow fa cStandings cSayError cs)(d:Dfn K mg "is_letter" s_is_letter ["thing","tracks"])(C_is_below:Cal P w K mg base 2 "is_below" ["thing","bound"] zhp):Cal P w K mg base 3 "is_letter" ["thing","tracks"] zeo:=by
 refine d.cal zhv (λvs H Q E h=>?_) (λf cdv A outer s H vs Q E hr h=>?_)
 ·obtain⟨r,k,rfl,_⟩:=h;rfl
 obtain⟨r,k,rfl,hk,q⟩:=h;have hp2:(1:Int)*2^((k:Nat):Int).toNat=2^k:=by rw[Int.one_mul,y13]
 refine⟨_,(zad (zaj (zah C_is_below hr (by omega) (by rfl) (pa_c (pv 0) (pa_c (zaw zko zac (pv 1)) zaa))))),?_⟩;refine za3 [some (.int r),some (nV k)] rfl ?_;trivial;refine⟨⟨by omega,by omega,by decide⟩,_,_,rfl,?_⟩;rw[hp2];by_cases h:0<=r/\r<2^k
 ·rw[decide_eq_true h]at q;exact .inl ⟨r,rfl,h.1,h.2,q⟩
 ·rw[decide_eq_false h]at q;exact .inr ⟨.inl ⟨r,rfl,h⟩,q⟩
abbrev s_count_with:Stmt:=top 45
theorem zgr:FnScope ["letters","track"] ["letters","track"] (defScope s_count_with):={}
theorem zn8(T:Txt K mg w tw ow fa cStandings cSayError cs)(d:Dfn K mg "count_with" s_count_with ["letters","track"]):Cal P w K mg base 1 "count_with" ["letters","track"] zho:=by
 refine d.cal zgr (λvs H Q E h=>?_) (λf cdv A outer s H vs Q E hr h=>?_)
 ·obtain⟨r,row,k,rfl,_⟩:=h;rfl
 obtain⟨ra,row,k,rfl,er,h200,h32,hk,q⟩:=h;refine⟨_,(zad (zaj (za5 (zds K rfl) (by rfl) T.b_sum boot_sum (pa_c (zbc ["letter"] [(1,"track")] (CompOk.of rfl (by rfl) (by rfl)) (by rfl) (zbi K (pv 0)) (λ_ _ _ _ _=>(za2 (i:=0) (show List.Nodup (["letter","track"]:List Str) by decide+kernel) (by rfl) (Or.inl (by rfl)))) (λ_ _ _ _ _=>zb5) (λ_ _ _ _ _=>(zaw zny (zaw zwc (pv 0) (pv 1)) zac))) zaa)))),?_⟩;refine za3 [some (.ref ra),some (nV k)] rfl ?_;trivial;refine⟨⟨_,.of er⟩,zg5 (K:=K) (a:=ra) (xs:=row.map nV) (λσ=>∃v,σ=[v,some (nV k)]) (λv=>match v with|.int i=>.int (Builtin.bitAnd (i/2^k) 1)|_=>.non) (by rw[y00];omega) (.of er) ⟨_,rfl⟩ ?_ ?_⟩
 ·rintro D3 i σ H3 x hi hm hx gg hD3 hD3' ⟨v,rfl⟩;obtain⟨z,mz,rfl⟩:=y0l.mp hm;trivial;exact⟨by omega,zdz (by rw[y00];omega) hx hD3 hD3' gg ⟨_,rfl⟩ (by rw[y13])⟩
 intro D3 H3 hD3 g3 eD3;have eD3':H3 D3=some (.lst ((row.map λ(l:Nat)=>Builtin.bitAnd ((l:Int)/2^k) 1).map V.int)):=by rw[eD3,y0t,y0t];rfl
 refine⟨D3,rfl,_,.of eD3',?_⟩;rw[zsx k hk row h32];exact q H3 g3
abbrev s_each_place_once:Stmt:=top 46
theorem zdm:FnScope ["frame","letters"] ["frame","letters"] (defScope s_each_place_once):={}
theorem zt9(T:Txt K mg w tw ow fa cStandings cSayError cs)(d:Dfn K mg "each_place_once" s_each_place_once ["frame","letters"])(C_is_place:Cal P w K mg base 2 "is_place" ["thing"] (zfj SMALL))(C_count_with:Cal P w K mg base 1 "count_with" ["letters","track"] zho):Cal P w K mg base 3 "each_place_once" ["frame","letters"] zmu:=by
 refine d.cal zdm (λvs H Q E h=>?_) (λf cdv A outer s H vs Q E hr h=>?_)
 ·obtain⟨f,r,names,rs,rfl,_⟩:=h;rfl
 obtain⟨fa,ra,names,row,rfl,ef,fo,er,h200,h32,q⟩:=h;have h4:=fo.1;refine⟨_,(zad (zaj (za5 (zbh K rfl) (by rfl) T.b_all boot_all (pa_c (zbc ["track","name"] [(1,"letters")] (CompOk.of rfl (by rfl) (by rfl)) (by rfl) (zqi K (by rfl) T.b_enumerate (pa_c (pv 0) zaa)) (λ_ _ _ _ _=>(zjc K (n:=2) rfl (zc4 (za2 (i:=0) (show List.Nodup (["track","name","letters"]:List Str) by decide+kernel) (by rfl) (Or.inl (by rfl))) (zc4 (za2 (i:=1) (show List.Nodup (["track","name","letters"]:List Str) by decide+kernel) (by rfl) (Or.inl (by rfl))) zjb)))) (λ_ _ _ _ _=>(zhz (zbg (zah C_is_place hr (by omega) (by rfl) (pa_c (pv 1) zaa))))) (λ_ _ _ _ _=>(za8 zbb (zah C_count_with hr (by omega) (by rfl) (pa_c (pv 2) (pa_c (pv 0) zaa))) zac (nomark _)))) zaa)))),?_⟩;refine za3 [some (.ref fa),some (.ref ra)] rfl ?_;trivial;refine⟨⟨_,.of ef⟩,?_⟩;refine zvg (K:=K) (a:=fa) (xs:=names.map V.str) (λσ=>∃v v',σ=[v,v',some (.ref ra)]) (λk=>isP (names.getD k (Str.ofString ""))) (λk=>.bl (cw row k==1)) (by rw[y00];omega) (.of ef) ⟨_,_,rfl⟩ ?_ ?_
 ·rintro D3 i σ H3 x pt H4 hx gg hD3 hD3' ⟨v,v',rfl⟩ n4;rw[y0w]at hx;obtain⟨z,ez,rfl⟩:=y1r.mp hx;have hi:=(y0f.mp ez).1;have hz:names.getD i (Str.ofString "")=z:=by rw[y1c,ez];rfl
  trivial;refine⟨_,.of n4.at',rfl,_,_,rfl,_,_,rfl,rfl,.str z,_,rfl,.str z,(λz' ez'=>by injection ez' with ez';subst ez';exact zrb (fo.2 z (y0g ez))),λH5 g5=>⟨_,rfl,?_⟩⟩;have hv:isNm (.str z) SMALL=isP (names.getD i (Str.ofString "")):=by rw[hz];rfl
  rw[hv];cases hP:isP (names.getD i (Str.ofString ""))with
  |true =>
   refine iteT ⟨ra,row,i,rfl,(gg.trans (n4.g.trans g5)) _ _ er,h200,h32,by omega,λH6 g6=>⟨rfl,?_⟩⟩;refine zrz (by rw[y00];omega) (by rw[y00];exact hi) hP hD3 ((n4.g.trans (g5.trans g6)) _ _ hD3') (gg.trans (n4.g.trans (g5.trans g6))) ⟨_,_,rfl⟩ ?_;exact congrArg V.bl (zvc (cw row i))
  |false=>exact iteF (zr0 (by rw[y00];exact hi) hP ((n4.g.trans g5) _ _ hD3') (gg.trans (n4.g.trans g5)) ⟨_,_,rfl⟩)
 intro D3 H3 hD3 g3 eD3;have eD3':H3 D3=some (.lst ((((List.range names.length).filter λk=>isP (names.getD k (Str.ofString ""))).map λk=>cw row k==1).map V.bl)):=by rw[eD3,y00,y0t];rfl
 refine⟨D3,rfl,_,.of eD3',?_⟩;have e:((((List.range names.length).filter λk=>isP (names.getD k (Str.ofString ""))).map λk=>cw row k==1).all id)=fitB names row:=by
  unfold fitB;rw[y32,List.all_filter];rfl
 rw[e];exact q H3 g3
abbrev s_letters_of:Stmt:=top 62
theorem sc_letters_of:FnScope ["tree","letters","left","here"] ["tree"] (defScope s_letters_of):={}
theorem zh5(T:Txt K mg w tw ow fa cStandings cSayError cs)(d:Dfn K mg "letters_of" s_letters_of ["tree"]):Cal P w K mg base 1 "letters_of" ["tree"] zd3:=by
 refine d.cal sc_letters_of (λvs H Q E h=>?_) (λf cdv A outer s H vs Q E hr h=>?_)
 ·obtain⟨v,t,rfl,_⟩:=h;rfl
 obtain⟨v,t,rfl,tv,h100,q⟩:=h;refine⟨_,(zab (zav (i:=1) sc_letters_of.nd rfl (Or.inl rfl) (zaq zaa)) (zab (zav (i:=2) sc_letters_of.nd rfl (Or.inl rfl) (zaq (pa_c (pv 0) zaa))) (zab (zqb PassesOwn.never (zgu (pv 2) (λ_=>rfl)) (zab (zav (i:=3) sc_letters_of.nd rfl (Or.inl rfl) (zjd K PySem.F.plainAttrs_list PySem.F.slot_list_pop PySem.F.type_list_pop zsk (pv 2))) (zad (za0 (zam ztz (pv 3) zbw (nomark _)) (zab (za0 (PW.pt (zdc (zcl (zbg (za5 zbv (by rfl) T.b_isinstance boot_isinstance (pa_c (pv 3) (pa_c (zb3 (v:=.ty "tuple") (by rfl) T.b_tuple boot_tuple (by rfl)) zaa))))) (zcq (zam znt (za5 (zat K) (by rfl) T.b_len boot_len (pa_c (pv 3) zaa)) zac (nomark _))))) (zad zqd) zap) (zab (zbj (zb2 K PySem.F.plainAttrs_list PySem.F.slot_list_append PySem.F.type_list_append zbe (pv 1) (pa_c (zar (zal K) (pv 3) zac (λ_ _=>rfl)) zaa))) (zad (zbj (zb2 K PySem.F.plainAttrs_list PySem.F.slot_list_extend PySem.F.type_list_extend (zjj K) (pv 2) (pa_c (zch (zeh K) (pv 3) (zcg zac) zev) zaa)))))) zap)))) (zad (zaj (pv 1)))))),?_⟩;refine za3 [some v,none,none,none] rfl ?_;trivial;refine⟨by decide,λp H1 n1=>mkT λl H2 n2=>?_⟩;have npl:p≠l:=zas n1.at' n2.nil;have hl0:H l=none:=n1.g.free n2.nil;have g02:=n1.g.trans n2.g;refine⟨λmm σ H'=>∃(ls:List Int) (xs:List V) (ts:List TrZ) (v3:Option V),mm=stw ts/\Same H H'/\σ=[some v,some (.ref p),some (.ref l),v3]/\H' p=some (.lst (ls.map V.int))/\H' l=some (.lst xs)/\Paired (TreeZ H') xs ts/\ls++stk ts=t.lets/\stw ts<=201,
  ⟨_,[],[v],[t],none,rfl,g02,rfl,n2.g _ _ n1.at',n2.at',.cons (tv.same g02) .nil,by simp[stk],by simp[stw];omega⟩,?_⟩
 rintro mm σ H' ⟨ls,xs,ts,v3,rfl,g,rfl,ep,el,pr,hst,hsw⟩;have hxl:=SS.Paired.len pr;have hle:=zr8 ts;have hlen:ls.length+(stk ts).length=t.size:=by rw[←TrZ.lets_len,←hst,y06]
 trivial;rcases zjh ts with rfl|⟨ts0,t',rfl⟩
 ·cases pr;rw[show stk []=[]from rfl,y1a]at hst;rw[hst]at ep;exact⟨false,.inl ⟨_,.of el,rfl⟩,iteF (q p H' n1.nil g ep)⟩
 ac_rfl;obtain⟨xs0,x',rfl,pr0,tx⟩:=zex pr;refine zk ?_;refine⟨true,.inl ⟨_,.of el,by simp⟩,iteT ⟨λσ' H''=>∃m',m'<stw (ts0++[t'])/\_,λ_ _ z=>z,.inl ⟨_,.of el⟩,_,el,x',by simp,?_⟩⟩;rw[List.dropLast_concat];rw[y06,y16]at hxl;have tsA:TupS H' (upd H' l (.lst xs0)):=TupS.wr el _;have eu:upd H' l (.lst xs0) p=some (.lst (ls.map V.int)):=by rw[zan npl];exact ep
 have gu:Same H (upd H' l (.lst xs0)):=g.wr hl0 _;rw[zgd]at hst hlen;rw[zdh]at hsw ⊢;rw[y06]at hlen;have hll':=TrZ.lets_len t';cases t' with
 |nil =>
  obtain rfl:x'=.non:=tx;rw[show(!decide (V.non=V.non))=false by simp];exact iteF ⟨_,by omega,ls,xs0,ts0,rfl,gu,_,rfl,eu,zao,L2.Paired.mapP pr0 λ_ _ z=>z.ts tsA,hst,by omega⟩
 |node z ta tb =>
  ac_rfl;obtain⟨p',va,vb,rfl,e',ha,hb⟩:=tx;have e2:=tsA _ _ e';refine zk ?_;rw[show(!decide (V.ref p'=V.non))=true by simp];refine iteT ⟨_,.tup e2,by decide,iteF ⟨p',rfl,_,.inr (.of e2),?_⟩⟩;rw[show(!decide (((([V.int z,va,vb]:List V).length:Nat):Int)=3))=false by simp];refine iteF ⟨.inl ⟨_,.of eu⟩,ixm (.of e2) za1 ⟨_,eu,by rw[y00];exact small1000 (by omega),?_⟩⟩;have elv:upd (upd H' l (.lst xs0)) p (.lst (ls.map V.int++[V.int z])) l=some (.lst xs0):=by rw[zan (Ne.symm npl),zao]
  have epv:upd (upd H' l (.lst xs0)) p (.lst (ls.map V.int++[V.int z])) p=some (.lst (ls.map V.int++[V.int z])):=zao;have tsB:TupS H' (upd (upd H' l (.lst xs0)) p (.lst (ls.map V.int++[V.int z]))):=tsA.trans (TupS.wr eu _);have gv:Same H (upd (upd H' l (.lst xs0)) p (.lst (ls.map V.int++[V.int z]))):=gu.wr n1.nil _;generalize upd (upd H' l (.lst xs0)) p (.lst (ls.map V.int++[V.int z]))=Hv at elv epv tsB gv;refine⟨.inl ⟨_,.of elv⟩,p',rfl,_,.of (tsB _ _ e'),(show¬(HT.sIx 3 0 (some 1)=0/\HT.sIx 3 3 none=3) by decide),λp2 H5 n5=>?_⟩;rw[show(1:Int)=((1:Nat):Int)from rfl,zcv]at n5;have el5:=n5.g _ _ elv;have hsz:(TrZ.node z ta tb).size=1+ta.size+tb.size:=rfl;have hln:(TrZ.node z ta tb).lets=z::(tb.lets++ta.lets):=rfl;have tsC:TupS H' (upd H5 l (.lst (xs0++[va,vb]))):=tsB.trans (n5.g.tups.trans (TupS.wr el5 _));have hx0:=SS.Paired.len pr0;have hle0:=zr8 ts0;refine⟨_,el5,_,.of n5.at',zaf (by simp;omega),_,?_,ls++[z],(xs0++[va])++[vb],(ts0++[ta])++[tb],rfl,(gv.trans n5.g).wr hl0 _,_,rfl,?_,?_,SM.Paired.snoc (SM.Paired.snoc (L2.Paired.mapP pr0 λ_ _ z=>z.ts tsC) (ha.ts tsC)) (hb.ts tsC),?_,?_⟩
  ·rw[zdh,zdh,hsz];omega
  ·rw[zan npl,n5.g _ _ epv,y0r];rfl
  ·rw[zao];simp
  ·rw[zgd,zgd,←hst,hln];simp
  ·rw[zdh,zdh];omega
abbrev s_tree_fits:Stmt:=top 64
theorem sc_tree_fits:FnScope ["frame","tree","letters"] ["frame","tree"] (defScope s_tree_fits):={}
theorem zje(T:Txt K mg w tw ow fa cStandings cSayError cs)(d:Dfn K mg "tree_fits" s_tree_fits ["frame","tree"])(C_letters_of:Cal P w K mg base 1 "letters_of" ["tree"] zd3)(C_is_letter:Cal P w K mg base 3 "is_letter" ["thing","tracks"] zeo)(C_each_place_once:Cal P w K mg base 3 "each_place_once" ["frame","letters"] zmu):CalE P w K mg base 4 "tree_fits" ["frame","tree"] (zem (cs.getD 0 0)):=by
 refine d.calE sc_tree_fits (λvs H Q E h=>?_) (λf cdv A outer s H vs Q E hr h R=>?_)
 ·obtain⟨f,v,names,t,rfl,_⟩:=h;rfl
 obtain⟨fa,v,names,t,rfl,ef,fo,tv,h100,h⟩:=h;have h4:=fo.1;refine⟨_,(zab (zav (i:=2) sc_tree_fits.nd rfl (Or.inl rfl) (zah C_letters_of hr (by omega) (by rfl) (pa_c (pv 1) zaa))) (zab (za0 (zcl (zbg (za5 (zbh K rfl) (by rfl) T.b_all boot_all (pa_c (zbc ["letter"] [(0,"frame")] (CompOk.of rfl (by rfl) (by rfl)) (by rfl) (zbi K (pv 2)) (λ_ _ _ _ _=>(za2 (i:=0) (show List.Nodup (["letter","frame"]:List Str) by decide+kernel) (by rfl) (Or.inl (by rfl)))) (λ_ _ _ _ _=>zb5) (λ_ _ _ _ _=>(zah C_is_letter hr (by omega) (by rfl) (pa_c (pv 0) (pa_c (za5 (zat K) (by rfl) T.b_len boot_len (pa_c (pv 1) zaa)) zaa))))) zaa)))) (zad (zdo R rfl (by rfl) T.m_NoTree T.x_NoTree F.excBase_ValueError (pa_c zae zaa))) zap) (zad (zaj (zah C_each_place_once hr (by omega) (by rfl) (pa_c (pv 0) (pa_c (pv 2) zaa))))))),?_⟩;refine za3 [some (.ref fa),some v,none] rfl ?_;trivial;refine⟨v,t,rfl,tv,h100,λD H1 hD g1 eD=>?_⟩;have hll:=TrZ.lets_len t;refine⟨D,rfl,⟨_,.of eD⟩,zg5 (K:=K) (a:=D) (xs:=t.lets.map V.int) (λσ=>∃v,σ=[v,some (.ref fa)]) (λv=>match v with|.int x=>.bl (decide (0<=x/\x<2^names.length))|_=>.non) (by rw[y00];omega) (.of eD) ⟨_,rfl⟩ ?_ ?_⟩
 ·rintro D3 i σ H3 x hi hm hx gg hD3 hD3' ⟨v,rfl⟩;obtain⟨z,mz,rfl⟩:=y0l.mp hm;trivial;refine⟨_,.inl (.of (gg _ _ (g1 _ _ ef))),?_⟩;rw[y00];exact⟨z,names.length,rfl,h4,zdz (by rw[y00];omega) hx hD3 hD3' gg ⟨_,rfl⟩ rfl⟩
 intro D3 H3 hD3 g3 eD3;have g03:=g1.trans g3;have eD3':H3 D3=some (.lst ((t.lets.map λx=>decide (0<=x/\x<2^names.length)).map V.bl)):=by rw[eD3,y0t,y0t];rfl
 refine⟨D3,rfl,_,.of eD3',?_⟩;rcases h with⟨row,hrow,hin,q⟩|⟨⟨x,mx,hx⟩,q⟩
 ·have hin':∀x∈t.lets,0<=x/\x<2^names.length:=λx hx=>by
   rw[hrow]at hx;obtain⟨l,ml,rfl⟩:=y0l.mp hx;have:=hin l ml;rw[ztp];omega
  have h32:∀l∈row,l<32:=λl ml=>by
   have:=hin l ml;have:=zng h4;omega
  rw[show(!(t.lets.map λx=>decide (0<=x/\x<2^names.length)).all id)=false by
   rw[Bool.not_eq_false',y0q];intro b hb;obtain⟨x,mx,rfl⟩:=y0l.mp hb;exact decide_eq_true (hin' x mx)]
  refine iteF ⟨fa,D,names,row,rfl,g03 _ _ ef,fo,?_,?_,h32,λH4 g4=>q H4 (g03.trans g4)⟩
  ·rw[g3 _ _ eD,zw1,hrow]
  ·have:=congrArg List.length hrow;rw[y00,hll]at this;omega
 ·rw[show(!(t.lets.map λx=>decide (0<=x/\x<2^names.length)).all id)=true by
   rw[Bool.not_eq_true',y0z];intro h;exact hx (of_decide_eq_true (y0q.mp h _ (y0l.mpr ⟨x,mx,rfl⟩)))]
  exact iteT (mkT λe he=>q e H3 g03 he)
abbrev s_tree_holds:Stmt:=top 66
theorem zgo:FnScope ["saying","frame","tree"] ["saying","frame","tree"] (defScope s_tree_holds):={}
theorem zt7{Pt:Addr}(T:Txt K mg w tw ow fa cStandings cSayError cs)(d:Dfn K mg "tree_holds" s_tree_holds ["saying","frame","tree"])(C_check_tree_let:CalE P w K mg base 31 "check_tree_let" ["saying","frame"] (zr9 (cs.getD 1 0) (cs.getD 2 0)))(C_tree_fits:CalE P w K mg base 4 "tree_fits" ["frame","tree"] (zem (cs.getD 0 0)))(C_tree_holds_by:Cal P w K mg base 33 "tree_holds_by" ["saying","frame","tree"] (zka Pt qs_tree_holds_by)):CalE P w K mg base 34 "tree_holds" ["saying","frame","tree"] (zmt (cs.getD 0 0) (cs.getD 1 0) (cs.getD 2 0) Pt qs_tree_holds_by):=by
 refine d.calE zgo (λvs H Q E h=>?_) (λf cdv A outer s H vs Q E hr h R=>?_)
 ·obtain⟨v,fv,b,t,rfl,_⟩:=h;rfl
 obtain⟨v,fv,b,t,rfl,tab,ex,ask,tz,h5,h⟩:=h;refine⟨_,(zab (zbj (zei R C_check_tree_let hr (by omega) (by rfl) (pa_c (pv 0) (pa_c (pv 1) zaa)))) (zad (zaj (zcb (zei R C_tree_fits hr (by omega) (by rfl) (pa_c (pv 1) (pa_c (pv 2) zaa))) (zb1 (zah C_tree_holds_by hr (by omega) (by rfl) (pa_c (pv 0) (pa_c (pv 1) (pa_c (pv 2) zaa))))))))),?_⟩;refine za3 [some v,some fv,some b] rfl ?_;trivial;rcases h with⟨nf,qx⟩|⟨ft,ns,qx⟩|⟨bf,tl,sy,rfl,G,h⟩
 ·exact⟨v,fv,rfl,ex,ask,λ_=>qx,λz=>absurd z nf,λz=>absurd z nf⟩
 ·exact⟨v,fv,rfl,ex,ask,λz=>absurd ft z,λ_ _=>qx,λ_ z=>absurd z ns⟩
 ·refine⟨v,.ref bf,rfl,ex,ask,λz=>absurd G.frt z,λ_ z=>absurd G.say z,λ_ _ H1 g1=>⟨bf,b,tl,t,rfl,g1 _ _ G.eb,G.fo,tz.same g1,by omega,?_⟩⟩;rcases h with⟨hx,qx⟩|⟨rfl,q⟩|⟨rfl,q⟩
  ·exact .inr ⟨hx,λa H2 g2 h0=>qx a H2 (g1.trans g2) h0⟩
  ·refine .inl ⟨[],rfl,(λl hl=>nomatch hl),λH2 g2=>⟨_,rfl,?_⟩⟩;have g12:=g1.trans g2;obtain rfl:b=.non:=tz;cases hf:fitB tl []with
   |false =>
    rw[hf]at q;exact iteF (q H2 g12)
   |true =>
    rw[hf]at q;exact iteT ⟨v,.non,bf,sy,tl,rfl,tab.same g12,G.rp.same g12,g12 _ _ G.eb,G.sm,.inl ⟨rfl,λH3 g3=>q H3 (g12.trans g3)⟩⟩
  ·refine .inl ⟨[0],rfl,(λl hl=>by rw[y08.mp hl];exact Nat.pos_of_ne_zero (by simp)),λH2 g2=>⟨_,rfl,?_⟩⟩;ac_rfl;have g12:=g1.trans g2;obtain⟨p,va,vb,rfl,ep,rfl,rfl⟩:=tz;refine zk ?_;cases hf:fitB tl [0]with
   |false=>exact iteF (q false H2 g12)
   |true=>exact iteT ⟨v,.ref p,bf,sy,tl,rfl,tab.same g12,G.rp.same g12,g12 _ _ G.eb,G.sm,.inr ⟨⟨p,rfl,g12 _ _ ep⟩,λbb H3 g3=>q bb H3 (g12.trans g3)⟩⟩
abbrev s_law_marks:Stmt:=top 77
theorem sc_law_marks:FnScope ["_law_e","_law_kinds"] ["_law_e"] (defScope s_law_marks):={}
theorem zug(T:Txt K mg w tw ow fa cStandings cSayError cs)(d:Dfn K mg "_law_marks" s_law_marks ["_law_e"]):CalH P w K mg base 1 "_law_marks" ["_law_e"] (ziz cs):=by
 refine d.calH sc_law_marks (λvs H Q E h=>?_) (λf cdv A outer s H vs Q E hr h=>?_)
 ·obtain⟨a,ci,rfl,_⟩:=h;rfl
 obtain⟨a,ci,rfl,hci,ea,q⟩:=h;obtain⟨kx,iV,k0,k1,k2,k3,k4,k5,k6,k7,k8⟩:KExc K (cs.getD ci 0)/\PySem.W.kitOne K (.ref (cs.getD ci 0)) (.type "ValueError")=some true/\PySem.W.kitOne K (.ref (cs.getD ci 0)) (.ref (cs.getD 0 0))=some (decide (0=ci))/\PySem.W.kitOne K (.ref (cs.getD ci 0)) (.ref (cs.getD 1 0))=some (decide (1=ci))/\PySem.W.kitOne K (.ref (cs.getD ci 0)) (.ref (cs.getD 2 0))=some (decide (2=ci))/\PySem.W.kitOne K (.ref (cs.getD ci 0)) (.ref (cs.getD 3 0))=some (decide (3=ci))/\PySem.W.kitOne K (.ref (cs.getD ci 0)) (.ref (cs.getD 4 0))=some (decide (4=ci))/\PySem.W.kitOne K (.ref (cs.getD ci 0)) (.ref (cs.getD 5 0))=some (decide (5=ci))/\PySem.W.kitOne K (.ref (cs.getD ci 0)) (.ref (cs.getD 6 0))=some (decide (6=ci))/\PySem.W.kitOne K (.ref (cs.getD ci 0)) (.ref (cs.getD 7 0))=some (decide (7=ci))/\PySem.W.kitOne K (.ref (cs.getD ci 0)) (.ref (cs.getD 8 0))=some (decide (8=ci)):=by
  rcases(show ci=0\/ci=1\/ci=2 by omega)with rfl|rfl|rfl
  ·exact⟨T.kx0,T.iV0,T.q0_0,T.q0_1,T.q0_2,T.q0_3,T.q0_4,T.q0_5,T.q0_6,T.q0_7,T.q0_8⟩
  ·exact⟨T.kx1,T.iV1,T.q1_0,T.q1_1,T.q1_2,T.q1_3,T.q1_4,T.q1_5,T.q1_6,T.q1_7,T.q1_8⟩
  ·exact⟨T.kx2,T.iV2,T.q2_0,T.q2_1,T.q2_2,T.q2_3,T.q2_4,T.q2_5,T.q2_6,T.q2_7,T.q2_8⟩
 refine⟨_,(zab (zav (i:=1) sc_law_marks.nd rfl (Or.inl rfl) (zaq (pa_c (za5 (zmh K) (by rfl) T.b_isinstance boot_isinstance (pa_c (pv 0) (pa_c (zb3 (v:=.ty "ValueError") (by rfl) T.b_ValueError (by rfl) (by rfl)) zaa))) (pa_c (za5 (zbt K) (by rfl) T.b_isinstance boot_isinstance (pa_c (pv 0) (pa_c (zaz (v:=V.ref _) (by rfl) ⟨_,T.m_NoTree,rfl⟩) zaa))) (pa_c (za5 (zbt K) (by rfl) T.b_isinstance boot_isinstance (pa_c (pv 0) (pa_c (zaz (v:=V.ref _) (by rfl) ⟨_,T.m_NoFrame,rfl⟩) zaa))) (pa_c (za5 (zbt K) (by rfl) T.b_isinstance boot_isinstance (pa_c (pv 0) (pa_c (zaz (v:=V.ref _) (by rfl) ⟨_,T.m_NoSaying,rfl⟩) zaa))) zaa)))))) (zab (zav (i:=1) sc_law_marks.nd rfl (Or.inl rfl) (zaw zbr (pv 1) (zaq (pa_c (za5 (zbt K) (by rfl) T.b_isinstance boot_isinstance (pa_c (pv 0) (pa_c (zaz (v:=V.ref _) (by rfl) ⟨_,T.m_NoText,rfl⟩) zaa))) (pa_c (za5 (zbt K) (by rfl) T.b_isinstance boot_isinstance (pa_c (pv 0) (pa_c (zaz (v:=V.ref _) (by rfl) ⟨_,T.m_NoRow,rfl⟩) zaa))) (pa_c (za5 (zbt K) (by rfl) T.b_isinstance boot_isinstance (pa_c (pv 0) (pa_c (zaz (v:=V.ref _) (by rfl) ⟨_,T.m_NoWidth,rfl⟩) zaa))) zaa)))))) (zad (zaj (zaw zbr (pv 1) (zaq (pa_c (za5 (zbt K) (by rfl) T.b_isinstance boot_isinstance (pa_c (pv 0) (pa_c (zaz (v:=V.ref _) (by rfl) ⟨_,T.m_NoNumber,rfl⟩) zaa))) (pa_c (za5 (zbt K) (by rfl) T.b_isinstance boot_isinstance (pa_c (pv 0) (pa_c (zaz (v:=V.ref _) (by rfl) ⟨_,T.m_TooGreat,rfl⟩) zaa))) (pa_c (za5 (zbt K) (by rfl) T.b_isinstance boot_isinstance (pa_c (pv 0) (pa_c (zaz (v:=V.ref _) (by rfl) ⟨_,T.m_NoLine,rfl⟩) zaa))) zaa))))))))),?_⟩;refine za3 [some (.ref a),none] rfl ?_;trivial;refine⟨_,ea,kx,_,iV,_,ea,kx,_,k0,_,ea,kx,_,k1,_,ea,kx,_,k2,zaf (by simp),λp1 H1 n1=>⟨_,n1.g _ _ ea,kx,_,k3,_,n1.g _ _ ea,kx,_,k4,_,n1.g _ _ ea,kx,_,k5,zaf (by simp),λp2 H2 n2=>⟨_,n2.g _ _ n1.at',_,n2.at',zaf (by simp),λp3 H3 n3=>?_⟩⟩⟩;have g3:Same H H3:=n1.g.trans (n2.g.trans n3.g);refine⟨_,g3 _ _ ea,kx,_,k6,_,g3 _ _ ea,kx,_,k7,_,g3 _ _ ea,kx,_,k8,zaf (by simp),λp4 H4 n4=>⟨_,n4.g _ _ n3.at',_,n4.at',zaf (by simp),λp5 H5 n5=>?_⟩⟩;exact q p5 H5 ((g3.trans n4.g).free n5.nil) (g3.trans (n4.g.trans n5.g)) n5.at'
abbrev s_law_told:Stmt:=top 78
theorem sc_law_told:FnScope ["_law_saying_here","_law_frame_here","_law_tree","_law_marks_here","_law_found","_law_e"] ["_law_saying_here","_law_frame_here","_law_tree"] (defScope s_law_told):={}
theorem zn2{Pt:Addr}(T:Txt K mg w tw ow fa cStandings cSayError cs)(d:Dfn K mg "_law_told" s_law_told ["_law_saying_here","_law_frame_here","_law_tree"])(C_tree_holds:CalE P w K mg base 34 "tree_holds" ["saying","frame","tree"] (zmt (cs.getD 0 0) (cs.getD 1 0) (cs.getD 2 0) Pt qs_tree_holds_by))(C_law_marks:CalH P w K mg base 1 "_law_marks" ["_law_e"] (ziz cs)):Cal P w K mg base 35 "_law_told" ["_law_saying_here","_law_frame_here","_law_tree"] (zen Pt qs_tree_holds_by):=by
 refine d.cal sc_law_told (λvs H Q E h=>?_) (λf cdv A outer s H vs Q E hr h=>?_)
 ·obtain⟨v,fv,b,rfl,_⟩:=h;rfl
 obtain⟨v,fv,b,rfl,tab,h⟩:=h;refine⟨_,(zab (zav (i:=3) sc_law_told.nd rfl (Or.inl rfl) (zaq zaa)) (zab (zav (i:=4) sc_law_told.nd rfl (Or.inl rfl) zbw) (zab (ztl C_tree_holds hr (by omega) (by rfl) (pa_c (pv 0) (pa_c (pv 1) (pa_c (pv 2) zaa))) (by rfl) T.m_SayError T.k_SayError rfl rfl rfl sc_law_told.nd (i:=4) rfl (Or.inl rfl) (j:=5) rfl rfl λ_=>(zad (zav (i:=3) sc_law_told.nd rfl (Or.inl rfl) (zno C_law_marks (hr.toH _) (by omega) (by rfl) (pa_c (pv 5) zaa))))) (zad (zaj (zag (pa_c (pv 3) (pa_c (pv 4) zaa)))))))),?_⟩;refine za3 [some v,some fv,some b,none,none,none] rfl ?_;trivial;refine⟨zaf (by simp),λp1 H1 n1=>?_⟩;ac_rfl;obtain⟨t,ex,ask,tz,h5,h⟩:=Ask51.same h n1.g;have fin:∀(ci:Nat),ci<=2->(∀p H',Same H H'->Td H' p (mk51 ci) .non->Q (.ref p) H')->∀(a:Addr) (H2:Hp),Same H1 H2->H2 a=none->∀(a':Addr),some a=some a'->∃C,(Value.ref (cs.getD ci 0))=Value.ref C/\PySem.W.mroIn K C (Value.ref cSayError)=some true/\∀(H3:Hp),Same H2 H3->H3 a'=some (excO a' (Value.ref (cs.getD ci 0)))->ziz cs [V.ref a'] H3 (λx H1=>(∃v_1,([some v,some fv,some b,some x,some V.non,some (V.ref a')]:L2.St)[5]?=some (some v_1))/\[x,V.non].length<=sizeLine/\∀(p:Addr) (H':Hp),New H1 p (HO.tup [x,V.non]) H'->Q (V.ref p) H') E0:=by
  intro ci hci q a H2 g2 _ a' e;cases e;refine⟨_,rfl,?_,λH3 g3 e3=>⟨a,ci,rfl,hci,e3,λD H4 hD g4 eD=>⟨⟨_,rfl⟩,zaf (by simp),λp H5 n5=>q p H5 (n1.g.trans (g2.trans (g3.trans (g4.trans n5.g)))) ⟨D,n5.at',n5.g _ _ eD⟩⟩⟩⟩;rcases(show ci=0\/ci=1\/ci=2 by omega)with rfl|rfl|rfl
  ·exact T.ms0
  ·exact T.ms1
  ·exact T.ms2
 refine zk ?_;refine⟨v,fv,b,t,rfl,tab.same n1.g,ex,ask,tz,h5,?_⟩;rcases h with⟨nf,q⟩|⟨ft,ns,q⟩|⟨bf,tl,sy,rfl,G,h⟩
 ·exact .inl ⟨nf,fin 1 (by decide) q⟩
 ·exact .inr (.inl ⟨ft,ns,fin 2 (by decide) q⟩)
 refine .inr (.inr ⟨bf,tl,sy,rfl,G,?_⟩);rcases h with⟨hx,q⟩|⟨rfl,q⟩|⟨rfl,q⟩
 ·exact .inl ⟨hx,fin 0 (by decide) q⟩
 ·exact .inr (.inl ⟨rfl,λH2 g2=>⟨zaf (by simp),λp H3 n3=>q p H3 (n1.g.trans (g2.trans n3.g)) ⟨p1,n3.at',(g2.trans n3.g) _ _ n1.at'⟩⟩⟩)
 ·exact .inr (.inr ⟨rfl,λbb H2 g2=>⟨zaf (by simp),λp H3 n3=>q bb p H3 (n1.g.trans (g2.trans n3.g)) ⟨p1,n3.at',(g2.trans n3.g) _ _ n1.at'⟩⟩⟩)
abbrev s_law:Stmt:=top 80
theorem sc_law:FnScope ["_law_script","_law_number","_law_frame_here","_law_saying_here","_law_first","_law_cell"] ["_law_script"] (defScope s_law):={}
theorem zwm{Pt f:Addr}{fd:FuncData}(T:Txt K mg w tw ow fa cStandings cSayError cs)(F:Fun K "law" "law" s_law f fd)(C_law_cell_at:Cal P w K mg base 1 "_law_cell_at" ["_law_script","_law_k"] (zm0 K))(C_law_frame:Cal P w K mg base 2 "_law_frame" ["_law_number","_law_many"] zmz)(C_law_saying:Cal P w K mg base (1+2+1) "_law_saying" ["_law_left","_law_names","_law_deep"] (zc3 2))(C_law_told:Cal P w K mg base 35 "_law_told" ["_law_saying_here","_law_frame_here","_law_tree"] (zen Pt qs_tree_holds_by))(C_law_wrong_right:Cal P w K mg base 36 "_law_wrong_right" ["_law_saying_here","_law_frame_here","_law_number"] (zms Pt qs_tree_holds_by)):FnOk P w K mg base CX0 37 f fd ["_law_script"] (zmy K [(Pt,qs_tree_holds_by)]):=by
 refine F.ok sc_law (λvs H Q E h=>?_) (λcdv A outer s H vs Q E hr h=>?_)
 ·obtain⟨a,ns,rfl,_⟩:=h;rfl
 obtain⟨a,ns,rfl,hS,h63,hO,q⟩:=h;have tab:TabOk H Pt qs_tree_holds_by:=hO.tab (by simp[List.lookup]);have hu:=zib hr 8 (by decide);refine⟨_,(zab (zav (i:=1) sc_law.nd rfl (Or.inl rfl) (zaw zbf (zah C_law_cell_at hr (by omega) (by rfl) (pa_c (pv 0) (pa_c zac zaa))) (zaw zsh zac zac))) (zab (zav (i:=2) sc_law.nd rfl (Or.inl rfl) (zah C_law_frame hr (by omega) (by rfl) (pa_c (pv 1) (pa_c (zaw zbf (pv 1) zac) zaa)))) (zab (zav (i:=3) sc_law.nd rfl (Or.inl rfl) (zah C_law_saying hr (by omega) (by rfl) (pa_c (zbc ["_law_cell"] [] (CompOk.of rfl (by rfl) (by rfl)) (by rfl) (zbi K (zch (zht K) (pv 0) (zcg zac) (zcg zac))) (λ_ _ _ _ _=>(za2 (i:=0) (show List.Nodup (["_law_cell"]:List Str) by decide+kernel) (by rfl) (Or.inl (by rfl)))) (λ_ _ _ _ _=>zb5) (λ_ _ _ _ _=>(zaw zbf (pv 0) (zaw zsh zac zac)))) (pa_c (pv 2) (pa_c zac zaa))))) (zab (zav (i:=4) sc_law.nd rfl (Or.inl rfl) (zah C_law_told hr (by omega) (by rfl) (pa_c (pv 3) (pa_c (zew (zca K) (by rfl) T.b_list boot_list (pa_c (pv 2) zaa)) (pa_c zbw zaa))))) (zab (zet PassesOwn.never rfl (zbi K (zaw zbr (zaq (pa_c (zah C_law_cell_at hr (by omega) (by rfl) (pa_c (pv 0) (pa_c zac zaa))) zaa)) (zch (zht K) (pv 0) (zcg zac) (zcg zac)))) (za2 (i:=5) sc_law.nd (by rfl) (Or.inl (by rfl))) (zad (za0 (zcl (zbg (zah C_law_wrong_right hr (by omega) (by rfl) (pa_c (pv 3) (pa_c (pv 2) (pa_c (zaw zbf (zaw znu (pv 5) zac) zac) zaa)))))) (zad (zaj zdw)) zap))) (zad (zaj (zcb (za5 zbv (by rfl) T.b_isinstance boot_isinstance (pa_c (zar (zal K) (pv 4) zac (λ_ _=>rfl)) (pa_c (zb3 (v:=.ty "bool") (by rfl) T.b_bool boot_bool (by rfl)) zaa))) (zb1 (za8 (znw hu) (zah C_law_told hr (by omega) (by rfl) (pa_c (pv 3) (pa_c (zew (zca K) (by rfl) T.b_list boot_list (pa_c (pv 2) zaa)) (pa_c zbw zaa)))) (pv 4) (nomark _))))))))))),?_⟩;refine za3 [some (.ref a),none,none,none,none,none] rfl ?_;trivial;refine⟨a,ns,0,rfl,hS,by decide,λc=>⟨⟨by decide,by decide,by decide⟩,c,rfl,by decide,by decide,?_⟩⟩;generalize c%(10^Int.toNat 20)=N;have m0:=y17 N (show(4:Int)≠0 by decide);have m1:=y0y N (show(0:Int)<4 by decide);refine⟨N,(N%4).toNat,?_,by omega,λfr tl H1 hfr g1 efr ng nd hl=>⟨_,g1.seq hS,λp2 H2 n2=>?_⟩⟩
 ·show[V.int N,V.int (N%4)]=[V.int N,V.int (((N%4).toNat:Nat):Int)];rw[Int.toNat_of_nonneg m0]
 have e2:=n2.at';rw[zry]at e2;have l3:(cutL ns (some 3) (some 6)).length<=3:=by
  unfold cutL;rw[y12];have e1:HT.sIx ns.length 0 (some 3)=min 3 ns.length:=by unfold HT.sIx;simp only;split<;>omega
  have e2:HT.sIx ns.length ns.length (some 6)=min 6 ns.length:=by unfold HT.sIx;simp only;split<;>omega
  rw[e1,e2];omega
 generalize cutL ns (some 3) (some 6)=cs3 at e2 l3;have hl1:(cs3.map V.int).length<=1000:=by rw[y00];omega
 refine⟨⟨_,.of e2⟩,zg5 (K:=K) (a:=p2) (xs:=cs3.map V.int) (λσ=>∃v,σ=[v]) (λv=>match v with|.int i=>.int (i%10^Int.toNat 40)|_=>.non) hl1 (.of e2) ⟨_,rfl⟩ ?_ ?_⟩
 ·rintro D i σ H3 x hi hm hx gg hD hD' ⟨v,rfl⟩;obtain⟨k,mk,rfl⟩:=y0l.mp hm;trivial;exact⟨⟨by decide,by decide,by decide⟩,by decide,zdz hl1 hx hD hD' gg ⟨_,rfl⟩ rfl⟩
 intro D H3 hD g3 eD;have eD':H3 D=some (.lst ((cs3.map λi=>i%10^Int.toNat 40).map V.int)):=by
  rw[eD,y0t,y0t];rfl
 have g13:Same H1 H3:=n2.g.trans g3;have efr3:=g13 _ _ efr;have nfr:D≠fr:=(zas (n2.g _ _ efr) hD).symm;refine⟨D,fr,_,tl,rfl,eD',by rw[y00];exact l3,efr3,nfr,ng,by omega,by decide,λv sy ns4 H4 g4 e4 hl4 r4 d4=>?_⟩;have g34:Same H2 H4:=λb o e=>g4 b o (λz=>by rw[z,hD]at e;cases e) (g3 b o e);have g14:Same H1 H4:=n2.g.trans g34;have g04:Same H H4:=g1.trans g14;have efr4:=g14 _ _ efr;have tab4:=tab.same g04;refine⟨fr,rfl,_,.inl (.of efr4),λl5 H5 n5=>?_⟩;have fo:FrOk tl:=⟨by omega,λz hz=>(ng z hz).1⟩;have G4:∀{H':Hp} {b:Addr},Same H4 H'->H' b=some (.lst (tl.map V.str))->Gd51 H' v b tl sy:=λg e=>⟨e,fo,by omega,ng.len,ng.frame (by omega) nd,r4.same g,d4.wf,by have:=d4.dp;omega,by have:sy.parts<=11:=d4.pt;omega,d4.lt,d4.sml⟩;have ask0:∀{H':Hp} {b:Addr} {R:List V->V->Prop},Gd51 H' v b tl sy->R [] (.bl (fitB tl []&&tv (coreS tl sy)))->Ask51 H' v (.ref b) .non R:=λG r=>⟨.nil,G.rp.exp G.wf 12,G.ask,rfl,by show 0<=5;decide,.inr (.inr ⟨_,tl,sy,rfl,G,.inr (.inl ⟨rfl,r⟩)⟩)⟩;have G5:=G4 n5.g n5.at';refine⟨v,.ref l5,.non,rfl,tab4.same n5.g,ask0 G5 λp6 H6 g6 td6=>?_⟩;obtain⟨D6,ep6,eD6⟩:=td6;have g46:Same H4 H6:=n5.g.trans g6;have g06:=g04.trans g46;have hcl:(cutL (ns.map V.int) (some 6) (some 46)).length<=63:=by
  unfold cutL;rw[y12,y22,y00];omega
 refine⟨a,ns,1,rfl,g06.seq hS,by decide,λc1=>mkT λp7 H7 n7=>⟨_,(g06.trans n7.g).seq hS,λp8 H8 n8=>⟨_,n8.g _ _ n7.at',_,n8.at',zaf (show 1+_<=1000 by omega),λp9 H9 n9=>?_⟩⟩⟩;have g69:Same H6 H9:=n7.g.trans (n8.g.trans n9.g);have g49:=g46.trans g69;have g09:=g04.trans g49;refine⟨⟨_,.of n9.at'⟩,zjo (K:=K) (a:=p9) (xs:=[V.int c1]++cutL (ns.map V.int) (some 6) (some 46)) (λi σ H'=>Same H9 H'/\∃v5:Option V,σ=[some (.ref a),some (.int N),some (.ref fr),some v,some (.ref p6),v5]) ⟨Same.refl _,none,rfl⟩ (λi σ H' _ z=>.of (z.1 _ _ n9.at')) ?_ ?_⟩
 ·rintro i x σ Hi hx ⟨gi,v5,rfl⟩;obtain⟨k,rfl⟩:∃k:Int,x=.int k:=by
   rcases y0j.mp (y0g hx)with h|h
   ·exact⟨c1,y08.mp h⟩
   ·obtain⟨k,_,rfl⟩:=y0l.mp (zve h);exact⟨k,rfl⟩
  trivial;exact⟨.inr ⟨by decide,by decide⟩,by decide,v,fr,_,sy,tl,rfl,(tab.same g09).same gi,G4 (g49.trans gi) ((g49.trans gi) _ _ efr4),ng,y17 _ (by decide),λH' g'=>⟨_,rfl,iteF (gi.trans g')⟩⟩
 ·rintro σ Hi ⟨gi,v5,rfl⟩;trivial;have g6i:=g69.trans gi;have g4i:=g49.trans gi;refine⟨_,.of (g6i _ _ ep6),_,zak (j:=1) rfl,_,.bl _,by decide,iteT ⟨_,.inl (.of (g4i _ _ efr4)),λlA HA nA=>⟨v,.ref lA,.non,rfl,((tab.same g09).same gi).same nA.g,ask0 (G4 (g4i.trans nA.g) nA.at') λpB HB gB tdB=>?_⟩⟩⟩;obtain⟨DB,epB,eDB⟩:=tdB;have gAB:=nA.g.trans gB;have r:=zne (X:=(cxOf CX0 P w K mg base ["_law_script","_law_number","_law_frame_here","_law_saying_here","_law_first","_law_cell"] "law" (defScope s_law) f cdv A outer s H E).nox) (k:=1) (H:=HB) (.of epB) (.of ((g6i.trans gAB) _ _ ep6)) (λ_=>true) λj h1 h2=>by
   rcases(show j=0\/j=1 by simp only[y0a,y0m]at h1;omega)with rfl|rfl
   ·exact zu8 (xs:=[]) (.of eDB) (.of ((g6i.trans gAB) _ _ eD6)) (λx hx=>nomatch hx)
   ·have z:=zfa (k:=1) (X:=(cxOf CX0 P w K mg base ["_law_script","_law_number","_law_frame_here","_law_saying_here","_law_first","_law_cell"] "law" (defScope s_law) f cdv A outer s H E).nox) (H:=HB) (x:=.bl (fitB tl []&&tv (coreS tl sy))) (y:=.bl (fitB tl []&&tv (coreS tl sy))) rfl rfl;rw[show eqV (.bl (fitB tl []&&tv (coreS tl sy))) (.bl (fitB tl []&&tv (coreS tl sy)))=true by cases(fitB tl []&&tv (coreS tl sy))<;>rfl]at z;exact z
  exact⟨_,r.up (by decide),q _⟩
theorem ifnot{c:Bool}{a b:Prop}(h:c=true)(hb:b):if(!c)=true then a else b:=by rw[h];exact hb
abbrev s_law_wrong_right:Stmt:=top 79
theorem sc_law_wrong_right:FnScope ["_law_saying_here","_law_frame_here","_law_number","_law_bound","_law_far","_law_frames","_law_wrong","_law_sayings","_law_trees","_law_k","_law_marks_here","_law_found"] ["_law_saying_here","_law_frame_here","_law_number"] (defScope s_law_wrong_right):={}
theorem zt6{Pt:Addr}(T:Txt K mg w tw ow fa cStandings cSayError cs)(d:Dfn K mg "_law_wrong_right" s_law_wrong_right ["_law_saying_here","_law_frame_here","_law_number"])(C_law_bad_frames:Cal P w K mg base 1 "_law_bad_frames" ["_law_number"] zm1)(C_bs:Cal P w K mg base 1 "_law_bad_sayings" ["_law_number","_law_saying_here"] zep)(C_os:Cal P w K mg base 1 "_law_odd_sayings" ["_law_number","_law_saying_here"] zep)(C_law_told:Cal P w K mg base 35 "_law_told" ["_law_saying_here","_law_frame_here","_law_tree"] (zen Pt qs_tree_holds_by)):Cal P w K mg base 36 "_law_wrong_right" ["_law_saying_here","_law_frame_here","_law_number"] (zms Pt qs_tree_holds_by):=by
 obtain⟨fb,CB,m__law_bad_sayings⟩:=C_bs.fn;obtain⟨fo,CO,m__law_odd_sayings⟩:=C_os.fn;have CX:∀f∈[fb,fo],CalF P w K mg base 1 f ["_law_number","_law_saying_here"] zep:=λf hf=>by
  simp only[y02,y07,or_false]at hf;rcases hf with rfl|rfl
  ·exact CB
  ·exact CO
 refine d.cal sc_law_wrong_right (λvs H Q E h=>?_) (λf cdv A outer s H vs Q E hr h=>?_)
 ·obtain⟨v,bf,n,sy,tl,rfl,_⟩:=h;rfl
 obtain⟨v,bf,n,sy,tl,rfl,tab,G,ng,hn,q⟩:=h;have hu:=zib hr 8 (by decide);have l3:=G.l3;have q0:0<=n/3:=Int.ediv_nonneg hn (by decide);have pw:(0:Int)<2^tl.length:=(zxo (k:=tl.length) (by omega)).1;obtain⟨far,efar,hfar⟩:∃far:Int,atI [V.int (-1),V.int (2^tl.length),V.int (2^tl.length+1),V.int (2^tl.length+n/3)] (n/3%4)=some (.int far)/\¬(0<=far/\far<2^tl.length):=by
  have j0:=y17 (n/3) (show(4:Int)≠0 by decide);have j1:=y0y (n/3) (show(0:Int)<4 by decide);rcases(show n/3%4=0\/n/3%4=1\/n/3%4=2\/n/3%4=3 by omega)with e|e|e|e<;>rw[e]
  ·exact⟨_,za1,by omega⟩
  ·exact⟨_,zak (j:=1) rfl,by omega⟩
  ·exact⟨_,zak (j:=2) rfl,by omega⟩
  ·exact⟨_,zak (j:=3) rfl,by omega⟩
 refine⟨_,(zab (zav (i:=3) sc_law_wrong_right.nd rfl (Or.inl rfl) (zar (zax K) (zaq (pa_c zac (pa_c zac (pa_c zac (pa_c zac zaa))))) (za5 (zat K) (by rfl) T.b_len boot_len (pa_c (pv 1) zaa)) (λ_ _=>rfl))) (zab (zav (i:=4) sc_law_wrong_right.nd rfl (Or.inl rfl) (zar (zax K) (zaq (pa_c (zwa zr5 zac) (pa_c (pv 3) (pa_c (zaw zf1 (pv 3) zac) (pa_c (zaw zf1 (pv 3) (zaw zbk (pv 2) zac)) zaa))))) (zaw zbf (zaw zbk (pv 2) zac) zac) (λ_ _=>rfl))) (zab (zav (i:=5) sc_law_wrong_right.nd rfl (Or.inl rfl) (zaq (pa_c (zew (zca K) (by rfl) T.b_list boot_list (pa_c (pv 1) zaa)) (pa_c (zah C_law_bad_frames hr (by omega) (by rfl) (pa_c (zaw zbk (pv 2) zac) zaa)) zaa)))) (zab (zav (i:=6) sc_law_wrong_right.nd rfl (Or.inl rfl) (zqq CX hr (by omega) (zar (zax K) (zaq (pa_c (zaz (v:=V.ref _) (by rfl) ⟨_,m__law_bad_sayings,rfl⟩) (pa_c (zaz (v:=V.ref _) (by rfl) ⟨_,m__law_odd_sayings,rfl⟩) zaa))) (zaw zbf (zaw zbk (pv 2) zac) zac) (λ_ _=>rfl)) (pa_c (zaw zbk (pv 2) zac) (pa_c (pv 0) zaa)))) (zab (zav (i:=7) sc_law_wrong_right.nd rfl (Or.inl rfl) (zaq (pa_c (pv 0) (pa_c (pv 6) zaa)))) (zab (zav (i:=8) sc_law_wrong_right.nd rfl (Or.inl rfl) (zaq (pa_c (zag (pa_c zac (pa_c zbw (pa_c zbw zaa)))) (pa_c (zar (zax K) (zaq (pa_c (zag (pa_c (pv 4) (pa_c zbw (pa_c zbw zaa)))) (pa_c (zag (pa_c zac (pa_c (zag (pa_c zac (pa_c zbw (pa_c (zag (pa_c (pv 4) (pa_c zbw (pa_c zbw zaa)))) zaa)))) (pa_c zbw zaa)))) zaa))) (zaw zbf (zaw zbk (pv 2) zac) zac) (λ_ _=>rfl)) zaa)))) (zab (zet PassesOwn.never rfl (zhy (by rfl) T.b_range (pa_c zac zaa)) (za2 (i:=9) sc_law_wrong_right.nd (by rfl) (Or.inl (by rfl))) (zab (zv5 (zah C_law_told hr (by omega) (by rfl) (pa_c (zar (zax K) (pv 7) (zaw zbf (zaw zbk (pv 9) zac) zac) (λ_ _=>rfl)) (pa_c (zar (zax K) (pv 5) (zaw zbf (pv 9) zac) (λ_ _=>rfl)) (pa_c (zar (zax K) (pv 8) (zaw zbk (pv 9) zac) (λ_ _=>rfl)) zaa)))) (zjc K (n:=2) rfl (zc4 (za2 (i:=10) sc_law_wrong_right.nd (by rfl) (Or.inl (by rfl))) (zc4 (za2 (i:=11) sc_law_wrong_right.nd (by rfl) (Or.inl (by rfl))) zjb)))) (zab (za0 (PW.pt (zes (zam zh4 (pv 9) zac (nomark _)) (zdd (zam (zns K hu) (pv 10) (zaw zbr (zaq (pa_c zdw (pa_c (za8 zbb (pv 9) zac (nomark _)) (pa_c (za8 zbb (zaw zbf (pv 9) zac) zac (nomark _)) (pa_c (ztt (za8 zbb (pv 9) zac (nomark _)) (zb1 (za8 zbb (pv 9) zac (nomark _)))) zaa))))) (zaw zty (zaq (pa_c zdw zaa)) zac)) (nomark _))))) (zad (zaj zdw)) zap) (zad (za0 (PW.pt (zes (zam zbb (pv 9) zac (nomark _)) (zdd (PW.pt (zdc (zam (zns K hu) (pv 10) (zaq zaa) (nomark _)) (zcq (zcl (zbg (za5 zbv (by rfl) T.b_isinstance boot_isinstance (pa_c (pv 11) (pa_c (zb3 (v:=.ty "bool") (by rfl) T.b_bool boot_bool (by rfl)) zaa))))))))))) (zad (zaj zdw)) zap))))) (zad (zaj zdw))))))))),?_⟩;refine za3 [some v,some (.ref bf),some (.int n),none,none,none,none,none,none,none,none,none] rfl ?_;trivial;refine mkT λp1 H1 n1=>⟨_,.inl (.of (n1.g _ _ G.eb)),_,.of n1.at',_,by rw[y00];exact at_m (by omega),_,rfl,⟨by decide,by decide⟩,_,rfl,mkT λp2 H2 n2=>⟨⟨by decide,by decide⟩,by decide,_,.of n2.at',_,efar,_,.inl (.of ((n1.g.trans n2.g) _ _ G.eb)),λl H3 n3=>⟨⟨by decide,by decide⟩,_,rfl,λfv H4 g4 ask4 nf4=>mkT λp4 H5 n5=>mkT λp5 H6 n6=>⟨⟨by decide,by decide⟩,by decide,?_⟩⟩⟩⟩;have g6:Same H H6:=n1.g.trans (n2.g.trans (n3.g.trans (g4.trans (n5.g.trans n6.g))));obtain⟨fz,hfz,efz⟩:∃fz,fz∈[fb,fo]/\atI [V.ref fb,V.ref fo] (n/5%2)=some (.ref fz):=by
  have j0:=y17 (n/5) (show(2:Int)≠0 by decide);have j1:=y0y (n/5) (show(0:Int)<2 by decide);rcases(show n/5%2=0\/n/5%2=1 by omega)with e|e<;>rw[e]
  ·exact⟨_,y0c,za1⟩
  ·exact⟨_,y09 _ y0c,zak (j:=1) rfl⟩
 refine⟨_,.of n6.at',_,efz,fz,hfz,rfl,⟨by decide,by decide⟩,_,v,sy,tl,rfl,G.rp.same g6,G.wf,ng,λwr H7 g7 bx=>mkT λp7 H8 n8=>mkT λt0 H9 n9=>mkT λt1 HA nA=>mkT λt2 HB nB=>mkT λt3 HC nC=>mkT λt4 HD nD=>mkT λp8 HE nE=>⟨⟨by decide,by decide⟩,by decide,_,.of nE.at',?_⟩⟩;ac_rfl;obtain⟨tb,etb,tz,htz,hsz,hft⟩:∃tb,atI [V.ref t1,V.ref t4] (n/7%2)=some tb/\∃tz,TreeZ HE tb tz/\tz.size<=5/\far∈tz.lets:=by
  have e1:=(nB.g.trans (nC.g.trans (nD.g.trans nE.g))) _ _ nA.at';have e2:=(nC.g.trans (nD.g.trans nE.g)) _ _ nB.at';have e3:=(nD.g.trans nE.g) _ _ nC.at';have e4:=nE.g _ _ nD.at';have j0:=y17 (n/7) (show(2:Int)≠0 by decide);have j1:=y0y (n/7) (show(0:Int)<2 by decide);rcases(show n/7%2=0\/n/7%2=1 by omega)with e|e<;>rw[e]
  ·exact⟨_,za1,.node far .nil .nil,⟨t1,_,_,rfl,e1,rfl,rfl⟩,by show 1+0+0<=5;decide,by simp[TrZ.lets]⟩
  ·exact⟨_,zak (j:=1) rfl,.node 0 (.node 0 .nil (.node far .nil .nil)) .nil,⟨t4,_,_,rfl,e4,⟨t3,_,_,rfl,e3,rfl,⟨t2,_,_,rfl,e2,rfl,rfl⟩⟩,rfl⟩,by show 1+(1+0+(1+0+0))+0<=5;decide,by simp[TrZ.lets]⟩
 refine zk ?_;refine⟨tb,etb,mkT λp9 HF nF=>?_⟩;have gt:Same H9 HF:=nA.g.trans (nB.g.trans (nC.g.trans (nD.g.trans (nE.g.trans nF.g))));have g8F:Same H8 HF:=n9.g.trans gt;have g7F:Same H7 HF:=n8.g.trans g8F;have g6F:Same H6 HF:=g7.trans g7F;have g5F:Same H5 HF:=n6.g.trans g6F;have g4F:Same H4 HF:=n5.g.trans g5F;have g3F:Same H3 HF:=g4.trans g4F;have gF:Same H HF:=g6.trans g6F;have GF:Gd51 HF v l tl sy:=⟨g3F _ _ n3.at',G.fo,G.l3,G.l4,G.fr,G.rp.same gF,G.wf,G.dp,G.pt,G.lt,G.sm⟩;have e4F:=g5F _ _ n5.at';have e7F:=g8F _ _ n8.at';have e9F:=nF.at';have et0:TreeZ HF (.ref t0) (.node 0 .nil .nil):=⟨t0,_,_,rfl,gt _ _ n9.at',rfl,rfl⟩;have etF:=htz.same nF.g;have akF:=(ask4.same g4F).1;have nfF:¬FrT HF fv:=λz=>nf4 (z.back ask4 g4F);have bxF:=bx.same g7F;have exF:∀k,Exp HF k v:=GF.rp.exp GF.wf;refine⟨by decide,by decide,zk6 (lo:=0) (n:=8) (λi σ H'=>Same HF H'/\∃v9 v10 v11:Option V,σ=[some v,some (.ref bf),some (.int n),some (.int (2^tl.length)),some (.int far),some (.ref p4),some wr,some (.ref p7),some (.ref p9),v9,v10,v11]) ⟨Same.refl _,none,none,none,rfl⟩ ?_ ?_⟩
 ·rintro i σ Hi hi ⟨gi,v9,v10,v11,rfl⟩;trivial;ac_rfl;obtain⟨sx,esx,hsx⟩:∃sx,atI [v,wr] ((0+(i:Int))/2%2)=some sx/\((i/2%2=0/\sx=v)\/(i/2%2=1/\sx=wr)):=by
   rcases(show i/2%2=0\/i/2%2=1 by omega)with e|e
   ·exact⟨v,by rw[show(0+(i:Int))/2%2=0 by omega];exact za1,.inl ⟨e,rfl⟩⟩
   ·exact⟨wr,by rw[show(0+(i:Int))/2%2=1 by omega];exact zak (j:=1) rfl,.inr ⟨e,rfl⟩⟩
  obtain⟨fx,efx,hfx⟩:∃fx,atI [V.ref l,fv] ((0+(i:Int))%2)=some fx/\((i%2=0/\fx=.ref l)\/(i%2=1/\fx=fv)):=by
   rcases(show i%2=0\/i%2=1 by omega)with e|e
   ·exact⟨.ref l,by rw[show(0+(i:Int))%2=0 by omega];exact za1,.inl ⟨e,rfl⟩⟩
   ·exact⟨fv,by rw[show(0+(i:Int))%2=1 by omega];exact zak (j:=1) rfl,.inr ⟨e,rfl⟩⟩
  obtain⟨tx,etx,ty,hty,hts,htx⟩:∃tx,atI [V.ref t0,tb] ((0+(i:Int))/4)=some tx/\∃ty,TreeZ HF tx ty/\ty.size<=5/\((i/4=0/\ty=.node 0 .nil .nil)\/(i/4=1/\far∈ty.lets)):=by
   rcases(show i/4=0\/i/4=1 by omega)with e|e
   ·exact⟨.ref t0,by rw[show(0+(i:Int))/4=0 by omega];exact za1,_,et0,by show 1+0+0<=5;decide,.inl ⟨e,rfl⟩⟩
   ·exact⟨tb,by rw[show(0+(i:Int))/4=1 by omega];exact zak (j:=1) rfl,tz,etF,hsz,.inr ⟨e,hft⟩⟩
  have asked:∀R:List V->V->Prop,(0<i->R (mkI i) .non)->(i=0->∀bb,R [] (.bl bb))->Ask51 HF sx fx tx R:=λR r1 r0=>by
   have exx:Exp HF 12 sx:=by
    rcases hsx with⟨_,rfl⟩|⟨_,rfl⟩
    ·exact exF 12
    ·exact bxF.1 12
   rcases hfx with⟨e1,rfl⟩|⟨e1,rfl⟩
   ·refine⟨ty,exx,GF.ask,hty,hts,?_⟩;rcases hsx with⟨e2,rfl⟩|⟨e2,rfl⟩
    ·refine .inr (.inr ⟨l,tl,sy,rfl,GF,?_⟩);rcases htx with⟨e3,rfl⟩|⟨e3,hf⟩
     ·exact .inr (.inr ⟨rfl,r0 (by omega)⟩)
     ·refine .inl ⟨⟨far,hf,hfar⟩,?_⟩;have:=r1 (by omega);unfold mkI at this;rwa[if_neg (by omega),if_neg (by omega)]at this
    ·refine .inr (.inl ⟨GF.frt,bxF.no GF.eb,?_⟩);have:=r1 (by omega);unfold mkI at this;rwa[if_neg (by omega),if_pos e2]at this
   ·refine⟨ty,exx,akF,hty,hts,.inl ⟨nfF,?_⟩⟩;have:=r1 (by omega);unfold mkI at this;rwa[if_pos e1]at this
  refine zk ?_;refine⟨⟨by decide,by decide⟩,by decide,_,.of (gi _ _ e7F),sx,esx,by decide,_,.of (gi _ _ e4F),fx,efx,⟨by decide,by decide⟩,_,.of (gi _ _ e9F),tx,etx,sx,fx,tx,rfl,tab.same (gF.trans gi),Ask51.same (asked _ (λh0 pz Hz gz tdz=>?_) (λh0 bb pz Hz gz tdz=>?_)) gi⟩
  ·obtain⟨Dz,ez,eDz⟩:=tdz;refine⟨pz,rfl,_,.of ez,rfl,_,_,rfl,_,_,rfl,rfl,?_⟩;refine itT (by omega) ⟨by decide,?_⟩;by_cases h2:i=2
   ·refine itT (by omega) (mkT λq1 K1 k1=>mkT λq2 K2 k2=>⟨_,k2.at',by decide,by decide,zaf (by decide),λq3 K3 k3=>⟨_,(k2.g.trans k3.g) _ _ k1.at',_,k3.at',zaf (show 4+6<=1000 by decide),λq4 K4 k4=>⟨Dz,rfl,_,.of ((k1.g.trans (k2.g.trans (k3.g.trans k4.g))) _ _ eDz),_,.of k4.at',(flm ⟨i,hi⟩).1,(flm ⟨i,hi⟩).2 _,?_⟩⟩⟩);refine ifnot (eqm ⟨i,hi⟩ h0 true (.inl ⟨h2,rfl⟩)) ?_;exact itF (by omega) (gi.trans (gz.trans (k1.g.trans (k2.g.trans (k3.g.trans k4.g)))))
   ·refine itF (by omega) (mkT λq1 K1 k1=>mkT λq2 K2 k2=>⟨_,k2.at',by decide,by decide,zaf (by decide),λq3 K3 k3=>⟨_,(k2.g.trans k3.g) _ _ k1.at',_,k3.at',zaf (show 4+6<=1000 by decide),λq4 K4 k4=>⟨Dz,rfl,_,.of ((k1.g.trans (k2.g.trans (k3.g.trans k4.g))) _ _ eDz),_,.of k4.at',(flm ⟨i,hi⟩).1,(flm ⟨i,hi⟩).2 _,?_⟩⟩⟩);refine ifnot (eqm ⟨i,hi⟩ h0 _ (.inr ⟨h2,rfl⟩)) ?_;exact itF (by omega) (gi.trans (gz.trans (k1.g.trans (k2.g.trans (k3.g.trans k4.g)))))
  ·obtain⟨Dz,ez,eDz⟩:=tdz;refine⟨pz,rfl,_,.of ez,rfl,_,_,rfl,_,_,rfl,rfl,?_⟩;refine itF (by omega) ?_;refine itT (by omega) (mkT λpE HE2 nE2=>⟨Dz,rfl,_,.of (nE2.g _ _ eDz),_,.of nE2.at',rfl,rfl,iteF ⟨_,.bl bb,by decide,iteF (gi.trans (gz.trans nE2.g))⟩⟩)
 ·rintro σ Hi ⟨gi,v9,v10,v11,rfl⟩;trivial;exact q Hi (gF.trans gi)
theorem zc6{H:Hp}{v:V}(h:Ask H v/\frB H v=false):Ask H v/\¬FrT H v:=by
 refine⟨h.1,?_⟩;rintro⟨a,tl,rfl,e,hf,_⟩;have:frB H (.ref a)=true:=by unfold frB;simp only[e];exact hf
 rw[this]at h;cases h.2
abbrev s_law_bad_frames:Stmt:=top 74
theorem sc_law_bad_frames:FnScope ["_law_number","_law_some"] ["_law_number"] (defScope s_law_bad_frames):={}
theorem zul(T:Txt K mg w tw ow fa cStandings cSayError cs)(d:Dfn K mg "_law_bad_frames" s_law_bad_frames ["_law_number"]):Cal P w K mg base 1 "_law_bad_frames" ["_law_number"] zm1:=by
 refine d.cal sc_law_bad_frames (λvs H Q E h=>?_) (λf cdv A outer s H vs Q E hr h=>?_)
 ·obtain⟨c,rfl,_⟩:=h;rfl
 obtain⟨c,rfl,q⟩:=h;refine⟨_,(zab (zav (i:=1) sc_law_bad_frames.nd rfl (Or.inl rfl) (zaq (pa_c zbw (pa_c (pv 0) (pa_c zae (pa_c (zag (pa_c zae zaa)) (pa_c (zaq (pa_c zae (pa_c zae zaa))) (pa_c (zaq (pa_c zae (pa_c zae (pa_c zae (pa_c zae zaa))))) (pa_c (zaq (pa_c zae zaa)) (pa_c (zaq (pa_c zae zaa)) (pa_c (zaq (pa_c zae zaa)) (pa_c (zaq (pa_c zac zaa)) (pa_c (zaq (pa_c zae (pa_c zbw zaa))) zaa))))))))))))) (zad (zaj (zar (zax K) (pv 1) (zaw zbf (pv 0) zac) (λ_ _=>rfl))))),?_⟩;refine za3 [some (.int c),none] rfl ?_;trivial;refine mkT λp1 H1 n1=>mkT λp2 H2 n2=>mkT λp3 H3 n3=>mkT λp4 H4 n4=>mkT λp5 H5 n5=>mkT λp6 H6 n6=>mkT λp7 H7 n7=>mkT λp8 H8 n8=>mkT λp9 H9 n9=>?_;have s8:=n9.g;have s7:=n8.g.trans s8;have s6:=n7.g.trans s7;have s5:=n6.g.trans s6;have s4:=n5.g.trans s5;have s3:=n4.g.trans s4;have s2:=n3.g.trans s3;have s1:=n2.g.trans s2;have s0:=n1.g.trans s1;obtain⟨y,ey,my⟩:=zdg (i:=c) (xs:=[V.non,V.int c,V.str (Str.ofString "x"),V.ref p1,V.ref p2,V.ref p3,V.ref p4,V.ref p5,V.ref p6,V.ref p7,V.ref p8]) (n:=11) rfl (by decide);have fin:Ask H9 y/\¬FrT H9 y:=by
  simp only[y02,y07,or_false]at my;rcases my with rfl|rfl|rfl|rfl|rfl|rfl|rfl|rfl|rfl|rfl|rfl
  ·exact zc6 (zhg rfl)
  ·exact zc6 (zhg rfl)
  ·exact zc6 (zhg (by decide+kernel))
  ·exact zc6 (zvk (s1 _ _ n1.at'))
  ·exact zc6 (zd2 (s2 _ _ n2.at') (by simp) (by decide+kernel) (by decide+kernel))
  ·have e3:=s3 _ _ n3.at';refine⟨⟨⟨⟨_,.lst e3⟩,λz e=>by cases e⟩,λa' ys ea ee=>?_⟩,?_⟩
   ·cases ea;rw[e3]at ee;cases ee;exact zfu (by simp) (by decide+kernel)
   ·rintro⟨a,tl,ea,ee,_,h3⟩;cases ea;rw[e3]at ee;have:=congrArg List.length (HO.lst.inj (Option.some.inj ee));rw[y00]at this;simp only[y0a,y0m]at this;omega
  ·exact zc6 (zd2 (s4 _ _ n4.at') (by simp) (by decide+kernel) (by decide+kernel))
  ·exact zc6 (zd2 (s5 _ _ n5.at') (by simp) (by decide+kernel) (by decide+kernel))
  ·exact zc6 (zd2 (s6 _ _ n6.at') (by simp) (by decide+kernel) (by decide+kernel))
  ·exact zc6 (zd2 (s7 _ _ n7.at') (by simp) (by decide+kernel) (by decide+kernel))
  ·exact zc6 (zd2 (s8 _ _ n8.at') (by simp) (by decide+kernel) (by decide+kernel))
 exact⟨by decide,_,.of n9.at',y,ey,q y H9 s0 fin.1 fin.2⟩
abbrev s_law_odd_sayings:Stmt:=top 76
theorem sc_law_odd_sayings:FnScope ["_law_number","_law_saying_here","_law_odd","_law_some"] ["_law_number","_law_saying_here"] (defScope s_law_odd_sayings):={}
theorem zt8(T:Txt K mg w tw ow fa cStandings cSayError cs)(d:Dfn K mg "_law_odd_sayings" s_law_odd_sayings ["_law_number","_law_saying_here"]):Cal P w K mg base 1 "_law_odd_sayings" ["_law_number","_law_saying_here"] zep:=by
 refine d.cal sc_law_odd_sayings (λvs H Q E h=>?_) (λf cdv A outer s H vs Q E hr h=>?_)
 ·obtain⟨n,v,s,tl,rfl,_⟩:=h;rfl
 obtain⟨c,v,sy,tl,rfl,rp,wf,ng,q⟩:=h;refine⟨_,(zbm (zav (i:=2) sc_law_odd_sayings.nd rfl (Or.inl rfl) (zar (zax K) (zaq (pa_c zbw (pa_c zac (pa_c (zaq (pa_c zae zaa)) (pa_c (ztv (zqg zae zac zto) rfl rfl (by simp) (by decide)) (pa_c (zag (pa_c zae zaa)) (pa_c zdw (pa_c zae (pa_c zae zaa))))))))) (zaw zbf (pv 0) zac) (λ_ _=>rfl))) (zbm (zav (i:=3) sc_law_odd_sayings.nd rfl (Or.inl rfl) (zaq (pa_c (zag (pa_c zae (pa_c zae (pa_c (zag (pa_c zae (pa_c zae (pa_c (pv 2) zaa)))) zaa)))) (pa_c (zag (pa_c zae (pa_c zae (pa_c (zag (pa_c zae (pa_c (pv 2) (pa_c zae zaa)))) zaa)))) (pa_c (zag (pa_c zae (pa_c (pv 2) (pa_c (pv 1) zaa)))) zaa))))) (zbm (zav (i:=3) sc_law_odd_sayings.nd rfl (Or.inl rfl) (zaw zbr (pv 3) (zaq (pa_c (zag (pa_c zae (pa_c zae (pa_c (zag (pa_c zae (pa_c zae (pa_c (pv 2) zaa)))) zaa)))) (pa_c (zag (pa_c zae (pa_c zae (pa_c (zag (pa_c zae (pa_c (pv 2) (pa_c zae zaa)))) zaa)))) (pa_c (zag (pa_c zae (pa_c (pv 2) (pa_c (pv 1) zaa)))) zaa)))))) (zbm (zav (i:=3) sc_law_odd_sayings.nd rfl (Or.inl rfl) (zaw zbr (pv 3) (zaq (pa_c (zag (pa_c zae (pa_c zae (pa_c (zag (pa_c (pv 2) (pa_c zae (pa_c zae zaa)))) zaa)))) (pa_c (zag (pa_c (pv 2) (pa_c (pv 1) zaa))) (pa_c (zag (pa_c zae (pa_c (pv 2) zaa))) (pa_c (zag (pa_c zae (pa_c zae (pa_c (pv 2) zaa)))) zaa))))))) (zad (zaj (zar (zax K) (pv 3) (zaw zbf (zaw zbk (pv 0) zac) zac) (λ_ _=>rfl)))))))),?_⟩;refine za3 [some (.int c),some v,none,none] rfl ?_;refine⟨λσ H'=>∃o,σ=[some (.int c),some v,some o,none]/\Same H H'/\Odd H' o,?_,?_⟩
 ·trivial;refine mkT λp1 H1 n1 p2 h2=>⟨zao,[(Sum.inr "x",.int 1)],rfl,by decide,?_⟩;have n2:=New.mk' h2 (.dK (mergeK [] [(Sum.inr "x",.int 1)]));rw[zs3];generalize upd H1 p2 (.dK (mergeK [] [(Sum.inr "x",.int 1)]))=H2 at n2 ⊢;refine mkT λp3 H3 n3=>mkT λp4 H4 n4=>?_;obtain⟨y,ey,my⟩:=zdg (i:=c) (xs:=[V.non,V.int 5,V.ref p1,V.ref p2,V.ref p3,V.bl true,V.str (Str.ofString ""),V.str (Str.ofString "xX")]) (n:=8) rfl (by decide);have e1:=(n2.g.trans (n3.g.trans n4.g)) _ _ n1.at';have e2:=(n3.g.trans n4.g) _ _ n2.at';have e3:=n4.g _ _ n3.at';refine⟨by decide,_,.of n4.at',y,ey,n1.g.trans (n2.g.trans (n3.g.trans n4.g)),?_⟩;simp only[y02,y07,or_false]at my;rcases my with rfl|rfl|rfl|rfl|rfl|rfl|rfl|rfl
  ·exact⟨zo5,(λz e=>nomatch e),(λa xs e=>nomatch e)⟩
  ·exact⟨zo7,(λz e=>nomatch e),(λa xs e=>nomatch e)⟩
  ·exact⟨zo6 e1,(λz e=>nomatch e),(λa xs ea e=>by cases ea;rw[e1]at e;cases e)⟩
  ·exact⟨zxd e2,(λz e=>nomatch e),(λa xs ea e=>by cases ea;rw[e2]at e;cases e)⟩
  ·exact⟨zsr e3 (zai (by decide+kernel)),(λz e=>nomatch e),(λa xs ea e=>by cases ea;rw[e3]at e;cases e;rfl)⟩
  ·exact⟨zxe,(λz e=>nomatch e),(λa xs e=>nomatch e)⟩
  ·exact⟨zai (by decide+kernel),(λz e=>by cases e;decide+kernel),(λa xs e=>nomatch e)⟩
  ·exact⟨zai (by decide+kernel),(λz e=>by cases e;decide+kernel),(λa xs e=>nomatch e)⟩
 rintro σ Ho ⟨o,rfl,gO,od0⟩;refine⟨BO51 c v o tl Ho 3,?_,?_⟩
 ·have g0:=Same.refl Ho;trivial;refine mkT λpa1 Ha1 na1=>?_;refine mkT λpa2 Ha2 na2=>?_;refine mkT λpa3 Ha3 na3=>?_;refine mkT λpa4 Ha4 na4=>?_;refine mkT λpa5 Ha5 na5=>?_;refine mkT λpa6 Ha6 na6=>?_;have sa6:=Same.refl Ha6;have sa5:=na6.g.trans sa6;have sa4:=na5.g.trans sa5;have sa3:=na4.g.trans sa4;have sa2:=na3.g.trans sa3;have sa1:=na2.g.trans sa2;have sa0:=na1.g.trans sa1;have ea1:=sa1 _ _ na1.at';have ea2:=sa2 _ _ na2.at';have ea3:=sa3 _ _ na3.at';have ea4:=sa4 _ _ na4.at';have ea5:=sa5 _ _ na5.at';have gE:=g0.trans sa0;have rx:=λn=>(((rp.same gO).same gE).exp wf n);have od:=od0.same sa0;refine⟨gE,pa6,_,rfl,(g0.trans (na1.g.trans (na2.g.trans (na3.g.trans (na4.g.trans na5.g))))).free na6.nil,na6.at',rfl,λx hx=>?_⟩;simp only[y02,y07,or_false]at hx;rcases hx with rfl|rfl|rfl
  ·exact⟨(za9 ea2 (zai (by decide+kernel)) (zai (by decide+kernel)) (za9 ea1 (zai (by decide+kernel)) (zai (by decide+kernel)) od.ex)),(b_qu ea2 (by decide) (.inr (.inr (zfg ea1 (by decide) (zwv od)))))⟩
  ·exact⟨(za9 ea4 (zai (by decide+kernel)) (zai (by decide+kernel)) (za9 ea3 (zai (by decide+kernel)) od.ex (zai (by decide+kernel)))),(b_qu ea4 (by decide) (.inr (.inr (zfg ea3 (by decide) (zwu od)))))⟩
  ·exact⟨(za9 ea5 (zai (by decide+kernel)) od.ex rx),(zvi ea5 (by decide) (zwt od))⟩
 rintro σ Hb ⟨gb,Lb,xb,rfl,fb,lb,cb,bb⟩;refine⟨BO51 c v o tl Ho 6,?_,?_⟩
 ·trivial;refine mkT λpb1 Hb1 nb1=>?_;refine mkT λpb2 Hb2 nb2=>?_;refine mkT λpb3 Hb3 nb3=>?_;refine mkT λpb4 Hb4 nb4=>?_;refine mkT λpb5 Hb5 nb5=>?_;refine mkT λpb6 Hb6 nb6=>?_;refine⟨_,(nb1.g.trans (nb2.g.trans (nb3.g.trans (nb4.g.trans (nb5.g.trans (nb6.g)))))) _ _ lb,_,nb6.at',zaf (by simp only[y0a,y0m];omega),λpb7 Hb7 nb7=>?_⟩;have sb7:=Same.refl Hb7;have sb6:=nb7.g.trans sb7;have sb5:=nb6.g.trans sb6;have sb4:=nb5.g.trans sb5;have sb3:=nb4.g.trans sb4;have sb2:=nb3.g.trans sb3;have sb1:=nb2.g.trans sb2;have sb0:=nb1.g.trans sb1;have eb1:=sb1 _ _ nb1.at';have eb2:=sb2 _ _ nb2.at';have eb3:=sb3 _ _ nb3.at';have eb4:=sb4 _ _ nb4.at';have eb5:=sb5 _ _ nb5.at';have gE:=gb.trans sb0;have rx:=λn=>(((rp.same gO).same gE).exp wf n);have od:=od0.same gE;refine⟨gE,pb7,_,rfl,(gb.trans (nb1.g.trans (nb2.g.trans (nb3.g.trans (nb4.g.trans (nb5.g.trans nb6.g)))))).free nb7.nil,nb7.at',by rw[y06,cb];rfl,λx hx=>?_⟩;rcases y0j.mp hx with hx|hx
  ·exact(bb x hx).same sb0
  simp only[y02,y07,or_false]at hx;rcases hx with rfl|rfl|rfl
  ·exact⟨(za9 eb2 (zai (by decide+kernel)) (zai (by decide+kernel)) (za9 eb1 (zai (by decide+kernel)) (zai (by decide+kernel)) od.ex)),(b_qu eb2 (by decide) (.inr (.inr (zfg eb1 (by decide) (zwv od)))))⟩
  ·exact⟨(za9 eb4 (zai (by decide+kernel)) (zai (by decide+kernel)) (za9 eb3 (zai (by decide+kernel)) od.ex (zai (by decide+kernel)))),(b_qu eb4 (by decide) (.inr (.inr (zfg eb3 (by decide) (zwu od)))))⟩
  ·exact⟨(za9 eb5 (zai (by decide+kernel)) od.ex rx),(zvi eb5 (by decide) (zwt od))⟩
 rintro σ Hc ⟨gc,Lc,xc,rfl,fc,lc,cc,bc⟩;refine⟨BO51 c v o tl Ho 10,?_,?_⟩
 ·trivial;refine mkT λpc1 Hc1 nc1=>?_;refine mkT λpc2 Hc2 nc2=>?_;refine mkT λpc3 Hc3 nc3=>?_;refine mkT λpc4 Hc4 nc4=>?_;refine mkT λpc5 Hc5 nc5=>?_;refine mkT λpc6 Hc6 nc6=>?_;refine⟨_,(nc1.g.trans (nc2.g.trans (nc3.g.trans (nc4.g.trans (nc5.g.trans (nc6.g)))))) _ _ lc,_,nc6.at',zaf (by simp only[y0a,y0m];omega),λpc7 Hc7 nc7=>?_⟩;have sc7:=Same.refl Hc7;have sc6:=nc7.g.trans sc7;have sc5:=nc6.g.trans sc6;have sc4:=nc5.g.trans sc5;have sc3:=nc4.g.trans sc4;have sc2:=nc3.g.trans sc3;have sc1:=nc2.g.trans sc2;have sc0:=nc1.g.trans sc1;have ec1:=sc1 _ _ nc1.at';have ec2:=sc2 _ _ nc2.at';have ec3:=sc3 _ _ nc3.at';have ec4:=sc4 _ _ nc4.at';have ec5:=sc5 _ _ nc5.at';have gE:=gc.trans sc0;have rx:=λn=>(((rp.same gO).same gE).exp wf n);have od:=od0.same gE;refine⟨gE,pc7,_,rfl,(gc.trans (nc1.g.trans (nc2.g.trans (nc3.g.trans (nc4.g.trans (nc5.g.trans nc6.g)))))).free nc7.nil,nc7.at',by rw[y06,cc];rfl,λx hx=>?_⟩;rcases y0j.mp hx with hx|hx
  ·exact(bc x hx).same sc0
  simp only[y02,y07,or_false]at hx;rcases hx with rfl|rfl|rfl|rfl
  ·exact⟨(za9 ec2 (zai (by decide+kernel)) (zai (by decide+kernel)) (za9 ec1 od.ex (zai (by decide+kernel)) (zai (by decide+kernel)))),(b_qu ec2 (by decide) (.inr (.inr (b_3 ec1 (zxu od)))))⟩
  ·exact⟨(zid ec3 od.ex rx),(b_2 ec3 (zun od))⟩
  ·exact⟨(zid ec4 (zai (by decide+kernel)) od.ex),(zxn ec4 (.nr od.no))⟩
  ·exact⟨(za9 ec5 (zai (by decide+kernel)) (zai (by decide+kernel)) od.ex),(b_qu ec5 (by decide) (.inr (.inr (.nr od.no))))⟩
 rintro σ Hz ⟨gz,Lz,xz,rfl,fz,lz,cz,bz⟩;trivial;obtain⟨y,ey,my⟩:=zdg (i:=c/8) (xs:=xz) (n:=10) cz (by decide);exact⟨⟨by decide,by decide⟩,by decide,_,.of lz,y,ey,q y Hz (gO.trans gz) (bz y my)⟩
theorem zol{n:Nat}(h:n<1000):n<sizeLine:=y0i h (zaf (y04 1000))
abbrev s_law_bad_sayings:Stmt:=top 75
theorem sc_law_bad_sayings:FnScope ["_law_number","_law_saying_here","_law_some"] ["_law_number","_law_saying_here"] (defScope s_law_bad_sayings):={}
theorem zuk(T:Txt K mg w tw ow fa cStandings cSayError cs)(d:Dfn K mg "_law_bad_sayings" s_law_bad_sayings ["_law_number","_law_saying_here"]):Cal P w K mg base 1 "_law_bad_sayings" ["_law_number","_law_saying_here"] zep:=by
 refine d.cal sc_law_bad_sayings (λvs H Q E h=>?_) (λf cdv A outer s H vs Q E hr h=>?_)
 ·obtain⟨n,v,s,tl,rfl,_⟩:=h;rfl
 obtain⟨c,v,sy,tl,rfl,rp,wf,ng,q⟩:=h;have nin0:∀z:Str,z∈bad4->z∉tl:=λz hz h=>(ng z h).2 hz;have nin1:∀z y:Str,z∈bad4->z≠y->z∉tl++[y]:=λz y hz hy h=>(y0j.mp h).elim (nin0 z hz) (λh=>hy (y08.mp h));refine⟨_,(zbm (zav (i:=2) sc_law_bad_sayings.nd rfl (Or.inl rfl) (zaq (pa_c zbw (pa_c (pv 0) (pa_c zae (pa_c (zag zaa) (pa_c (zag (pa_c zae zaa)) (pa_c (zag (pa_c zae (pa_c zae (pa_c zae zaa)))) (pa_c (zag (pa_c zae (pa_c zae (pa_c zae zaa)))) (pa_c (zaq (pa_c zae (pa_c (pv 1) zaa))) zaa)))))))))) (zbm (zav (i:=2) sc_law_bad_sayings.nd rfl (Or.inl rfl) (zaw zbr (pv 2) (zaq (pa_c (zag (pa_c zae (pa_c zae (pa_c (zag (pa_c zae (pa_c zae (pa_c zae zaa)))) zaa)))) (pa_c (zag (pa_c zae (pa_c (pv 1) (pa_c (pv 1) zaa)))) (pa_c (zag (pa_c zae (pa_c zae (pa_c (zag (pa_c zae (pa_c zae (pa_c zae zaa)))) zaa)))) zaa)))))) (zbm (zav (i:=2) sc_law_bad_sayings.nd rfl (Or.inl rfl) (zaw zbr (pv 2) (zaq (pa_c (zag (pa_c zae (pa_c zae (pa_c (zag (pa_c zae (pa_c zae (pa_c (zag (pa_c zae (pa_c zae (pa_c zae zaa)))) zaa)))) zaa)))) (pa_c (zag (pa_c zae (pa_c (pv 1) zaa))) (pa_c (zag (pa_c zae (pa_c (pv 1) zaa))) zaa)))))) (zbm (zav (i:=2) sc_law_bad_sayings.nd rfl (Or.inl rfl) (zaw zbr (pv 2) (zaq (pa_c (zag (pa_c zae (pa_c zae (pa_c (zag (pa_c zae (pa_c zae (pa_c zae zaa)))) zaa)))) (pa_c (zag (pa_c zae (pa_c zae (pa_c (zag (pa_c zae (pa_c zae (pa_c zae zaa)))) zaa)))) zaa))))) (zbm (zbj (zb2 K PySem.F.plainAttrs_list PySem.F.slot_list_append PySem.F.type_list_append zbe (pv 2) (pa_c (zag (pa_c zae (pa_c zae (pa_c (pv 1) (pa_c (pv 1) zaa))))) zaa))) (zbm (zav (i:=2) sc_law_bad_sayings.nd rfl (Or.inl rfl) (zaw zbr (pv 2) (zaq (pa_c (zag (pa_c zae (pa_c (pv 1) (pa_c (zag (pa_c zae (pa_c zae (pa_c zae zaa)))) zaa)))) (pa_c (zag (pa_c zae (pa_c zae (pa_c (pv 1) zaa)))) (pa_c (zag (pa_c zae (pa_c (zag (pa_c zae (pa_c zae (pa_c zae zaa)))) zaa))) zaa)))))) (zad (zaj (zar (zax K) (pv 2) (zaw zbf (pv 0) zac) (λ_ _=>rfl)))))))))),?_⟩;refine za3 [some (.int c),some v,none] rfl ?_;refine⟨BI51 c v tl H 8,?_,?_⟩
 ·have g0:=Same.refl H;trivial;refine mkT λpa1 Ha1 na1=>?_;refine mkT λpa2 Ha2 na2=>?_;refine mkT λpa3 Ha3 na3=>?_;refine mkT λpa4 Ha4 na4=>?_;refine mkT λpa5 Ha5 na5=>?_;refine mkT λpa6 Ha6 na6=>?_;have sa6:=Same.refl Ha6;have sa5:=na6.g.trans sa6;have sa4:=na5.g.trans sa5;have sa3:=na4.g.trans sa4;have sa2:=na3.g.trans sa3;have sa1:=na2.g.trans sa2;have sa0:=na1.g.trans sa1;have ea1:=sa1 _ _ na1.at';have ea2:=sa2 _ _ na2.at';have ea3:=sa3 _ _ na3.at';have ea4:=sa4 _ _ na4.at';have ea5:=sa5 _ _ na5.at';have gE:=g0.trans sa0;have rx:=λn=>((rp.same gE).exp wf n);refine⟨gE,pa6,_,rfl,(g0.trans (na1.g.trans (na2.g.trans (na3.g.trans (na4.g.trans na5.g))))).free na6.nil,na6.at',rfl,λx hx=>?_⟩;simp only[y02,y07,or_false]at hx;rcases hx with rfl|rfl|rfl|rfl|rfl|rfl|rfl|rfl
  ·exact⟨zo5,(.nr (zjg λ_ e=>nomatch e))⟩
  ·exact⟨zo7,(.nr (zjg λ_ e=>nomatch e))⟩
  ·exact⟨(zai (by decide+kernel)),(.nr (zjg λ_ e=>nomatch e))⟩
  ·exact⟨(ze9 ea1 (by simp) (λx hx=>nomatch hx)),(b_len ea1 (by simp) (by simp))⟩
  ·exact⟨(zsr ea2 (zai (by decide+kernel))),(b_len ea2 (by simp) (by simp))⟩
  ·exact⟨(za9 ea3 (zai (by decide+kernel)) (zai (by decide+kernel)) (zai (by decide+kernel))),(zd9 ea3 (by decide) (.inr (.inr (.inl (nin0 _ (by decide))))))⟩
  ·exact⟨(za9 ea4 (zai (by decide+kernel)) (zai (by decide+kernel)) (zai (by decide+kernel))),(zd9 ea4 (by decide) (.inr (.inl (by decide))))⟩
  ·exact⟨(zo6 ea5),(.nr (zww ea5))⟩
 rintro σ Hb ⟨gb,Lb,xb,rfl,fb,lb,cb,bb⟩;refine⟨BI51 c v tl H 11,?_,?_⟩
 ·trivial;refine mkT λpb1 Hb1 nb1=>?_;refine mkT λpb2 Hb2 nb2=>?_;refine mkT λpb3 Hb3 nb3=>?_;refine mkT λpb4 Hb4 nb4=>?_;refine mkT λpb5 Hb5 nb5=>?_;refine mkT λpb6 Hb6 nb6=>?_;refine⟨_,(nb1.g.trans (nb2.g.trans (nb3.g.trans (nb4.g.trans (nb5.g.trans (nb6.g)))))) _ _ lb,_,nb6.at',zaf (by simp only[y0a,y0m];omega),λpb7 Hb7 nb7=>?_⟩;have sb7:=Same.refl Hb7;have sb6:=nb7.g.trans sb7;have sb5:=nb6.g.trans sb6;have sb4:=nb5.g.trans sb5;have sb3:=nb4.g.trans sb4;have sb2:=nb3.g.trans sb3;have sb1:=nb2.g.trans sb2;have sb0:=nb1.g.trans sb1;have eb1:=sb1 _ _ nb1.at';have eb2:=sb2 _ _ nb2.at';have eb3:=sb3 _ _ nb3.at';have eb4:=sb4 _ _ nb4.at';have eb5:=sb5 _ _ nb5.at';have gE:=gb.trans sb0;have rx:=λn=>((rp.same gE).exp wf n);refine⟨gE,pb7,_,rfl,(gb.trans (nb1.g.trans (nb2.g.trans (nb3.g.trans (nb4.g.trans (nb5.g.trans nb6.g)))))).free nb7.nil,nb7.at',by rw[y06,cb];rfl,λx hx=>?_⟩;rcases y0j.mp hx with hx|hx
  ·exact(bb x hx).same sb0
  simp only[y02,y07,or_false]at hx;rcases hx with rfl|rfl|rfl
  ·exact⟨(za9 eb2 (zai (by decide+kernel)) (zai (by decide+kernel)) (za9 eb1 (zai (by decide+kernel)) (zai (by decide+kernel)) (zai (by decide+kernel)))),(b_qu eb2 (by decide) (.inr (.inr (zd9 eb1 (by decide) (.inr (.inl (by decide)))))))⟩
  ·exact⟨(za9 eb3 (zai (by decide+kernel)) rx rx),(b_3 eb3 (λw h=>by cases h;decide+kernel))⟩
  ·exact⟨(za9 eb5 (zai (by decide+kernel)) (zai (by decide+kernel)) (za9 eb4 (zai (by decide+kernel)) (zai (by decide+kernel)) (zai (by decide+kernel)))),(b_qu eb5 (by decide) (.inr (.inr (zd9 eb4 (by decide) (.inr (.inr (.inr (nin1 _ _ (by decide) (by decide)))))))))⟩
 rintro σ Hc ⟨gc,Lc,xc,rfl,fc,lc,cc,bc⟩;refine⟨BI51 c v tl H 14,?_,?_⟩
 ·trivial;refine mkT λpc1 Hc1 nc1=>?_;refine mkT λpc2 Hc2 nc2=>?_;refine mkT λpc3 Hc3 nc3=>?_;refine mkT λpc4 Hc4 nc4=>?_;refine mkT λpc5 Hc5 nc5=>?_;refine mkT λpc6 Hc6 nc6=>?_;refine⟨_,(nc1.g.trans (nc2.g.trans (nc3.g.trans (nc4.g.trans (nc5.g.trans (nc6.g)))))) _ _ lc,_,nc6.at',zaf (by simp only[y0a,y0m];omega),λpc7 Hc7 nc7=>?_⟩;have sc7:=Same.refl Hc7;have sc6:=nc7.g.trans sc7;have sc5:=nc6.g.trans sc6;have sc4:=nc5.g.trans sc5;have sc3:=nc4.g.trans sc4;have sc2:=nc3.g.trans sc3;have sc1:=nc2.g.trans sc2;have sc0:=nc1.g.trans sc1;have ec1:=sc1 _ _ nc1.at';have ec2:=sc2 _ _ nc2.at';have ec3:=sc3 _ _ nc3.at';have ec4:=sc4 _ _ nc4.at';have ec5:=sc5 _ _ nc5.at';have gE:=gc.trans sc0;have rx:=λn=>((rp.same gE).exp wf n);refine⟨gE,pc7,_,rfl,(gc.trans (nc1.g.trans (nc2.g.trans (nc3.g.trans (nc4.g.trans (nc5.g.trans nc6.g)))))).free nc7.nil,nc7.at',by rw[y06,cc];rfl,λx hx=>?_⟩;rcases y0j.mp hx with hx|hx
  ·exact(bc x hx).same sc0
  simp only[y02,y07,or_false]at hx;rcases hx with rfl|rfl|rfl
  ·exact⟨(za9 ec3 (zai (by decide+kernel)) (zai (by decide+kernel)) (za9 ec2 (zai (by decide+kernel)) (zai (by decide+kernel)) (za9 ec1 (zai (by decide+kernel)) (zai (by decide+kernel)) (zai (by decide+kernel))))),(b_qu ec3 (by decide) (.inr (.inr (b_qu ec2 (by decide) (.inr (.inl (y0p _ y0c)))))))⟩
  ·exact⟨(zid ec4 (zai (by decide+kernel)) rx),(b_2 ec4 (λh=>absurd (V.str.inj h) (by decide)))⟩
  ·exact⟨(zid ec5 (zai (by decide+kernel)) rx),(b_2 ec5 (λh=>absurd (V.str.inj h) (by decide)))⟩
 rintro σ Hd ⟨gd,Ld,xd,rfl,fd,ld,cd,bd⟩;refine⟨BI51 c v tl H 16,?_,?_⟩
 ·trivial;refine mkT λpd1 Hd1 nd1=>?_;refine mkT λpd2 Hd2 nd2=>?_;refine mkT λpd3 Hd3 nd3=>?_;refine mkT λpd4 Hd4 nd4=>?_;refine mkT λpd5 Hd5 nd5=>?_;refine⟨_,(nd1.g.trans (nd2.g.trans (nd3.g.trans (nd4.g.trans (nd5.g))))) _ _ ld,_,nd5.at',zaf (by simp only[y0a,y0m];omega),λpd6 Hd6 nd6=>?_⟩;have sd6:=Same.refl Hd6;have sd5:=nd6.g.trans sd6;have sd4:=nd5.g.trans sd5;have sd3:=nd4.g.trans sd4;have sd2:=nd3.g.trans sd3;have sd1:=nd2.g.trans sd2;have sd0:=nd1.g.trans sd1;have ed1:=sd1 _ _ nd1.at';have ed2:=sd2 _ _ nd2.at';have ed3:=sd3 _ _ nd3.at';have ed4:=sd4 _ _ nd4.at';have gE:=gd.trans sd0;have rx:=λn=>((rp.same gE).exp wf n);refine⟨gE,pd6,_,rfl,(gd.trans (nd1.g.trans (nd2.g.trans (nd3.g.trans (nd4.g.trans nd5.g))))).free nd6.nil,nd6.at',by rw[y06,cd];rfl,λx hx=>?_⟩;rcases y0j.mp hx with hx|hx
  ·exact(bd x hx).same sd0
  simp only[y02,y07,or_false]at hx;rcases hx with rfl|rfl
  ·exact⟨(za9 ed2 (zai (by decide+kernel)) (zai (by decide+kernel)) (za9 ed1 (zai (by decide+kernel)) (zai (by decide+kernel)) (zai (by decide+kernel)))),(b_qu ed2 (by decide) (.inr (.inr (zd9 ed1 (by decide) (.inl (by decide+kernel))))))⟩
  ·exact⟨(za9 ed4 (zai (by decide+kernel)) (zai (by decide+kernel)) (za9 ed3 (zai (by decide+kernel)) (zai (by decide+kernel)) (zai (by decide+kernel)))),(b_qu ed4 (by decide) (.inr (.inr (zd9 ed3 (by decide) (.inl (by decide+kernel))))))⟩
 rintro σ He ⟨ge,Le,xe,rfl,fe,le,ce,be⟩;refine⟨BI51 c v tl H 17,?_,?_⟩
 ·trivial;refine⟨.inl ⟨_,.of le⟩,?_⟩;refine mkT λpe1 He1 ne1=>?_;have se1:=Same.refl He1;have se0:=ne1.g.trans se1;have ee1:=se1 _ _ ne1.at';have gE:=ge.trans se0;have rx:=λn=>((rp.same gE).exp wf n);have bi:BadX He1 tl (.ref pe1):=⟨(zxc ee1 (zai (by decide+kernel)) (zai (by decide+kernel)) rx rx),(b_len ee1 (by simp) (by simp))⟩;have eL:=se0 _ _ le;refine⟨_,eL,zol (by omega),gE.wr fe _,Le,_,rfl,fe,zao,by rw[y06,ce];rfl,λx hx=>?_⟩;rcases y0j.mp hx with hx|hx
  ·exact((be x hx).same se0).wr eL
  ·rw[y08.mp hx];exact bi.wr eL
 rintro σ Hf ⟨gf,Lf,xf,rfl,ff,lf,cf,bf⟩;refine⟨BI51 c v tl H 20,?_,?_⟩
 ·trivial;refine mkT λpf1 Hf1 nf1=>?_;refine mkT λpf2 Hf2 nf2=>?_;refine mkT λpf3 Hf3 nf3=>?_;refine mkT λpf4 Hf4 nf4=>?_;refine mkT λpf5 Hf5 nf5=>?_;refine mkT λpf6 Hf6 nf6=>?_;refine⟨_,(nf1.g.trans (nf2.g.trans (nf3.g.trans (nf4.g.trans (nf5.g.trans (nf6.g)))))) _ _ lf,_,nf6.at',zaf (by simp only[y0a,y0m];omega),λpf7 Hf7 nf7=>?_⟩;have sf7:=Same.refl Hf7;have sf6:=nf7.g.trans sf7;have sf5:=nf6.g.trans sf6;have sf4:=nf5.g.trans sf5;have sf3:=nf4.g.trans sf4;have sf2:=nf3.g.trans sf3;have sf1:=nf2.g.trans sf2;have sf0:=nf1.g.trans sf1;have ef1:=sf1 _ _ nf1.at';have ef2:=sf2 _ _ nf2.at';have ef3:=sf3 _ _ nf3.at';have ef4:=sf4 _ _ nf4.at';have ef5:=sf5 _ _ nf5.at';have gE:=gf.trans sf0;have rx:=λn=>((rp.same gE).exp wf n);refine⟨gE,pf7,_,rfl,(gf.trans (nf1.g.trans (nf2.g.trans (nf3.g.trans (nf4.g.trans (nf5.g.trans nf6.g)))))).free nf7.nil,nf7.at',by rw[y06,cf];rfl,λx hx=>?_⟩;rcases y0j.mp hx with hx|hx
  ·exact(bf x hx).same sf0
  simp only[y02,y07,or_false]at hx;rcases hx with rfl|rfl|rfl
  ·exact⟨(za9 ef2 (zai (by decide+kernel)) rx (za9 ef1 (zai (by decide+kernel)) (zai (by decide+kernel)) (zai (by decide+kernel)))),(zxz ef2 (by decide) (zd9 ef1 (by decide) (.inr (.inr (.inl (nin0 _ (by decide)))))))⟩
  ·exact⟨(za9 ef3 (zai (by decide+kernel)) (zai (by decide+kernel)) rx),(b_qu ef3 (by decide) (.inl (by decide+kernel)))⟩
  ·exact⟨(zid ef5 (zai (by decide+kernel)) (za9 ef4 (zai (by decide+kernel)) (zai (by decide+kernel)) (zai (by decide+kernel)))),(zxn ef5 (zd9 ef4 (by decide) (.inl (by decide+kernel))))⟩
 rintro σ Hz ⟨gz,Lz,xz,rfl,fz,lz,cz,bz⟩;trivial;obtain⟨y,ey,my⟩:=zdg (i:=c) (xs:=xz) (n:=20) cz (by decide);exact⟨by decide,_,.of lz,y,ey,q y Hz gz (bz y my)⟩
abbrev s_law_saying:Stmt:=top 73
theorem sc_law_saying:FnScope ["_law_left","_law_names","_law_deep","_law_number","_law_kind","_law_one","_law_name_here"] ["_law_left","_law_names","_law_deep"] (defScope s_law_saying):={}
theorem zkp(T:Txt K mg w tw ow fa cStandings cSayError cs)(d:Dfn K mg "_law_saying" s_law_saying ["_law_left","_law_names","_law_deep"])(C_law_bare:Cal P w K mg base 1 "_law_bare" ["_law_number","_law_names"] zdj)(C_law_new:Cal P w K mg base 1 "_law_new" ["_law_number","_law_names"] zgg){dd:Nat}(C_law_saying:Cal P w K mg base (1+dd) "_law_saying" ["_law_left","_law_names","_law_deep"] (λvs H Q E=>0<dd/\zc3 (dd-1) vs H Q E)):Cal P w K mg base (1+dd+1) "_law_saying" ["_law_left","_law_names","_law_deep"] (zc3 dd):=by
 refine d.cal sc_law_saying (λvs H Q E h=>?_) (λf cdv A outer s H vs Q E hr h=>?_)
 ·obtain⟨l,b,ns,tl,rfl,_⟩:=h;rfl
 obtain⟨l,b,ns,tl,rfl,el,h3,eb,nlb,ng,ht3,hd2,q⟩:=h;have hu:=zib hr 8 (by omega);refine⟨_,(zab (zav (i:=3) sc_law_saying.nd rfl (Or.inl rfl) zac) (zbm (za0 (zam zh4 (za5 (zat K) (by rfl) T.b_len boot_len (pa_c (pv 0) zaa)) zac (nomark _)) (zad (zav (i:=3) sc_law_saying.nd rfl (Or.inl rfl) (zaw zbf (zaw znu (zjd K PySem.F.plainAttrs_list PySem.F.slot_list_pop PySem.F.type_list_pop zsk (pv 0)) zac) zac))) zap) (zab (zav (i:=4) sc_law_saying.nd rfl (Or.inl rfl) (zaw zbf (pv 3) zac)) (zab (zav (i:=3) sc_law_saying.nd rfl (Or.inl rfl) (zaw zbk (pv 3) zac)) (zab (za0 (PW.pt (zdc (zam zbb (pv 2) zac (nomark _)) (zdc (zam zqv (pv 4) zac (nomark _)) (zdc (zam zbb (za5 (zat K) (by rfl) T.b_len boot_len (pa_c (pv 0) zaa)) zac (nomark _)) (zcq (PW.pt (zes (zam zh4 (pv 4) zac (nomark _)) (zdd (zam zh4 (za5 (zat K) (by rfl) T.b_len boot_len (pa_c (pv 1) zaa)) zac (nomark _)))))))))) (zad (zaj (zah C_law_bare hr (by omega) (by rfl) (pa_c (pv 3) (pa_c (pv 1) zaa))))) zap) (zab (za0 (zam zbb (pv 4) zac (nomark _)) (zad (zaj (zag (pa_c zae (pa_c (zah C_law_saying hr (by omega) (by rfl) (pa_c (pv 0) (pa_c (pv 1) (pa_c (zaw zey (pv 2) zac) zaa)))) zaa))))) zap) (zab (za0 (zam zqv (pv 4) zac (nomark _)) (zab (zav (i:=5) sc_law_saying.nd rfl (Or.inl rfl) (zah C_law_saying hr (by omega) (by rfl) (pa_c (pv 0) (pa_c (pv 1) (pa_c (zaw zey (pv 2) zac) zaa))))) (zad (zaj (zag (pa_c (zar (zax K) (zaq (pa_c zae (pa_c zae zaa))) (zaw zey (pv 4) zac) (λ_ _=>rfl)) (pa_c (pv 5) (pa_c (zah C_law_saying hr (by omega) (by rfl) (pa_c (pv 0) (pa_c (pv 1) (pa_c (zaw zey (pv 2) zac) zaa)))) zaa))))))) zap) (zab (zav (i:=6) sc_law_saying.nd rfl (Or.inl rfl) (zah C_law_new hr (by omega) (by rfl) (pa_c (pv 3) (pa_c (pv 1) zaa)))) (zad (zaj (zag (pa_c (zar (zax K) (zaq (pa_c zae (pa_c zae zaa))) (zaw zbf (zaw zbk (pv 3) zac) zac) (λ_ _=>rfl)) (pa_c (pv 6) (pa_c (zah C_law_saying hr (by omega) (by rfl) (pa_c (pv 0) (pa_c (zaw zbr (pv 1) (zaq (pa_c (pv 6) zaa))) (pa_c (zaw zey (pv 2) zac) zaa)))) zaa)))))))))))))),?_⟩;refine za3 [some (.ref l),some (.ref b),some (nV dd),none,none,none,none] rfl ?_;trivial;refine⟨λσ' H'=>∃(num:Int) (ns':List Int),σ'=[some (.ref l),some (.ref b),some (nV dd),some (.int num),none,none,none]/\SameB l H H'/\H' l=some (.lst (ns'.map V.int))/\ns'.length<=3,?_,?_⟩
 ·trivial;refine⟨_,.inl (.of el),?_⟩;by_cases h0:0<ns.length
  ·rw[decide_eq_true (by rw[y00];omega)];obtain⟨k,hk⟩:∃k,ns[ns.length-1]?=some k:=⟨_,y0n (by omega)⟩;refine iteT ⟨.inl ⟨_,.of el⟩,_,el,.int k,by rw[y00,y0w,hk];rfl,k,rfl,?_,by decide,SameB.wr _,ns.dropLast,?_,?_⟩
   ·exact .inr ⟨by decide,by decide⟩
   ·rw[zao,List.map_dropLast]
   ·rw[List.length_dropLast];omega
  ·exact itF (by rw[y00];omega) ⟨λb o _ e=>e,ns,el,h3⟩
 rintro σ' H1 ⟨num,ns',rfl,g1,el1,hl1⟩;trivial;have eb1:=g1 _ _ (Ne.symm nlb) eb;have bare:zdj [V.int (num/9),V.ref b] H1 Q E0:=⟨_,b,tl,rfl,eb1,ng,ht3,λv sy H2 g2 r2 lf=>q v sy ns' H2 (g1.trans (Same.b g2 l)) (g2 _ _ el1) hl1 r2 (.leaf hd2 ht3 lf)⟩;have m0:=y17 num (show(9:Int)≠0 by decide);have m1:=y0y num (show(0:Int)<9 by decide);refine⟨by decide,⟨by decide,by decide⟩,?_⟩;by_cases hd0:dd=0
 ·exact itT (by omega) bare
 refine itF (by omega) ?_;by_cases hk3:num%9<3
 ·exact itT hk3 bare
 refine itF hk3 ⟨_,.inl (.of el1),?_⟩;by_cases hz:((ns'.map V.int).length:Int)=0
 ·exact itT hz bare
 refine itF hz ?_;obtain⟨e,rfl⟩:∃e,dd=e+1:=⟨dd-1,by omega⟩;have ed:V.int (((e+1:Nat):Int)-1)=nV e:=by show V.int _=V.int _;congr 1;omega
 have ee:e+1-1=e:=rfl;rw[ed,ee];by_cases hk5:5<num%9
 ·refine itT hk5 ⟨_,.inl (.of eb1),?_⟩;by_cases h2:2<tl.length
  ·exact itT (by rw[y00];omega) bare
  refine itF (by rw[y00];omega) ?_;refine itF (by omega) ?_;refine itF (by omega) ⟨_,b,tl,rfl,eb1,ht3,λz H2 g2 nz nb nt=>mkT λp3 H3 n3=>⟨⟨by decide,by decide⟩,by decide,_,.of n3.at',?_⟩⟩;have j0:=y17 (num/9/64) (show(2:Int)≠0 by decide);have j1:=y0y (num/9/64) (show(0:Int)<2 by decide);obtain⟨wd,hw,ew⟩:∃wd:Str,(wd="some"\/wd="all")/\atI [V.str (Str.ofString "some"),V.str (Str.ofString "all")] (num/9/64%2)=some (.str wd):=by
   rcases(show num/9/64%2=0\/num/9/64%2=1 by omega)with e'|e'<;>rw[e']
   ·exact⟨_,.inl rfl,za1⟩
   ·exact⟨_,.inr rfl,zak (j:=1) rfl⟩
  have g3:=g2.trans n3.g;refine⟨_,ew,mkT λp4 H4 n4=>⟨_,n4.g _ _ (g3 _ _ eb1),_,n4.at',zaf (show(tl.map V.str).length+1<=1000 by rw[y00];omega),λp5 H5 n5=>⟨by omega,?_⟩⟩⟩;have g5:=g3.trans (n4.g.trans n5.g);have e5:H5 p5=some (.lst ((tl++[z]).map V.str)):=by rw[n5.at',y0r];rfl
  refine⟨l,p5,ns',tl++[z],rfl,g5 _ _ el1,hl1,e5,zas ((g3.trans n4.g) _ _ el1) n5.nil,(λy hy=>?_),by rw[y06];simp only[y0a,y0m];omega,by omega,λv sy ns2 H6 g6 e6 hl6 r6 d6=>mkT λp7 H7 n7=>?_⟩
  ·rcases y0j.mp hy with h|h
   ·exact ng y h
   ·rw[y08.mp h];exact⟨nz,nb⟩
  ·exact q _ _ ns2 H7 ((g1.trans (Same.b g5 l)).trans (g6.trans (Same.b n7.g l))) (n7.g _ _ e6) hl6 (.qu (by rcases hw with rfl|rfl<;>decide) n7.at' (r6.same n7.g)) (.qu hd2 (by omega) hw nz nt d6)
 refine itF hk5 ?_;by_cases hk3':num%9=3
 ·refine itT hk3' ⟨by omega,l,b,ns',tl,rfl,el1,hl1,eb1,nlb,ng,ht3,by omega,λv sy ns2 H6 g6 e6 hl6 r6 d6=>mkT λp7 H7 n7=>?_⟩;exact q _ _ ns2 H7 (g1.trans (g6.trans (Same.b n7.g l))) (n7.g _ _ e6) hl6 (.neg n7.at' (r6.same n7.g)) (.neg hd2 ht3 d6)
 refine itF hk3' ?_;refine itT (by omega) ⟨by omega,l,b,ns',tl,rfl,el1,hl1,eb1,nlb,ng,ht3,by omega,λv sy ns2 H6 g6 e6 hl6 r6 d6=>mkT λp7 H7 n7=>⟨_,.of n7.at',?_⟩⟩;obtain⟨wd,hw,ew⟩:∃wd:Str,(wd="and"\/wd="or")/\atI [V.str (Str.ofString "and"),V.str (Str.ofString "or")] (num%9-4)=some (.str wd):=by
  rcases(show num%9-4=0\/num%9-4=1 by omega)with e'|e'<;>rw[e']
  ·exact⟨_,.inl rfl,za1⟩
  ·exact⟨_,.inr rfl,zak (j:=1) rfl⟩
 have eb7:=n7.g _ _ (g6 _ _ (Ne.symm nlb) eb1);refine⟨_,ew,by omega,l,b,ns2,tl,rfl,n7.g _ _ e6,hl6,eb7,nlb,ng,ht3,by omega,λv8 sy8 ns8 H8 g8 e8 hl8 r8 d8=>mkT λp9 H9 n9=>?_⟩;have rt:TupS H6 H9:=λb' o' e'=>n9.g _ _ (g8 _ _ (λz=>by rw[z,e6]at e';cases e') (n7.g _ _ e'));exact q _ _ ns8 H9 (g1.trans (g6.trans ((Same.b n7.g l).trans (g8.trans (Same.b n9.g l))))) (n9.g _ _ e8) hl8 (.two (by rcases hw with rfl|rfl<;>decide) n9.at' (zhw r6 rt) (r8.same n9.g)) (.two hd2 ht3 hw d6 d8)
theorem zit(T:Txt K mg w tw ow fa cStandings cSayError cs)(d:Dfn K mg "_law_saying" s_law_saying ["_law_left","_law_names","_law_deep"])(C_law_bare:Cal P w K mg base 1 "_law_bare" ["_law_number","_law_names"] zdj)(C_law_new:Cal P w K mg base 1 "_law_new" ["_law_number","_law_names"] zgg):∀dd,Cal P w K mg base (1+dd+1) "_law_saying" ["_law_left","_law_names","_law_deep"] (zc3 dd)
 |0=>zkp T d C_law_bare C_law_new ((d.never λvs H Q E h=>absurd h.1 (y1h _)).mono (by omega))
 |dd+1=>by
  have C:=zit T d C_law_bare C_law_new dd;refine zkp T d C_law_bare C_law_new ?_;have e:(λ(vs:List V) H Q E=>0<dd+1/\zc3 (dd+1-1) vs H Q E)=zc3 dd:=by
   funext vs H Q E;exact propext ⟨λh=>h.2,λh=>⟨Nat.succ_pos _,h⟩⟩
  rw[e,show 1+(dd+1)=1+dd+1 by omega];exact C
abbrev s_law_bare:Stmt:=top 71
theorem sc_law_bare:FnScope ["_law_number","_law_names","_law_places","_law_some","_law_name_here","_law_other"] ["_law_number","_law_names"] (defScope s_law_bare):={}
theorem zoa(T:Txt K mg w tw ow fa cStandings cSayError cs)(d:Dfn K mg "_law_bare" s_law_bare ["_law_number","_law_names"]):Cal P w K mg base 1 "_law_bare" ["_law_number","_law_names"] zdj:=by
 refine d.cal sc_law_bare (λvs H Q E h=>?_) (λf cdv A outer s H vs Q E hr h=>?_)
 ·obtain⟨n,b,tl,rfl,_⟩:=h;rfl
 obtain⟨n,b,tl,rfl,eb,ng,hl,q⟩:=h;have hu:=zib hr 8 (by decide);refine⟨_,(zab (zgv (i:=2) sc_law_bare.nd rfl (Or.inl rfl) ["_law_name_here"] [] (CompOk.of rfl (by rfl) (by rfl)) (by rfl) (zbi K (pv 1)) (λ_ _ _ _ _=>(za2 (i:=0) (show List.Nodup (["_law_name_here"]:List Str) by decide+kernel) (by rfl) (Or.inl (by rfl)))) (λ_ _ _ _ _=>(zhz (zqa zh2 zh2 zae (zar zky (pv 0) zac (λ_ _=>rfl)) zae))) (λ_ _ _ _ _=>(pv 0))) (zab (zav (i:=3) sc_law_bare.nd rfl (Or.inl rfl) (zaq zaa)) (zab (zet PassesOwn.never rfl (zbi K (pv 1)) (za2 (i:=4) sc_law_bare.nd (by rfl) (Or.inl (by rfl))) (zad (zet PassesOwn.never rfl (zbi K (pv 1)) (za2 (i:=5) sc_law_bare.nd (by rfl) (Or.inl (by rfl))) (zad (za0 (PW.pt (zes (zam (zay K) (pv 4) (pv 2) (by with_unfolding_all rfl)) (zdd (zam (zay K) (pv 5) (pv 2) (by with_unfolding_all rfl))))) (zab (zav (i:=3) sc_law_bare.nd rfl (Or.inl rfl) (zaw zbr (pv 3) (zaq (pa_c (zag (pa_c zae (pa_c (pv 4) (pa_c (pv 5) zaa)))) (pa_c (zag (pa_c zae (pa_c (pv 4) (pa_c (pv 5) zaa)))) (pa_c (zag (pa_c zae (pa_c (pv 4) (pa_c (pv 5) zaa)))) zaa)))))) (zad (zbj (zb2 K PySem.F.plainAttrs_list PySem.F.slot_list_append PySem.F.type_list_append zbe (pv 3) (pa_c (zag (pa_c zae (pa_c (pv 4) (pa_c (pv 5) zaa)))) zaa))))) (zad (za0 (zam (zay K) (pv 4) (pv 2) (by with_unfolding_all rfl)) (zad (zbj (zb2 K PySem.F.plainAttrs_list PySem.F.slot_list_append PySem.F.type_list_append zbe (pv 3) (pa_c (zag (pa_c zae (pa_c (pv 4) (pa_c (pv 5) zaa)))) zaa)))) (zad (za0 (zam (zbx K) (pv 5) (pv 2) (by with_unfolding_all rfl)) (zad (zbj (zb2 K PySem.F.plainAttrs_list PySem.F.slot_list_append PySem.F.type_list_append zbe (pv 3) (pa_c (zag (pa_c zae (pa_c (pv 4) (pa_c (pv 5) zaa)))) zaa)))) zap))))))))) (zab (za0 (zam (znw hu) (pv 3) (zaq zaa) (nomark _)) (zad (zaj (zag (pa_c zae (pa_c zae (pa_c (zag (pa_c zae (pa_c zae (pa_c zae zaa)))) zaa)))))) zap) (zad (zaj (zar (zax K) (pv 3) (zaw zbf (pv 0) (za5 (zat K) (by rfl) T.b_len boot_len (pa_c (pv 3) zaa))) (λ_ _=>rfl)))))))),?_⟩;refine za3 [some (.int n),some (.ref b),none,none,none,none] rfl ?_;trivial;have hl1:(tl.map V.str).length<=1000:=by rw[y00];omega
 refine⟨⟨_,.of eb⟩,zju (K:=K) (a:=b) (xs:=tl.map V.str) (λσ=>∃v,σ=[v]) (λv=>match v with|.str z=>isP z|_=>false) id hl1 (.of eb) ⟨_,rfl⟩ ?_ ?_⟩
 ·rintro D i σ H1 x hi hm hx gg hD hD' ⟨v,rfl⟩;obtain⟨z,mz,rfl⟩:=y0l.mp hm;trivial;ac_rfl;obtain⟨d0,ds,ed,hp1,hp0⟩:=zrc (ng z mz).1;refine zk ?_;refine⟨zaf (by have:=ng.len z mz;omega),d0,by rw[ed];exact za1,?_⟩;cases hp:isP z with
  |true =>
   obtain⟨k1,k2⟩:=hp1 hp;rw[k1,k2];exact iteT (iteT (zg7 hl1 hx hp hD hD' gg ⟨_,rfl⟩ rfl))
  |false =>
   rw[hp0 hp];exact iteF (zg8 hx hp hD' gg ⟨_,rfl⟩)
 intro D H1 hD g1 eD;have e1:((tl.map V.str).filter λv=>match v with|.str z=>isP z|_=>false).map id=(tl.filter isP).map V.str:=by
  rw[y35,List.filter_map];rfl
 rw[e1]at eD;have inp:∀z∈tl,inV (.str z) ((tl.filter isP).map V.str)=isP z:=λz hz=>by
  rw[zb7];cases hp:isP z with
  |true=>exact decide_eq_true (y1t.mpr ⟨hz,hp⟩)
  |false=>exact decide_eq_false λh=>by rw[(y1t.mp h).2]at hp;cases hp
 have eb1:=g1 _ _ eb;refine mkT λp H2 n2=>⟨⟨_,.of (n2.g _ _ eb1)⟩,?_⟩;refine zjo (K:=K) (a:=b) (xs:=tl.map V.str) (λi σ H'=>∃(p3:Addr) (v4 v5:Option V),σ=[some (.int n),some (.ref b),some (.ref D),some (.ref p3),v4,v5]/\Lst51 H1 tl p3 (12*i) (0<i) H') ⟨p,none,none,rfl,n2.g,n2.nil,[],n2.at',y04 _,(λy hy=>nomatch hy),(λz=>absurd z (by decide))⟩ (λi σ H' _ z=>by obtain⟨p3,v4,v5,_,L⟩:=z;exact .of (L.1 _ _ eb1)) ?_ ?_
 ·rintro i x σ H3 hx ⟨p3,v4,v5,rfl,L⟩;obtain⟨x,mx,rfl⟩:=y0l.mp (y0g hx);have hi:i<tl.length:=by have:=(y0f.mp hx).1;rwa[y00]at this
  trivial;refine⟨⟨_,.of (L.1 _ _ eb1)⟩,zjo (K:=K) (a:=b) (xs:=tl.map V.str) (λj σ H'=>∃(p3:Addr) (v5:Option V),σ=[some (.int n),some (.ref b),some (.ref D),some (.ref p3),some (.str x),v5]/\Lst51 H1 tl p3 (12*i+4*j) (0<i\/0<j) H') ⟨p3,v5,rfl,L.le (by omega) (λz=>by omega)⟩ (λi σ H' _ z=>by obtain⟨p3,v5,_,L⟩:=z;exact .of (L.1 _ _ eb1)) ?_ ?_⟩
  ·rintro j y σ H4 hy ⟨p3,v5,rfl,L4⟩;obtain⟨y,my,rfl⟩:=y0l.mp (y0g hy);have hj:j<tl.length:=by have:=(y0f.mp hy).1;rwa[y00]at this
   trivial;have eD4:=L4.1 _ _ eD;have fl:=zcs (tl.filter isP);have hnx:=(ng x mx).1;have hny:=(ng y my).1;have w3:∀wd:Str,wd∈(["same","left","right","above"]:List Str)->isP x=true->isP y=true->BO tl (.bare wd x y):=λwd hw h1 h2=>by
    have hw':wd∈treeW/\wd≠"in"/\wd≠"within":=by
     simp only[y02,y07,or_false]at hw;rcases hw with rfl|rfl|rfl|rfl<;>decide
    refine zxl hw'.1 mx my ?_;simp only[wfB];rw[if_neg hw'.2.1,if_neg hw'.2.2,show isPl x=true from h1,show isPl y=true from h2];rfl
   have one:∀(wd:Str),wd∈treeW->wfB (.bare wd x y)=true->((∃xs,SqL K H4 p3 xs)\/("list"="tuple"/\∃o,List.lookup p3 K=some o/\o.cls=Value.type "tuple"/\o.dict=none)\/"list"="dict"/\((∃kvs,H4 p3=some (HO.dK kvs))\/∃kvs,H4 p3=some (HO.dT kvs))\/"list"="set"/\∃S n,H4 p3=some (HO.set S n))/\[V.str wd,V.str x,V.str y].length<=sizeLine/\∀(p:Addr) (H':Hp),New H4 p (HO.tup [V.str wd,V.str x,V.str y]) H'->∃x_1,H' p3=some (HO.lst x_1)/\x_1.length<sizeLine/\Lst51 H1 tl p3 (12*i+4*(j+1)) (0<i\/0<j+1) (upd H' p3 (HO.lst (x_1++[V.ref p]))):=λwd hw wf=>by
    obtain⟨ys4,e4⟩:∃ys4,H4 p3=some (.lst ys4):=let⟨_,_,ys,e,_⟩:=L4;⟨ys,e⟩;refine⟨.inl ⟨_,.of e4⟩,mkT λpt H5 n5=>?_⟩;ac_rfl;obtain⟨zs,ez,hz,L5⟩:=L4.app n5.g (.bare (zlg hw) n5.at') (zxl hw mx my wf);refine zk ?_;exact⟨zs,ez,small1000 (by omega),L5.le (by omega) (λ_=>trivial)⟩
   refine⟨_,.inl (.of eD4),rfl,fl,?_⟩;rw[inp x mx];cases hpx:isP x with
   |true =>
    refine iteT ⟨_,.inl (.of eD4),rfl,fl,?_⟩;rw[inp y my];cases hpy:isP y with
    |true =>
     refine iteT (mkT λp5 H5 n5=>mkT λp6 H6 n6=>mkT λp7 H7 n7=>mkT λp8 H8 n8=>?_);ac_rfl;have g8:=n5.g.trans (n6.g.trans (n7.g.trans n8.g));obtain⟨zs,ez,hz,L9⟩:∃ys,H8 p3=some (.lst ys)/\ys.length<=12*i+4*j/\∀p H'',New H8 p (.lst (ys++[V.ref p5,V.ref p6,V.ref p7])) H''->Lst51 H1 tl p (12*i+4*j+3) True H'':=by
      have hu:∀y'∈[V.ref p5,V.ref p6,V.ref p7],∃s,Rep H8 y' s/\BO tl s:=by
       intro y' hy';simp only[y02,y07,or_false]at hy';rcases hy' with rfl|rfl|rfl
       ·exact⟨_,.bare (by decide) ((n6.g.trans (n7.g.trans n8.g)) _ _ n5.at'),w3 _ (by decide) hpx hpy⟩
       ·exact⟨_,.bare (by decide) ((n7.g.trans n8.g) _ _ n6.at'),w3 _ (by decide) hpx hpy⟩
       ·exact⟨_,.bare (by decide) (n8.g _ _ n7.at'),w3 _ (by decide) hpx hpy⟩
      obtain⟨zs,ez,hz,_⟩:=L4.cat (p:=p3) g8 hu rfl;refine⟨zs,ez,hz,λp H'' nn=>?_⟩;obtain⟨zs',ez',_,h⟩:=L4.cat (p:=p) g8 hu rfl;rw[ez]at ez';cases ez';exact h H'' nn
     refine zk ?_;refine⟨zs,ez,_,n8.at',zaf (show zs.length+3<=1000 by omega),λp9 H9 n9=>⟨.inl ⟨_,.of n9.at'⟩,mkT λpA HA nA=>?_⟩⟩;ac_rfl;obtain⟨us,eu,hu,LA⟩:=(L9 p9 H9 n9).app nA.g (.bare (by decide) nA.at') (w3 "above" (by decide) hpx hpy);refine zk ?_;exact⟨us,eu,small1000 (by omega),LA.le (by omega) (λ_=>trivial)⟩
    |false =>
     refine iteF ⟨_,.inl (.of eD4),rfl,fl,?_⟩;rw[inp x mx,hpx];refine iteT (one "in" (by decide) ?_);simp only[wfB];rw[if_pos trivial,show isPl x=true from hpx,zoe hny hpy];rfl
   |false =>
    refine iteF ⟨_,.inl (.of eD4),rfl,fl,?_⟩;rw[inp x mx,hpx];refine iteF ⟨_,.inl (.of eD4),rfl,fl,?_⟩;rw[inp y my];cases hpy:isP y with
    |true =>
     refine iteF (L4.le (by omega) λ_=>?_);by_cases h0:0<i\/0<j
     ·exact h0
     ·have e1:i=0:=by omega
      have e2:j=0:=by omega
      subst e1 e2;rw[hx]at hy;cases hy;rw[hpx]at hpy;cases hpy
    |false =>
     refine iteT (one "within" (by decide) ?_);simp only[wfB];rw[if_neg (by decide),if_pos trivial,zoe hnx hpx,zoe hny hpy];rfl
  ·rintro σ H4 ⟨p3,v5,rfl,L4⟩;exact⟨p3,_,_,rfl,L4.le (by rw[y00];omega) (λ_=>by rw[y00];omega)⟩
 ·rintro σ H3 ⟨p3,v4,v5,rfl,g3,h3,ys,e3,hl3,hr3,hne⟩;trivial;rw[y00]at hl3 hne;refine mkT λp6 H6 n6=>⟨_,(zkl (k:=0) (.of (n6.g _ _ e3)) n6.lst).up (by decide),?_⟩;have g6:=(g1.trans g3).trans n6.g;cases ys with
  |nil =>
   refine iteT (mkT λp7 H7 n7=>mkT λp8 H8 n8=>?_);have h0:tl=[]:=by
    cases tl with
    |nil=>rfl
    |cons z zs=>exact absurd rfl (hne (by simp))
   exact q _ _ H8 (g6.trans (n7.g.trans n8.g)) (.qu (by decide) n8.at' (.bare (by decide) (n8.g _ _ n7.at'))) (.inl ⟨h0,rfl⟩)
  |cons y0 ys =>
   ac_rfl;obtain⟨v,ev,mv⟩:=zdg (i:=n) (xs:=y0::ys) rfl (by simp);obtain⟨s',r',wd,a1,a2,rfl,k1,k2,k3,k4⟩:=hr3 v mv;refine zk ?_;exact iteF ⟨_,.inl (.of (n6.g _ _ e3)),by simp only[y0a];omega,_,.of (n6.g _ _ e3),_,ev,q _ _ H6 g6 (r'.same n6.g) (.inr ⟨wd,a1,a2,rfl,k1,k2,k3,k4⟩)⟩
theorem zji:∀S∈(["abcdefgh","ABCDEFGH"]:List Str),S.cps.toList.length=8/\∀d∈S.cps.toList,(d∈SMALL.cps.toList\/d∈GREAT.cps.toList)/\d≠113/\d≠81:=by decide+kernel
theorem zps:∀z∈bad4,z.cps.toList.head?=some 113\/z.cps.toList.head?=some 81:=by decide+kernel
theorem five51:∀t∈(["","1","12","5","305"]:List Str),t.cps.toList.length<=3/\∀x∈t.cps.toList,x∈FIGS.cps.toList:=by decide+kernel
abbrev s_law_new:Stmt:=top 72
theorem sc_law_new:FnScope ["_law_number","_law_names","_law_letter","_law_some","_law_free"] ["_law_number","_law_names"] (defScope s_law_new):={}
theorem zq3(T:Txt K mg w tw ow fa cStandings cSayError cs)(d:Dfn K mg "_law_new" s_law_new ["_law_number","_law_names"]):Cal P w K mg base 1 "_law_new" ["_law_number","_law_names"] zgg:=by
 refine d.cal sc_law_new (λvs H Q E h=>?_) (λf cdv A outer s H vs Q E hr h=>?_)
 ·obtain⟨n,b,tl,rfl,_⟩:=h;rfl
 obtain⟨n,b,tl,rfl,eb,hl,q⟩:=h;refine⟨_,(zab (zav (i:=2) sc_law_new.nd rfl (Or.inr rfl) (zar zky (zar (zax K) (zaq (pa_c zae (pa_c zae zaa))) (zaw zbf (pv 0) zac) (λ_ _=>rfl)) (zaw zbf (zaw zbk (pv 0) zac) zac) (λ_ _=>rfl))) (zab (zgv (i:=3) sc_law_new.nd rfl (Or.inl rfl) ["_law_tail"] [(2,"_law_letter")] (CompOk.of rfl (by rfl) (by rfl)) (by rfl) (zbi K (zaq (pa_c zae (pa_c zae (pa_c zae (pa_c zae (pa_c zae zaa))))))) (λ_ _ _ _ _=>(za2 (i:=0) (show List.Nodup (["_law_tail","_law_letter"]:List Str) by decide+kernel) (by rfl) (Or.inl (by rfl)))) (λ_ _ _ _ _=>zb5) (λ_ _ _ _ _=>(zaw zf0 (pv 1) (pv 0)))) (zab (zgv (i:=4) sc_law_new.nd rfl (Or.inl rfl) ["_law_name_here"] [(1,"_law_names")] (CompOk.of rfl (by rfl) (by rfl)) (by rfl) (zbi K (pv 3)) (λ_ _ _ _ _=>(za2 (i:=0) (show List.Nodup (["_law_name_here","_law_names"]:List Str) by decide+kernel) (by rfl) (Or.inl (by rfl)))) (λ_ _ _ _ _=>(zhz (zam (zbx K) (pv 0) (pv 1) (by with_unfolding_all rfl)))) (λ_ _ _ _ _=>(pv 0))) (zad (zaj (zar (zax K) (pv 4) (zaw zbf (zaw zbk (pv 0) zac) (za5 (zat K) (by rfl) T.b_len boot_len (pa_c (pv 4) zaa))) (λ_ _=>rfl))))))),?_⟩;refine za3 [some (.int n),some (.ref b),none,none,none] rfl ?_;trivial;refine mkT λp0 H1 n1=>?_;ac_rfl;have j0:=y17 n (show(2:Int)≠0 by decide);have j1:=y0y n (show(0:Int)<2 by decide);obtain⟨S,hS,eS⟩:∃S:Str,S∈(["abcdefgh","ABCDEFGH"]:List Str)/\atI [V.str (Str.ofString "abcdefgh"),V.str (Str.ofString "ABCDEFGH")] (n%2)=some (.str S):=by
  have hj:n%2=0\/n%2=1:=by omega
  rcases hj with e|e<;>rw[e]
  ·exact⟨_,y0c,za1⟩
  ·exact⟨_,y09 _ y0c,zak (j:=1) rfl⟩
 obtain⟨h8,hc⟩:=zji S hS;obtain⟨d0,ed0,md0⟩:=zdg (i:=n/2) (xs:=S.cps.toList) (n:=8) h8 (by decide);obtain⟨hd1,hd2,hd3⟩:=hc d0 md0;have five:([V.str (Str.ofString ""),V.str (Str.ofString "1"),V.str (Str.ofString "12"),V.str (Str.ofString "5"),V.str (Str.ofString "305")]:List V)=(["","1","12","5","305"]:List Str).map V.str:=rfl;have lenL:(Str.length ⟨#[d0]⟩)=1:=rfl;refine zk ?_;refine⟨by decide,_,.of n1.at',_,eS,⟨by decide,by decide⟩,by decide,S,rfl,zaf (by rw[SM.len_list,h8];decide),d0,ed0,mkT λp H2 n2=>?_⟩;have e2:=n2.at';rw[five]at e2;refine⟨⟨_,.of e2⟩,zg5 (K:=K) (a:=p) (xs:=(["","1","12","5","305"]:List Str).map V.str) (λσ=>∃v,σ=[v,some (.str ⟨#[d0]⟩)]) (λv=>match v with|.str t=>.str (⟨#[d0]⟩++t)|_=>.non) (by simp) (.of e2) ⟨_,rfl⟩ ?_ ?_⟩
 ·rintro D i σ H3 x hi hm hx gg hD hD' ⟨v,rfl⟩;obtain⟨t,mt,rfl⟩:=y0l.mp hm;have ht:=(five51 t mt).1;rw[←SM.len_list]at ht;trivial;exact⟨zaf (by omega),zdz (by simp) hx hD hD' gg ⟨_,rfl⟩ rfl⟩
 intro D H3 hD g3 eD;have ez:(((["","1","12","5","305"]:List Str).map V.str).map λv=>match v with|.str t=>.str (⟨#[d0]⟩++t)|_=>.non)=((["","1","12","5","305"]:List Str).map λt=>(⟨#[d0]⟩:Str)++t).map V.str:=by
  rw[y0t,y0t];rfl
 rw[ez]at eD;have nd:((["","1","12","5","305"]:List Str).map λt=>(⟨#[d0]⟩:Str)++t).Nodup:=by
  refine List.Pairwise.map _ (λa b (h:a≠b) z=>h ?_) (show(["","1","12","5","305"]:List Str).Nodup by decide+kernel);have:(((⟨#[d0]⟩:Str)++a).cps.toList)=((⟨#[d0]⟩:Str)++b).cps.toList:=by rw[z]
  rw[zel,zel]at this;exact zxi (List.append_cancel_left this)
 have ok:∀z∈((["","1","12","5","305"]:List Str).map λt=>(⟨#[d0]⟩:Str)++t),NmOk z/\z∉bad4:=λz hz=>by
  ac_rfl;obtain⟨t,mt,rfl⟩:=y0l.mp hz;obtain⟨t1,t2⟩:=five51 t mt;have e:((⟨#[d0]⟩:Str)++t).cps.toList=d0::t.cps.toList:=by rw[zel];rfl
  refine zk ?_;refine⟨?_,λhb=>?_⟩
  ·rcases hd1 with h|h
   ·exact .inl (zks e h t1 t2)
   ·exact .inr (zks e h t1 t2)
  ·have:=zps _ hb;rw[e,List.head?_cons]at this;rcases this with h|h
   ·exact hd2 (Option.some.inj h)
   ·exact hd3 (Option.some.inj h)
 have h5:(((["","1","12","5","305"]:List Str).map λt=>(⟨#[d0]⟩:Str)++t)).length=5:=rfl;generalize((["","1","12","5","305"]:List Str).map λt=>(⟨#[d0]⟩:Str)++t)=zs at *;have g03:Same H H3:=n1.g.trans (n2.g.trans g3);refine⟨D,rfl,⟨_,.of eD⟩,zju (K:=K) (a:=D) (xs:=zs.map V.str) (λσ=>∃v,σ=[v,some (.ref b)]) (λy=>!inV y (tl.map V.str)) id (by rw[y00];omega) (.of eD) ⟨_,rfl⟩ ?_ ?_⟩
 ·rintro D2 i σ H4 x hi hm hx g' hD2 hD2' ⟨v,rfl⟩;have fx:flatV x=true:=by
   obtain⟨z,_,rfl⟩:=y0l.mp hm;rfl
  trivial;refine⟨_,.inl (.of (g' _ _ (g03 _ _ eb))),fx,zcs tl,?_⟩;cases ht:inV x (tl.map V.str)with
  |true=>exact iteF (zg8 hx (by rw[ht];rfl) hD2' g' ⟨_,rfl⟩)
  |false=>exact iteT (zg7 (by rw[y00];omega) hx (by rw[ht];rfl) hD2 hD2' g' ⟨_,rfl⟩ rfl)
 ·intro D2 H4 hD2 g4 eD2;rw[y35]at eD2;ac_rfl;have ne:(zs.map V.str).filter (λy=>!inV y (tl.map V.str))≠[]:=λz=>by
   obtain⟨y,my,hn⟩:=zqx (tl:=tl) (by omega) nd (by omega);have:=List.filter_eq_nil_iff.mp z (.str y) (List.mem_map_of_mem my);rw[zb7,decide_eq_false hn]at this;exact absurd rfl this
  have hpos:=List.length_pos_iff.mpr ne;obtain⟨w0,e0,m0⟩:=zdg (i:=n/16) (xs:=(zs.map V.str).filter (λy=>!inV y (tl.map V.str))) rfl hpos;obtain⟨m1,m2⟩:=y1t.mp m0;obtain⟨z,mz,rfl⟩:=y0l.mp m1;refine zk ?_;refine⟨⟨by decide,by decide⟩,D2,rfl,_,.inl (.of eD2),by omega,D2,rfl,_,.of eD2,_,e0,q z H4 (g03.trans g4) (ok z mz).1 (ok z mz).2 λh=>?_⟩;rw[zb7,decide_eq_true h]at m2;cases m2
abbrev s_law_cell_at:Stmt:=top 68
theorem zfl:FnScope ["_law_script","_law_k"] ["_law_script","_law_k"] (defScope s_law_cell_at):={}
theorem zuj(T:Txt K mg w tw ow fa cStandings cSayError cs)(d:Dfn K mg "_law_cell_at" s_law_cell_at ["_law_script","_law_k"]):Cal P w K mg base 1 "_law_cell_at" ["_law_script","_law_k"] (zm0 K):=by
 refine d.cal zfl (λvs H Q E h=>?_) (λf cdv A outer s H vs Q E hr h=>?_)
 ·obtain⟨a,ns,k,rfl,_⟩:=h;rfl
 obtain⟨a,ns,k,rfl,hS,h0,q⟩:=h;refine⟨_,(zab (za0 (zam zqv (pv 1) (za5 (zat K) (by rfl) T.b_len boot_len (pa_c (pv 0) zaa)) (nomark _)) (zad (zaj (zar (zax K) (pv 0) (pv 1) (λ_ _=>rfl)))) zap) (zad (zaj zac))),?_⟩;refine za3 [some (.ref a),some (.int k)] rfl ?_;trivial;refine⟨_,.inl hS,ite2 (λc=>?_) (λ_=>q 0)⟩;have c':=of_decide_eq_true c;rw[y00]at c';have hk:k.toNat<ns.length:=by omega
 have ek:k=((k.toNat:Nat):Int):=by omega
 have e:atI (ns.map V.int) ((k.toNat:Nat):Int)=some (.int ns[k.toNat]):=zak (by simp[hk]);rw[←ek]at e;exact⟨_,hS,_,e,q _⟩
theorem zlc:∀a:Fin 26,SMALL.cps.toList[a.val]?=some (97+a.val)/\Txt.upper ⟨#[97+a.val]⟩=⟨#[65+a.val]⟩:=by decide+kernel
abbrev s_law_name:Stmt:=top 69
theorem sc_law_name:FnScope ["_law_kind","_law_number","_law_place","_law_letters","_law_sign"] ["_law_kind","_law_number","_law_place"] (defScope s_law_name):={}
theorem zud(T:Txt K mg w tw ow fa cStandings cSayError cs)(d:Dfn K mg "_law_name" s_law_name ["_law_kind","_law_number","_law_place"]):Cal P w K mg base 1 "_law_name" ["_law_kind","_law_number","_law_place"] zmw:=by
 refine d.cal sc_law_name (λvs H Q E h=>?_) (λf cdv A outer s H vs Q E hr h=>?_)
 ·obtain⟨k,n,p,rfl,_⟩:=h;rfl
 obtain⟨k,n,p,rfl,hp0,hp1,q⟩:=h;have m0:=y17 (n+7*p) (show(26:Int)≠0 by decide);have m1:=y0y (n+7*p) (show(0:Int)<26 by decide);obtain⟨a,ea⟩:∃a:Nat,(n+7*p)%26=(a:Int):=⟨((n+7*p)%26).toNat,by omega⟩;obtain⟨u1,u2⟩:=zlc ⟨a,by omega⟩;refine⟨_,(zab (zav (i:=3) sc_law_name.nd rfl (Or.inl rfl) zae) (zab (zav (i:=4) sc_law_name.nd rfl (Or.inl rfl) (zar zky (pv 3) (zaw zbf (zaw zf1 (pv 1) (zaw znu zac (pv 2))) zac) (λ_ _=>rfl))) (zbm (za0 (zam zbb (pv 0) zac (nomark _)) (zad (zav (i:=4) sc_law_name.nd rfl (Or.inl rfl) (zjd K PySem.F.plainAttrs_str PySem.F.slot_str_upper PySem.F.type_str_upper zre (pv 4)))) zap) (zad (zaj (zaw zf0 (pv 4) (zar (zax K) (zaq (pa_c zae (pa_c zae (pa_c zae (pa_c zae (pa_c zae zaa)))))) (zaw zbf (zaw zbk (pv 1) zac) zac) (λ_ _=>rfl)))))))),?_⟩;refine za3 [some (.int k),some (.int n),some (.int p),none,none] rfl ?_;trivial;refine⟨.inl ⟨by decide,by decide⟩,by decide,zaf (by decide+kernel),97+a,by rw[ea];exact zak u1,?_⟩;refine⟨λσ H'=>Same H H'/\∃big:Bool,σ=[some (.int k),some (.int n),some (.int p),some (.str SMALL),some (.str ⟨#[if big=true then 65+a else 97+a]⟩)],?_,?_⟩
 ·trivial;refine ite2 (λ_=>?_) λ_=>?_
  ·exact⟨by rw[show Txt.upper ⟨#[97+a]⟩=⟨#[65+a]⟩from u2];rfl,Same.refl _,rfl,true,u2⟩
  ·exact⟨Same.refl _,rfl,false,rfl⟩
 ·rintro σ H' ⟨g,big,rfl⟩;trivial;refine mkT λpl H1 n1=>⟨⟨by decide,by decide⟩,by decide,_,.of n1.at',?_⟩;have j0:=y17 (n/26) (show(5:Int)≠0 by decide);have j1:=y0y (n/26) (show(0:Int)<5 by decide);have fin:∀(z:Str),z.length<=3->z.cps.toList∈tails51->(Str.length ⟨#[if big=true then 65+a else 97+a]⟩)+z.length<=sizeLine/\Q (.str (⟨#[if big=true then 65+a else 97+a]⟩++z)) H1:=λz hz hf=>by
   have e1:(Str.length ⟨#[if big=true then 65+a else 97+a]⟩)=1:=rfl;exact⟨zaf (by omega),q _ H1 ⟨a,z.cps.toList,big,ea.symm,hf,by rw[zel];rfl⟩ (g.trans n1.g)⟩
  have hj:n/26%5=0\/n/26%5=1\/n/26%5=2\/n/26%5=3\/n/26%5=4:=by omega
  rcases hj with e|e|e|e|e<;>rw[e]
  ·exact⟨_,za1,_,rfl,fin _ (by decide+kernel) (by decide+kernel)⟩
  ·exact⟨_,zak (j:=1) rfl,_,rfl,fin _ (by decide+kernel) (by decide+kernel)⟩
  ·exact⟨_,zak (j:=2) rfl,_,rfl,fin _ (by decide+kernel) (by decide+kernel)⟩
  ·exact⟨_,zak (j:=3) rfl,_,rfl,fin _ (by decide+kernel) (by decide+kernel)⟩
  ·exact⟨_,zak (j:=4) rfl,_,rfl,fin _ (by decide+kernel) (by decide+kernel)⟩
abbrev s_law_frame:Stmt:=top 70
theorem sc_law_frame:FnScope ["_law_number","_law_many","_law_frame_here","_law_k"] ["_law_number","_law_many"] (defScope s_law_frame):={}
theorem zui(T:Txt K mg w tw ow fa cStandings cSayError cs)(d:Dfn K mg "_law_frame" s_law_frame ["_law_number","_law_many"])(C_law_name:Cal P w K mg base 1 "_law_name" ["_law_kind","_law_number","_law_place"] zmw):Cal P w K mg base 2 "_law_frame" ["_law_number","_law_many"] zmz:=by
 refine d.cal sc_law_frame (λvs H Q E h=>?_) (λf cdv A outer s H vs Q E hr h=>?_)
 ·obtain⟨n,m,rfl,_⟩:=h;rfl
 obtain⟨n,many,rfl,hm,q⟩:=h;refine⟨_,(zab (zav (i:=2) sc_law_frame.nd rfl (Or.inl rfl) (zaq zaa)) (zab (zet PassesOwn.never rfl (zhy (by rfl) T.b_range (pa_c (pv 1) zaa)) (za2 (i:=3) sc_law_frame.nd (by rfl) (Or.inl (by rfl))) (zad (zbj (zb2 K PySem.F.plainAttrs_list PySem.F.slot_list_append PySem.F.type_list_append zbe (pv 2) (pa_c (zah C_law_name hr (by omega) (by rfl) (pa_c (zaw zbf (zaw zbk (pv 0) (zaw zf1 zac (pv 3))) zac) (pa_c (zaw zbk (pv 0) zac) (pa_c (pv 3) zaa)))) zaa))))) (zad (zaj (pv 2))))),?_⟩;refine za3 [some (.int n),some (nV many),none,none] rfl ?_;trivial;refine⟨by decide,λp H1 n1=>⟨by omega,by omega,?_⟩⟩;rw[show((many:Nat):Int).toNat=many from rfl];refine zk6 (λi σ H'=>Same H H'/\(∃v3,σ=[some (.int n),some (nV many),some (.ref p),v3])/\∃names:List Str,H' p=some (.lst (names.map V.str))/\names.length=i/\∀(j:Nat) z,names[j]?=some z->Nm51 (n/3) (j:Int) z) ⟨n1.g,⟨_,rfl⟩,[],n1.at',rfl,λj z h=>by simp at h⟩ ?_ ?_
 ·rintro i σ H' hi ⟨g,⟨v3,rfl⟩,names,ep,hl,hn⟩;trivial;refine⟨.inl ⟨_,.of ep⟩,⟨by omega,by omega⟩,by decide,⟨by decide,by decide⟩,_,_,_,rfl,by omega,by omega,λz H1 hz g1=>⟨_,g1 _ _ ep,by rw[y00];exact small1000 (by omega),(g.trans g1).wr n1.nil _,names++[z],by rw[zao,y0r];rfl,by rw[y06,y16,hl],λj y hy=>?_⟩⟩;by_cases hj:j<names.length
  ·rw[y0u hj]at hy;exact hn j y hy
  ·rw[y0o (by omega)]at hy;have h0:j-names.length=0:=by
    have:=(y0f.mp hy).1;simp at this;omega
   rw[h0]at hy;cases hy;obtain rfl:j=i:=by omega
   rw[Int.zero_add]at hz;exact hz
 ·rintro σ H' ⟨g,⟨v3,rfl⟩,names,ep,hl,hn⟩;trivial;refine q p names H' n1.nil g ep (λz hz=>?_) (nodup51 (by omega) hn) hl;obtain⟨j,hj⟩:=List.getElem?_of_mem hz;exact zuo (hn j z hj)
abbrev s_told:Stmt:=top 52
theorem zti:FnScope ["truth"] ["truth"] (defScope s_told):={}
theorem zqy(T:Txt K mg w tw ow fa cStandings cSayError cs)(d:Dfn K mg "told" s_told ["truth"]):Cal P w K mg base 1 "told" ["truth"] zc2:=by
 refine d.cal zti (λvs H Q E h=>?_) (λf cdv A outer s H vs Q E hr h=>?_)
 ·obtain⟨b,rfl,_⟩:=h;rfl
 obtain⟨b,rfl,q⟩:=h;refine⟨_,(zad (zaj (zb6 (zbg (pv 0)) (zaz (by rfl) T.g_YES) (zaz (by rfl) T.g_NO)))),?_⟩;refine za3 [some (.bl b)] rfl ?_;trivial;cases b<;>exact q
abbrev s_sides_asked:Stmt:=top 53
theorem zfk:FnScope ["word","left","right"] ["word","left","right"] (defScope s_sides_asked):={}
theorem zq0(T:Txt K mg w tw ow fa cStandings cSayError cs)(d:Dfn K mg "sides_asked" s_sides_asked ["word","left","right"]):Cal P w K mg base 1 "sides_asked" ["word","left","right"] zkb:=by
 refine d.cal zfk (λvs H Q E h=>?_) (λf cdv A outer s H vs Q E hr h=>?_)
 ·obtain⟨wd,l,r,rfl,_⟩:=h;rfl
 obtain⟨wd,l,r,rfl,q⟩:=h;refine⟨_,(zab (za0 (zam zbb (pv 0) zae (nomark _)) (zad (zaj (zag (pa_c (pv 1) zaa)))) zap) (zab (za0 (zam zbb (pv 0) zae (nomark _)) (zad (zaj (zag (pa_c (pv 2) zaa)))) zap) (zad (zaj (zag (pa_c (pv 1) (pa_c (pv 2) zaa))))))),?_⟩;refine za3 [some (.str wd),some (nV l),some (nV r)] rfl ?_;trivial;by_cases h1:wd="left"
 ·exact itT h1 (mkT λp H' n=>q p H' n.g (by rw[n.at'];unfold sidesN;rw[if_pos h1];rfl))
 refine itF h1 ?_;by_cases h2:wd="right"
 ·exact itT h2 (mkT λp H' n=>q p H' n.g (by rw[n.at'];unfold sidesN;rw[if_neg h1,if_pos h2];rfl))
 exact itF h2 (mkT λp H' n=>q p H' n.g (by rw[n.at'];unfold sidesN;rw[if_neg h1,if_neg h2];rfl))
abbrev s_mark_of_related:Stmt:=top 54
theorem zdl:FnScope ["word","one","other","left","right"] ["word","one","other","left","right"] (defScope s_mark_of_related):={}
theorem zuf(T:Txt K mg w tw ow fa cStandings cSayError cs)(d:Dfn K mg "mark_of_related" s_mark_of_related ["word","one","other","left","right"])(C_told:Cal P w K mg base 1 "told" ["truth"] zc2)(C_sides_asked:Cal P w K mg base 1 "sides_asked" ["word","left","right"] zkb):Cal P w K mg base 2 "mark_of_related" ["word","one","other","left","right"] zmx:=by
 refine d.cal zdl (λvs H Q E h=>?_) (λf cdv A outer s H vs Q E hr h=>?_)
 ·obtain⟨wd,one,other,l,r,rfl,_⟩:=h;rfl
 obtain⟨wd,one,other,l,r,rfl,q⟩:=h;refine⟨_,(zab (za0 (zbg (pv 1)) (zad (zaj (zah C_told hr (by omega) (by rfl) (pa_c (za8 (zay K) (zaz (by rfl) T.g_SECOND) (zah C_sides_asked hr (by omega) (by rfl) (pa_c (pv 0) (pa_c (pv 3) (pa_c (pv 4) zaa)))) (by with_unfolding_all rfl)) zaa)))) zap) (zab (za0 (zbg (pv 2)) (zad (zaj (zaz (by rfl) T.g_SECOND))) zap) (zab (za0 (zam (zbx K) (zaz (by rfl) T.g_SECOND) (zag (pa_c (pv 3) (pa_c (pv 4) zaa))) (by with_unfolding_all rfl)) (zad (zaj (zaz (by rfl) T.g_WAITING))) zap) (zad (zaj (zb6 (zam zbb (pv 0) zae (nomark _)) (zaz (by rfl) T.g_SECOND) (zaz (by rfl) T.g_NO))))))),?_⟩;refine za3 [some (.str wd),some (.bl one),some (.bl other),some (nV l),some (nV r)] rfl ?_;trivial;unfold mkRel at q;cases one with
 |true =>
  rw[if_pos rfl]at q;refine iteT ⟨wd,l,r,rfl,λp H1 g1 e1=>⟨p,rfl,_,.inr (.of e1),rfl,ze7 _,_,rfl,?_⟩⟩;have e:toldN (inV (V.int 1) ((sidesN wd l r).map nV))=if(if wd="left" then l=1 else if wd="right" then r=1 else(l=1\/r=1))then 2 else 3:=by
   rw[show inV (V.int 1) ((sidesN wd l r).map nV)=_ from zrj wd l r];unfold toldN;simp only[decide_eq_true_eq]
  rw[e];exact q H1 g1
 |false =>
  rw[if_neg (by decide)]at q;refine iteF ?_;cases other with
  |true =>
   rw[if_pos rfl]at q;exact iteT (q H (Same.refl H))
  |false =>
   rw[if_neg (by decide)]at q;refine iteF (mkT λp H1 n1=>⟨_,.inr (.of n1.at'),rfl,rfl,?_⟩);rw[show inV (V.int 1) [nV l,nV r]=_ from in2 l r 1];by_cases h:l=1\/r=1
   ·rw[decide_eq_true h];rw[if_neg (λz=>h.elim z.1 z.2)]at q;refine iteF ?_;by_cases h2:wd="above"
    ·rw[if_pos h2]at q;exact itT h2 (q H1 n1.g)
    ·rw[if_neg h2]at q;exact itF h2 (q H1 n1.g)
   ·rw[decide_eq_false h];rw[if_pos ⟨λz=>h (.inl z),λz=>h (.inr z)⟩]at q;exact iteT (q H1 n1.g)
abbrev s_mark_of:Stmt:=top 55
theorem zll:FnScope ["word","one","other","left","right"] ["word","one","other","left","right"] (defScope s_mark_of):={}
theorem zuh(T:Txt K mg w tw ow fa cStandings cSayError cs)(d:Dfn K mg "mark_of" s_mark_of ["word","one","other","left","right"])(C_told:Cal P w K mg base 1 "told" ["truth"] zc2)(C_mark_of_related:Cal P w K mg base 2 "mark_of_related" ["word","one","other","left","right"] zmx):Cal P w K mg base 3 "mark_of" ["word","one","other","left","right"] zi0:=by
 refine d.cal zll (λvs H Q E h=>?_) (λf cdv A outer s H vs Q E hr h=>?_)
 ·obtain⟨wd,one,other,l,r,rfl,_⟩:=h;rfl
 obtain⟨wd,one,other,l,r,rfl,q⟩:=h;refine⟨_,(zab (za0 (PW.pt (zdc (zam (zay K) (zaz (by rfl) T.g_YES) (zag (pa_c (pv 3) (pa_c (pv 4) zaa))) (by with_unfolding_all rfl)) (zcq (zam (zay K) (zaz (by rfl) T.g_NO) (zag (pa_c (pv 3) (pa_c (pv 4) zaa))) (by with_unfolding_all rfl))))) (zad (zaj (zah C_told hr (by omega) (by rfl) (pa_c (za8 (zay K) (zaz (by rfl) T.g_YES) (zag (pa_c (pv 3) (pa_c (pv 4) zaa))) (by with_unfolding_all rfl)) zaa)))) zap) (zab (za0 (zam zbb (pv 0) zae (nomark _)) (zad (zaj (zb6 (PW.pt (zes (zbg (pv 1)) (zdd (zcl (zbg (pv 2)))))) (zaz (by rfl) T.g_NO) (zaz (by rfl) T.g_WAITING)))) zap) (zab (za0 (zam zbb (pv 0) zae (nomark _)) (zad (zaj (zb6 (zbg (pv 1)) (zah C_told hr (by omega) (by rfl) (pa_c (pv 2) zaa)) (zaz (by rfl) T.g_WAITING)))) zap) (zab (za0 (zam zbb (pv 0) zae (nomark _)) (zad (zaj (zb6 (PW.pt (zdc (zbg (pv 1)) (zcq (zbg (pv 2))))) (zah C_told hr (by omega) (by rfl) (pa_c (zcb (pv 1) (zb1 (pv 2))) zaa)) (zaz (by rfl) T.g_WAITING)))) zap) (zad (zaj (zah C_mark_of_related hr (by omega) (by rfl) (pa_c (pv 0) (pa_c (pv 1) (pa_c (pv 2) (pa_c (pv 3) (pa_c (pv 4) zaa)))))))))))),?_⟩;refine za3 [some (.str wd),some (.bl one),some (.bl other),some (nV l),some (nV r)] rfl ?_;trivial;unfold mkN at q;have i2:∀k:Nat,inV (nV k) [nV l,nV r]=decide (l=k\/r=k):=in2 l r;refine mkT λp1 H1 n1=>⟨_,.inr (.of n1.at'),rfl,rfl,?_⟩;rw[show inV (V.int 2) [nV l,nV r]=_ from i2 2];by_cases h2:l=2\/r=2
 ·rw[if_pos h2]at q;refine itT h2 (mkT λp2 H2 n2=>⟨_,.inr (.of n2.at'),rfl,rfl,_,rfl,?_⟩);rw[show inV (V.int 2) [nV l,nV r]=_ from i2 2,decide_eq_true h2];exact q H2 (n1.g.trans n2.g)
 rw[if_neg h2]at q;refine itF h2 (mkT λp2 H2 n2=>⟨_,.inr (.of n2.at'),rfl,rfl,?_⟩);have g2:=n1.g.trans n2.g;rw[show inV (V.int 3) [nV l,nV r]=_ from i2 3];by_cases h3:l=3\/r=3
 ·rw[if_pos h3]at q;refine itT h3 (mkT λp3 H3 n3=>⟨_,.inr (.of n3.at'),rfl,rfl,_,rfl,?_⟩);rw[show inV (V.int 2) [nV l,nV r]=_ from i2 2,decide_eq_false h2];exact q H3 (g2.trans n3.g)
 rw[if_neg h3]at q;refine itF h3 ?_;by_cases hw:wd="within"
 ·rw[if_pos hw]at q;refine itT hw ?_;cases one<;>cases other<;>exact q H2 g2
 rw[if_neg hw]at q;refine itF hw ?_;by_cases hi:wd="in"
 ·rw[if_pos hi]at q;refine itT hi ?_;cases one
  ·exact iteF (q H2 g2)
  ·refine iteT ⟨_,rfl,?_⟩;cases other<;>exact q H2 g2
 rw[if_neg hi]at q;refine itF hi ?_;by_cases hs:wd="same"
 ·rw[if_pos hs]at q;refine itT hs ?_;cases one<;>cases other
  ·exact iteF (iteF (q H2 g2))
  ·exact iteF (iteT (iteF ⟨_,rfl,q H2 g2⟩))
  ·exact iteT (iteT ⟨_,rfl,q H2 g2⟩)
  ·exact iteT (iteT ⟨_,rfl,q H2 g2⟩)
 rw[if_neg hs]at q;exact itF hs ⟨wd,one,other,l,r,rfl,λH3 g3=>q H3 (g2.trans g3)⟩
abbrev s_holds_with:Stmt:=top 56
theorem zgq:FnScope ["word","mark"] ["word","mark"] (defScope s_holds_with):={}
theorem zq6(T:Txt K mg w tw ow fa cStandings cSayError cs)(d:Dfn K mg "holds_with" s_holds_with ["word","mark"]):Cal P w K mg base 1 "holds_with" ["word","mark"] zkf:=by
 refine d.cal zgq (λvs H Q E h=>?_) (λf cdv A outer s H vs Q E hr h=>?_)
 ·obtain⟨wd,m,rfl,_⟩:=h;rfl
 obtain⟨wd,m,rfl,q⟩:=h;refine⟨_,(zad (zaj (ztt (za8 zbb (pv 1) (zaz (by rfl) T.g_YES) (nomark _)) (zb1 (zcb (za8 zbb (pv 0) zae (nomark _)) (zb1 (za8 zbb (pv 1) (zaz (by rfl) T.g_WAITING) (nomark _)))))))),?_⟩;refine za3 [some (.str wd),some (nV m)] rfl ?_;trivial;unfold holdM at q;by_cases h:m=2
 ·subst h;exact iteT q
 rw[decide_eq_false (show¬(m:Int)=2 by omega)];rw[decide_eq_false h]at q;refine iteF ?_;by_cases hw:wd="within"
 ·rw[decide_eq_true hw]at q ⊢;refine iteT ?_;rw[decide_eq_decide.mpr (show((m:Int)=0)↔m=0 by omega)];exact q
 ·rw[decide_eq_false hw]at q ⊢;exact iteF q
abbrev s_turned:Stmt:=top 58
theorem zm8:FnScope ["standing"] ["standing"] (defScope s_turned):={}
theorem zn1(T:Txt K mg w tw ow fa cStandings cSayError cs)(d:Dfn K mg "turned" s_turned ["standing"])(C_told:Cal P w K mg base 1 "told" ["truth"] zc2):Cal P w K mg base 2 "turned" ["standing"] zj9:=by
 refine d.cal zm8 (λvs H Q E h=>?_) (λf cdv A outer s H vs Q E hr h=>?_)
 ·obtain⟨n,rfl,_⟩:=h;rfl
 obtain⟨n,rfl,q⟩:=h;refine⟨_,(zab (za0 (zam (zay K) (pv 0) (zag (pa_c (zaz (by rfl) T.g_YES) (pa_c (zaz (by rfl) T.g_NO) zaa))) (by with_unfolding_all rfl)) (zad (zaj (zah C_told hr (by omega) (by rfl) (pa_c (za8 zbb (pv 0) (zaz (by rfl) T.g_NO) (nomark _)) zaa)))) zap) (zad (zaj (pv 0)))),?_⟩;refine za3 [some (nV n)] rfl ?_;trivial;refine mkT λp1 H1 n1=>⟨_,.inr (.of n1.at'),rfl,rfl,?_⟩;have ei:inV (nV n) [V.int 2,V.int 3]=decide (2=n\/3=n):=in2 2 3 n;rw[ei];by_cases h:2=n\/3=n
 ·refine itT h ⟨_,rfl,?_⟩;have q1:=q H1 n1.g;rcases h with rfl|rfl
  ·exact q1
  ·exact q1
 ·rw[decide_eq_false h];have q1:=q H1 n1.g;unfold trn at q1;rw[if_neg (by omega),if_neg (by omega)]at q1;exact iteF q1
abbrev s_worth_keeping:Stmt:=top 59
theorem zeb:FnScope ["standings"] ["standings"] (defScope s_worth_keeping):={}
theorem zq4(T:Txt K mg w tw ow fa cStandings cSayError cs)(d:Dfn K mg "worth_keeping" s_worth_keeping ["standings"]):Cal P w K mg base 1 "worth_keeping" ["standings"] (zgi K):=by
 refine d.cal zeb (λvs H Q E h=>?_) (λf cdv A outer s H vs Q E hr h=>?_)
 ·obtain⟨b,ns,rfl,_⟩:=h;rfl
 obtain⟨b,ns,rfl,eb,hns,q⟩:=h;refine⟨_,(zad (zaj (zew zc7 (by rfl) T.b_tuple boot_tuple (pa_c (za5 (zfd rfl) (by rfl) T.b_sorted (by rfl) (pa_c (zew (zil rfl) (by rfl) T.b_set (by rfl) (pa_c (zbc ["standing"] [] (CompOk.of rfl (by rfl) (by rfl)) (by rfl) (zbi K (pv 0)) (λ_ _ _ _ _=>(za2 (i:=0) (show List.Nodup (["standing"]:List Str) by decide+kernel) (by rfl) (Or.inl (by rfl)))) (λ_ _ _ _ _=>(zhz (zam znt (pv 0) (zaz (by rfl) T.g_NO) (nomark _)))) (λ_ _ _ _ _=>(pv 0))) zaa)) zaa)) zaa)))),?_⟩;refine za3 [some (.ref b)] rfl ?_;trivial;have hl:(ns.map nV).length<=1000:=by rw[y00];omega
 refine⟨⟨_,.of eb⟩,zju (K:=K) (a:=b) (xs:=ns.map nV) (λσ=>∃v,σ=[v]) (λv=>decide (v ≠ .int 3)) id hl (.of eb) ⟨_,rfl⟩ ?_ ?_⟩
 ·rintro D i σ H1 x hi hm hx gg hD hD' ⟨v,rfl⟩;obtain⟨k,mk,rfl⟩:=y0l.mp hm;trivial;by_cases h0:k=3
  ·subst h0;exact iteF (zg8 hx (by decide) hD' gg ⟨_,rfl⟩)
  ·rw[decide_eq_false (by omega)];exact iteT (zg7 hl hx (decide_eq_true λz=>h0 (by injection z with z;omega)) hD hD' gg ⟨_,rfl⟩ rfl)
 intro D H1 hD g1 eD;have e1:(List.filter (λv=>decide (v≠V.int 3)) (ns.map nV)).map id=((ns.filter (· ≠ 3)).map λ(n:Nat)=>(n:Int)).map V.int:=by
  rw[y35,List.filter_map,y0t];congr 1;refine List.filter_congr λx _=>decide_eq_decide.mpr ⟨λz e=>z (by show V.int _=V.int _;rw[e];rfl),λz e=>z ?_⟩;have:=V.int.inj e;omega
 rw[e1]at eD;have hf:(ns.filter (· ≠ 3)).length<=ns.length:=y1l _ _;have hl2:((ns.filter (· ≠ 3)).map λ(n:Nat)=>(n:Int)).length<64:=by rw[y00];omega
 refine⟨D,rfl,_,.of eD,by omega,λa0 ha0=>⟨_,zao,hl2,λms p1 p2 L H2 n2=>⟨_,.inl ⟨n2.lst,λl H3 n3=>?_⟩⟩⟩⟩;have hnn:∀k∈ms,∃m:Nat,k=(m:Int)/\m∈ns/\m≠3:=λk hk=>by
  ac_rfl;obtain⟨m,hm,rfl⟩:=y0l.mp ((p2 k).mp hk);obtain⟨h1,h2⟩:=y1t.mp hm;refine zk ?_;exact⟨m,rfl,h1,by simpa using h2⟩
 have e2:ms=(ms.map Int.toNat).map λ(n:Nat)=>(n:Int):=by
  rw[y0t];refine(List.map_congr_left λk hk=>?_).symm.trans (y35 ms)|>.symm
  obtain⟨m,rfl,_⟩:=hnn k hk;rfl
 refine q l (ms.map Int.toNat) H3 (g1.trans ((zba ha0 _).trans (n2.g.trans n3.g))) ?_ (λx=>⟨λhx=>?_,λ⟨h1,h2⟩=>?_⟩) ?_
 ·rw[n3.at'];congr 2;rw[e2];simp only[y0t];rfl
 ·refine atom λzG zk=>?_;obtain⟨k,hk,rfl⟩:=y0l.mp hx;obtain⟨m,rfl,h1,h2⟩:=hnn k hk;refine zk ?_;exact⟨h1,h2⟩
 ·refine y0l.mpr ⟨(x:Int),(p2 _).mpr (y0l.mpr ⟨x,y1t.mpr ⟨h1,by simpa using h2⟩,rfl⟩),rfl⟩
 ·rw[y00];refine y15 (zkr (p1.imp λh=>Int.ne_of_lt h) λk hk=>(p2 k).mp hk) ?_;rw[y00];exact hf
abbrev s_Standings_numbered:Stmt:=inClass (top 60) 1
theorem zco:FnScope ["self","form"] ["self","form"] (defScope s_Standings_numbered):={}
theorem zuc(T:Txt K mg w tw ow fa cStandings cSayError cs)(d:DfnM K cStandings "numbered" "Standings.numbered" s_Standings_numbered ["self","form"]):CalM P w K mg base 1 cStandings "numbered" ["self","form"] (zdt P w cStandings):=by
 refine d.cal zco (λvs H Q E h=>?_) (λf cdv A outer s H vs Q E hr h=>?_)
 ·obtain⟨A,a,cs,fs,sts,k,rfl,_⟩:=h;rfl
 obtain⟨LA,a,co,fs,sts,k,rfl,L,h10,ea,q⟩:=h;have hu:=zib hr 8 (by decide);refine⟨_,(zbm (za0 (zam (znr hu) (pv 1) (zbo (pv 0) (by rfl)) (by with_unfolding_all rfl)) (zab (zqe hu (zbo (pv 0) (by rfl)) (pv 1) (za5 (zat K) (by rfl) T.b_len boot_len (pa_c (zbo (pv 0) (by rfl)) zaa)) rfl) (zad (zbj (zb2 K PySem.F.plainAttrs_list PySem.F.slot_list_append PySem.F.type_list_append zbe (zbo (pv 0) (by rfl)) (pa_c (pv 1) zaa))))) zap) (zad (zaj (zqn hu (zbo (pv 0) (by rfl)) (pv 1) (λ_ _=>rfl))))),?_⟩;refine za3 [some (.ref LA.p),some (.ref a)] rfl ?_;refine⟨λσ' H'=>σ'=[some (.ref LA.p),some (.ref a)]/\NestAt H' a k/\Nx P w cStandings LA co fs sts 1 H (nxt fs k) sts H',?_,?_⟩
 ·trivial;ac_rfl;obtain⟨rs,e6,e7⟩:=L.ef;obtain⟨pz,ez,ez'⟩:=L.ep;obtain⟨ys,e8,ky,ef,ev⟩:=L.en;have hrl:=SS.Paired.len e7;refine zk ?_;rw[y06,show four.length=4 from rfl]at hrl;have hyl:ys.length=fs.length:=by rw[←ef,y00]
  obtain⟨t1,t2⟩:=tabN 4 ef ev k;refine fdm L.e1 T.cl_Standings T.n_numbers zdf ⟨LA.pn,rfl,_,e8,ky,k,ea,?_⟩;by_cases hin:k∈fs
  ·rw[t1 hin,zsi hin];exact iteF ⟨ea,.same0 L (Same.refl _)⟩
  ·rw[t2 hin,zod hin];have npn:LA.p≠LA.pn:=zcc L.e1 e8 (by intro z;cases z);have npf:LA.p≠LA.pf:=zcc L.e1 e6 (by intro z;cases z);have nfn:LA.pf≠LA.pn:=zcc e6 e8 (by intro z;cases z);have nfs:LA.pf≠LA.ps:=zcc e6 L.es (by intro z;cases z);have nns:LA.pn≠LA.ps:=zcc e8 L.es (by intro z;cases z);have npp:LA.pp≠LA.pn:=zcc ez e8 (by intro z;cases z);refine iteT (fdm L.e1 T.cl_Standings T.n_forms zbs ⟨LA.pf,rfl,_,.inl (.of e6),fdm L.e1 T.cl_Standings T.n_numbers zdf ⟨LA.pn,rfl,_,e8,ky,k,ea,t2 hin,?_⟩⟩);refine⟨small1000 (by omega),λH4 e4=>?_⟩;subst e4;have e1':∀o,upd H LA.pn o LA.p=some (.ins cStandings LA.dx LA.fl):=λo=>by rw[zan npn];exact L.e1
   have e6':∀o,upd H LA.pn o LA.pf=some (.lst rs):=λo=>by rw[zan nfn];exact e6
   refine⟨_,_,_,e1' _,T.cl_Standings,T.n_forms,_,zbs,.inl ⟨_,.of (e6' _)⟩,LA.pf,rfl,_,e6' _,small1000 (by omega),?_⟩;have uA:Up4 LA H (upd (upd H LA.pn (dN P w LA.pn (ys++[(k,a,V.int (rs.length:Int))]))) LA.pf (.lst (rs++[.ref a]))):=λb o h0 h1 h2 h3 e=>by rw[zan h1,zan h2];exact e
   have tsA:=L.tups uA;have evn:V.int (rs.length:Int)=nV (4+fs.length):=by show V.int _=V.int _;congr 1;omega
   refine⟨ea.ts tsA,uA,⟨by rw[zan npf];exact e1' _,⟨pz,by rw[zan L.nf,zan npp];exact ez,L2.Paired.mapP ez' λ_ _ z=>z.ts tsA⟩,⟨_,zao,by rw[←y2c];exact SM.Paired.snoc (L2.Paired.mapP e7 λ_ _ z=>z.ts tsA) ⟨a,rfl,ea.ts tsA⟩⟩,⟨_,by rw[zan (Ne.symm nfn),zao],?_,by rw[y0r,ef];rfl,λi y h=>?_⟩,by rw[zan (Ne.symm nfs),zan (Ne.symm nns)];exact L.es,L.st.more ⟨[k],rfl⟩,L.nf⟩,⟨[k],rfl⟩,by rw[y06];exact y04 _,by omega⟩
   ·intro y hy;rcases y0j.mp hy with h|h
    ·exact(ky y h).ts tsA
    ·rw[y08.mp h];exact ea.ts tsA
   ·by_cases hi:i<ys.length
    ·rw[y0u hi]at h;exact ev i y h
    ·rw[y0o (by omega)]at h;have h0:i-ys.length=0:=by
      have:=(y0f.mp h).1;simp at this;omega
     rw[h0]at h;cases h;show V.int _=_;rw[evn];congr 2;omega
 ·rintro σ' H' ⟨rfl,ea',N⟩;trivial;ac_rfl;have L':=N.sn;obtain⟨ys,e8,ky,ef,ev⟩:=L'.en;have hin:k∈nxt fs k:=by
   by_cases h:k∈fs
   ·rw[zsi h];exact h
   ·rw[zod h];simp
  obtain⟨t1,t2⟩:=tabN 4 ef ev k;refine zk ?_;refine fdm L'.e1 T.cl_Standings T.n_numbers zdf ⟨LA.pn,rfl,_,e8,ky,k,ea',_,t1 hin,q _ _ _ N (by omega) ?_⟩;rw[y0o (by show 4<=_;omega),show four.length=4 from rfl,Nat.add_sub_cancel_left];exact zoh hin
abbrev s_Standings_of_and:Stmt:=inClass (top 60) 3
theorem zdb:FnScope ["self","one","other"] ["self","one","other"] (defScope s_Standings_of_and):={}
theorem zue(T:Txt K mg w tw ow fa cStandings cSayError cs)(d:DfnM K cStandings "of_and" "Standings.of_and" s_Standings_of_and ["self","one","other"])(C_Standings_numbered:CalM P w K mg base 1 cStandings "numbered" ["self","form"] (zdt P w cStandings)):CalM P w K mg base 2 cStandings "of_and" ["self","one","other"] (zgh P w cStandings):=by
 refine d.cal zdb (λvs H Q E h=>?_) (λf cdv A outer s H vs Q E hr h=>?_)
 ·obtain⟨A,cs,fs,sts,d,x,y,c,e,b1,b2,rfl,_⟩:=h;rfl
 obtain⟨LA,co,fs,sts,dd,x,y,c,e,b1,b2,rfl,L,h9,s1,s2,q⟩:=h;refine⟨_,(zab (za0 (zam (zay K) (zaz (by rfl) T.g_NO) (zag (pa_c (pv 1) (pa_c (pv 2) zaa))) (by with_unfolding_all rfl)) (zad (zaj (zaz (by rfl) T.g_NO))) zap) (zad (zaj (zb6 (PW.pt (zes (zam zbb (pv 1) (zaz (by rfl) T.g_YES) (nomark _)) (zdd (zam zbb (pv 2) (zaz (by rfl) T.g_YES) (nomark _))))) (zaz (by rfl) T.g_YES) (zau C_Standings_numbered T.cl_Standings hr (by omega) (pv 0) (pa_c (zag (pa_c (pv 1) (pa_c (pv 2) zaa))) zaa)))))),?_⟩;refine za3 [some (.ref LA.p),some (nV x),some (nV y)] rfl ?_;trivial;refine mkT λp1 H1 n1=>⟨_,.inr (.of n1.at'),rfl,rfl,?_⟩;rw[show inV (V.int 3) [nV x,nV y]=_ from in2 x y 3];by_cases h3:x=3\/y=3
 ·refine itT h3 (q fs H1 3 (.same0 L n1.g) (.no ?_));rcases h3 with h|h
  ·rw[s1.f h,y14]
  ·rw[s2.f h,y2l]
 refine itF h3 ?_;have num:¬(x=2/\y=2)->∀p H2,Same H H2->H2 p=some (.tup [nV x,nV y])->zdt P w cStandings [.ref LA.p,.ref p] H2 Q E:=λhn p H2 g2 ep=>by
  refine⟨LA,p,co,fs,sts,[kI x,kI y],rfl,L.same g2,h9,⟨_,ep,.cons rfl (.cons rfl .nil)⟩,λfs' H3 m N h4 em=>q fs' H3 m (N.bef g2) (.inr (.inr ⟨h4,x,y,b1,b2,em,N.sg s1,N.sg s2,rfl⟩))⟩
 by_cases hx:x=2
 ·refine itT (by omega) ?_;by_cases hy:y=2
  ·exact itT (by omega) (q fs H1 2 (.same0 L n1.g) (.yes (by rw[s1.t hx,s2.t hy];rfl)))
  ·exact itF (by omega) ⟨_,_,n1.g _ _ L.e1,zbd (by decide) (by decide) (by decide) (by decide),mkT λp2 H2 n2=>num (by omega) p2 H2 (n1.g.trans n2.g) n2.at'⟩
 ·exact itF (by omega) ⟨_,_,n1.g _ _ L.e1,zbd (by decide) (by decide) (by decide) (by decide),mkT λp2 H2 n2=>num (by omega) p2 H2 (n1.g.trans n2.g) n2.at'⟩
abbrev s_Standings_of_some_set:Stmt:=inClass (top 60) 4
theorem sc_Standings_of_some_set:FnScope ["self","standings","kept"] ["self","standings"] (defScope s_Standings_of_some_set):={}
theorem zua(T:Txt K mg w tw ow fa cStandings cSayError cs)(d:DfnM K cStandings "of_some_set" "Standings.of_some_set" s_Standings_of_some_set ["self","standings"])(C_worth_keeping:Cal P w K mg base 1 "worth_keeping" ["standings"] (zgi K))(C_Standings_numbered:CalM P w K mg base 1 cStandings "numbered" ["self","form"] (zdt P w cStandings)):CalM P w K mg base 2 cStandings "of_some_set" ["self","standings"] (zge P w cStandings):=by
 refine d.cal sc_Standings_of_some_set (λvs H Q E h=>?_) (λf cdv A outer s H vs Q E hr h=>?_)
 ·obtain⟨A,a,cs,fs,sts,d,c,ns,g,rfl,_⟩:=h;rfl
 obtain⟨LA,a,co,fs,sts,dd,c,ns,g,rfl,L,h9,ea,hnd,hd,hs,q⟩:=h;refine⟨_,(zab (zav (i:=2) sc_Standings_of_some_set.nd rfl (Or.inl rfl) (zah C_worth_keeping hr (by omega) (by rfl) (pa_c (pv 1) zaa))) (zab (za0 (zam (zay K) (zaz (by rfl) T.g_YES) (pv 2) (by with_unfolding_all rfl)) (zad (zaj (zaz (by rfl) T.g_YES))) zap) (zad (zaj (zb6 (zgu (pv 2) (λ_=>rfl)) (zau C_Standings_numbered T.cl_Standings hr (by omega) (pv 0) (pa_c (zag (pa_c (pv 2) zaa)) zaa)) (zaz (by rfl) T.g_NO)))))),?_⟩;refine za3 [some (.ref LA.p),some (.ref a),none] rfl ?_;trivial;refine⟨a,ns,rfl,ea,by omega,λt xs H1 g1 et hx hl=>⟨t,rfl,_,.inr (.of et),rfl,ze7 xs,?_⟩⟩;have L1:=L.same g1;rw[show inV (V.int 2) (xs.map nV)=decide (2∈xs)from inN xs 2];by_cases h2:2∈xs
 ·rw[decide_eq_true h2];obtain⟨h2',_⟩:=(hx 2).mp h2;exact iteT (q fs H1 2 (.same0 L g1) λi=>.yes (y23.mpr ⟨2,h2',(hs 2 h2').t rfl⟩))
 refine itF h2 ?_;have ea2:ns.any g=xs.any g:=zla hs hx;cases xs with
 |nil =>
  refine⟨false,.inr (.inl ⟨_,.of et,rfl⟩),iteF (q fs H1 3 (.same0 L g1) λi=>.no ?_)⟩;rw[ea2];rfl
 |cons x xs =>
  refine⟨true,.inr (.inl ⟨_,.of et,rfl⟩),iteT ⟨_,_,L1.e1,zbd (by decide) (by decide) (by decide) (by decide),mkT λp2 H2 n2=>⟨LA,p2,co,fs,sts,[.inr (keysL (x::xs))],rfl,L1.same n2.g,h9,⟨_,n2.at',.cons ⟨t,rfl,?_⟩ .nil⟩,λfs' H3 m N h4 em=>?_⟩⟩⟩
  ·rw[n2.g _ _ et,zdx]
  ·have N0:=N.bef (g1.trans n2.g);exact q fs' H3 m N0 λi=>.inr (.inr ⟨h4,0,x::xs,g,em,by omega,λz hz=>N0.sg (hs z ((hx z).mp hz).1),(λz=>nomatch z),ea2⟩)
abbrev s_Standings_of_some_place:Stmt:=inClass (top 60) 5
theorem sc_Standings_of_some_place:FnScope ["self","unplaced","placed","kept"] ["self","unplaced","placed"] (defScope s_Standings_of_some_place):={}
theorem zub(T:Txt K mg w tw ow fa cStandings cSayError cs)(d:DfnM K cStandings "of_some_place" "Standings.of_some_place" s_Standings_of_some_place ["self","unplaced","placed"])(C_worth_keeping:Cal P w K mg base 1 "worth_keeping" ["standings"] (zgi K))(C_Standings_numbered:CalM P w K mg base 1 cStandings "numbered" ["self","form"] (zdt P w cStandings)):CalM P w K mg base 2 cStandings "of_some_place" ["self","unplaced","placed"] (zgf P w cStandings):=by
 refine d.cal sc_Standings_of_some_place (λvs H Q E h=>?_) (λf cdv A outer s H vs Q E hr h=>?_)
 ·obtain⟨A,a,cs,fs,sts,d,u,c,bu,ns,g,rfl,_⟩:=h;rfl
 obtain⟨LA,a,co,fs,sts,dd,u,c,bu,ns,g,rfl,L,h9,ea,hnd,hd,hs,hsu,q⟩:=h;refine⟨_,(zab (zav (i:=3) sc_Standings_of_some_place.nd rfl (Or.inl rfl) (zah C_worth_keeping hr (by omega) (by rfl) (pa_c (pv 2) zaa))) (zab (za0 (zam (zay K) (zaz (by rfl) T.g_YES) (pv 3) (by with_unfolding_all rfl)) (zad (zaj (zaz (by rfl) T.g_YES))) zap) (zab (za0 (PW.pt (zes (zam zbb (pv 1) (zaz (by rfl) T.g_NO) (nomark _)) (zdd (zcl (zgu (pv 3) (λ_=>rfl)))))) (zad (zaj (zaz (by rfl) T.g_NO))) zap) (zad (zaj (zau C_Standings_numbered T.cl_Standings hr (by omega) (pv 0) (pa_c (zag (pa_c (pv 1) (pa_c (pv 3) zaa))) zaa))))))),?_⟩;refine za3 [some (.ref LA.p),some (nV u),some (.ref a),none] rfl ?_;trivial;refine⟨a,ns,rfl,ea,by omega,λt xs H1 g1 et hx hl=>⟨t,rfl,_,.inr (.of et),rfl,ze7 xs,?_⟩⟩;have L1:=L.same g1;rw[show inV (V.int 2) (xs.map nV)=decide (2∈xs)from inN xs 2];by_cases h2:2∈xs
 ·rw[decide_eq_true h2];obtain⟨h2',_⟩:=(hx 2).mp h2;exact iteT (q fs H1 2 (.same0 L g1) λi=>.yes (y23.mpr ⟨2,h2',(hs 2 h2').t rfl⟩))
 refine itF h2 ?_;have ea2:ns.any g=xs.any g:=zla hs hx;have num:∀p H2,Same H H2->H2 t=some (.tup (xs.map nV))->H2 p=some (.tup [nV u,.ref t])->zdt P w cStandings [.ref LA.p,.ref p] H2 Q E:=λp H2 g2 et2 ep=>by
  refine⟨LA,p,co,fs,sts,[kI u,.inr (keysL xs)],rfl,L.same g2,h9,⟨_,ep,.cons rfl (.cons ⟨t,rfl,by rw[et2,zdx]⟩ .nil)⟩,λfs' H3 m N h4 em=>?_⟩;have N0:=N.bef g2;exact q fs' H3 m N0 λi=>.inr (.inr ⟨h4,u,xs,g,em,by omega,λz hz=>N0.sg (hs z ((hx z).mp hz).1),(λ_=>⟨bu,N0.sg hsu⟩),ea2⟩)
 by_cases hu3:u=3
 ·refine itT (by omega) ?_;cases xs with
  |nil =>
   refine⟨false,.inr (.inl ⟨_,.of et,rfl⟩),iteT (q fs H1 3 (.same0 L g1) λi=>.no ?_)⟩;rw[ea2];rfl
  |cons x xs =>
   exact⟨true,.inr (.inl ⟨_,.of et,rfl⟩),iteF ⟨_,_,L1.e1,zbd (by decide) (by decide) (by decide) (by decide),mkT λp2 H2 n2=>num p2 H2 (g1.trans n2.g) (n2.g _ _ et) n2.at'⟩⟩
 ·exact itF (by omega) ⟨_,_,L1.e1,zbd (by decide) (by decide) (by decide) (by decide),mkT λp2 H2 n2=>num p2 H2 (g1.trans n2.g) (n2.g _ _ et) n2.at'⟩
abbrev s_Standings_above:Stmt:=inClass (top 60) 7
theorem sc_Standings_above:FnScope ["self","number","letter","left","right","step"] ["self","number","letter","left","right"] (defScope s_Standings_above):={}
theorem zws{lv:Nat}(T:Txt K mg w tw ow fa cStandings cSayError cs)(d:DfnM K cStandings "above" "Standings.above" s_Standings_above ["self","number","letter","left","right"])(C_told:Cal P w K mg base 1 "told" ["truth"] zc2)(C_Standings_above_unsettled:CalM P w K mg base (4+3*lv) cStandings "above_unsettled" ["self","number","letter","left","right"] (zsb P w cStandings lv)):CalM P w K mg base (4+3*lv+1) cStandings "above" ["self","number","letter","left","right"] (zgl P w cStandings lv):=by
 refine d.cal sc_Standings_above (λvs H Q E h=>?_) (λf cdv A outer s H vs Q E hr h=>?_)
 ·obtain⟨A,cs,fs,sts,k,t,l,r,c,b1,b2,rfl,_⟩:=h;rfl
 obtain⟨LA,co,fs,sts,k,t,l,r,c,b1,b2,rfl,L,ek,hh,ht,s1,s2,hf,hs,q⟩:=h;have hu:=zib hr 8 (by omega);have hc2:=c.cost2;refine⟨_,(zab (za0 (PW.pt (zdc (zam (zay K) (zaz (by rfl) T.g_YES) (zag (pa_c (pv 3) (pa_c (pv 4) zaa))) (by with_unfolding_all rfl)) (zcq (zam (zay K) (zaz (by rfl) T.g_NO) (zag (pa_c (pv 3) (pa_c (pv 4) zaa))) (by with_unfolding_all rfl))))) (zad (zaj (zah C_told hr (by omega) (by rfl) (pa_c (za8 (zay K) (zaz (by rfl) T.g_YES) (zag (pa_c (pv 3) (pa_c (pv 4) zaa))) (by with_unfolding_all rfl)) zaa)))) zap) (zab (zav (i:=5) sc_Standings_above.nd rfl (Or.inl rfl) (zag (pa_c (pv 1) (pa_c (pv 2) (pa_c (pv 3) (pa_c (pv 4) zaa)))))) (zbm (za0 (zam (zlv hu) (pv 5) (zbo (pv 0) (by rfl)) (by with_unfolding_all rfl)) (zad (zqf hu (zbo (pv 0) (by rfl)) (pv 5) (zau C_Standings_above_unsettled T.cl_Standings hr (by omega) (pv 0) (pa_c (pv 1) (pa_c (pv 2) (pa_c (pv 3) (pa_c (pv 4) zaa))))) rfl)) zap) (zad (zaj (zqo hu (zbo (pv 0) (by rfl)) (pv 5) (λ_ _=>rfl))))))),?_⟩;refine za3 [some (.ref LA.p),some (nV k),some (nV t),some (nV l),some (nV r),none] rfl ?_;trivial;have i2:∀k:Nat,inV (nV k) [nV l,nV r]=decide (l=k\/r=k):=in2 l r;refine mkT λp1 H1 n1=>⟨_,.inr (.of n1.at'),rfl,rfl,?_⟩;rw[show inV (V.int 2) [nV l,nV r]=_ from i2 2];by_cases h2:l=2\/r=2
 ·refine itT h2 (mkT λp2 H2 n2=>⟨_,.inr (.of n2.at'),rfl,rfl,_,rfl,?_⟩);rw[show inV (V.int 2) [nV l,nV r]=_ from i2 2,decide_eq_true h2];exact q fs sts H2 2 true (.same0 L (n1.g.trans n2.g)) (.yes rfl)
 refine itF h2 (mkT λp2 H2 n2=>⟨_,.inr (.of n2.at'),rfl,rfl,?_⟩);have g2:=n1.g.trans n2.g;rw[show inV (V.int 3) [nV l,nV r]=_ from i2 3];by_cases h3:l=3\/r=3
 ·refine itT h3 (mkT λp3 H3 n3=>⟨_,.inr (.of n3.at'),rfl,rfl,_,rfl,?_⟩);rw[show inV (V.int 2) [nV l,nV r]=_ from i2 2,decide_eq_false h2];exact q fs sts H3 3 false (.same0 L (g2.trans n3.g)) (.no rfl)
 refine itF h3 (mkT λp3 H3 n3=>?_);have g3:=g2.trans n3.g;have L3:=L.same g3;refine⟨λσ' H'=>σ'=[some (.ref LA.p),some (nV k),some (nV t),some (nV l),some (nV r),some (.ref p3)]/\H' p3=some (.tup [nV k,nV t,nV l,nV r])/\∃fs' sts' n b,Nx P w cStandings LA co fs sts c.cost H fs' sts' H'/\Sg (four++fs') 3 c n b/\valV sts' [.inl (k:Int),.inl (t:Int),.inl (l:Int),.inl (r:Int)]=some (nV n),?_,?_⟩
 ·trivial;refine fdm L3.e1 T.cl_Standings T.n_steps ze8 ⟨LA.ps,rfl,_,DGet.t (k:=[.inl (k:Int),.inl (t:Int),.inl (l:Int),.inl (r:Int)]) L3.es n3.at',?_⟩;cases hv:valV sts [.inl (k:Int),.inl (t:Int),.inl (l:Int),.inl (r:Int)]with
  |some v =>
   ac_rfl;obtain⟨co1,m,b,ek1,rfl,sg⟩:=L3.st k t l r v hv;refine zk ?_;rw[ek]at ek1;cases ek1;exact iteF ⟨n3.at',fs,sts,.same0 L g3,m,b,sg,hv⟩
  |none =>
   refine iteT ⟨_,_,L3.e1,zbd (by decide) (by decide) (by decide) (by decide),LA,co,fs,sts,k,t,l,r,c,b1,b2,rfl,L3,ek,hh,ht,s1.un (λz=>h2 (.inl z)) (λz=>h3 (.inl z)),s2.un (λz=>h2 (.inr z)) (λz=>h3 (.inr z)),hf,hs,λfs' sts' H4 n b N sg=>?_⟩;have L4:=N.sn;have e4:=L3.tups N.up _ _ n3.at';have hls:=N.ls;refine fdm L4.e1 T.cl_Standings T.n_steps ze8 ⟨LA.ps,rfl,_,DPut.t (k:=[.inl (k:Int),.inl (t:Int),.inl (l:Int),.inl (r:Int)]) L4.es e4 (small1000 (by omega)),?_⟩;ac_rfl;have ts5:TupS H4 (upd H4 LA.ps (.dT (putK sts' [.inl (k:Int),.inl (t:Int),.inl (l:Int),.inl (r:Int)] (nV n)))):=TupS.wrT L4.es _;obtain⟨rs,e1,e1'⟩:=L4.ep;obtain⟨qs,e2,e2'⟩:=L4.ef;obtain⟨ys,e3,e5,e6,e7⟩:=L4.en;have hpl:=zcj sts' [.inl (k:Int),.inl (t:Int),.inl (l:Int),.inl (r:Int)] (nV n);have hlf:=N.lf;refine zk ?_;refine⟨ts5 _ _ e4,fs',_,⟨((Same.up4 g3).trans N.up).trans (λb' o' _ _ _ h' e'=>by rw[zan h'];exact e'),⟨by rw[zan (zcc L4.e1 L4.es (by intro z;cases z))];exact L4.e1,⟨rs,by rw[zan (zcc e1 L4.es (by intro z;cases z))];exact e1,L2.Paired.mapP e1' λ_ _ z=>z.ts ts5⟩,⟨qs,by rw[zan (zcc e2 L4.es (by intro z;cases z))];exact e2,L2.Paired.mapP e2' λ_ _ z=>z.ts ts5⟩,⟨ys,by rw[zan (zcc e3 L4.es (by intro z;cases z))];exact e3,e5.ts ts5,e6,e7⟩,zao,?_,L4.nf⟩,N.pre,by omega,by omega⟩,n,b,sg,by rw[zj4,if_pos rfl]⟩;intro k' c' l' r' v' e;rw[zj4]at e;split at e
   ·rename_i ee;simp only[List.cons.injEq,Sum.inl.injEq,and_true]at ee;cases e;obtain rfl:k'=k:=by omega
    exact⟨c,n,b,ek,rfl,sg⟩
   ·exact L4.st k' c' l' r' v' e
 ·rintro σ' H' ⟨rfl,e4,fs',sts',n,b,N,sg,hv⟩;trivial;have z:=DGet.t (k:=[.inl (k:Int),.inl (t:Int),.inl (l:Int),.inl (r:Int)]) N.sn.es e4;rw[hv]at z;exact fdm N.sn.e1 T.cl_Standings T.n_steps ze8 ⟨LA.ps,rfl,_,z,q fs' sts' H' n b N sg⟩
abbrev s_Standings_above_sets:Stmt:=inClass (top 60) 9
theorem sc_Standings_above_sets:FnScope ["self","part","letter","lefts","rights","found","left","right"] ["self","part","letter","lefts","rights"] (defScope s_Standings_above_sets):={}
theorem zwq{lv:Nat}(T:Txt K mg w tw ow fa cStandings cSayError cs)(d:DfnM K cStandings "above_sets" "Standings.above_sets" s_Standings_above_sets ["self","part","letter","lefts","rights"])(C_Standings_of_some_set:CalM P w K mg base 2 cStandings "of_some_set" ["self","standings"] (zge P w cStandings))(C_Standings_above:CalM P w K mg base (4+3*lv+1) cStandings "above" ["self","number","letter","left","right"] (zgl P w cStandings lv)):CalM P w K mg base (4+3*lv+1+1) cStandings "above_sets" ["self","part","letter","lefts","rights"] (zsc P w cStandings lv):=by
 refine d.cal sc_Standings_above_sets (λvs H Q E h=>?_) (λf cdv A outer s H vs Q E hr h=>?_)
 ·obtain⟨A,cs,fs,sts,a,t,i,pa,ta,tb,xs,ys,c,rfl,_⟩:=h;rfl
 obtain⟨LA,co,fs,sts,a,t,i0,pa,ta,tb,xs,ys,c,rfl,L,epa,hi,ek,hh,ht,eta,etb,hx1,hy1,hxs,hys,hf,hs,q⟩:=h;have nm:List.lookup ("above":Str) LA.fl=none:=zbd (by decide) (by decide) (by decide) (by decide);have nm2:List.lookup ("of_some_set":Str) LA.fl=none:=zbd (by decide) (by decide) (by decide) (by decide);obtain⟨t2,et2,ht2⟩:=bor32 ht hi;refine⟨_,(zab (zav (i:=5) sc_Standings_above_sets.nd rfl (Or.inl rfl) (zaq zaa)) (zab (zet PassesOwn.never rfl (zcr K (pv 3)) (za2 (i:=6) sc_Standings_above_sets.nd (by rfl) (Or.inl (by rfl))) (zad (zet PassesOwn.never rfl (zcr K (pv 4)) (za2 (i:=7) sc_Standings_above_sets.nd (by rfl) (Or.inl (by rfl))) (zab (zbj (zb2 K PySem.F.plainAttrs_list PySem.F.slot_list_append PySem.F.type_list_append zbe (pv 5) (pa_c (zau C_Standings_above T.cl_Standings hr (by omega) (pv 0) (pa_c (zar (zal K) (pv 1) zac (λ_ _=>rfl)) (pa_c (pv 2) (pa_c (pv 6) (pa_c (pv 7) zaa))))) zaa))) (zad (zbj (zb2 K PySem.F.plainAttrs_list PySem.F.slot_list_append PySem.F.type_list_append zbe (pv 5) (pa_c (zau C_Standings_above T.cl_Standings hr (by omega) (pv 0) (pa_c (zar (zal K) (pv 1) zac (λ_ _=>rfl)) (pa_c (zaw zwe (pv 2) (zar (zal K) (pv 1) zac (λ_ _=>rfl))) (pa_c (pv 6) (pa_c (pv 7) zaa))))) zaa)))))))) (zad (zaj (zau C_Standings_of_some_set T.cl_Standings hr (by omega) (pv 0) (pa_c (pv 5) zaa)))))),?_⟩;refine za3 [some (.ref LA.p),some (.ref pa),some (nV t),some (.ref ta),some (.ref tb),none,none,none] rfl ?_;trivial;refine mkT λp0 H1 n1=>?_;have L1:=L.same n1.g;obtain⟨k1,k2⟩:=L.nD n1.nil;have hG:∀m k H',Gs P w cStandings LA co fs sts c H p0 m k H'->TupS H H':=λm k H' G=>L.tups G.up;refine⟨⟨_,.of (n1.g _ _ eta)⟩,zsq (K:=K) (a:=ta) (xs:=xs.map nV) (λi σ H'=>(∃v6 v7:Option V,σ=[some (.ref LA.p),some (.ref pa),some (nV t),some (.ref ta),some (.ref tb),some (.ref p0),v6,v7])/\Gs P w cStandings LA co fs sts c H p0 (2*i) (2*i) H') ⟨⟨_,_,rfl⟩,fs,sts,[],.same0 L n1.g,n1.at',y10 _,λz hz=>nomatch hz⟩ (λi σ H' _ z=>.of (hG _ _ _ z.2 _ _ eta)) ?_ ?_⟩
 ·rintro i x σ H2 hx ⟨⟨v6,v7,rfl⟩,g2⟩;obtain⟨x,mx,rfl⟩:=y0l.mp (y0g hx);have hi0:i=0:=by have:=(y0f.mp hx).1;rw[y00]at this;omega
  subst hi0;trivial;refine⟨⟨_,.of (hG _ _ _ g2 _ _ etb)⟩,zsq (K:=K) (a:=tb) (xs:=ys.map nV) (λj σ H'=>(∃v7:Option V,σ=[some (.ref LA.p),some (.ref pa),some (nV t),some (.ref ta),some (.ref tb),some (.ref p0),some (nV x),v7])/\Gs P w cStandings LA co fs sts c H p0 (2*j) (2*j) H') ⟨⟨_,rfl⟩,g2⟩ (λi σ H' _ z=>.of (hG _ _ _ z.2 _ _ etb)) ?_ ?_⟩
  ·rintro j y σ H3 hy ⟨⟨v7,rfl⟩,g3⟩;obtain⟨y,my,rfl⟩:=y0l.mp (y0g hy);have hj0:j=0:=by have:=(y0f.mp hy).1;rw[y00]at this;omega
   subst hj0;trivial;obtain⟨z3,ez3⟩:=g3.at;refine⟨.inl ⟨_,.of ez3⟩,mtm g3.e1 nm ⟨_,.of (hG _ _ _ g3 _ _ epa),_,zak (j:=2) rfl,zhd n1.nil k1 k2 ek hh hf hs ht (by decide) (by decide) (hxs x mx) (hys y my) g3 λn H4 ys4 u4 e4 h4 G4=>⟨_,e4,zaf (by omega),.inl ⟨_,.of zao⟩,mtm G4.e1 nm ⟨_,.of (hG _ _ _ G4 _ _ epa),_,zak (j:=2) rfl,_,.of (hG _ _ _ G4 _ _ epa),_,zak (j:=1) rfl,_,rfl,?_⟩⟩⟩⟩;rw[et2];exact zhd n1.nil k1 k2 ek hh hf hs ht2 (by decide) (by decide) (hxs x mx) (hys y my) G4 λn5 H5 ys5 u5 e5 h5 G5=>⟨_,e5,zaf (by omega),G5⟩
  ·rintro σ H3 ⟨⟨v7,rfl⟩,fs',sts',zs,N,ez,hz,hsz⟩;exact⟨⟨_,_,rfl⟩,fs',sts',zs,N.le (y2g _ (by rw[y00];omega)),ez,by rw[y00]at hz;omega,hsz⟩
 ·rintro σ H2 ⟨⟨v6,v7,rfl⟩,fs',sts',zs,N,ez,hz,hsz⟩;trivial;rw[y00]at N hz;obtain⟨f,hf'⟩:=zvu hsz;have l1:=N.lf;have hmc:2*xs.length*c.cost<=2*c.cost:=y2g _ (by omega);exact⟨_,_,N.sn.e1,nm2,LA,p0,co,fs',sts',3,c,zs,f,rfl,N.sn,by omega,ez,by omega,by decide,hf',λfs3 H3 n N3 s3=>q fs3 sts' H3 n _ ((N.trans N3).le (by omega)) (s3 i0)⟩
abbrev s_Standings_above_places:Stmt:=inClass (top 60) 10
theorem sc_Standings_above_places:FnScope ["self","part","letter","lefts","rights","placed"] ["self","part","letter","lefts","rights"] (defScope s_Standings_above_places):={}
theorem zwr{lv:Nat}(T:Txt K mg w tw ow fa cStandings cSayError cs)(d:DfnM K cStandings "above_places" "Standings.above_places" s_Standings_above_places ["self","part","letter","lefts","rights"])(C_Standings_of_some_place:CalM P w K mg base 2 cStandings "of_some_place" ["self","unplaced","placed"] (zgf P w cStandings))(C_Standings_above:CalM P w K mg base (4+3*lv+1) cStandings "above" ["self","number","letter","left","right"] (zgl P w cStandings lv)):CalM P w K mg base (4+3*lv+1+1) cStandings "above_places" ["self","part","letter","lefts","rights"] (zsd P w cStandings lv):=by
 refine d.cal sc_Standings_above_places (λvs H Q E h=>?_) (λf cdv A outer s H vs Q E hr h=>?_)
 ·obtain⟨A,cs,fs,sts,a,t,i,u,v,pa,la,ra,ta,tb,xs,ys,c,rfl,_⟩:=h;rfl
 obtain⟨LA,co,fs,sts,a,t,i0,u,v,pa,la,ra,ta,tb,xs,ys,c,rfl,L,epa,hi,ek,hh,ht,ela,era,eta,etb,hx1,hy1,hxs,hys,⟨bu,su⟩,⟨bv,sv⟩,hf,hs,q⟩:=h;have nm:List.lookup ("above":Str) LA.fl=none:=zbd (by decide) (by decide) (by decide) (by decide);have nm2:List.lookup ("of_some_place":Str) LA.fl=none:=zbd (by decide) (by decide) (by decide) (by decide);obtain⟨t2,et2,ht2⟩:=bor32 ht hi;have hl1:(xs.map nV).length<=1:=by rw[y00];exact hx1
 have hl2:(ys.map nV).length<=1:=by rw[y00];exact hy1
 refine⟨_,(zab (zgv (i:=5) sc_Standings_above_places.nd rfl (Or.inl rfl) ["left"] [(2,"letter"),(0,"self"),(1,"part"),(4,"rights")] (CompOk.of rfl (by rfl) (by rfl)) (by rfl) (zcr K (zar (zal K) (pv 3) zac (λ_ _=>rfl))) (λ_ _ _ _ _=>(za2 (i:=0) (show List.Nodup (["left","letter","self","part","rights"]:List Str) by decide+kernel) (by rfl) (Or.inl (by rfl)))) (λ_ _ _ _ _=>zb5) (λ_ _ _ _ _=>(zau C_Standings_above T.cl_Standings hr (by omega) (pv 2) (pa_c (zar (zal K) (pv 3) zac (λ_ _=>rfl)) (pa_c (pv 1) (pa_c (pv 0) (pa_c (zar (zal K) (pv 4) zac (λ_ _=>rfl)) zaa))))))) (zab (zbj (zb2 K PySem.F.plainAttrs_list PySem.F.slot_list_extend PySem.F.type_list_extend zoj (pv 5) (pa_c (zbc ["right"] [(2,"letter"),(0,"self"),(1,"part"),(3,"lefts")] (CompOk.of rfl (by rfl) (by rfl)) (by rfl) (zcr K (zar (zal K) (pv 4) zac (λ_ _=>rfl))) (λ_ _ _ _ _=>(za2 (i:=0) (show List.Nodup (["right","letter","self","part","lefts"]:List Str) by decide+kernel) (by rfl) (Or.inl (by rfl)))) (λ_ _ _ _ _=>zb5) (λ_ _ _ _ _=>(zau C_Standings_above T.cl_Standings hr (by omega) (pv 2) (pa_c (zar (zal K) (pv 3) zac (λ_ _=>rfl)) (pa_c (pv 1) (pa_c (zar (zal K) (pv 4) zac (λ_ _=>rfl)) (pa_c (pv 0) zaa))))))) zaa))) (zab (zbj (zb2 K PySem.F.plainAttrs_list PySem.F.slot_list_append PySem.F.type_list_append zbe (pv 5) (pa_c (zau C_Standings_above T.cl_Standings hr (by omega) (pv 0) (pa_c (zar (zal K) (pv 1) zac (λ_ _=>rfl)) (pa_c (zaw zwe (pv 2) (zar (zal K) (pv 1) zac (λ_ _=>rfl))) (pa_c (zar (zal K) (pv 3) zac (λ_ _=>rfl)) (pa_c (zar (zal K) (pv 4) zac (λ_ _=>rfl)) zaa))))) zaa))) (zad (zaj (zau C_Standings_of_some_place T.cl_Standings hr (by omega) (pv 0) (pa_c (zau C_Standings_above T.cl_Standings hr (by omega) (pv 0) (pa_c (zar (zal K) (pv 1) zac (λ_ _=>rfl)) (pa_c (pv 2) (pa_c (zar (zal K) (pv 3) zac (λ_ _=>rfl)) (pa_c (zar (zal K) (pv 4) zac (λ_ _=>rfl)) zaa))))) (pa_c (pv 5) zaa)))))))),?_⟩;refine za3 [some (.ref LA.p),some (.ref pa),some (nV t),some (.ref la),some (.ref ra),none] rfl ?_;trivial;refine⟨_,.of ela,_,zak (j:=1) rfl,ta,rfl,⟨_,.of eta⟩,zii (K:=K) (a:=ta) (xs:=xs.map nV) (λD i ys σ H'=>(∃v:Option V,σ=[v,some (nV t),some (.ref LA.p),some (.ref pa),some (.ref ra)])/\Gs P w cStandings LA co fs sts c H D i i H') (zaf (by omega)) (λD hD=>⟨⟨_,rfl⟩,fs,sts,[],.same0 L (zba hD _),zao,y04 _,λz hz=>nomatch hz⟩) (λD i ys σ H' hD hi hH p=>.of (L.tups p.2.up _ _ eta)) ?_ ?_⟩
 ·rintro D i zs σ H4 x hD hi hx hH hl ⟨⟨v0,rfl⟩,G⟩;ac_rfl;obtain⟨x,mx,rfl⟩:=y0l.mp (y0g hx);obtain⟨k1,k2⟩:=L.nD hD;refine zk ?_;trivial;exact mtm G.e1 nm ⟨_,.of (L.tups G.up _ _ epa),_,zak (j:=2) rfl,_,.of (L.tups G.up _ _ era),_,za1,zhd hD k1 k2 ek hh hf hs ht (by omega) (by omega) (hxs x mx) ⟨bv,sv⟩ G λn H5 ys5 u5 e5 h5 G5=>cstep (zaf (by omega)) hi e5 h5 ⟨⟨_,rfl⟩,G5⟩⟩
 rintro D zs σ H4 hD hH hl ⟨⟨v0,rfl⟩,G⟩;obtain⟨k1,k2⟩:=L.nD hD;have G1:Gs P w cStandings LA co fs sts c H D 1 1 H4:=G.le hl1 hl1;refine⟨.inl ⟨_,.of hH⟩,_,.of (L.tups G.up _ _ era),_,zak (j:=1) rfl,tb,rfl,⟨_,.of (L.tups G.up _ _ etb)⟩,zii (K:=K) (a:=tb) (xs:=ys.map nV) (λD2 i us σ H'=>(∃v:Option V,σ=[v,some (nV t),some (.ref LA.p),some (.ref pa),some (.ref la)])/\Gs2 P w cStandings LA co fs sts c H D D2 (1+i) 1 i H') (zaf (by omega)) (λD2 hD2=>⟨⟨_,rfl⟩,G1.two hD2⟩) (λD2 i us σ H' hD hi hH p=>.of (L.tups p.2.up _ _ etb)) ?_ ?_⟩
 ·rintro D2 i us σ H5 y hD2 hi hy hH5 hl5 ⟨⟨v1,rfl⟩,G5⟩;ac_rfl;obtain⟨y,my,rfl⟩:=y0l.mp (y0g hy);obtain⟨h0,k3,k4,k5⟩:=G1.no2 hD2;refine zk ?_;trivial;refine mtm G5.e1 nm ⟨_,.of (L.tups G5.up _ _ epa),_,zak (j:=2) rfl,_,.of (L.tups G5.up _ _ ela),_,za1,zr4 h0 k1 k2 k3 k4 k5 ek hh hf hs ht (by omega) ⟨bu,su⟩ (hys y my) G5 λn H6 ys6 e6 h6 G6=>cstep (zaf (by omega)) hi e6 h6 ⟨⟨_,rfl⟩,?_⟩⟩;rw[←y36];exact G6
 rintro D2 us σ H5 hD2 hH5 hl5 ⟨⟨v1,rfl⟩,G5⟩;ac_rfl;obtain⟨y1,y2,ey1,ey2,hy3,hy4,G6⟩:=G5.join hD k1 k2;have G7:=G6.le (show 1+(ys.map nV).length<=2 by omega) (show 1+(ys.map nV).length<=2 by omega);have ep6:=L.tups G6.up _ _ epa;have el6:=L.tups G6.up _ _ ela;have er6:=L.tups G6.up _ _ era;refine zk ?_;refine⟨D,rfl,D2,rfl,_,ey1,_,ey2,zaf (by omega),.inl ⟨_,.of zao⟩,_,_,G6.e1,nm,_,.of ep6,_,zak (j:=2) rfl,_,.of ep6,_,zak (j:=1) rfl,_,rfl,_,.of el6,_,za1,_,.of er6,_,za1,?_⟩;rw[et2];refine zhd hD k1 k2 ek hh hf hs ht2 (by decide) (by decide) ⟨bu,su⟩ ⟨bv,sv⟩ G7 λn8 H8 ys8 u8 e8 h8 G8=>?_;have ep8:=L.tups G8.up _ _ epa;have el8:=L.tups G8.up _ _ ela;have er8:=L.tups G8.up _ _ era;refine⟨D,rfl,_,e8,zaf (by omega),_,_,G8.e1,nm2,mtm G8.e1 nm ⟨_,.of ep8,_,zak (j:=2) rfl,_,.of el8,_,za1,_,.of er8,_,za1,?_⟩⟩;ac_rfl;obtain⟨fs9,sts9,zs9,N9,e9,h9,s9⟩:=G8;refine zk ?_;refine zjz ek hh hf hs ht (by decide) ⟨bu,su⟩ ⟨bv,sv⟩ N9 λfsA stsA HA n b NA NB sA=>?_;have eA:=N9.sn.lst NA.up k1 k2 e9;obtain⟨f,hf'⟩:=zvu (λz hz=>let⟨b',s'⟩:=s9 z hz;⟨b',NA.sg s'⟩);have l1:=NB.lf;exact⟨LA,D,co,fsA,stsA,3,n,c,b,zs9,f,rfl,NB.sn,by omega,eA,by omega,by decide,hf',sA,λfs3 H3 m N3 s3=>q fs3 stsA H3 m _ ((NB.trans N3).le (by omega)) (s3 i0)⟩
abbrev s_Standings_above_unsettled:Stmt:=inClass (top 60) 8
theorem sc_Standings_above_unsettled:FnScope ["self","number","letter","left","right","part","lefts","rights"] ["self","number","letter","left","right"] (defScope s_Standings_above_unsettled):={}
theorem zwp{lv:Nat}(T:Txt K mg w tw ow fa cStandings cSayError cs)(d:DfnM K cStandings "above_unsettled" "Standings.above_unsettled" s_Standings_above_unsettled ["self","number","letter","left","right"])(C_mark_of:Cal P w K mg base 3 "mark_of" ["word","one","other","left","right"] zi0)(C_turned:Cal P w K mg base 2 "turned" ["standing"] zj9)(C_Standings_of_and:CalM P w K mg base 2 cStandings "of_and" ["self","one","other"] (zgh P w cStandings))(C_Standings_above:CalM P w K mg base (4+3*lv+1) cStandings "above" ["self","number","letter","left","right"] (zgl P w cStandings lv))(C_Standings_above_sets:CalM P w K mg base (4+3*lv+1+1) cStandings "above_sets" ["self","part","letter","lefts","rights"] (zsc P w cStandings lv))(C_Standings_above_places:CalM P w K mg base (4+3*lv+1+1) cStandings "above_places" ["self","part","letter","lefts","rights"] (zsd P w cStandings lv)):CalM P w K mg base (4+3*lv+1+1+1) cStandings "above_unsettled" ["self","number","letter","left","right"] (zsb P w cStandings (lv+1)):=by
 refine d.cal sc_Standings_above_unsettled (λvs H Q E h=>?_) (λf cdv A outer s H vs Q E hr h=>?_)
 ·obtain⟨A,cs,fs,sts,k,t,l,r,c,b1,b2,rfl,_⟩:=h;rfl
 obtain⟨LA,co,fs,sts,k,t,l,r,c,b1,b2,rfl,L,ek,hh,ht,s1,s2,hf,hs,q⟩:=h;obtain⟨rs,a,vs,ep,er,ea,pt⟩:=L.part ek;have nm:∀m:Str,_->List.lookup m LA.fl=none:=λm (h:m∈(["above","of_and","above_sets","above_places"]:List Str))=>by
  simp only[y02,y07,or_false]at h;rcases h with rfl|rfl|rfl|rfl<;>exact zbd (by decide) (by decide) (by decide) (by decide)
 refine⟨_,(zab (zav (i:=5) sc_Standings_above_unsettled.nd rfl (Or.inl rfl) (zar (zax K) (zbo (pv 0) (by rfl)) (pv 1) (λ_ _=>rfl))) (zab (za0 (zam zbb (zar (zal K) (pv 5) zac (λ_ _=>rfl)) zae (nomark _)) (zad (zaj (zah C_turned hr (by omega) (by rfl) (pa_c (zau C_Standings_above T.cl_Standings hr (by omega) (pv 0) (pa_c (zar (zal K) (pv 5) zac (λ_ _=>rfl)) (pa_c (pv 2) (pa_c (pv 3) (pa_c (pv 4) zaa))))) zaa)))) zap) (zab (za0 (zam zbb (zar (zal K) (pv 5) zac (λ_ _=>rfl)) zae (nomark _)) (zab (zav (i:=6) sc_Standings_above_unsettled.nd rfl (Or.inl rfl) (zar (zax K) (zbo (pv 0) (by rfl)) (pv 3) (λ_ _=>rfl))) (zab (zav (i:=7) sc_Standings_above_unsettled.nd rfl (Or.inl rfl) (zar (zax K) (zbo (pv 0) (by rfl)) (pv 4) (λ_ _=>rfl))) (zad (zaj (zau C_Standings_of_and T.cl_Standings hr (by omega) (pv 0) (pa_c (zau C_Standings_above T.cl_Standings hr (by omega) (pv 0) (pa_c (zar (zal K) (pv 5) zac (λ_ _=>rfl)) (pa_c (pv 2) (pa_c (zar (zal K) (pv 6) zac (λ_ _=>rfl)) (pa_c (zar (zal K) (pv 7) zac (λ_ _=>rfl)) zaa))))) (pa_c (zau C_Standings_above T.cl_Standings hr (by omega) (pv 0) (pa_c (zar (zal K) (pv 5) zac (λ_ _=>rfl)) (pa_c (pv 2) (pa_c (zar (zal K) (pv 6) zac (λ_ _=>rfl)) (pa_c (zar (zal K) (pv 7) zac (λ_ _=>rfl)) zaa))))) zaa))))))) zap) (zab (za0 (zam zbb (zar (zal K) (pv 5) zac (λ_ _=>rfl)) zae (nomark _)) (zad (zaj (zau C_Standings_above_sets T.cl_Standings hr (by omega) (pv 0) (pa_c (pv 5) (pa_c (pv 2) (pa_c (zar (zal K) (zar (zax K) (zbo (pv 0) (by rfl)) (pv 3) (λ_ _=>rfl)) zac (λ_ _=>rfl)) (pa_c (zar (zal K) (zar (zax K) (zbo (pv 0) (by rfl)) (pv 4) (λ_ _=>rfl)) zac (λ_ _=>rfl)) zaa))))))) zap) (zab (za0 (zam zbb (zar (zal K) (pv 5) zac (λ_ _=>rfl)) zae (nomark _)) (zad (zaj (zau C_Standings_above_places T.cl_Standings hr (by omega) (pv 0) (pa_c (pv 5) (pa_c (pv 2) (pa_c (zar (zax K) (zbo (pv 0) (by rfl)) (pv 3) (λ_ _=>rfl)) (pa_c (zar (zax K) (zbo (pv 0) (by rfl)) (pv 4) (λ_ _=>rfl)) zaa))))))) zap) (zad (zaj (zah C_mark_of hr (by omega) (by rfl) (pa_c (zar (zal K) (pv 5) zac (λ_ _=>rfl)) (pa_c (za8 znt (zaw zny (pv 2) (zar (zal K) (pv 5) zac (λ_ _=>rfl))) zac (nomark _)) (pa_c (za8 znt (zaw zny (pv 2) (zar (zal K) (pv 5) zac (λ_ _=>rfl))) zac (nomark _)) (pa_c (pv 3) (pa_c (pv 4) zaa))))))))))))),?_⟩;refine za3 [some (.ref LA.p),some (nV k),some (nV t),some (nV l),some (nV r),none,none,none] rfl ?_;trivial;refine fdm L.e1 T.cl_Standings T.n_parts zct (ixm (.of ep) (zak er) ?_);cases c with
 |bare wd i j =>
  ac_rfl;obtain⟨hw,hi,hj,rfl⟩:=pt;have nn:=zcy hw;refine zk ?_;refine ixm (.of ea) za1 ⟨rfl,?_⟩;refine itF (nn _ (by decide)) (ixm (.of ea) za1 ⟨rfl,?_⟩);refine itF (nn _ (by decide)) (ixm (.of ea) za1 ⟨rfl,?_⟩);refine itF (nn _ (by decide)) (ixm (.of ea) za1 ⟨rfl,?_⟩);refine itF (nn _ (by decide)) ?_;refine ixm (.of ea) za1 (ixm (.of ea) (zak (j:=1) rfl) ⟨_,rfl,ixm (.of ea) (zak (j:=2) rfl) ⟨_,rfl,?_⟩⟩);rw[zk9 ht hi,zk9 ht hj];obtain⟨b,sb⟩:=ztd (F:=four++fs) (d:=3) (wd:=wd) (i:=i) (j:=j) (zwz wd (bit t i) (bit t j) l r);exact⟨wd,bit t i,bit t j,l,r,rfl,λH2 g2=>q fs sts H2 _ b (.same0 L g2) sb⟩
 |neg c =>
  obtain⟨b,rfl,eb⟩:=pt;have h1:c.hgt+1<lv+1:=hh;have h2:fs.length+(c.cost+2)<=500:=hf;have h3:sts.length+(c.cost+2)<=500:=hs;refine ixm (.of ea) za1 ⟨rfl,?_⟩;exact itT rfl (mtm L.e1 (nm _ (by decide)) (ixm (.of ea) (zak (j:=1) rfl) ⟨LA,co,fs,sts,b,t,l,r,c,!b1,!b2,rfl,L,eb,by omega,ht,.inr (.inr s1),.inr (.inr s2),by omega,by omega,λfs' sts' H1 n bb N s=>⟨n,rfl,λH2 g2=>q fs' sts' H2 _ _ ((N.aft g2).le (show c.cost<=c.cost+2-1 by omega)) s.neg⟩⟩))
 |con c e =>
  ac_rfl;obtain⟨b,b',rfl,eb,eb'⟩:=pt;obtain⟨h4,x,y,bx,by',ef,sx,sy,rfl⟩:=s1;obtain⟨h4',x',y',bx',by'',ef',sx',sy',rfl⟩:=s2;have h1:max c.hgt e.hgt+1<lv+1:=hh;have h2:fs.length+(c.cost+e.cost+2)<=500:=hf;have h3:sts.length+(c.cost+e.cost+2)<=500:=hs;obtain⟨rf,af,epf,erf,nf⟩:=L.form ef;obtain⟨rf',af',epf',erf',nf'⟩:=L.form ef';have evf:=zk4 nf;have evf':=zk4 nf';refine zk ?_;refine ixm (.of ea) za1 ⟨rfl,?_⟩;refine itF (by intro z;exact absurd (V.str.inj z) (by decide)) (ixm (.of ea) za1 ⟨rfl,?_⟩);refine itT rfl (fdm L.e1 T.cl_Standings T.n_forms zbs (ixm (.of epf) (zak erf) (fdm L.e1 T.cl_Standings T.n_forms zbs (ixm (.of epf') (zak erf') ?_))));refine mtm L.e1 (nm _ (by decide)) (mtm L.e1 (nm _ (by decide)) (ixm (.of ea) (zak (j:=1) rfl) (ixm (.of evf) za1 (ixm (.of evf') za1 ⟨LA,co,fs,sts,b,t,x,x',c,bx,bx',rfl,L,eb,by omega,ht,sx,sx',by omega,by omega,λfs1 sts1 H1 n1 bb1 N1 z1=>?_⟩))));have l1:=N1.lf;have l2:=N1.ls;have ts:=L.tups N1.up;refine mtm N1.sn.e1 (nm _ (by decide)) (ixm (.of (ts _ _ ea)) (zak (j:=2) rfl) (ixm (.of (ts _ _ evf)) (zak (j:=1) rfl) (ixm (.of (ts _ _ evf')) (zak (j:=1) rfl) ⟨LA,co,fs1,sts1,b',t,y,y',e,by',by'',rfl,N1.sn,eb',by omega,ht,N1.sg sy,N1.sg sy',by omega,by omega,λfs2 sts2 H2 n2 bb2 N2 z2=>?_⟩)));have l3:=N2.lf;exact⟨LA,co,fs2,sts2,3,n1,n2,c,e,bb1,bb2,rfl,N2.sn,by omega,N2.sg z1,z2,λfs3 H3 n N3 s3=>q fs3 sts2 H3 n _ ((N1.trans (N2.trans N3)).le (show c.cost+(e.cost+1)<=c.cost+e.cost+2-1 by omega)) s3⟩
 |so st i c =>
  ac_rfl;obtain⟨b,hi,rfl,eb⟩:=pt;obtain⟨h4,u,xs,g1,ef,hxl,hx,hu,rfl⟩:=s1;obtain⟨h4',u',xs',g1',ef',hxl',hx',hu',rfl⟩:=s2;have h1:c.hgt+1<lv+1:=hh;have h2:fs.length+(4*c.cost+2)<=500:=hf;have h3:sts.length+(4*c.cost+2)<=500:=hs;obtain⟨rf,af,epf,erf,nf⟩:=L.form ef;obtain⟨rf',af',epf',erf',nf'⟩:=L.form ef';have e1:∀z:Str,z∈(["not","and"]:List Str)->¬V.str (soW st)=V.str z:=λz hz e=>by
   have:=V.str.inj e;subst this;revert hz;cases st<;>decide
  refine zk ?_;refine ixm (.of ea) za1 ⟨rfl,?_⟩;refine itF (e1 _ (by decide)) (ixm (.of ea) za1 ⟨rfl,?_⟩);refine itF (e1 _ (by decide)) (ixm (.of ea) za1 ⟨rfl,?_⟩);cases st with
  |true =>
   rw[decide_eq_true (show V.str (soW true)=V.str "some set" from rfl)];ac_rfl;obtain⟨tx,evf,etx⟩:=zk2 nf;obtain⟨tx',evf',etx'⟩:=zk2 nf';refine zk ?_;exact iteT (mtm L.e1 (nm _ (by decide)) (fdm L.e1 T.cl_Standings T.n_forms zbs (ixm (.of epf) (zak erf) (ixm (.of evf) za1 (fdm L.e1 T.cl_Standings T.n_forms zbs (ixm (.of epf') (zak erf') (ixm (.of evf') za1 ⟨LA,co,fs,sts,b,t,i,a,tx,tx',xs,xs',c,rfl,L,ea,hi,eb,by omega,ht,etx,etx',hxl,hxl',(λx hx0=>⟨_,hx x hx0⟩),(λx hx0=>⟨_,hx' x hx0⟩),h2,h3,λfs' sts' H' n bb N sg=>q fs' sts' H' n bb (N.le (show 4*c.cost+1<=4*c.cost+2-1 by omega)) sg⟩)))))))
  |false =>
   refine itF (by intro z;exact absurd (V.str.inj z) (by decide)) (ixm (.of ea) za1 ⟨rfl,?_⟩);rw[decide_eq_true (show V.str (soW false)=V.str "some place" from rfl)];ac_rfl;obtain⟨tx,evf,etx⟩:=zk3 nf;obtain⟨tx',evf',etx'⟩:=zk3 nf';refine zk ?_;exact iteT (mtm L.e1 (nm _ (by decide)) (fdm L.e1 T.cl_Standings T.n_forms zbs (ixm (.of epf) (zak erf) (fdm L.e1 T.cl_Standings T.n_forms zbs (ixm (.of epf') (zak erf') ⟨LA,co,fs,sts,b,t,i,u,u',a,af,af',tx,tx',xs,xs',c,rfl,L,ea,hi,eb,by omega,ht,evf,evf',etx,etx',hxl,hxl',(λx hx0=>⟨_,hx x hx0⟩),(λx hx0=>⟨_,hx' x hx0⟩),hu rfl,hu' rfl,h2,h3,λfs' sts' H' n bb N sg=>q fs' sts' H' n bb (N.le (show 4*c.cost+1<=4*c.cost+2-1 by omega)) sg⟩)))))
theorem zsz(T:Txt K mg w tw ow fa cStandings cSayError cs)(dU:DfnM K cStandings "above_unsettled" "Standings.above_unsettled" s_Standings_above_unsettled ["self","number","letter","left","right"])(dA:DfnM K cStandings "above" "Standings.above" s_Standings_above ["self","number","letter","left","right"])(dS:DfnM K cStandings "above_sets" "Standings.above_sets" s_Standings_above_sets ["self","part","letter","lefts","rights"])(dP:DfnM K cStandings "above_places" "Standings.above_places" s_Standings_above_places ["self","part","letter","lefts","rights"])(C_told:Cal P w K mg base 1 "told" ["truth"] zc2)(C_mark_of:Cal P w K mg base 3 "mark_of" ["word","one","other","left","right"] zi0)(C_turned:Cal P w K mg base 2 "turned" ["standing"] zj9)(C_and:CalM P w K mg base 2 cStandings "of_and" ["self","one","other"] (zgh P w cStandings))(C_set:CalM P w K mg base 2 cStandings "of_some_set" ["self","standings"] (zge P w cStandings))(C_plc:CalM P w K mg base 2 cStandings "of_some_place" ["self","unplaced","placed"] (zgf P w cStandings)):∀lv,CalM P w K mg base (4+3*lv+1) cStandings "above" ["self","number","letter","left","right"] (zgl P w cStandings lv)
 |0=>zws T dA C_told ((dU.never λvs H Q E z=>by obtain⟨_,_,_,_,_,_,_,_,_,_,_,_,_,_,h,_⟩:=z;exact absurd h (y1s _)).mono (by omega))
 |lv+1=>by
  have C:=zsz T dU dA dS dP C_told C_mark_of C_turned C_and C_set C_plc lv;exact zws T dA C_told (zwp T dU C_mark_of C_turned C_and C (zwq T dS C_set C) (zwr T dP C_plc C))
abbrev s_Standings_part_of:Stmt:=inClass (top 60) 2
theorem sc_Standings_part_of:FnScope ["self","saying","names","word","sort","part"] ["self","saying","names"] (defScope s_Standings_part_of):={}
theorem zkq(T:Txt K mg w tw ow fa cStandings cSayError cs)(d:DfnM K cStandings "part_of" "Standings.part_of" s_Standings_part_of ["self","saying","names"])(C_is_bare:Cal P w K mg base 2 "is_bare" ["saying"] zdi)(C_is_place:Cal P w K mg base 2 "is_place" ["thing"] (zfj SMALL)):∀lv,CalM P w K mg base (3+lv) cStandings "part_of" ["self","saying","names"] (zkc P w cStandings lv)
 |0=>(d.never λvs H Q E z=>by obtain⟨_,_,_,_,_,_,_,_,_,_,h,_⟩:=z;exact absurd h (y1s _)).mono (by omega)
 |lv+1=>by
  have C_Standings_part_of:=zkq T d C_is_bare C_is_place lv;refine d.cal sc_Standings_part_of (λvs H Q E h=>?_) (λf cdv A outer s H vs Q E hr h=>?_)
  ·obtain⟨A,b,v,s,tl,cs,rfl,_⟩:=h;rfl
  obtain⟨LA,b,v,sy,tl,co,rfl,L,r,ok,hlv,eb,nb1,nb2,hsz,q⟩:=h;change Room (3+lv) _ at hr;have hu:=zib hr 8 (by omega);refine⟨_,(zab (zav (i:=3) sc_Standings_part_of.nd rfl (Or.inl rfl) (zar (zal K) (pv 1) zac (λ_ _=>rfl))) (zab (za0 (zam zbb (pv 3) zae (nomark _)) (zad (zaj (zau C_Standings_part_of T.cl_Standings hr (by omega) (pv 0) (pa_c (zag (pa_c zae (pa_c (zag (pa_c zae (pa_c (zag (pa_c zae (pa_c (zar (zal K) (pv 1) zac (λ_ _=>rfl)) zaa))) (pa_c (zag (pa_c zae (pa_c (zar (zal K) (pv 1) zac (λ_ _=>rfl)) zaa))) zaa)))) zaa))) (pa_c (pv 2) zaa))))) zap) (zab (za0 (zam zbb (pv 3) zae (nomark _)) (zad (zaj (zau C_Standings_part_of T.cl_Standings hr (by omega) (pv 0) (pa_c (zag (pa_c zae (pa_c (zag (pa_c zae (pa_c (zar (zal K) (pv 1) zac (λ_ _=>rfl)) (pa_c (zag (pa_c zae (pa_c (zar (zal K) (pv 1) zac (λ_ _=>rfl)) zaa))) zaa)))) zaa))) (pa_c (pv 2) zaa))))) zap) (zbm (za0 (zam zbb (pv 3) zae (nomark _)) (zab (zav (i:=4) sc_Standings_part_of.nd rfl (Or.inl rfl) (zb6 (zbg (zah C_is_place hr (by omega) (by rfl) (pa_c (zar (zal K) (pv 1) zac (λ_ _=>rfl)) zaa))) zae zae)) (zad (zav (i:=5) sc_Standings_part_of.nd rfl (Or.inl rfl) (zag (pa_c (pv 4) (pa_c (zaw zko zac (za5 (zat K) (by rfl) T.b_len boot_len (pa_c (pv 2) zaa))) (pa_c (zau C_Standings_part_of T.cl_Standings hr (by omega) (pv 0) (pa_c (zar (zal K) (pv 1) zac (λ_ _=>rfl)) (pa_c (zaw zbr (pv 2) (zaq (pa_c (zar (zal K) (pv 1) zac (λ_ _=>rfl)) zaa))) zaa))) zaa))))))) (zad (za0 (zbg (zah C_is_bare hr (by omega) (by rfl) (pa_c (pv 1) zaa))) (zad (zav (i:=5) sc_Standings_part_of.nd rfl (Or.inl rfl) (zag (pa_c (pv 3) (pa_c (zaw zko zac (zb2 K PySem.F.plainAttrs_list PySem.F.slot_list_index PySem.F.type_list_index (zf6 K hu) (pv 2) (pa_c (zar (zal K) (pv 1) zac (λ_ _=>rfl)) zaa))) (pa_c (zaw zko zac (zb2 K PySem.F.plainAttrs_list PySem.F.slot_list_index PySem.F.type_list_index (zf6 K hu) (pv 2) (pa_c (zar (zal K) (pv 1) zac (λ_ _=>rfl)) zaa))) zaa)))))) (zad (zav (i:=5) sc_Standings_part_of.nd rfl (Or.inl rfl) (zaw (znx K) (zag (pa_c (pv 3) zaa)) (zew zc7 (by rfl) T.b_tuple boot_tuple (pa_c (zbc ["inner"] [(2,"names"),(0,"self")] (CompOk.of rfl (by rfl) (by rfl)) (by rfl) (zcr K (zch (zeh K) (pv 1) (zcg zac) zev)) (λ_ _ _ _ _=>(za2 (i:=0) (show List.Nodup (["inner","names","self"]:List Str) by decide+kernel) (by rfl) (Or.inl (by rfl)))) (λ_ _ _ _ _=>zb5) (λ_ _ _ _ _=>(zau C_Standings_part_of T.cl_Standings hr (by omega) (pv 2) (pa_c (pv 0) (pa_c (pv 1) zaa))))) zaa)))))))) (zab (zbj (zb2 K PySem.F.plainAttrs_list PySem.F.slot_list_append PySem.F.type_list_append zbe (zbo (pv 0) (by rfl)) (pa_c (pv 5) zaa))) (zad (zaj (zaw zey (za5 (zat K) (by rfl) T.b_len boot_len (pa_c (zbo (pv 0) (by rfl)) zaa)) zac)))))))),?_⟩;refine za3 [some (.ref LA.p),some v,some (.ref b),none,none,none] rfl ?_;trivial;ac_rfl;obtain⟨a,xs,rfl,ea⟩:=zki r;have nm:List.lookup ("part_of":Str) LA.fl=none:=zbd (by decide) (by decide) (by decide) (by decide);refine zk ?_;refine ixm (.of ea) za1 ⟨rfl,?_⟩;by_cases hor:wordS sy="or"
  ·refine itT (by rw[hor]) ?_;ac_rfl;cases r with
   |bare hw e=>exact absurd (congrArg V.str (show _=("or":Str)from hor)) (zcy ok.1 "or" (by decide))
   |neg e r1=>exact absurd (show("not":Str)="or" from hor) (by decide)
   |qu hw e r1=>simp only[wordS]at hor;rw[hor]at hw;exact absurd hw (by decide)
   |two hw e r1 r2 =>
   rename_i wd x y s t;obtain rfl:wd="or":=hor;have h1:max (lvS s) (lvS t)+4<lv+1:=by have:max (lvS s) (lvS t)+(if("or":Str)="or" then 4 else 1)<lv+1:=hlv;rwa[if_pos rfl]at this
   have h2:co.length+(szS s+szS t+4)<=500:=by have:co.length+(szS s+szS t+(if("or":Str)="or" then 4 else 1))<=500:=hsz;rwa[if_pos rfl]at this
   refine zk ?_;refine mtm L.e1 nm (ixm (.of e) (zak (j:=1) rfl) (mkT λp1 H1 n1=>ixm (.of (n1.g _ _ e)) (zak (j:=2) rfl) (mkT λp2 H2 n2=>mkT λp3 H3 n3=>mkT λp4 H4 n4=>?_)));have g2:=n1.g.trans n2.g;have g4:=g2.trans (n3.g.trans n4.g);have e2:szS (.neg (.two "and" (.neg s) (.neg t)))=szS s+szS t+4:=by simp only[szS];rw[if_neg (by decide)];omega
   have e3:lvS (.neg (.two "and" (.neg s) (.neg t)))=max (lvS s) (lvS t)+3:=by simp only[lvS];rw[if_neg (by decide)];omega
   refine⟨LA,b,.ref p4,.neg (.two "and" (.neg s) (.neg t)),tl,co,rfl,L.same g4,.neg n4.at' (.two (by decide) (n4.g _ _ n3.at') (.neg ((n2.g.trans (n3.g.trans n4.g)) _ _ n1.at') (r1.same g4)) (.neg ((n3.g.trans n4.g) _ _ n2.at') (r2.same g4))),ok,by rw[e3];omega,g4 _ _ eb,nb1,nb2,by rw[e2];omega,λco' H' k u S' pre hl ek=>q co' H' k ((Same.up4 g4).trans u) S' pre ?_ (by rw[zvf];exact ek)⟩;rw[e2]at hl;show _<=co.length+(szS s+szS t+(if("or":Str)="or" then 4 else 1));rw[if_pos rfl];exact hl
  refine itF (λz=>hor (V.str.inj z)) ⟨rfl,?_⟩;by_cases hal:wordS sy="all"
  ·refine itT (by rw[hal]) ?_;ac_rfl;cases r with
   |bare hw e=>exact absurd (congrArg V.str (show _=("all":Str)from hal)) (zcy ok.1 "all" (by decide))
   |neg e r1=>exact absurd (show("not":Str)="all" from hal) (by decide)
   |two hw e r1 r2=>simp only[wordS]at hal;rw[hal]at hw;exact absurd hw (by decide)
   |qu hw e r1 =>
   rename_i wd n x s;obtain rfl:wd="all":=hal;have h1:lvS s+4<lv+1:=by have:lvS s+(if("all":Str)="all" then 4 else 1)<lv+1:=hlv;rwa[if_pos rfl]at this
   have h2:co.length+(szS s+3)<=500:=by have:co.length+(szS s+(if("all":Str)="all" then 3 else 1))<=500:=hsz;rwa[if_pos rfl]at this
   refine zk ?_;refine mtm L.e1 nm (ixm (.of e) (zak (j:=1) rfl) (ixm (.of e) (zak (j:=2) rfl) (mkT λp1 H1 n1=>mkT λp3 H3 n3=>mkT λp4 H4 n4=>?_)));have g4:=n1.g.trans (n3.g.trans n4.g);have e2:szS (.neg (.qu "some" n (.neg s)))=szS s+3:=by simp only[szS];rw[if_neg (by decide)]
   have e3:lvS (.neg (.qu "some" n (.neg s)))=lvS s+3:=by simp only[lvS];rw[if_neg (by decide)]
   refine⟨LA,b,.ref p4,.neg (.qu "some" n (.neg s)),tl,co,rfl,L.same g4,.neg n4.at' (.qu (by decide) (n4.g _ _ n3.at') (.neg ((n3.g.trans n4.g) _ _ n1.at') (r1.same g4))),ok,by rw[e3];omega,g4 _ _ eb,nb1,nb2,by rw[e2];omega,λco' H' k u S' pre hl ek=>q co' H' k ((Same.up4 g4).trans u) S' pre ?_ (by rw[zr1];exact ek)⟩;rw[e2]at hl;show _<=co.length+(szS s+(if("all":Str)="all" then 3 else 1));rw[if_pos rfl];exact hl
  refine itF (λz=>hal (V.str.inj z)) ⟨λσ' H'=>∃(p4:Addr) (vs:List V) (co':List Co) (x4:Option V),σ'=[some (.ref LA.p),some (.ref a),some (.ref b),some (.str (wordS sy)),x4,some (.ref p4)]/\H' p4=some (.tup vs)/\PtOf co' vs (coreS tl sy)/\Up4 LA H H'/\Sn P w cStandings LA co' [] [] H'/\co <+:co'/\co'.length+1<=co.length+szS sy,?_,?_⟩
  ·trivial;rcases zur r ok hlv hor hal with⟨wd,n,m,rfl⟩|⟨n,s0,rfl⟩|⟨its,ss,M⟩
   ·cases r with
    |bare hw e =>
    ac_rfl;obtain⟨hw',hn,hm,h4⟩:=ok;have nn:=zcy hw';refine zk ?_;rw[show decide (wordS (Sy.bare wd n m)=("some":Str))=false from decide_eq_false λz=>nn "some" (by decide) (congrArg V.str z)];refine iteF ⟨_,_,rfl,.bare hw e,λH1 g1=>⟨_,rfl,?_⟩⟩;refine iteT ?_;have eb1:=g1 _ _ eb;have e1:=g1 _ _ e;have ep2:∀k:Nat,(1:Int)*2^((k:Nat):Int).toNat=((2^k:Nat):Int):=λk=>by rw[y13,Int.one_mul];simp
    have hi:=y2o.mpr hn;have hj:=y2o.mpr hm;refine⟨.inl ⟨_,.of eb1⟩,_,.of e1,_,zak (j:=1) rfl,tl,n,rfl,.of eb1,hn,by omega,⟨by omega,by omega,by decide⟩,.inl ⟨_,.of eb1⟩,_,.of e1,_,zak (j:=2) rfl,tl,m,rfl,.of eb1,hm,by omega,⟨by omega,by omega,by decide⟩,mkT λp4 H4 n4=>?_⟩;have g4:=g1.trans n4.g;refine⟨_,n4.at',co,⟨hw',by omega,by omega,?_⟩,Same.up4 g4,L.same g4,y3d _,y04 _⟩;rw[ep2,ep2];rfl
   ·cases r with
    |qu hw e r1 =>
    rename_i x;obtain⟨hn4,ht3,ok1⟩:=ok;have h1:lvS s0+1<lv+1:=by have:lvS s0+(if("some":Str)="all" then 4 else 1)<lv+1:=hlv;rwa[if_neg (by decide)]at this
    have h2:co.length+(szS s0+1)<=500:=by have:co.length+(szS s0+(if("some":Str)="all" then 3 else 1))<=500:=hsz;rwa[if_neg (by decide)]at this
    have ec:coreS tl (.qu "some" n s0)=.so (!isP n) tl.length (coreS (tl++[n]) s0):=by simp only[coreS];rw[if_neg (by decide)]
    have es:szS (.qu "some" n s0)=szS s0+1:=by simp only[szS];rw[if_neg (by decide)]
    rw[show decide (wordS (Sy.qu "some" n s0)=("some":Str))=true from decide_eq_true rfl];have ep2:(1:Int)*2^((tl.map V.str).length:Int).toNat=((2^tl.length:Nat):Int):=by rw[y13,Int.one_mul,y00];simp
    refine iteT ⟨_,.of e,_,zak (j:=1) rfl,_,_,rfl,.str _,(λz hz=>by cases hz;omega),λH1 g1=>⟨_,rfl,?_⟩⟩;have L1:=L.same g1;have eb1:=g1 _ _ eb;have e1:=g1 _ _ e;cases hp:isNm (V.str n) SMALL with
    |true =>
     have hp':isP n=true:=hp;refine iteT ⟨_,.inl (.of eb1),⟨by omega,by rw[y00];omega,by decide⟩,mtm L1.e1 nm ⟨_,.of e1,_,zak (j:=2) rfl,_,.of e1,_,zak (j:=1) rfl,mkT λp2 H2 n2=>⟨_,n2.g _ _ eb1,_,n2.at',zaf (by rw[y00];simp only[y0a,y0m];omega),λp3 H3 n3=>?_⟩⟩⟩;have g3:=g1.trans (n2.g.trans n3.g);have L3:=L.same g3;have ep3:H3 p3=some (.lst ((tl++[n]).map V.str)):=by rw[n3.at',y0r];rfl
     obtain⟨k1,k2⟩:=(L.same (g1.trans n2.g)).nD n3.nil;refine⟨LA,p3,x,s0,tl++[n],co,rfl,L3,r1.same g3,ok1,by omega,ep3,k1,k2,by omega,λco' H4 k u4 L4 pre hl ek=>mkT λp5 H5 n5=>⟨_,n5.at',co',?_,((Same.up4 g3).trans u4).trans (Same.up4 n5.g),L4.same n5.g,pre,by rw[es];omega⟩⟩;rw[ec,hp',ep2];exact⟨k,by omega,rfl,ek⟩
    |false =>
     have hp':isP n=false:=hp;refine iteF ⟨_,.inl (.of eb1),⟨by omega,by rw[y00];omega,by decide⟩,mtm L1.e1 nm ⟨_,.of e1,_,zak (j:=2) rfl,_,.of e1,_,zak (j:=1) rfl,mkT λp2 H2 n2=>⟨_,n2.g _ _ eb1,_,n2.at',zaf (by rw[y00];simp only[y0a,y0m];omega),λp3 H3 n3=>?_⟩⟩⟩;have g3:=g1.trans (n2.g.trans n3.g);have L3:=L.same g3;have ep3:H3 p3=some (.lst ((tl++[n]).map V.str)):=by rw[n3.at',y0r];rfl
     obtain⟨k1,k2⟩:=(L.same (g1.trans n2.g)).nD n3.nil;refine⟨LA,p3,x,s0,tl++[n],co,rfl,L3,r1.same g3,ok1,by omega,ep3,k1,k2,by omega,λco' H4 k u4 L4 pre hl ek=>mkT λp5 H5 n5=>⟨_,n5.at',co',?_,((Same.up4 g3).trans u4).trans (Same.up4 n5.g),L4.same n5.g,pre,by rw[es];omega⟩⟩;rw[ec,hp',ep2];exact⟨k,by omega,rfl,ek⟩
   ·refine itF M.ns ⟨_,_,rfl,r,λH1 g1=>⟨_,rfl,?_⟩⟩;rw[M.nb];refine iteF (mkT λp1 H2 n2=>?_);have g2:=g1.trans n2.g;have hln:=M.ln;have hne:0<its.length:=List.length_pos_iff.mpr M.ne;refine⟨_,.of (g2 _ _ M.e),(λz=>?_),λp3 H3 n3=>?_⟩
    ·have:=z.1;rw[show(1:Int)=((1:Nat):Int)from rfl,HT.sIx_nat,y0a,Nat.min_eq_left (by omega)]at this;cases this
    have g3:=g2.trans n3.g;have L3:=L.same g3;have ec:cutL (V.str (wordS sy)::its) (some 1) none=its:=by
     rw[show((1:Int))=((1:Nat):Int)from rfl,zcv];rfl
    have e3:=n3.at';rw[ec]at e3;have hsz1:=M.sz;have eb3:=g3 _ _ eb;refine⟨⟨_,.of e3⟩,zii (K:=K) (a:=p3) (xs:=its) (λD i ys σ H'=>(∃v,σ=[v,some (.ref b),some (.ref LA.p)])/\∃(co':List Co) (ks:List Nat),ys=ks.map nV/\ks.length=i/\Up4 LA H3 H'/\Sn P w cStandings LA co' [] [] H'/\co <+:co'/\co'.length<=co.length+szL (ss.take i)/\∀(j k:Nat),ks[j]?=some k->∃s,ss[j]?=some s/\co'[k]?=some (coreS tl s)) (zaf (by omega)) (λD hD=>⟨⟨_,rfl⟩,co,[],rfl,rfl,(Up4.refl _ _).wr hD _,L3.same (zba hD _),y3d _,by omega,λj k h=>by simp at h⟩) (λD i ys σ H' hi hD hl p=>?_) ?_ ?_⟩
    ·refine atom λzG zk=>?_;obtain⟨_,co',ks,_,_,u,L',_⟩:=p;refine zk ?_;exact .of (L3.tups u _ _ e3)
    ·rintro D i ys σ H4 x hD hi hx hH4 hl ⟨⟨v0,rfl⟩,co',ks,rfl,hk,u,L',pre,hc,hj⟩;trivial;ac_rfl;obtain⟨s1,es1,rs1⟩:=Reps.at M.rs hx;obtain⟨ok1,lv1⟩:=M.ok s1 (y0g es1);have ht:=zp1 es1;have hle:=zr7 ss (i+1);obtain⟨k1,k2⟩:=L3.nD hD;refine zk ?_;refine mtm L'.e1 nm ⟨LA,b,x,s1,tl,co',rfl,L',zhw rs1 (λb' o' e'=>L3.tups u _ _ (g3 _ _ e')),ok1,lv1,L3.lst u nb1 nb2 eb3,nb1,nb2,by omega,λco2 H5 k u5 L5 pre5 hl5 ek5=>?_⟩;have hD5:=L'.lst u5 k1 k2 hH4;refine cstep (zaf (by omega)) hi hD5 hl ⟨⟨_,rfl⟩,co2,ks++[k],by rw[y0r];rfl,by rw[y06,hk];rfl,(u.trans u5).wr hD _,L5.wr hD5 k1 k2,pre.trans pre5,by omega,λj k' ej=>?_⟩;by_cases hjl:j<ks.length
     ·rw[y0u hjl]at ej;obtain⟨s2,e2,e2'⟩:=hj j k' ej;exact⟨s2,e2,zfy pre5 e2'⟩
     ·rw[y0o (by omega)]at ej;have h0:j-ks.length=0:=by
       have:=(y0f.mp ej).1;simp at this;omega
      rw[h0]at ej;cases ej;obtain rfl:j=i:=by omega
      exact⟨s1,es1,ek5⟩
    ·rintro D ys σ H4 hD hH4 hl ⟨⟨v0,rfl⟩,co',ks,rfl,hk,u,L',pre,hc,hj⟩;refine⟨D,rfl,_,.inl ⟨.of hH4,λl H5 n5=>?_⟩⟩;have hle:=zr7 ss its.length;have ep1:=n5.g _ _ (L3.tups u _ _ (n3.g _ _ n2.at'));have hkl:(ks.map nV).length=its.length:=by rw[y00,hk]
     refine⟨_,.of ep1,_,.of n5.at',(by simp),(λz=>by rw[z]at hkl;simp at hkl;omega),zaf (by rw[hkl];simp only[y0a,y0m];omega),λp6 H6 n6=>⟨_,n6.at',co',M.core co' ks hk hj,(((Same.up4 g3).trans u).trans (Same.up4 n5.g)).trans (Same.up4 n6.g),(L'.same n5.g).same n6.g,pre,by omega⟩⟩
  ·rintro σ' H' ⟨p4,vs,co',x4,rfl,e4,pt,u,L',pre,hl⟩;trivial;ac_rfl;obtain⟨rs,er,pr⟩:=L'.ep;obtain⟨qs,eq,pq⟩:=L'.ef;obtain⟨ys,ey,ky,ef,ev⟩:=L'.en;have hrl:=SS.Paired.len pr;have n1:LA.p≠LA.pp:=zcc L'.e1 er (by intro z;cases z);have ns:LA.ps≠LA.pp:=zcc L'.es er (by intro z;cases z);have nn:LA.pn≠LA.pp:=zcc ey er (by intro z;cases z);refine zk ?_;refine fdm L'.e1 T.cl_Standings T.n_parts zct ⟨.inl ⟨_,.of er⟩,LA.pp,rfl,_,er,zaf (by omega),fdm (by rw[zan n1];exact L'.e1) T.cl_Standings T.n_parts zct ⟨LA.pp,rfl,_,.inl (.of zao),?_⟩⟩;have ts:TupS H' (upd H' LA.pp (.lst (rs++[.ref p4]))):=TupS.wr er _;have pre2:co' <+:co'++[coreS tl sy]:=⟨_,rfl⟩;have u2:Up4 LA H' (upd H' LA.pp (.lst (rs++[.ref p4]))):=λb' o' h0 _ _ _ e'=>by rw[zan h0];exact e'
   have ek:V.int (((rs++[V.ref p4]).length:Nat)-1:Int)=nV co'.length:=by show V.int _=V.int _;rw[y06];simp only[y0a,y0m];congr 1;omega
   rw[ek];exact q (co'++[coreS tl sy]) _ co'.length (u.trans u2) ⟨by rw[zan n1];exact L'.e1,⟨_,zao,SM.Paired.snoc (L2.Paired.mapP pr λ_ _ z=>let⟨a',vs',e',n',p'⟩:=PL.ts z ts;⟨a',vs',e',n',p'.more pre2⟩) ⟨p4,vs,rfl,ts _ _ e4,pt.more pre2⟩⟩,⟨qs,by rw[zan (Ne.symm L'.nf)];exact eq,L2.Paired.mapP pq λ_ _ z=>z.ts ts⟩,⟨ys,by rw[zan nn];exact ey,ky.ts ts,ef,ev⟩,by rw[zan ns];exact L'.es,(λk c l r v e=>by cases e),L'.nf⟩ (pre.trans pre2) (by rw[y06];exact hl) (by rw[y0o (y04 _),Nat.sub_self];rfl)
abbrev s_Standings___init__:Stmt:=inClass (top 60) 0
theorem zcp:FnScope ["self"] ["self"] (defScope s_Standings___init__):={}
theorem zq2(T:Txt K mg w tw ow fa cStandings cSayError cs)(d:DfnI K cStandings "Standings.__init__" s_Standings___init__ ["self"]):CalI P w K mg base 1 cStandings "Standings" ["self"] (zkd P w cStandings):=by
 refine d.cal T.m_Standings zcp (λvs H Q E h=>?_) (λf cdv A outer s H vs Q E hr h=>?_)
 ·obtain⟨p,dx,H0,rfl,_⟩:=h;rfl
 obtain⟨p,dx,H0,rfl,eH,e0,e1,ne,q⟩:=h;refine⟨_,(zab (zkm (pv 0) (zaq zaa) (by rfl)) (zab (zkm (pv 0) (zaq (pa_c (zag (pa_c (zaz (by rfl) T.g_WAITING) zaa)) (pa_c (zag (pa_c (zaz (by rfl) T.g_SECOND) zaa)) (pa_c (zag (pa_c (zaz (by rfl) T.g_YES) zaa)) (pa_c (zag (pa_c (zaz (by rfl) T.g_NO) zaa)) zaa))))) (by rfl)) (zab (zkm (pv 0) zqm (by rfl)) (zad (zkm (pv 0) znl (by rfl)))))),?_⟩;refine za3 [some (.ref p)] rfl ?_;trivial;have gH:Same H0 H:=by rw[eH];exact((Same.refl H0).wr e1 _).wr e0 _
 have ep:H p=some (.ins cStandings dx []):=by rw[eH,zao]
 refine mkT λpp H1 n1=>?_;have ep1:=n1.g _ _ ep;refine⟨_,_,_,ep1,T.cl_Standings,T.n_parts,by simp,mkT λt0 H2 n2=>mkT λt1 H3 n3=>mkT λt2 H4 n4=>mkT λt3 H5 n5=>mkT λpf H6 n6=>?_⟩;have g25:=n2.g.trans (n3.g.trans (n4.g.trans n5.g));have g26:=g25.trans n6.g;have ep6:=g26 _ _ zao;have l1:(putF "parts" (V.ref pp) []).length<=1:=zb4 "parts" (V.ref pp) [];have l2:(putF "forms" (V.ref pf) (putF "parts" (V.ref pp) [])).length<=_:=zb4 "forms" (V.ref pf) (putF "parts" (V.ref pp) []);refine⟨_,_,_,ep6,T.cl_Standings,T.n_forms,by omega,λpn H7 n7=>?_⟩;have ep7:=n7.g _ _ zao;refine⟨_,_,_,ep7,T.cl_Standings,T.n_numbers,by omega,λps H8 n8=>?_⟩;have ep8:=n8.g _ _ zao;have l3:(putF "numbers" (V.ref pn) (putF "forms" (V.ref pf) (putF "parts" (V.ref pp) []))).length<=_:=zb4 "numbers" (V.ref pn) (putF "forms" (V.ref pf) (putF "parts" (V.ref pp) []));have g01:Same H0 H1:=gH.trans n1.g;have g05:Same H0 H5:=(g01.wr e0 _).trans g25;have g06:Same H0 H6:=(g01.wr e0 _).trans g26;have g07:Same H0 H7:=(g06.wr e0 _).trans n7.g;have g08:Same H0 H8:=(g07.wr e0 _).trans n8.g;have npp:pp≠p:=Ne.symm (zas ep n1.nil);have npf:pf≠p:=Ne.symm (zas (g25 _ _ zao) n6.nil);have npn:pn≠p:=Ne.symm (zas zao n7.nil);have nps:ps≠p:=Ne.symm (zas zao n8.nil);have nt0:t0≠p:=Ne.symm (zas zao n2.nil);have nt1:t1≠p:=Ne.symm (zas (n2.g _ _ zao) n3.nil);have nt2:t2≠p:=Ne.symm (zas ((n2.g.trans n3.g) _ _ zao) n4.nil);have nt3:t3≠p:=Ne.symm (zas ((n2.g.trans (n3.g.trans n4.g)) _ _ zao) n5.nil);refine⟨_,_,_,ep8,T.cl_Standings,T.n_steps,by omega,q ⟨p,dx,pp,pf,pn,ps⟩ _ rfl ?_ (g08.wr e0 _) (gH.free n1.nil) (g05.free n6.nil) ((g06.wr e0 _).free n7.nil) ((g07.wr e0 _).free n8.nil)⟩;have epp5:H5 pp=some (.lst []):=g25 _ _ (by rw[zan npp];exact n1.at');have up6:∀b o,b≠p->H6 b=some o->upd H8 p (.ins cStandings dx (putF "steps" (V.ref ps) (putF "numbers" (V.ref pn) (putF "forms" (V.ref pf) (putF "parts" (V.ref pp) []))))) b=some o:=λb o hb e=>by
  rw[zan hb];refine n8.g _ _ ?_;rw[zan hb];refine n7.g _ _ ?_;rw[zan hb];exact e
 refine⟨by rw[zao,zu4],⟨[],up6 _ _ npp (n6.g _ _ epp5),.nil⟩,⟨[.ref t0,.ref t1,.ref t2,.ref t3],up6 _ _ npf n6.at',.cons ⟨t0,rfl,_,up6 _ _ nt0 ((n3.g.trans (n4.g.trans (n5.g.trans n6.g))) _ _ n2.at'),.cons rfl .nil⟩ (.cons ⟨t1,rfl,_,up6 _ _ nt1 ((n4.g.trans (n5.g.trans n6.g)) _ _ n3.at'),.cons rfl .nil⟩ (.cons ⟨t2,rfl,_,up6 _ _ nt2 ((n5.g.trans n6.g) _ _ n4.at'),.cons rfl .nil⟩ (.cons ⟨t3,rfl,_,up6 _ _ nt3 (n6.g _ _ n5.at'),.cons rfl .nil⟩ .nil)))⟩,⟨[],?_,(λy hy=>nomatch hy),rfl,λi y h=>by simp at h⟩,by rw[zan nps];exact n8.at',(λk c l r v e=>by cases e),zas epp5 n6.nil⟩;rw[zan npn];refine n8.g _ _ ?_;rw[zan npn];exact n7.at'
abbrev s_Standings_of_nothing:Stmt:=inClass (top 60) 6
theorem sc_Standings_of_nothing:FnScope ["self","number","part"] ["self","number"] (defScope s_Standings_of_nothing):={}
theorem zn4(T:Txt K mg w tw ow fa cStandings cSayError cs)(d:DfnM K cStandings "of_nothing" "Standings.of_nothing" s_Standings_of_nothing ["self","number"])(C_turned:Cal P w K mg base 2 "turned" ["standing"] zj9)(C_Standings_of_and:CalM P w K mg base 2 cStandings "of_and" ["self","one","other"] (zgh P w cStandings))(C_Standings_of_some_set:CalM P w K mg base 2 cStandings "of_some_set" ["self","standings"] (zge P w cStandings))(C_Standings_of_some_place:CalM P w K mg base 2 cStandings "of_some_place" ["self","unplaced","placed"] (zgf P w cStandings)):∀lv,CalM P w K mg base (3+lv) cStandings "of_nothing" ["self","number"] (zmv P w cStandings lv)
 |0=>(d.never λvs H Q E z=>by obtain⟨_,_,_,_,_,_,_,_,_,h,_⟩:=z;exact absurd h (y1s _)).mono (by omega)
 |lv+1=>by
  have C_Standings_of_nothing:=zn4 T d C_turned C_Standings_of_and C_Standings_of_some_set C_Standings_of_some_place lv;refine d.cal sc_Standings_of_nothing (λvs H Q E h=>?_) (λf cdv A outer s H vs Q E hr h=>?_)
  ·obtain⟨A,cs,fs,sts,k,c,rfl,_⟩:=h;rfl
  obtain⟨LA,co,fs,sts,k,c,rfl,L,ek,hh,hc,q⟩:=h;change Room (3+lv) _ at hr;obtain⟨rs,a,vs,ep,er,ea,pt⟩:=L.part ek;have nm:∀m:Str,_->List.lookup m LA.fl=none:=λm (h:m∈(["of_nothing","of_and","of_some_set","of_some_place"]:List Str))=>by
   simp only[y02,y07,or_false]at h;rcases h with rfl|rfl|rfl|rfl<;>exact zbd (by decide) (by decide) (by decide) (by decide)
  refine⟨_,(zab (zav (i:=2) sc_Standings_of_nothing.nd rfl (Or.inl rfl) (zar (zax K) (zbo (pv 0) (by rfl)) (pv 1) (λ_ _=>rfl))) (zab (za0 (zam zbb (zar (zal K) (pv 2) zac (λ_ _=>rfl)) zae (nomark _)) (zad (zaj (zah C_turned hr (by omega) (by rfl) (pa_c (zau C_Standings_of_nothing T.cl_Standings hr (by omega) (pv 0) (pa_c (zar (zal K) (pv 2) zac (λ_ _=>rfl)) zaa)) zaa)))) zap) (zab (za0 (zam zbb (zar (zal K) (pv 2) zac (λ_ _=>rfl)) zae (nomark _)) (zad (zaj (zau C_Standings_of_and T.cl_Standings hr (by omega) (pv 0) (pa_c (zau C_Standings_of_nothing T.cl_Standings hr (by omega) (pv 0) (pa_c (zar (zal K) (pv 2) zac (λ_ _=>rfl)) zaa)) (pa_c (zau C_Standings_of_nothing T.cl_Standings hr (by omega) (pv 0) (pa_c (zar (zal K) (pv 2) zac (λ_ _=>rfl)) zaa)) zaa))))) zap) (zab (za0 (zam zbb (zar (zal K) (pv 2) zac (λ_ _=>rfl)) zae (nomark _)) (zad (zaj (zau C_Standings_of_some_set T.cl_Standings hr (by omega) (pv 0) (pa_c (zaq (pa_c (zau C_Standings_of_nothing T.cl_Standings hr (by omega) (pv 0) (pa_c (zar (zal K) (pv 2) zac (λ_ _=>rfl)) zaa)) zaa)) zaa)))) zap) (zab (za0 (zam zbb (zar (zal K) (pv 2) zac (λ_ _=>rfl)) zae (nomark _)) (zad (zaj (zau C_Standings_of_some_place T.cl_Standings hr (by omega) (pv 0) (pa_c (zau C_Standings_of_nothing T.cl_Standings hr (by omega) (pv 0) (pa_c (zar (zal K) (pv 2) zac (λ_ _=>rfl)) zaa)) (pa_c (zaq zaa) zaa))))) zap) (zad (zaj (zaz (by rfl) T.g_WAITING)))))))),?_⟩;refine za3 [some (.ref LA.p),some (nV k),none] rfl ?_;trivial;refine fdm L.e1 T.cl_Standings T.n_parts zct (ixm (.of ep) (zak er) ?_);cases c with
  |bare wd i j =>
   ac_rfl;obtain⟨hw,hi,hj,rfl⟩:=pt;have nn:=zcy hw;refine zk ?_;refine ixm (.of ea) za1 ⟨rfl,?_⟩;refine itF (nn _ (by decide)) (ixm (.of ea) za1 ⟨rfl,?_⟩);refine itF (nn _ (by decide)) (ixm (.of ea) za1 ⟨rfl,?_⟩);refine itF (nn _ (by decide)) (ixm (.of ea) za1 ⟨rfl,?_⟩);exact itF (nn _ (by decide)) (q fs H 0 (.same0 L (Same.refl _)) (.inr (.inr ⟨by decide,rfl⟩)))
  |neg c =>
   obtain⟨b,rfl,eb⟩:=pt;have h1:c.hgt+1<lv+1:=hh;have h2:fs.length+(c.cost+2)<=500:=hc;refine ixm (.of ea) za1 ⟨rfl,?_⟩;refine itT rfl (mtm L.e1 (nm _ (by decide)) (ixm (.of ea) (zak (j:=1) rfl) ⟨LA,co,fs,sts,b,c,rfl,L,eb,by omega,by omega,λfs' H1 n N s=>⟨n,rfl,λH2 g2=>q fs' H2 _ ((N.aft g2).le (show c.cost<=c.cost+2 by omega)) s.neg⟩⟩))
  |con c e =>
   ac_rfl;obtain⟨b,b2,rfl,eb,eb2⟩:=pt;have h1:max c.hgt e.hgt+1<lv+1:=hh;have h2:fs.length+(c.cost+e.cost+2)<=500:=hc;refine zk ?_;refine ixm (.of ea) za1 ⟨rfl,?_⟩;refine itF (by intro z;exact absurd (V.str.inj z) (by decide)) (ixm (.of ea) za1 ⟨rfl,?_⟩);refine itT rfl (mtm L.e1 (nm _ (by decide)) (mtm L.e1 (nm _ (by decide)) (ixm (.of ea) (zak (j:=1) rfl) ⟨LA,co,fs,sts,b,c,rfl,L,eb,by omega,by omega,λfs1 H1 n1 N1 s1=>?_⟩)));have l1:=N1.lf;have ea1:=L.tups N1.up _ _ ea;refine mtm N1.sn.e1 (nm _ (by decide)) (ixm (.of ea1) (zak (j:=2) rfl) ⟨LA,co,fs1,sts,b2,e,rfl,N1.sn,eb2,by omega,by omega,λfs2 H2 n2 N2 s2=>?_⟩);have l2:=N2.lf;exact⟨LA,co,fs2,sts,1,n1,n2,c,e,_,_,rfl,N2.sn,by omega,N2.sg s1,s2,λfs3 H3 n N3 s3=>q fs3 H3 n ((N1.trans (N2.trans N3)).le (show c.cost+(e.cost+1)<=c.cost+e.cost+2 by omega)) s3⟩
  |so st i c =>
   ac_rfl;obtain⟨b,hi,rfl,eb⟩:=pt;have h1:c.hgt+1<lv+1:=hh;have h2:fs.length+(4*c.cost+2)<=500:=hc;have e1:∀z:Str,z∈(["not","and"]:List Str)->¬V.str (soW st)=V.str z:=λz hz e=>by
    have:=V.str.inj e;subst this;revert hz;cases st<;>decide
   refine zk ?_;refine ixm (.of ea) za1 ⟨rfl,?_⟩;refine itF (e1 _ (by decide)) (ixm (.of ea) za1 ⟨rfl,?_⟩);refine itF (e1 _ (by decide)) (ixm (.of ea) za1 ⟨rfl,?_⟩);cases st with
   |true =>
    refine itT (show V.str (soW true)=V.str "some set" from rfl) (mtm L.e1 (nm _ (by decide)) (mtm L.e1 (nm _ (by decide)) (ixm (.of ea) (zak (j:=2) rfl) ⟨LA,co,fs,sts,b,c,rfl,L,eb,by omega,by omega,λfs1 H1 n1 N1 s1=>mkT λp2 H2 n2=>?_⟩)));have l1:=N1.lf;refine⟨LA,p2,co,fs1,sts,1,c,[n1],λ_=>tv c,rfl,N1.sn.same n2.g,by omega,n2.at',y04 _,by decide,(λx hx=>by rw[y08.mp hx];exact s1),λfs3 H3 n N3 s3=>q fs3 H3 n (((N1.aft n2.g).trans N3).le (show c.cost+1<=4*c.cost+2 by omega)) ?_⟩;have:=s3 i;simp only[y2h,List.any_nil,y37]at this;exact this
   |false =>
    refine itF (by intro z;exact absurd (V.str.inj z) (by decide)) (ixm (.of ea) za1 ⟨rfl,?_⟩);refine itT (show V.str (soW false)=V.str "some place" from rfl) (mtm L.e1 (nm _ (by decide)) (mtm L.e1 (nm _ (by decide)) (ixm (.of ea) (zak (j:=2) rfl) ⟨LA,co,fs,sts,b,c,rfl,L,eb,by omega,by omega,λfs1 H1 n1 N1 s1=>mkT λp2 H2 n2=>?_⟩)));have l1:=N1.lf;exact⟨LA,p2,co,fs1,sts,1,n1,c,_,[],λ_=>false,rfl,N1.sn.same n2.g,by omega,n2.at',by decide,by decide,(λx hx=>nomatch hx),s1,λfs3 H3 n N3 s3=>q fs3 H3 n (((N1.aft n2.g).trans N3).le (show c.cost+1<=4*c.cost+2 by omega)) (s3 i)⟩
abbrev s_Standings_with_whole:Stmt:=inClass (top 60) 11
theorem sc_Standings_with_whole:FnScope ["self","number","standing","part","form"] ["self","number","standing"] (defScope s_Standings_with_whole):={}
theorem zwj(T:Txt K mg w tw ow fa cStandings cSayError cs)(d:DfnM K cStandings "with_whole" "Standings.with_whole" s_Standings_with_whole ["self","number","standing"])(C_holds_with:Cal P w K mg base 1 "holds_with" ["word","mark"] zkf):∀lv,CalM P w K mg base (2+lv) cStandings "with_whole" ["self","number","standing"] (zvr P w cStandings lv)
 |0=>(d.never λvs H Q E z=>by obtain⟨_,_,_,_,_,_,_,_,_,_,_,_,h,_⟩:=z;exact absurd h (y1s _)).mono (by omega)
 |lv+1=>by
  have C_Standings_with_whole:=zwj T d C_holds_with lv;refine d.cal sc_Standings_with_whole (λvs H Q E h=>?_) (λf cdv A outer s H vs Q E hr h=>?_)
  ·obtain⟨A,cs,fs,sts,k,n,d,c,b,rfl,_⟩:=h;rfl
  obtain⟨LA,co,fs,sts,k,n,dd,c,b,rfl,L,ek,hh,hd,sg,q⟩:=h;change Room (2+lv) _ at hr;refine⟨_,(zab (za0 (zam (zay K) (pv 2) (zag (pa_c (zaz (by rfl) T.g_YES) (pa_c (zaz (by rfl) T.g_NO) zaa))) (by with_unfolding_all rfl)) (zad (zaj (za8 zbb (pv 2) (zaz (by rfl) T.g_YES) (nomark _)))) zap) (zab (zav (i:=3) sc_Standings_with_whole.nd rfl (Or.inr rfl) (zar (zax K) (zbo (pv 0) (by rfl)) (pv 1) (λ_ _=>rfl))) (zab (zav (i:=4) sc_Standings_with_whole.nd rfl (Or.inl rfl) (zar (zax K) (zbo (pv 0) (by rfl)) (pv 2) (λ_ _=>rfl))) (zab (za0 (zam zbb (zar (zal K) (pv 3) zac (λ_ _=>rfl)) zae (nomark _)) (zad (zaj (zsg (zau C_Standings_with_whole T.cl_Standings hr (by omega) (pv 0) (pa_c (zar (zal K) (pv 3) zac (λ_ _=>rfl)) (pa_c (pv 2) zaa)))))) zap) (zab (za0 (zam zbb (zar (zal K) (pv 3) zac (λ_ _=>rfl)) zae (nomark _)) (zad (zaj (zcb (zau C_Standings_with_whole T.cl_Standings hr (by omega) (pv 0) (pa_c (zar (zal K) (pv 3) zac (λ_ _=>rfl)) (pa_c (zar (zal K) (pv 4) zac (λ_ _=>rfl)) zaa))) (zb1 (zau C_Standings_with_whole T.cl_Standings hr (by omega) (pv 0) (pa_c (zar (zal K) (pv 3) zac (λ_ _=>rfl)) (pa_c (zar (zal K) (pv 4) zac (λ_ _=>rfl)) zaa))))))) zap) (zab (za0 (zam (zay K) (zar (zal K) (pv 3) zac (λ_ _=>rfl)) (zag (pa_c zae (pa_c zae zaa))) (by with_unfolding_all rfl)) (zad (zaj (za5 (ziq K rfl) (by rfl) T.b_any boot_any (pa_c (zbc ["inner"] [(0,"self"),(3,"part")] (CompOk.of rfl (by rfl) (by rfl)) (by rfl) (zcr K (zar (zal K) (pv 4) (zwa zr5 zac) (λ_ _=>rfl))) (λ_ _ _ _ _=>(za2 (i:=0) (show List.Nodup (["inner","self","part"]:List Str) by decide+kernel) (by rfl) (Or.inl (by rfl)))) (λ_ _ _ _ _=>zb5) (λ_ _ _ _ _=>(zau C_Standings_with_whole T.cl_Standings hr (by omega) (pv 1) (pa_c (zar (zal K) (pv 2) zac (λ_ _=>rfl)) (pa_c (pv 0) zaa))))) zaa)))) zap) (zad (zaj (zah C_holds_with hr (by omega) (by rfl) (pa_c (zar (zal K) (pv 3) zac (λ_ _=>rfl)) (pa_c (pv 2) zaa))))))))))),?_⟩;refine za3 [some (.ref LA.p),some (nV k),some (nV n),none,none] rfl ?_;trivial;refine mkT λp1 H1 n1=>⟨_,.inr (.of n1.at'),rfl,rfl,?_⟩;have L1:=L.same n1.g;have ei:inV (nV n) [V.int 2,V.int 3]=decide (2=n\/3=n):=in2 2 3 n;rw[ei];by_cases h:2=n\/3=n
  ·refine itT h ?_;rcases h with rfl|rfl
   ·have:=sg.t rfl;subst this;exact q H1 n1.g
   ·have:=sg.f rfl;subst this;exact q H1 n1.g
  rw[decide_eq_false h];ac_rfl;have un:=sg.un (λz=>h (.inl z.symm)) (λz=>h (.inr z.symm));obtain⟨rs,a,vs,ep,er,ea,pt⟩:=L1.part ek;obtain⟨kk,ekk⟩:=zvn (by rw[y06];show 4<=4+_;omega) un;obtain⟨rf,af,epf,erf,nf⟩:=L1.form ekk;have nm:List.lookup ("with_whole":Str) LA.fl=none:=zbd (by decide) (by decide) (by decide) (by decide);refine zk ?_;refine iteF (fdm L1.e1 T.cl_Standings T.n_parts zct (ixm (.of ep) (zak er) (fdm L1.e1 T.cl_Standings T.n_forms zbs (ixm (.of epf) (zak erf) ?_))));cases c with
  |bare wd i j =>
   ac_rfl;obtain⟨hw,hi,hj,rfl⟩:=pt;have nn:=zcy hw;refine zk ?_;refine ixm (.of ea) za1 ⟨rfl,?_⟩;refine itF (nn _ (by decide)) (ixm (.of ea) za1 ⟨rfl,?_⟩);refine itF (nn _ (by decide)) (ixm (.of ea) za1 (mkT λp2 H2 n2=>⟨_,.inr (.of n2.at'),rfl,rfl,?_⟩));rw[show inV (V.str wd) [V.str "some set",V.str "some place"]=false by
    rw[show[V.str "some set",V.str "some place"]=(["some set","some place"]:List Str).map V.str from rfl,zb7];refine decide_eq_false λhm=>?_;simp only[y02,y07,or_false]at hm;rcases hm with rfl|rfl
    ·exact nn _ (by decide) rfl
    ·exact nn _ (by decide) rfl]
   have:=un.2;subst this;exact iteF (ixm (.of (n2.g _ _ ea)) za1 ⟨wd,n,rfl,q H2 (n1.g.trans n2.g)⟩)
  |neg c =>
   obtain⟨m,rfl,em⟩:=pt;have h1:c.hgt+1<lv+1:=hh;refine ixm (.of ea) za1 ⟨rfl,?_⟩;refine itT rfl (mtm L1.e1 nm (ixm (.of ea) (zak (j:=1) rfl) ⟨LA,co,fs,sts,m,n,dd,c,!b,rfl,L1,em,by omega,hd,.inr (.inr un),λH2 g2=>⟨_,rfl,?_⟩⟩));rw[Bool.not_not];exact q H2 (n1.g.trans g2)
  |con c e =>
   ac_rfl;obtain⟨m,m2,rfl,em,em2⟩:=pt;obtain⟨h4,x,y,b1,b2,ef,s1,s2,rfl⟩:=un;have h1:max c.hgt e.hgt+1<lv+1:=hh;refine zk ?_;rw[ekk]at ef;cases ef;obtain⟨vf,evf,pvf⟩:=nf;have evs:vf=[nV x,nV y]:=by
    cases pvf with
    |cons h1 pv=>cases pv with
     |cons h2 pv=>cases pv;rw[show _=_ from h1,show _=_ from h2];rfl
   subst evs;refine ixm (.of ea) za1 ⟨rfl,?_⟩;refine itF (by intro z;exact absurd (V.str.inj z) (by decide)) (ixm (.of ea) za1 ⟨rfl,?_⟩);refine itT rfl (mtm L1.e1 nm (ixm (.of ea) (zak (j:=1) rfl) (ixm (.of evf) za1 ⟨LA,co,fs,sts,m,x,dd,c,b1,rfl,L1,em,by omega,hd,s1,λH2 g2=>⟨_,rfl,?_⟩⟩)));cases b1 with
   |false=>exact iteF (q H2 (n1.g.trans g2))
   |true=>exact iteT (mtm ((L1.same g2).e1) nm (ixm (.of (g2 _ _ ea)) (zak (j:=2) rfl) (ixm (.of (g2 _ _ evf)) (zak (j:=1) rfl) ⟨LA,co,fs,sts,m2,y,dd,e,b2,rfl,L1.same g2,em2,by omega,hd,s2,λH3 g3=>q H3 (n1.g.trans (g2.trans g3))⟩)))
  |so st i c =>
   ac_rfl;obtain⟨m,hi,rfl,em⟩:=pt;obtain⟨h4,u,xs,g,ef,hxl,hx,_,rfl⟩:=un;have h1:c.hgt+1<lv+1:=hh;refine zk ?_;rw[ekk]at ef;cases ef;ac_rfl;have e1:∀z:Str,z∈(["not","and"]:List Str)->¬V.str (soW st)=V.str z:=λz hz e=>by
    have:=V.str.inj e;subst this;revert hz;cases st<;>decide
   obtain⟨vf,tx,evf,etx,elast⟩:∃vf tx,H1 af=some (.tup vf)/\H1 tx=some (.tup (xs.map nV))/\atI vf (-1)=some (.ref tx):=by
    obtain⟨vf,evf,pvf⟩:=nf;cases st with
    |true=>cases pvf with
     |cons h1 pv=>cases pv;obtain⟨tx,rfl,et⟩:=h1;exact⟨_,tx,evf,by rw[et,zdx],rfl⟩
    |false=>cases pvf with
     |cons h1 pv=>cases pv with
      |cons h2 pv=>cases pv;obtain⟨tx,rfl,et⟩:=h2;exact⟨_,tx,evf,by rw[et,zdx],rfl⟩
   refine zk ?_;refine ixm (.of ea) za1 ⟨rfl,?_⟩;refine itF (e1 _ (by decide)) (ixm (.of ea) za1 ⟨rfl,?_⟩);refine itF (e1 _ (by decide)) (ixm (.of ea) za1 (mkT λp2 H2 n2=>⟨_,.inr (.of n2.at'),rfl,rfl,?_⟩));rw[show inV (V.str (soW st)) [V.str "some set",V.str "some place"]=true by cases st<;>decide+kernel];have hl:(xs.map nV).length<=1000:=by rw[y00];omega
   refine iteT ⟨af,rfl,_,.of (n2.g _ _ evf),_,elast,tx,rfl,⟨_,.of (n2.g _ _ etx)⟩,zsy (K:=K) (a:=tx) (xs:=xs.map nV) (λσ=>∃v,σ=[v,some (.ref LA.p),some (.ref a)]) (λv=>match v with|.int z=>.bl (g z.toNat)|_=>.non) hl (.of (n2.g _ _ etx)) ⟨_,rfl⟩ ?_ ?_⟩
   ·rintro D i σ H3 x hi hm hx' gg hD hD' ⟨v,rfl⟩;obtain⟨z,mz,rfl⟩:=y0l.mp hm;trivial;have L3:=(L1.same n2.g).same gg;exact mtm L3.e1 nm ⟨_,.of (gg _ _ (n2.g _ _ ea)),_,zak (j:=2) rfl,LA,co,fs,sts,m,z,dd,c,g z,rfl,L3,em,by omega,hd,hx z mz,λH4 g4=>zdz hl hx' hD (g4 _ _ hD') (gg.trans g4) ⟨_,rfl⟩ rfl⟩
   ·intro D H3 hD g3 eD;refine⟨D,rfl,xs.map g,.of ?_,?_⟩
    ·rw[eD,y0t,y0t];rfl
    ·rw[List.any_map];exact q H3 (n1.g.trans (n2.g.trans g3))
end
abbrev sp_law:=zmy
section
variable {P:Program}{w:World}{K:Frag}{mg:Y1}{base:Heap}{f:Addr}{fd:FuncData}{tw ow fa cStandings cSayError:Addr}{cs:List Addr}
theorem all(T:Txt K mg w tw ow fa cStandings cSayError cs)(d_is_letter_with_figures:Dfn K mg "is_letter_with_figures" s_is_letter_with_figures ["thing","letters"])(d_is_place:Dfn K mg "is_place" s_is_place ["thing"])(d_is_set:Dfn K mg "is_set" s_is_set ["thing"])(d_is_name:Dfn K mg "is_name" s_is_name ["thing"])(d_is_frame:Dfn K mg "is_frame" s_is_frame ["thing"])(d_is_of_sort:Dfn K mg "is_of_sort" s_is_of_sort ["thing","sort","deepest"])(d_has_form:Dfn K mg "has_form" s_has_form ["thing","deepest"])(d_inner_sayings:Dfn K mg "inner_sayings" s_inner_sayings ["saying"])(d_is_bare:Dfn K mg "is_bare" s_is_bare ["saying"])(d_count_parts:Dfn K mg "count_parts" s_count_parts ["saying"])(d_is_any_saying:Dfn K mg "is_any_saying" s_is_any_saying ["thing"])(d_is_let:Dfn K mg "is_let" s_is_let ["saying","known","barred","most"])(d_is_tree_saying:Dfn K mg "is_tree_saying" s_is_tree_saying ["thing","frame"])(d_check_frame:Dfn K mg "check_frame" s_check_frame ["frame"])(d_check_tree_frame:Dfn K mg "check_tree_frame" s_check_tree_frame ["frame"])(d_check_tree_let:Dfn K mg "check_tree_let" s_check_tree_let ["saying","frame"])(d_is_whole:Dfn K mg "is_whole" s_is_whole ["thing"])(d_is_below:Dfn K mg "is_below" s_is_below ["thing","bound"])(d_is_letter:Dfn K mg "is_letter" s_is_letter ["thing","tracks"])(d_count_with:Dfn K mg "count_with" s_count_with ["letters","track"])(d_each_place_once:Dfn K mg "each_place_once" s_each_place_once ["frame","letters"])(d_told:Dfn K mg "told" s_told ["truth"])(d_sides_asked:Dfn K mg "sides_asked" s_sides_asked ["word","left","right"])(d_mark_of_related:Dfn K mg "mark_of_related" s_mark_of_related ["word","one","other","left","right"])(d_mark_of:Dfn K mg "mark_of" s_mark_of ["word","one","other","left","right"])(d_holds_with:Dfn K mg "holds_with" s_holds_with ["word","mark"])(d_turned:Dfn K mg "turned" s_turned ["standing"])(d_worth_keeping:Dfn K mg "worth_keeping" s_worth_keeping ["standings"])(d_Standings___init__:DfnI K cStandings "Standings.__init__" s_Standings___init__ ["self"])(d_Standings_numbered:DfnM K cStandings "numbered" "Standings.numbered" s_Standings_numbered ["self","form"])(d_Standings_part_of:DfnM K cStandings "part_of" "Standings.part_of" s_Standings_part_of ["self","saying","names"])(d_Standings_of_and:DfnM K cStandings "of_and" "Standings.of_and" s_Standings_of_and ["self","one","other"])(d_Standings_of_some_set:DfnM K cStandings "of_some_set" "Standings.of_some_set" s_Standings_of_some_set ["self","standings"])(d_Standings_of_some_place:DfnM K cStandings "of_some_place" "Standings.of_some_place" s_Standings_of_some_place ["self","unplaced","placed"])(d_Standings_of_nothing:DfnM K cStandings "of_nothing" "Standings.of_nothing" s_Standings_of_nothing ["self","number"])(d_Standings_above:DfnM K cStandings "above" "Standings.above" s_Standings_above ["self","number","letter","left","right"])(d_Standings_above_unsettled:DfnM K cStandings "above_unsettled" "Standings.above_unsettled" s_Standings_above_unsettled ["self","number","letter","left","right"])(d_Standings_above_sets:DfnM K cStandings "above_sets" "Standings.above_sets" s_Standings_above_sets ["self","part","letter","lefts","rights"])(d_Standings_above_places:DfnM K cStandings "above_places" "Standings.above_places" s_Standings_above_places ["self","part","letter","lefts","rights"])(d_Standings_with_whole:DfnM K cStandings "with_whole" "Standings.with_whole" s_Standings_with_whole ["self","number","standing"])(d_letters_of:Dfn K mg "letters_of" s_letters_of ["tree"])(d_gone_up:Dfn K mg "gone_up" s_gone_up ["tree","first","coming"])(d_tree_fits:Dfn K mg "tree_fits" s_tree_fits ["frame","tree"]){c_tree_holds_by t_tree_holds_by:Addr}(d_tree_holds_by:DfnC K mg "tree_holds_by" s_tree_holds_by ["saying","frame","tree"] c_tree_holds_by t_tree_holds_by)(d_tree_holds:Dfn K mg "tree_holds" s_tree_holds ["saying","frame","tree"])(d_law_cell_at:Dfn K mg "_law_cell_at" s_law_cell_at ["_law_script","_law_k"])(d_law_name:Dfn K mg "_law_name" s_law_name ["_law_kind","_law_number","_law_place"])(d_law_frame:Dfn K mg "_law_frame" s_law_frame ["_law_number","_law_many"])(d_law_bare:Dfn K mg "_law_bare" s_law_bare ["_law_number","_law_names"])(d_law_new:Dfn K mg "_law_new" s_law_new ["_law_number","_law_names"])(d_law_saying:Dfn K mg "_law_saying" s_law_saying ["_law_left","_law_names","_law_deep"])(d_law_bad_frames:Dfn K mg "_law_bad_frames" s_law_bad_frames ["_law_number"])(d_law_bad_sayings:Dfn K mg "_law_bad_sayings" s_law_bad_sayings ["_law_number","_law_saying_here"])(d_law_odd_sayings:Dfn K mg "_law_odd_sayings" s_law_odd_sayings ["_law_number","_law_saying_here"])(d_law_marks:Dfn K mg "_law_marks" s_law_marks ["_law_e"])(d_law_told:Dfn K mg "_law_told" s_law_told ["_law_saying_here","_law_frame_here","_law_tree"])(d_law_wrong_right:Dfn K mg "_law_wrong_right" s_law_wrong_right ["_law_saying_here","_law_frame_here","_law_number"])(kb:BltK base mg)(F:Fun K "law" "law" s_law f fd):FnOk P w K mg base CX0 37 f fd ["_law_script"] (sp_law K [(t_tree_holds_by,qs_tree_holds_by)]):=by
 have c1:=zxt (P:=P) (w:=w) (base:=base) T d_is_letter_with_figures;have c2:=zq1 T d_is_place c1;have c3:=zwk T d_is_set c1;have c4:=zxs T d_is_name c2 c3;have c5:=zq7 T d_is_frame c4;have c6:=zlb T d_is_of_sort d_has_form c2 c3 c4 12;have c7:=zq5 (P:=P) (w:=w) (base:=base) T d_inner_sayings;have c8:=zn6 T d_is_bare c7;have c9:=ziu T d_count_parts c7 13;have c10:=zob T d_is_any_saying c6.1 c9;have c11:=zpt (bw:=SS.rowWords) T d_is_let c7 c8 13;have c12:=zn5 T d_is_tree_saying c5 c10 c11;have k1:=zlw T d_check_frame c5;have k2:=zwo T d_check_tree_frame k1;have k3:=zwn T d_check_tree_let k2 c12;have b1:=zn0 (P:=P) (w:=w) (base:=base) T d_is_whole;have b2:=zn9 T d_is_below b1;have r1:=zjf T d_is_letter b2;have r3:=zn8 (P:=P) (w:=w) (base:=base) T d_count_with;have r4:=zt9 T d_each_place_once c2 r3;have r5:=zh5 (P:=P) (w:=w) (base:=base) T d_letters_of;have r6:=zje T d_tree_fits r5 r1 r4;have m1:=zqy (P:=P) (w:=w) (base:=base) T d_told;have m2:=zq0 (P:=P) (w:=w) (base:=base) T d_sides_asked;have m3:=zuf T d_mark_of_related m1 m2;have m4:=zuh T d_mark_of m1 m3;have m5:=zq6 (P:=P) (w:=w) (base:=base) T d_holds_with;have m6:=zn1 T d_turned m1;have m7:=zq4 (P:=P) (w:=w) (base:=base) T d_worth_keeping;have s0:=zq2 (P:=P) (w:=w) (base:=base) T d_Standings___init__;have s1:=zuc (P:=P) (w:=w) (base:=base) T d_Standings_numbered;have s2:=zue T d_Standings_of_and s1;have s3:=zua T d_Standings_of_some_set m7 s1;have s4:=zub T d_Standings_of_some_place m7 s1;have s5:=zkq T d_Standings_part_of c8 c2 10;have s6:=zn4 T d_Standings_of_nothing m6 s2 s3 s4 8;have s7:=zwj T d_Standings_with_whole m5 8;have s8:=zsz T d_Standings_above_unsettled d_Standings_above d_Standings_above_sets d_Standings_above_places m1 m4 m6 s2 s3 s4 8;have g1:=zh6 (P:=P) (w:=w) (base:=base) T d_gone_up 2;have h1:=zqz T d_tree_holds_by kb g1 s0 s5 s6 s8 s7;have h2:=zt7 T d_tree_holds k3 r6 h1;have l1:=zuj (P:=P) (w:=w) (base:=base) T d_law_cell_at;have l2:=zud (P:=P) (w:=w) (base:=base) T d_law_name;have l3:=zui T d_law_frame l2;have l4:=zoa (P:=P) (w:=w) (base:=base) T d_law_bare;have l5:=zq3 (P:=P) (w:=w) (base:=base) T d_law_new;have l6:=zit T d_law_saying l4 l5 2;have l7:=zul (P:=P) (w:=w) (base:=base) T d_law_bad_frames;have l8:=zuk (P:=P) (w:=w) (base:=base) T d_law_bad_sayings;have l9:=zt8 (P:=P) (w:=w) (base:=base) T d_law_odd_sayings;have lA:=zug (P:=P) (w:=w) (base:=base) T d_law_marks;have lB:=zn2 T d_law_told h2 lA;have lC:=zt6 T d_law_wrong_right l7 l8 l9 lB;exact zwm T F l1 l3 l6 lB lC
end
theorem txt_mk{K:Frag}{mg:Y1}{w:World}{tw ow fa cStandings cSayError dd0 dd1 dd2 dd3 dd4 dd5 dd6 dd7 dd8:Addr}(h0:mg "isinstance"=none)(h1:mg "tuple"=none)(h2:mg "str"=none)(h3:mg "list"=none)(h4:mg "int"=none)(h5:mg "bool"=none)(h6:mg "set"=none)(h7:mg "len"=none)(h8:mg "all"=none)(h9:mg "any"=none)(h10:mg "sum"=none)(h11:mg "max"=none)(h12:mg "zip"=none)(h13:mg "range"=none)(h14:mg "enumerate"=none)(h15:mg "sorted"=none)(h16:mg "ValueError"=none)(h17:GlV mg "FIGURES" (.str FIGS))(h18:GlV mg "LONGEST_NAME" (.int 4))(h19:GlV mg "SMALL_LETTERS" (.str SMALL))(h20:GlV mg "GREAT_LETTERS" (.str GREAT))(h21:GlV mg "MOST_NAMES" (.int 4))(h22:GlV mg "MOST_TREE_NAMES" (.int 3))(h23:GlV mg "DEEPEST" (.int 12))(h24:GlV mg "MOST_PARTS" (.int 60))(h25:GlV mg "WAITING" (.int 0))(h26:GlV mg "SECOND" (.int 1))(h27:GlV mg "YES" (.int 2))(h28:GlV mg "NO" (.int 3))(h29:GlV mg "TELLING_WORDS" (.ref tw))(h30:∀H,SqT K H tw [.str "some",.str "all"])(h31:GlV mg "ROW_WORDS" (.ref ow))(h32:∀H,SqT K H ow [.str "ahead",.str "next"])(h33:GlV mg "FORMS" (.ref fa))(h34:Forms K w fa)(h35:mg "Standings"=some (.ref cStandings))(h36:Cls K cStandings)(h37:NoAttr K cStandings "parts")(h38:NoAttr K cStandings "forms")(h39:NoAttr K cStandings "numbers")(h40:NoAttr K cStandings "steps")(h41:mg "SayError"=some (.ref cSayError))(h42:mg "NoTree"=some (.ref dd0))(h43:mg "NoFrame"=some (.ref dd1))(h44:mg "NoSaying"=some (.ref dd2))(h45:mg "NoText"=some (.ref dd3))(h46:mg "NoRow"=some (.ref dd4))(h47:mg "NoWidth"=some (.ref dd5))(h48:mg "NoNumber"=some (.ref dd6))(h49:mg "TooGreat"=some (.ref dd7))(h50:mg "NoLine"=some (.ref dd8))(h51:KSup K cSayError)(h52:KExc K dd0)(h53:PySem.W.mroIn K dd0 (.ref cSayError)=some true)(h54:PySem.W.kitOne K (.ref dd0) (.type "ValueError")=some true)(h55:PySem.W.kitOne K (.ref dd0) (.ref dd0)=some true)(h56:PySem.W.kitOne K (.ref dd0) (.ref dd1)=some false)(h57:PySem.W.kitOne K (.ref dd0) (.ref dd2)=some false)(h58:PySem.W.kitOne K (.ref dd0) (.ref dd3)=some false)(h59:PySem.W.kitOne K (.ref dd0) (.ref dd4)=some false)(h60:PySem.W.kitOne K (.ref dd0) (.ref dd5)=some false)(h61:PySem.W.kitOne K (.ref dd0) (.ref dd6)=some false)(h62:PySem.W.kitOne K (.ref dd0) (.ref dd7)=some false)(h63:PySem.W.kitOne K (.ref dd0) (.ref dd8)=some false)(h64:PySem.W.excIn K dd0 veM "ValueError.__new__"=true)(h65:KExc K dd1)(h66:PySem.W.mroIn K dd1 (.ref cSayError)=some true)(h67:PySem.W.kitOne K (.ref dd1) (.type "ValueError")=some true)(h68:PySem.W.kitOne K (.ref dd1) (.ref dd0)=some false)(h69:PySem.W.kitOne K (.ref dd1) (.ref dd1)=some true)(h70:PySem.W.kitOne K (.ref dd1) (.ref dd2)=some false)(h71:PySem.W.kitOne K (.ref dd1) (.ref dd3)=some false)(h72:PySem.W.kitOne K (.ref dd1) (.ref dd4)=some false)(h73:PySem.W.kitOne K (.ref dd1) (.ref dd5)=some false)(h74:PySem.W.kitOne K (.ref dd1) (.ref dd6)=some false)(h75:PySem.W.kitOne K (.ref dd1) (.ref dd7)=some false)(h76:PySem.W.kitOne K (.ref dd1) (.ref dd8)=some false)(h77:PySem.W.excIn K dd1 veM "ValueError.__new__"=true)(h78:KExc K dd2)(h79:PySem.W.mroIn K dd2 (.ref cSayError)=some true)(h80:PySem.W.kitOne K (.ref dd2) (.type "ValueError")=some true)(h81:PySem.W.kitOne K (.ref dd2) (.ref dd0)=some false)(h82:PySem.W.kitOne K (.ref dd2) (.ref dd1)=some false)(h83:PySem.W.kitOne K (.ref dd2) (.ref dd2)=some true)(h84:PySem.W.kitOne K (.ref dd2) (.ref dd3)=some false)(h85:PySem.W.kitOne K (.ref dd2) (.ref dd4)=some false)(h86:PySem.W.kitOne K (.ref dd2) (.ref dd5)=some false)(h87:PySem.W.kitOne K (.ref dd2) (.ref dd6)=some false)(h88:PySem.W.kitOne K (.ref dd2) (.ref dd7)=some false)(h89:PySem.W.kitOne K (.ref dd2) (.ref dd8)=some false)(h90:PySem.W.excIn K dd2 veM "ValueError.__new__"=true):∃(qtw qow qfa qcSayError:Addr) (cs:List Addr),Txt K mg w qtw qow qfa cStandings qcSayError cs :=
 ⟨tw,ow,fa,cSayError,[dd0,dd1,dd2,dd3,dd4,dd5,dd6,dd7,dd8],⟨h0,h1,h2,h3,h4,h5,h6,h7,h8,h9,h10,h11,h12,h13,h14,h15,h16,h17,h18,h19,h20,h21,h22,h23,h24,h25,h26,h27,h28,h29,h30,h31,h32,h33,h34,h35,h36,h37,h38,h39,h40,h41,h42,h43,h44,h45,h46,h47,h48,h49,h50,h51,h52,h53,h54,h55,h56,h57,h58,h59,h60,h61,h62,h63,h64,h65,h66,h67,h68,h69,h70,h71,h72,h73,h74,h75,h76,h77,h78,h79,h80,h81,h82,h83,h84,h85,h86,h87,h88,h89,h90⟩⟩
end K51
open PySem PySem.W PyProof.Rows
set_option hygiene false in
local macro_rules
| `(tactic|exact_mod_cast 0) => `(tactic|(dsimp only[L2.KOf];refine' L2.dfn_mk KX G ?a ?l ?c ?k (λ_ _ _ _ _ _=>by first|exact L2.fit1 λ_=>rfl|exact L2.fit2 λ_ _=>rfl|exact L2.fit3 λ_ _ _=>rfl|exact L2.fit4 λ_ _ _ _=>rfl|exact L2.fit5 λ_ _ _ _ _=>rfl);((case a=>k_is);(case l=>k_is);(case c=>k_is);(case k=>k_is))))
namespace PySem.W.Fast
def tw9914440484002384932:=True
def tw16021890650642478369:=True
def tw17436763153009510908:=True
def tw62100208613990287:=True
def tw8701811395342156764:=True
def tw18169545398432293807:=True
def tw10267465361622704075:=True
def tw5915128775305105572:=True
def tw6451108792216523947:=True
def tw7942659183215517995:=True
def tw4872523172176276873:=True
def tw16108737602219028785:=True
def tw15966700312961060778:=True
def tw13000498897501004540:=True
def tw14083363419945696154:=True
def tw9341863319472267123:=True
def tw12276510484579290586:=True
def tw785753166755097610:=True
def tw13952845249485307027:=True
def tw15466690268097742200:=True
def tw10678001715835475403:=True
def tw3376517510693500626:=True
def tw14224999389722017124:=True
def tw14296571629663936607:=True
def tw1244547737753788759:=True
def tw7021102493939471623:=True
def tw4319346102309568875:=True
def tw3646838276105481369:=True
def tw6472075543622590235:=True
def tw7860043664424505823:=True
def tw14660189698806920846:=True
def tw16379279084377032949:=True
def tw5385866609011658193:=True
def tw10765578497911203691:=True
def tw320019190560788982:=True
def tw1334425095400747343:=True
def tw8899590896659154303:=True
def tw388495396670818390:=True
def tw15115716706569555967:=True
def tw8462697125337764573:=True
def tw17865450303479158261:=True
def tw10133756384218357176:=True
def tw513952182648055143:=True
def tw6097664079352101164:=True
def tw1639585364686215810:=True
def tw4803808926096498601:=True
def tw4508541604751783163:=True
def tw12348829941965373849:=True
def tw2275292145479540541:=True
def tw8272719176851407728:=True
def tw2427904871923428586:=True
def tw16369749426563426494:=True
def tw18229381633307479171:=True
def tw952315965584116935:=True
def tw4801606632937427672:=True
def tw17847775560929524605:=True
def tw640135734659790198:=True
def tw6943681305074173377:=True
def tw17451806509990564694:=True
def tw17962080812045662293:=True
def tw14374610011167399253:=True
def tw14000204988130712427:=True
def tw10764152876218011095:=True
def tw6274317165047835516:=True
def tw7327925116935423268:=True
def tw13603604119041668139:=True
def tw3677604200632666380:=True
def tw3193237351300593714:=True
def tw8480226143532645398:=True
def tw17613681221823527594:=True
def tw14953135210409753722:=True
def tw16343709137164919413:=True
def tw3608585519882710294:=True
def tw6479349221626289281:=True
def tw6956693094162840909:=True
def tw12256354242265077560:=True
def tw13974193776994031521:=True
def tw18100401934255247764:=True
def tw14247517976211776599:=True
def tw2245670524834516286:=True
def tw10407023023549431029:=True
def tw12368146215910719202:=True
def tw7956520149375648100:=True
def tw5245591602148829329:=True
def tw12421072372330931555:=True
def tw13970037608970905988:=True
def tw13864174568164461190:=True
def tw5373978802814175491:=True
def tw1824780013023343650:=True
def tw14205557848575607065:=True
def tw5494851829306241976:=True
def tw7572166222892027474:=True
def tw6797100753921359778:=True
def tw5987236387709566100:=True
def tw14723874297241085832:=True
def tw10021441721126139340:=True
def tw3392345352372220927:=True
def tw15231551891012016062:=True
def tw8765518091711261063:=True
def tw6827996103256814461:=True
def tw16286890101110545183:=True
def tw16054766339387638264:=True
def tw15982971834328306450:=True
def tw12950184358221452769:=True
def tw16330065339538643556:=True
def tw16053160179689352193:=True
def tw3458128424467690644:=True
def tw11159312535740882308:=True
def tw3049723287526844573:=True
def tw907641679275816914:=True
def tw13219391399019953040:=True
def tw16200799502336723780:=True
def tw18237245217397174115:=True
def tw8219920777446626803:=True
def tw4009890607600790253:=True
def tw3172001331792065776:=True
def tw17140337790800933202:=True
def tw15067765852916319244:=True
def tw6115712438857075621:=True
def tw7770592907790531306:=True
def tw9060181235972467773:=True
def tw8105159317892503603:=True
def tw8054989326006855615:=True
def tw1633212669896710397:=True
def tw3474167707608862615:=True
def tw15103156726715595936:=True
def tw5963217591410422525:=True
def tw2196445545088164118:=True
def tw3877463921411313531:=True
def tw12981597151379877432:=True
def tw1917817859018794338:=True
def tw3545627424553334566:=True
def tw9604056604167576594:=True
def tw13882824314349040640:=True
def tw10065504647138618639:=True
def tw7198435296419962236:=True
def tw1823913562379172573:=True
def tw9554966700754269560:=True
def tw4617131133283899379:=True
def tw674391215556572788:=True
def tw8969805723795597737:=True
def tw13386071493499220594:=True
def tw7866340402902312904:=True
def tw4950317522685801975:=True
def tw14578264407519387355:=True
def tw4806314823536804854:=True
def tw3419682102987004533:=True
def tw9430554986225903684:=True
def tw8711446266674641338:=True
def tw9559791701394255471:=True
def tw14514060085263114966:=True
def tw10205570533896852191:=True
def tw7362482276286649517:=True
def tw1576126371856065225:=True
def tw15501083157629035645:=True
def tw17607833465821007630:=True
def tw12044766377320548421:=True
def tw12729256046841648033:=True
def tw7719688962484383386:=True
def tw12935512539107781412:=True
def tw7646772653566527025:=True
def tw15101490856246709178:=True
def tw11409643403119195166:=True
def tw589546451974541389:=True
def tw7654612250316848038:=True
def tw17125950721658474431:=True
def tw8752884891510368953:=True
def tw13924904367032642077:=True
def tw7608210456038448756:=True
def tw18086938434542141826:=True
def tw5912793345489633235:=True
def tw7341185824781606711:=True
def tw2525683854319762825:=True
def tw16403832597224120047:=True
def tw7244949532150383044:=True
def tw7951201317582732364:=True
def tw13369801438111617746:=True
def tw9118223615028740242:=True
def tw15561386848126883493:=True
def tw16345575315646034801:=True
def tw18366831030230950811:=True
def tw15385432513726560134:=True
def tw1098981378998058035:=True
def tw8070940031726787429:=True
def tw16755198326338917100:=True
def tw2892217009926939275:=True
def tw3345143360383467234:=True
def tw3018818071829815348:=True
def tw17235624603365542572:=True
def tw11667890137877771366:=True
def tw2444394105667331538:=True
def tw3121614487842073879:=True
def tw13555604095189384976:=True
def tw4118984522722733905:=True
def tw12351450315850276111:=True
def tw15685689649916953116:=True
def tw1976691498686596352:=True
def tw14449291839702295909:=True
def tw10650728537107537884:=True
def tw679617118017919720:=True
def tw1831460667715822140:=True
def tw18218138356500401410:=True
def tw5061232041459325932:=True
def tw8292729116248947205:=True
def tw16458072816838742562:=True
def tw2637805729705055276:=True
def tw9287230573323762629:=True
def tw3998746616127907394:=True
def tw4398192609125395281:=True
def tw13804819722118983606:=True
def tw726874412562057822:=True
def tw16477382971547550968:=True
def tw18343665075251392003:=True
def tw8919313500944764378:=True
def tw2170334642429707156:=True
def tw6853321190853186473:=True
def tw10066641114661412250:=True
def tw2369816283787862474:=True
def tw1072455151342636131:=True
def tw4688688400566367800:=True
def tw4922168022132430284:=True
def tw15967012551489661678:=True
def tw12916193438699322782:=True
def tw14811204988104713098:=True
def tw9000069832324837598:=True
def tw9198355065285228312:=True
def tw471968605016806883:=True
def tw9316660388968269363:=True
def tw3452991623231351687:=True
def tw8321669976422915396:=True
def tw3801090487767757610:=True
def tw9018868254569434118:=True
def tw8328807542057370891:=True
def tw8818649801052375901:=True
def tw2959822431337981543:=True
def tw17616844088141028469:=True
def tw15856491435923565287:=True
def tw13144150800870543493:=True
def tw18079535841657026400:=True
def tw6896799340289700622:=True
def tw2924677828982924858:=True
def tw10653006074999260410:=True
def tw6395221779720559876:=True
def tw8640353496022374877:=True
def tw13492984049855899053:=True
def tw14179904138615055902:=True
def tw5879196750127759983:=True
def tw10529724774912792504:=True
def tw5043374593247349680:=True
def tw5954206087084162146:=True
def tw5824594182919016800:=True
def tw4647465490018899198:=True
def tw4681407529043435836:=True
def tw1527888529978065207:=True
def tw2998625208770909042:=True
def tw10883982878799407355:=True
def tw9722465809741350397:=True
def tw18080001863548651916:=True
def tw16984847239757014701:=True
def tw1479634594787298597:=True
def tw13204561468856343632:=True
def tw11823148385757839830:=True
def tw1948116333424953005:=True
def tw7738105136552432929:=True
def tw17322607794687179949:=True
def tw4347965625553371019:=True
def tw15774221841925394673:=True
def tw4596255097428449576:=True
def tw6865834139863511380:=True
def tw11414676983658477589:=True
def tw15499569045752656319:=True
def tw11152663456690825344:=True
def tw17048183685870727699:=True
def tw11762716641072352852:=True
def tw2930210016515662110:=True
def tw5173082259940495874:=True
def tw9629731330384146910:=True
def tw386260198055722821:=True
def tw3352036722124314353:=True
def tw6523479828031189577:=True
def tw5899859813481633204:=True
def tw3911359400136253137:=True
def tw16126521076407121374:=True
def tw14690446884356973550:=True
def tw2842631058774575415:=True
def tw6214425767431936854:=True
def tw10479316087593527855:=True
def tw7361552504865907857:=True
def tw15926442570386097294:=True
def tw17869991228002672208:=True
def tw16546333062373541767:=True
def tw11200636687113685919:=True
def tw4798608265447084833:=True
def tw8540694308752505533:=True
def tw12380636242378095533:=True
def tw17709788741023533161:=True
def tw12080952422417054697:=True
def tw16069285429373565586:=True
def tw4314731183583026034:=True
def tw565634933167854610:=True
def tw4139455611755725050:=True
def tw2132576767317796017:=True
def tw10375707882036634496:=True
def tw13474928373900292963:=True
def tw1941777253979318356:=True
def tw17115968356304390475:=True
def tw13417111997666282738:=True
def tw2532568296355221819:=True
def tw4292004393290241537:=True
def tw6371641810151448345:=True
def tw12868589919870777056:=True
def tw11893583883015236122:=True
def tw11275056319565477430:=True
def tw8667287713374940049:=True
def tw1564722298315745740:=True
def tw10799936796307149805:=True
def tw5983858529839908501:=True
def tw7194634707665572403:=True
def tw11656163147587924833:=True
def tw11061424258537948509:=True
def tw6015392499905446469:=True
def tw3034140556797029286:=True
def tw2231455658739361929:=True
def tw10375905415614681842:=True
def tw2616064878472859770:=True
def tw2220006346952900940:=True
def tw8224017967037000783:=True
def tw9535761803810075491:=True
def tw10830197702360776249:=True
def tw1828659748021001941:=True
def tw3752128963434643687:=True
def tw6827188087600128724:=True
def tw7266950814120974442:=True
def tw3776781311490900362:=True
def tw7853511877758540549:=True
def tw6615514293616781089:=True
def tw12080484659364594731:=True
def tw13313614920234936649:=True
def tw14797068036064305662:=True
def tw5033293555462033806:=True
def tw2674692095473893807:=True
def tw4229283940071441896:=True
def tw2482935443418014220:=True
def tw16210048484605378551:=True
def tw5209768724311867891:=True
def tw8681868049509273836:=True
def tw4826406397787336181:=True
def tw14542227009698822721:=True
def tw18314094646438691485:=True
def tw3853355493078817710:=True
def tw8264177732272052623:=True
def tw17755472484764580990:=True
def tw14592706516090047665:=True
def tw8072950038798928524:=True
def tw9522525691577850386:=True
def tw17021929959522739676:=True
def tw62646057790892102:=True
def tw2792459985732797958:=True
def tw8763386970836407023:=True
def tw14683365947746536399:=True
def tw7470554647618551828:=True
def tw4445442625832145411:=True
def tw14662782671242026172:=True
def tw18381951934355524397:=True
def tw2176255385783150277:=True
def tw14735620704691414342:=True
def tw3394363084813663783:=True
def tw11864105137018818154:=True
def tw1914537647682059143:=True
def tw11052818114701926605:=True
def tw15153524256534364787:=True
def tw7890954298670444680:=True
def tw17090073981955825258:=True
def tw16174006557818191532:=True
def tw7765219363228327106:=True
def tw5626257630678402465:=True
def tw7925120939324066624:=True
def tw15197649383219961681:=True
def tw8794669556587821860:=True
def tw14813526321628294715:=True
def tw6914330460483410477:=True
def tw14226335804569280793:=True
def tw17079509489814914042:=True
def tw3446698080831407695:=True
def tw5187286501185485476:=True
def tw1591613468327908217:=True
def tw9926430162478387960:=True
def tw4889605059587827284:=True
def tw16026331967276403629:=True
def tw8193433846234105232:=True
def tw5581031944207519234:=True
def tw4830081073942137091:=True
def tw1289506471111373178:=True
def tw14216503648767321735:=True
def tw16288962753235135477:=True
def tw11257249910846717609:=True
def tw12591167904999959681:=True
def tw4053435595856209683:=True
def tw1462131712307053783:=True
def tw2998228166478066537:=True
def tw187854848877856951:=True
def tw17034278587326815860:=True
end PySem.W.Fast
set_option maxRecDepth 100000 in
set_option maxHeartbeats 0 in
theorem PySem.Challenge.cw_setsays_k51_tree_holds_refused_holds : PySem.Challenge.rw_setsays_k51_tree_holds_refused.Holds := by
 w_on;o_law;k_head;(case hw=>w_witness2)
 k_fill
 refine L2.walk_ofT (l:=PySem.Challenge.rw_setsays_k51_tree_holds_refused) (n:=63) (k:=37) (x:="_law_script") (CX:=L2.CX0) (sp:=K51.sp_law) rfl (by decide) rfl ⟨rfl,by decide,by decide⟩ (λw h Y=>PySem.W.km_in_of Y) ?F (λ_ _ _ a ns hl hO hS=>⟨a,ns,rfl,hS,hl,hO,λ_=>rfl⟩) λ_ _ _ _ z=>z
 case F =>
  intro w mg fa h KX G hmg;obtain⟨tw,g_TELLING_WORDS,t_TELLING_WORDS⟩:∃q,L2.GlV mg "TELLING_WORDS" (.ref q)/\∀H,L2.SqT (L2.KOf KX) H q [.str "some",.str "all"]:=by
   dsimp only[L2.KOf];refine' L2.glt_mk KX G ?a ?l ?z ?r
   (case a=>k_is);(case l=>k_is);(case z=>decide);(case r=>exact .cons ⟨_,rfl⟩ (.cons ⟨_,rfl⟩ (.nil)))
  obtain⟨ow,g_ROW_WORDS,t_ROW_WORDS⟩:∃q,L2.GlV mg "ROW_WORDS" (.ref q)/\∀H,L2.SqT (L2.KOf KX) H q [.str "ahead",.str "next"]:=by
   dsimp only[L2.KOf];refine' L2.glt_mk KX G ?a ?l ?z ?r
   (case a=>k_is);(case l=>k_is);(case z=>decide);(case r=>exact .cons ⟨_,rfl⟩ (.cons ⟨_,rfl⟩ (.nil)))
  obtain⟨ff,g_FORMS,f_FORMS⟩:∃q,L2.GlV mg "FORMS" (.ref q)/\SS.Forms (L2.KOf KX) w q:=by
   dsimp only[L2.KOf];refine' SS.forms_mk KX G ?a ?lo ?l ?hk ?he
   (case a=>k_is);(case lo=>decide);(case l=>k_is)
   case hk=>exact⟨⟨_,_,rfl,rfl⟩,⟨⟨_,_,rfl,rfl⟩,⟨⟨_,_,rfl,rfl⟩,⟨⟨_,_,rfl,rfl⟩,⟨⟨_,_,rfl,rfl⟩,⟨⟨_,_,rfl,rfl⟩,⟨⟨_,_,rfl,rfl⟩,⟨⟨_,_,rfl,rfl⟩,⟨⟨_,_,rfl,rfl⟩,⟨⟨_,_,rfl,rfl⟩,⟨⟨_,_,rfl,rfl⟩,⟨⟨_,_,rfl,rfl⟩,⟨⟨_,_,rfl,rfl⟩,trivial⟩⟩⟩⟩⟩⟩⟩⟩⟩⟩⟩⟩⟩
   refine' .cons ⟨⟨_,rfl⟩,_,rfl,SS.sqt_mk ?l0 ?z0 ?r0⟩ (.cons ⟨⟨_,rfl⟩,_,rfl,SS.sqt_mk ?l1 ?z1 ?r1⟩ (.cons ⟨⟨_,rfl⟩,_,rfl,SS.sqt_mk ?l2 ?z2 ?r2⟩ (.cons ⟨⟨_,rfl⟩,_,rfl,SS.sqt_mk ?l3 ?z3 ?r3⟩ (.cons ⟨⟨_,rfl⟩,_,rfl,SS.sqt_mk ?l4 ?z4 ?r4⟩ (.cons ⟨⟨_,rfl⟩,_,rfl,SS.sqt_mk ?l5 ?z5 ?r5⟩ (.cons ⟨⟨_,rfl⟩,_,rfl,SS.sqt_mk ?l6 ?z6 ?r6⟩ (.cons ⟨⟨_,rfl⟩,_,rfl,SS.sqt_mk ?l7 ?z7 ?r7⟩ (.cons ⟨⟨_,rfl⟩,_,rfl,SS.sqt_mk ?l8 ?z8 ?r8⟩ (.cons ⟨⟨_,rfl⟩,_,rfl,SS.sqt_mk ?l9 ?z9 ?r9⟩ (.cons ⟨⟨_,rfl⟩,_,rfl,SS.sqt_mk ?l10 ?z10 ?r10⟩ (.cons ⟨⟨_,rfl⟩,_,rfl,SS.sqt_mk ?l11 ?z11 ?r11⟩ (.cons ⟨⟨_,rfl⟩,_,rfl,SS.sqt_mk ?l12 ?z12 ?r12⟩ (.nil)))))))))))))
   (case l0=>k_is);(case z0=>decide);(case r0=>exact .cons ⟨_,rfl⟩ (.cons ⟨_,rfl⟩ (.nil)))
   (case l1=>k_is);(case z1=>decide);(case r1=>exact .cons ⟨_,rfl⟩ (.cons ⟨_,rfl⟩ (.nil)))
   (case l2=>k_is);(case z2=>decide);(case r2=>exact .cons ⟨_,rfl⟩ (.cons ⟨_,rfl⟩ (.nil)))
   (case l3=>k_is);(case z3=>decide);(case r3=>exact .cons ⟨_,rfl⟩ (.cons ⟨_,rfl⟩ (.nil)))
   (case l4=>k_is);(case z4=>decide);(case r4=>exact .cons ⟨_,rfl⟩ (.cons ⟨_,rfl⟩ (.nil)))
   (case l5=>k_is);(case z5=>decide);(case r5=>exact .cons ⟨_,rfl⟩ (.cons ⟨_,rfl⟩ (.nil)))
   (case l6=>k_is);(case z6=>decide);(case r6=>exact .cons ⟨_,rfl⟩ (.cons ⟨_,rfl⟩ (.nil)))
   (case l7=>k_is);(case z7=>decide);(case r7=>exact .cons ⟨_,rfl⟩ (.cons ⟨_,rfl⟩ (.nil)))
   (case l8=>k_is);(case z8=>decide);(case r8=>exact .cons ⟨_,rfl⟩ (.nil))
   (case l9=>k_is);(case z9=>decide);(case r9=>exact .cons ⟨_,rfl⟩ (.cons ⟨_,rfl⟩ (.nil)))
   (case l10=>k_is);(case z10=>decide);(case r10=>exact .cons ⟨_,rfl⟩ (.cons ⟨_,rfl⟩ (.nil)))
   (case l11=>k_is);(case z11=>decide);(case r11=>exact .cons ⟨_,rfl⟩ (.cons ⟨_,rfl⟩ (.nil)))
   (case l12=>k_is);(case z12=>decide);(case r12=>exact .cons ⟨_,rfl⟩ (.cons ⟨_,rfl⟩ (.nil)))
  obtain⟨cStandings,m_Standings,cl_Standings,n_parts,n_forms,n_numbers,n_steps,d_Standings___init__,d_Standings_numbered,d_Standings_part_of,d_Standings_of_and,d_Standings_of_some_set,d_Standings_of_some_place,d_Standings_of_nothing,d_Standings_above,d_Standings_above_unsettled,d_Standings_above_sets,d_Standings_above_places,d_Standings_with_whole⟩:∃q:Addr,mg "Standings"=some (.ref q)/\L2.Cls (L2.KOf KX) q/\L2.NoAttr (L2.KOf KX) q "parts"/\L2.NoAttr (L2.KOf KX) q "forms"/\L2.NoAttr (L2.KOf KX) q "numbers"/\L2.NoAttr (L2.KOf KX) q "steps"/\L2.DfnI (L2.KOf KX) q "Standings.__init__" K51.s_Standings___init__ ["self"]/\L2.DfnM (L2.KOf KX) q "numbered" "Standings.numbered" K51.s_Standings_numbered ["self","form"]/\L2.DfnM (L2.KOf KX) q "part_of" "Standings.part_of" K51.s_Standings_part_of ["self","saying","names"]/\L2.DfnM (L2.KOf KX) q "of_and" "Standings.of_and" K51.s_Standings_of_and ["self","one","other"]/\L2.DfnM (L2.KOf KX) q "of_some_set" "Standings.of_some_set" K51.s_Standings_of_some_set ["self","standings"]/\L2.DfnM (L2.KOf KX) q "of_some_place" "Standings.of_some_place" K51.s_Standings_of_some_place ["self","unplaced","placed"]/\L2.DfnM (L2.KOf KX) q "of_nothing" "Standings.of_nothing" K51.s_Standings_of_nothing ["self","number"]/\L2.DfnM (L2.KOf KX) q "above" "Standings.above" K51.s_Standings_above ["self","number","letter","left","right"]/\L2.DfnM (L2.KOf KX) q "above_unsettled" "Standings.above_unsettled" K51.s_Standings_above_unsettled ["self","number","letter","left","right"]/\L2.DfnM (L2.KOf KX) q "above_sets" "Standings.above_sets" K51.s_Standings_above_sets ["self","part","letter","lefts","rights"]/\L2.DfnM (L2.KOf KX) q "above_places" "Standings.above_places" K51.s_Standings_above_places ["self","part","letter","lefts","rights"]/\L2.DfnM (L2.KOf KX) q "with_whole" "Standings.with_whole" K51.s_Standings_with_whole ["self","number","standing"]:=by
   dsimp only[L2.KOf];refine'⟨_,PySem.W.mg_of KX G ?Standings_m,⟨?Standings_pg,?Standings_hd,?Standings_po,?Standings_sa⟩,L2.noattr_mk ?Standings_n0,L2.noattr_mk ?Standings_n1,L2.noattr_mk ?Standings_n2,L2.noattr_mk ?Standings_n3,L2.dfni_mk ?Standings_y0 ?Standings_a0 ?Standings_i0 ?Standings_z0 ?Standings_l0 ?Standings_c0 ?Standings_k0 (λ_ _ _ _ _ _=>L2.fit1 λ_=>rfl),L2.dfnm_mk ?Standings_a1 ?Standings_i1 ?Standings_l1 ?Standings_c1 ?Standings_k1 (λ_ _ _ _ _ _=>L2.fit2 λ_ _=>rfl),L2.dfnm_mk ?Standings_a2 ?Standings_i2 ?Standings_l2 ?Standings_c2 ?Standings_k2 (λ_ _ _ _ _ _=>L2.fit3 λ_ _ _=>rfl),L2.dfnm_mk ?Standings_a3 ?Standings_i3 ?Standings_l3 ?Standings_c3 ?Standings_k3 (λ_ _ _ _ _ _=>L2.fit3 λ_ _ _=>rfl),L2.dfnm_mk ?Standings_a4 ?Standings_i4 ?Standings_l4 ?Standings_c4 ?Standings_k4 (λ_ _ _ _ _ _=>L2.fit2 λ_ _=>rfl),L2.dfnm_mk ?Standings_a5 ?Standings_i5 ?Standings_l5 ?Standings_c5 ?Standings_k5 (λ_ _ _ _ _ _=>L2.fit3 λ_ _ _=>rfl),L2.dfnm_mk ?Standings_a6 ?Standings_i6 ?Standings_l6 ?Standings_c6 ?Standings_k6 (λ_ _ _ _ _ _=>L2.fit2 λ_ _=>rfl),L2.dfnm_mk ?Standings_a7 ?Standings_i7 ?Standings_l7 ?Standings_c7 ?Standings_k7 (λ_ _ _ _ _ _=>L2.fit5 λ_ _ _ _ _=>rfl),L2.dfnm_mk ?Standings_a8 ?Standings_i8 ?Standings_l8 ?Standings_c8 ?Standings_k8 (λ_ _ _ _ _ _=>L2.fit5 λ_ _ _ _ _=>rfl),L2.dfnm_mk ?Standings_a9 ?Standings_i9 ?Standings_l9 ?Standings_c9 ?Standings_k9 (λ_ _ _ _ _ _=>L2.fit5 λ_ _ _ _ _=>rfl),L2.dfnm_mk ?Standings_a10 ?Standings_i10 ?Standings_l10 ?Standings_c10 ?Standings_k10 (λ_ _ _ _ _ _=>L2.fit5 λ_ _ _ _ _=>rfl),L2.dfnm_mk ?Standings_a11 ?Standings_i11 ?Standings_l11 ?Standings_c11 ?Standings_k11 (λ_ _ _ _ _ _=>L2.fit3 λ_ _ _=>rfl)⟩
   case Standings_m=>k_is
   case Standings_pg=>k_is
   case Standings_hd=>k_is
   case Standings_po=>k_is
   case Standings_sa=>k_is
   case Standings_n0=>k_is
   case Standings_n1=>k_is
   case Standings_n2=>k_is
   case Standings_n3=>k_is
   case Standings_y0=>k_is
   case Standings_a0=>k_is
   case Standings_i0=>k_is
   case Standings_z0=>k_is
   case Standings_l0=>k_is
   case Standings_c0=>k_is
   case Standings_k0=>k_is
   case Standings_a1=>k_is
   case Standings_i1=>k_is
   case Standings_l1=>k_is
   case Standings_c1=>k_is
   case Standings_k1=>k_is
   case Standings_a2=>k_is
   case Standings_i2=>k_is
   case Standings_l2=>k_is
   case Standings_c2=>k_is
   case Standings_k2=>k_is
   case Standings_a3=>k_is
   case Standings_i3=>k_is
   case Standings_l3=>k_is
   case Standings_c3=>k_is
   case Standings_k3=>k_is
   case Standings_a4=>k_is
   case Standings_i4=>k_is
   case Standings_l4=>k_is
   case Standings_c4=>k_is
   case Standings_k4=>k_is
   case Standings_a5=>k_is
   case Standings_i5=>k_is
   case Standings_l5=>k_is
   case Standings_c5=>k_is
   case Standings_k5=>k_is
   case Standings_a6=>k_is
   case Standings_i6=>k_is
   case Standings_l6=>k_is
   case Standings_c6=>k_is
   case Standings_k6=>k_is
   case Standings_a7=>k_is
   case Standings_i7=>k_is
   case Standings_l7=>k_is
   case Standings_c7=>k_is
   case Standings_k7=>k_is
   case Standings_a8=>k_is
   case Standings_i8=>k_is
   case Standings_l8=>k_is
   case Standings_c8=>k_is
   case Standings_k8=>k_is
   case Standings_a9=>k_is
   case Standings_i9=>k_is
   case Standings_l9=>k_is
   case Standings_c9=>k_is
   case Standings_k9=>k_is
   case Standings_a10=>k_is
   case Standings_i10=>k_is
   case Standings_l10=>k_is
   case Standings_c10=>k_is
   case Standings_k10=>k_is
   case Standings_a11=>k_is
   case Standings_i11=>k_is
   case Standings_l11=>k_is
   case Standings_c11=>k_is
   case Standings_k11=>k_is
  obtain⟨ktw,kow,kfa,kcSayError,cs,T⟩:∃(ktw kow kfa kcSayError:Addr) (cs:List Addr),K51.Txt (L2.KOf KX) mg w ktw kow kfa cStandings kcSayError cs:=by
   dsimp only[L2.KOf];refine' K51.txt_mk (PySem.W.mg_none_of KX G ?t0) (PySem.W.mg_none_of KX G ?t1) (PySem.W.mg_none_of KX G ?t2) (PySem.W.mg_none_of KX G ?t3) (PySem.W.mg_none_of KX G ?t4) (PySem.W.mg_none_of KX G ?t5) (PySem.W.mg_none_of KX G ?t6) (PySem.W.mg_none_of KX G ?t7) (PySem.W.mg_none_of KX G ?t8) (PySem.W.mg_none_of KX G ?t9) (PySem.W.mg_none_of KX G ?t10) (PySem.W.mg_none_of KX G ?t11) (PySem.W.mg_none_of KX G ?t12) (PySem.W.mg_none_of KX G ?t13) (PySem.W.mg_none_of KX G ?t14) (PySem.W.mg_none_of KX G ?t15) (PySem.W.mg_none_of KX G ?t16) (L2.glv_mk KX G ?t17 ?r17) (L2.glv_mk KX G ?t18 ?r18) (L2.glv_mk KX G ?t19 ?r19) (L2.glv_mk KX G ?t20 ?r20) (L2.glv_mk KX G ?t21 ?r21) (L2.glv_mk KX G ?t22 ?r22) (L2.glv_mk KX G ?t23 ?r23) (L2.glv_mk KX G ?t24 ?r24) (L2.glv_mk KX G ?t25 ?r25) (L2.glv_mk KX G ?t26 ?r26) (L2.glv_mk KX G ?t27 ?r27) (L2.glv_mk KX G ?t28 ?r28) g_TELLING_WORDS t_TELLING_WORDS g_ROW_WORDS t_ROW_WORDS g_FORMS f_FORMS m_Standings cl_Standings n_parts n_forms n_numbers n_steps (PySem.W.mg_of KX G ?t41) (PySem.W.mg_of KX G ?t42) (PySem.W.mg_of KX G ?t43) (PySem.W.mg_of KX G ?t44) (PySem.W.mg_of KX G ?t45) (PySem.W.mg_of KX G ?t46) (PySem.W.mg_of KX G ?t47) (PySem.W.mg_of KX G ?t48) (PySem.W.mg_of KX G ?t49) (PySem.W.mg_of KX G ?t50) ⟨?t51a,?t51b,?t51c⟩ ⟨?t52a,?t52b,?t52c,?t52d,?t52e,?t52f⟩ ?t53 ?t54 ?t55 ?t56 ?t57 ?t58 ?t59 ?t60 ?t61 ?t62 ?t63 ?t64 ⟨?t65a,?t65b,?t65c,?t65d,?t65e,?t65f⟩ ?t66 ?t67 ?t68 ?t69 ?t70 ?t71 ?t72 ?t73 ?t74 ?t75 ?t76 ?t77 ⟨?t78a,?t78b,?t78c,?t78d,?t78e,?t78f⟩ ?t79 ?t80 ?t81 ?t82 ?t83 ?t84 ?t85 ?t86 ?t87 ?t88 ?t89 ?t90
   case t0=>k_is
   case t1=>k_is
   case t2=>k_is
   case t3=>k_is
   case t4=>k_is
   case t5=>k_is
   case t6=>k_is
   case t7=>k_is
   case t8=>k_is
   case t9=>k_is
   case t10=>k_is
   case t11=>k_is
   case t12=>k_is
   case t13=>k_is
   case t14=>k_is
   case t15=>k_is
   case t16=>k_is
   (case t17=>k_is);(case r17=>exact⟨_,rfl⟩)
   (case t18=>k_is);(case r18=>exact⟨_,rfl⟩)
   (case t19=>k_is);(case r19=>exact⟨_,rfl⟩)
   (case t20=>k_is);(case r20=>exact⟨_,rfl⟩)
   (case t21=>k_is);(case r21=>exact⟨_,rfl⟩)
   (case t22=>k_is);(case r22=>exact⟨_,rfl⟩)
   (case t23=>k_is);(case r23=>exact⟨_,rfl⟩)
   (case t24=>k_is);(case r24=>exact⟨_,rfl⟩)
   (case t25=>k_is);(case r25=>exact⟨_,rfl⟩)
   (case t26=>k_is);(case r26=>exact⟨_,rfl⟩)
   (case t27=>k_is);(case r27=>exact⟨_,rfl⟩)
   (case t28=>k_is);(case r28=>exact⟨_,rfl⟩)
   case t41=>k_is
   case t42=>k_is
   case t43=>k_is
   case t44=>k_is
   case t45=>k_is
   case t46=>k_is
   case t47=>k_is
   case t48=>k_is
   case t49=>k_is
   case t50=>k_is
   (case t51a=>k_is);(case t51b=>k_is);(case t51c=>k_is)
   (case t52a=>k_is);(case t52b=>k_is);(case t52c=>k_is);(case t52d=>k_is);(case t52e=>k_is);(case t52f=>k_is)
   case t53=>k_is
   case t54=>kit_is
   case t55=>kit_is
   case t56=>kit_is
   case t57=>kit_is
   case t58=>kit_is
   case t59=>kit_is
   case t60=>kit_is
   case t61=>kit_is
   case t62=>kit_is
   case t63=>kit_is
   case t64=>k_exc
   (case t65a=>k_is);(case t65b=>k_is);(case t65c=>k_is);(case t65d=>k_is);(case t65e=>k_is);(case t65f=>k_is)
   case t66=>k_is
   case t67=>kit_is
   case t68=>kit_is
   case t69=>kit_is
   case t70=>kit_is
   case t71=>kit_is
   case t72=>kit_is
   case t73=>kit_is
   case t74=>kit_is
   case t75=>kit_is
   case t76=>kit_is
   case t77=>k_exc
   (case t78a=>k_is);(case t78b=>k_is);(case t78c=>k_is);(case t78d=>k_is);(case t78e=>k_is);(case t78f=>k_is)
   case t79=>k_is
   case t80=>kit_is
   case t81=>kit_is
   case t82=>kit_is
   case t83=>kit_is
   case t84=>kit_is
   case t85=>kit_is
   case t86=>kit_is
   case t87=>kit_is
   case t88=>kit_is
   case t89=>kit_is
   case t90=>k_exc
  obtain⟨c_tree_holds_by,t_tree_holds_by,d_tree_holds_by,n_tree_holds_by⟩:∃c_tree_holds_by t_tree_holds_by,L2.DfnC (L2.KOf KX) mg "tree_holds_by" K51.s_tree_holds_by ["saying","frame","tree"] c_tree_holds_by t_tree_holds_by/\(L2.KOf KX).lookup t_tree_holds_by=none:=by
   dsimp only[L2.KOf];refine'⟨_,_,L2.dfnc_mk KX G ?a0 ?l0 ?c0 ?k0 (L2.kcode_mk ?m0 ?x0 ?y0 ?z0 ?u0 ?v0 ?w0) (λ_ _ _ _ _ _=>L2.fit3 λ_ _ _=>rfl),?n0⟩
   (case a0=>k_is);(case l0=>k_is);(case c0=>k_is);(case k0=>k_is);(case m0=>k_is);(case x0=>rfl);(case y0=>rfl);(case z0=>rfl);(case u0=>rfl);(case v0=>rfl);(case w0=>decide)
   case n0=>first|k_is|kernel_rfl
  have L:∃fd:FuncData,(∀(s:Shared) (v:Value),BindsTo s fd ⟨[v],[]⟩ [("_law_script",v)])/\L2.Fun (L2.KOf KX) "law" "law" K51.s_law fa fd:=by
   dsimp only[L2.KOf];refine' L2.law_mk KX G hmg ?a ?l ?c ?k ?b
   (case a=>k_is);(case l=>k_is);(case c=>k_is);(case k=>k_is)
   exactλs u =>.of_eq rfl
  obtain⟨fd,hb,F⟩:=L;exact⟨fd,[(t_tree_holds_by,K51.qs_tree_holds_by)],hb,L2.ts_all (List.forall_mem_cons.mpr ⟨⟨d_tree_holds_by.tab (by decide+kernel),n_tree_holds_by⟩,λ_ z=>nomatch z⟩),λbase _ _ kb=>K51.all T (by exact_mod_cast 0) (by exact_mod_cast 0) (by exact_mod_cast 0) (by exact_mod_cast 0) (by exact_mod_cast 0) (by exact_mod_cast 0) (by exact_mod_cast 0) (by exact_mod_cast 0) (by exact_mod_cast 0) (by exact_mod_cast 0) (by exact_mod_cast 0) (by exact_mod_cast 0) (by exact_mod_cast 0) (by exact_mod_cast 0) (by exact_mod_cast 0) (by exact_mod_cast 0) (by exact_mod_cast 0) (by exact_mod_cast 0) (by exact_mod_cast 0) (by exact_mod_cast 0) (by exact_mod_cast 0) (by exact_mod_cast 0) (by exact_mod_cast 0) (by exact_mod_cast 0) (by exact_mod_cast 0) (by exact_mod_cast 0) (by exact_mod_cast 0) (by exact_mod_cast 0) d_Standings___init__ d_Standings_numbered d_Standings_part_of d_Standings_of_and d_Standings_of_some_set d_Standings_of_some_place d_Standings_of_nothing d_Standings_above d_Standings_above_unsettled d_Standings_above_sets d_Standings_above_places d_Standings_with_whole (by exact_mod_cast 0) (by exact_mod_cast 0) (by exact_mod_cast 0) d_tree_holds_by (by exact_mod_cast 0) (by exact_mod_cast 0) (by exact_mod_cast 0) (by exact_mod_cast 0) (by exact_mod_cast 0) (by exact_mod_cast 0) (by exact_mod_cast 0) (by exact_mod_cast 0) (by exact_mod_cast 0) (by exact_mod_cast 0) (by exact_mod_cast 0) (by exact_mod_cast 0) (by exact_mod_cast 0)  kb F⟩
