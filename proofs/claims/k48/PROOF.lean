import PyProof.Rows.All
import Wide.All
import OpenK.AllK
import Wide.FinOn
import Lean
import PyProof.EqAt
import PyProof.EqKinds
import PyProof.TupleCall
import PyProof.CodeObjX
import PyProof.NeKinds
import PyProof.ZipIter
import PyProof.EnumStmt
import PyProof.EnumMake
import KE.KDictOf
import PyProof.AttrMissHeap
import PyProof.Rows.SeqMore2
import PyProof.Rows.MinMaxN
import PyProof.DefMake
import PyProof.DefStmt
import PyProof.RaisesMany
import PyProof.ExcClass2
import PyProof.Rows.Own
import PyProof.Rows.CatchOwn
import PyProof.RulesDel
import PyProof.ListNew
import KE.KIsAll
import PyProof.IsiH_list
import PyProof.ExcArgsOwn
import OpenK.KOwn
import PyProof.SeqRoads
import PySem.SetOps
import PyProof.DictFindH
import PyProof.ExcBaseAll.ValueError
import PyProof.CallType
import PyProof.FactsAll.list_2
import KE.KDictList
import PyProof.AutoListH
import PyProof.FString5
import PyProof.ListMulRoad
import PyProof.FactsAll.tuple_2
import PyProof.Rows.Range3
import PySem.Challenge.RW_setsays_k48_tree_dropped
open List renaming length_map → y00, getElem?_eq_getElem → y01, getElem?_map → y02, getD_eq_getElem?_getD → y03, getElem?_eq_some_iff → y04, size_toArray → y06, mem_singleton → y07, mem_cons_of_mem → y08, mem_map → y09, mem_of_getElem? → y0a, length_append → y0c, mem_cons_self → y0d, getElem?_eq_none → y0e, mem_cons → y0f, mem_append → y0i, getElem?_range → y0j, mem_range → y0k, getElem?_append_left → y0o, getElem?_append_right → y0p, getElem_mem → y0q, take_of_length_le → y0r, append_nil → y0s, length_range → y0t, map_cons → y0u, map_map → y0v, length_take → y0y, length_cons → y10, mem_append_right → y11, append_assoc → y12, map_append → y15, ext_getElem? → y16, length_singleton → y17, lookup_cons → y19, map_congr_left → y1d, take_add_one → y1e, getElem_of_mem → y1g, nodup_cons → y1h, mem_flatMap → y1m, all_eq_true → y1n, flatMap_cons → y1o, pairwise_append → y1p, flatMap_append → y1r, filterMap_cons → y1s, set_cons_zero → y1v, getElem?_cons_succ → y1w, mem_append_left → y1x, not_mem_nil → y1y, pairwise_lt_range → y1z, pairwise_map → y20, length_replicate → y23, any_eq_true → y24, replicate_succ → y26, find?_cons → y27, length_drop → y2b, take_append_drop → y2c, mem_of_mem_take → y2g, length_nil → y2h, idxOf_lt_length_iff → y2i, pairwise_cons → y2l, of_mem_zip → y2n, map_nil → y2o, nodup_nil → y2r, range_succ → y2s, getElem?_replicate → y2t, getElem?_set_self → y2u, take_zero → y2v, mem_iff_getElem? → y2w, flatMap_nil → y2y, cons_append → y2z, mem_of_mem_drop → y30, mem_filter → y32, idxOf_cons → y33, forIn_cons → y34, getElem_idxOf → y36, nodup_append → y3a, length_erase_of_mem → y3b, getElem?_take_of_lt → y3c, flatten_cons → y3d, eq_of_mem_replicate → y3e, length_pos_of_mem → y3f, getElem_cons_drop → y3g, getElem?_set_ne → y3o, mem_filterMap → y3s, eraseIdx_eq_take_drop_succ → y3t, perm_middle → y3z, nodup_range → y40, map_flatMap → y41, length_eraseIdx_of_lt → y42, ne_nil_of_length_pos → y44, forIn_nil → y45, sum_cons → y49, getElem?_cons_zero → y4a, any_cons → y4b, range_succ_eq_map → y4c, map_eq_append_iff → y4d, drop_eq_nil_of_le → y4e, all_map → y4g
open Nat renaming le_refl → y05, lt_of_lt_of_le → y0h, ne_of_lt → y0n, le_trans → y13, lt_irrefl → y1a, le_of_not_lt → y1c, ne_of_gt → y1j, zero_le → y1k, le_of_lt → y1l, lt_trichotomy → y1t, lt_trans → y22, lt_succ_of_lt → y25, pow_le_pow_right → y2q, le_add_right → y2x, not_lt_zero → y31, lt_succ_of_le → y39, pow_succ → y3i, min_eq_left → y3j, max_eq_left → y3k, lt_succ_iff → y3l, le_of_eq → y3m, mod_lt → y3n, one_le_two_pow → y3q, lt_of_le_of_lt → y3r, succ_pos → y3v, sub_self → y3w, lt_asymm → y3x, lt_succ_self → y3y, add_assoc → y48, succ_mul → y4f
open PySem.Heap renaming get?_push_of_some → y0b, lt_size → y0g, get?_push_size → y0m, size_push → y1i, get?_update_other → y29, get?_update_self → y2d
open Bool renaming false_ne_true → y0l, false_eq_true → y0w, and_eq_true → y18, not_true → y2e, true_and → y2k, eq_iff_iff → y35, and_false → y3p, not_false → y46, false_and → y47
open Array renaming length_toList → y0x, getElem?_eq_getElem → y14, getElem?_toList → y1b, getD_eq_getD_getElem? → y28, getElem?_eq_some_iff → y2a, forIn_toList → y2f, getElem?_eq_none → y3h, toList_push → y3u
open Option renaming map_eq_some_iff → y0z, toList_some → y1f, getD_some → y1q, map_some → y21, isSome_map → y37, isSome_iff_exists → y38
open Int renaming toNat_natCast → y1u, emod_nonneg → y2j, emod_lt_of_pos → y2m, zero_add → y2p, fdiv_eq_ediv_of_nonneg → y43
open PySem PySem.Spec PyProof.Rows
open PySem.W (Frag)
abbrev Z0 := Value → Shared → Prop
abbrev Z1 := Str → Option Value
abbrev Z2 := List (Addr × Obj)
abbrev Z3 := List (Pos × Str)
abbrev Z4 := List (Str × Addr)
abbrev Z6 := List (Nat × Str)
abbrev Z8 := Array (Option Value)
abbrev Z9 := Option Value → Shared → Prop
set_option hygiene false in
local macro_rules
| `(tactic| ac_rfl) => `(tactic| refine ⟨v, mixL cl H H2, J.os, J.bare, ⟨fun b o e n hf hx => un.keep b o e (by rw [d1 b (nc b n)]; exact n) hf hx, fun b o e n hf hx => un.slot b o e (by rw [d1 b (nc b n)]; exact n) hf hx, fun b o e n hx => by rw [m1 b (nc b n)]; exact un.free b o e (by rw [d1 b (nc b n)]; exact n) hx, un.there, fun b xs e => ?_, fun b o a e => ?_, fun b qs ps e => ?_⟩, fun b u e => ?_, rv, q fun b ⟨x, z⟩ => let ⟨_, _, _, z2⟩ := cellK x b z; z2⟩)
set_option hygiene false in
local macro_rules
| `(tactic| infer_instance) => `(tactic| intro pins s σ H xs us Q I r h)
namespace SM
structure Mc where
 w:Nat
 ways:List (List Nat)
 ends:List Bool
theorem zsy (n:Nat):(2:Int) ^ n=((2 ^ n:Nat):Int):=by
 induction n with
 | zero=>rfl
 | succ n ih=>rw [Int.pow_succ,y3i,ih];omega
theorem zbu {w:Nat} (h:w ≤ 4):1 ≤ 2 ^ w∧2 ^ w ≤ 16:=by
 have:w=0∨w=1∨w=2∨w=3∨w=4:=by omega
 rcases this with rfl | rfl | rfl | rfl | rfl <;> decide
def ix (xs:List Nat) (i:Nat):Nat:=xs.getD i 0
theorem zd9 {xs:List Nat} {i:Nat} (h:i < xs.length):xs[i]?=some (ix xs i):=by
 unfold ix
 rw [y03,y01 h,y1q]
theorem zgq {xs:List Nat} {i v:Nat} (h:xs[i]?=some v):ix xs i=v:=by unfold ix;rw [y03,h];rfl
theorem zca {xs:List Nat} {i:Nat} (h:i < xs.length):ix xs i ∈ xs:=y0a (zd9 h)
theorem zth {xs:List Nat} {v:Nat} (h:v ∈ xs):∃ i,i < xs.length∧ix xs i=v:=by
 obtain ⟨i,hi,e⟩:=y1g h
 exact ⟨i,hi,zgq (by rw [y01 hi,e])⟩
theorem zh1 {xs ys:List Nat} {i:Nat} (h:i < xs.length):ix (xs ++ ys) i=ix xs i:=by
 unfold ix;rw [y03,y03,y0o h]
theorem zr2 {xs:List Nat} (hn:xs.Nodup) {i j:Nat} (hi:i < xs.length) (hj:j < xs.length) (e:ix xs i=ix xs j):i=j:=by
 have h1:=zd9 hi
 rw [e,← zd9 hj] at h1
 exact (List.getElem?_inj hi hn).mp h1
theorem zb4:∀ {xs:List Nat} {n:Nat},xs.Nodup→(∀ x ∈ xs,x < n)→xs.length ≤ n
 | xs,0,_,h=>by cases xs with | nil=>exact y05 _ | cons x r=>exact absurd (h x y0d) (y31 _)
 | xs,n + 1,hn,h=>by
  have h1:(xs.erase n).length ≤ n:=zb4 (hn.erase n) fun x hx=>by
   have h2:=h x (List.mem_of_mem_erase hx)
   have h3:x ≠ n:=fun e=>by rw [e] at hx;exact (List.Nodup.not_mem_erase hn) hx
   omega
  by_cases hm:n ∈ xs
  ·have h2:=y3b hm
   have h3:=y3f hm
   omega
  ·rw [List.erase_of_not_mem hm] at h1;omega
structure Srt (ns:List Nat):Prop where
 grow:∀ i,i < ns.length→∀ b,b < ix ns i→∃ j,j < i∧ix ns j=b
theorem Srt.le {ns:List Nat} (h:Srt ns) (i:Nat) (hi:i < ns.length):ix ns i ≤ i:=by
 induction i using Nat.strongRecOn with
 | _ i ih =>
  by_cases h0:ix ns i=0
  ·omega
  ·obtain ⟨j,hj,e⟩:=h.grow i hi (ix ns i - 1) (by omega)
   have:=ih j hj (by omega)
   omega
theorem zrl {s f:List Nat} (hs:Srt s) (hf:Srt f) (hl:s.length=f.length) (ref:∀ i j,i < s.length→j < s.length→ix f i=ix f j→ix s i=ix s j):∀ v i,i < s.length→ix s i=v→v ≤ ix f i
 | 0,_,_,_=>y1k _
 | v + 1,i,hi,e=>by
  have ih:=zrl hs hf hl ref v
  refine y1c fun hlt=>?_
  have no:∀ j,j < i→ix s j=v→False:=fun j=>by
   induction j using Nat.strongRecOn with
   | _ j ij =>
    intro hj ej
    have h1:=ih j (by omega) ej
    have h2:ix f j ≠ ix f i:=fun z=>by have:=ref j i (by omega) hi z;omega
    obtain ⟨k,hk,ek⟩:=hf.grow j (by omega) (ix f i) (by omega)
    have h3:=ref k i (by omega) hi ek
    obtain ⟨j',hj',ej'⟩:=hs.grow k (by omega) v (by omega)
    exact ij j' (by omega) (by omega) ej'
  obtain ⟨j,hj,ej⟩:=hs.grow i hi v (by omega)
  exact no j hj ej
theorem zrk:∀ {s f:List Nat},s.length=f.length→(∀ i,i < s.length→ix s i ≤ ix f i)→s.sum ≤ f.sum∧(s.sum=f.sum→s=f)
 | [],[],_,_=>⟨y05 _,fun _=>rfl⟩
 | [],_ :: _,h,_=>by simp at h
 | _ :: _,[],h,_=>by simp at h
 | x :: s,y :: f,h,g=>by
  have h1:=g 0 (by simp)
  have h2:x ≤ y:=h1
  obtain ⟨h3,h4⟩:=zrk (s:=s) (f:=f) (by simpa using h) fun i hi=>by
   have:=g (i + 1) (by simpa using hi)
   simpa [ix] using this
  refine ⟨by simp only [y49];omega,fun e=>?_⟩
  simp only [y49] at e
  rw [show x=y by omega,h4 (by omega)]
theorem zhg:∀ {s:List Nat} {n:Nat},(∀ x ∈ s,x ≤ n)→s.sum ≤ s.length * n
 | [],n,_=>by simp
 | x :: s,n,h=>by
  have h1:=h x y0d
  have h2:=zhg (s:=s) (n:=n) fun y hy=>h y (y08 _ hy)
  simp only [y49,y10,y4f]
  omega
structure Firsts (ns fs:List Nat):Prop where
 lt:∀ s,s < fs.length→ix fs s < ns.length
 is:∀ s,s < fs.length→ix ns (ix fs s)=s
 le:∀ s j,s < fs.length→j < ns.length→ix ns j=s→ix fs s ≤ j
 all:∀ i,i < ns.length→ix ns i < fs.length
structure Num {α:Type} (marks:List α) (ns:List Nat):Prop where
 len:ns.length=marks.length
 eq:∀ i j a b,marks[i]?=some a→marks[j]?=some b→(ix ns i=ix ns j ↔ a=b)
 srt:Srt ns
section
variable {α:Type} [DecidableEq α]
def news:List α→List α→List α
 | acc,[]=>acc
 | acc,x :: r=>news (if x ∈ acc then acc else acc ++ [x]) r
theorem ze5:∀ (xs acc:List α) (x:α),news acc (xs ++ [x])=if x ∈ news acc xs then news acc xs else news acc xs ++ [x]
 | [],acc,x=>rfl
 | y :: r,acc,x=>ze5 r _ x
theorem za0:∀ (xs acc:List α) (x:α),x ∈ news acc xs ↔ x ∈ acc∨x ∈ xs
 | [],acc,x=>by simp [news]
 | y :: r,acc,x=>by
  unfold news
  rw [za0 r _ x]
  by_cases h:y ∈ acc
  ·rw [if_pos h]
   simp only [y0f]
   refine ⟨fun z=>z.imp id .inr,fun z=>z.elim .inl fun z=>z.elim (fun e=>.inl (e ▸ h)) .inr⟩
  ·rw [if_neg h]
   simp only [y0i,y0f,y1y,or_false]
   exact or_assoc
theorem ze6:∀ (xs acc:List α),acc.Nodup→(news acc xs).Nodup
 | [],acc,h=>h
 | y :: r,acc,h=>by
  unfold news
  refine ze6 r _ ?_
  by_cases hy:y ∈ acc
  ·rw [if_pos hy];exact h
  ·rw [if_neg hy]
   refine y3a.mpr ⟨h,by simp,fun a ha b hb=>?_⟩
   rw [y07.mp hb]
   intro e;exact hy (e ▸ ha)
theorem zcz:∀ (xs acc:List α),(news acc xs).length ≤ acc.length + xs.length
 | [],acc=>by simp [news]
 | y :: r,acc=>by
  unfold news
  have:=zcz r (if y ∈ acc then acc else acc ++ [y])
  by_cases hy:y ∈ acc
  ·rw [if_pos hy] at this ⊢;simp only [y10];omega
  ·rw [if_neg hy] at this ⊢;simp only [y0c,y10,y2h] at this ⊢;omega
theorem zbx:∀ (xs acc:List α),∃ t,news acc xs=acc ++ t
 | [],acc=>⟨[],by simp [news]⟩
 | y :: r,acc=>by
  unfold news
  obtain ⟨t,e⟩:=zbx r (if y ∈ acc then acc else acc ++ [y])
  by_cases hy:y ∈ acc
  ·rw [if_pos hy] at e ⊢;exact ⟨t,e⟩
  ·rw [if_neg hy] at e ⊢;exact ⟨[y] ++ t,by rw [e,y12]⟩
theorem zdn:∀ (xs ys acc:List α),news acc (xs ++ ys)=news (news acc xs) ys
 | [],ys,acc=>rfl
 | x :: r,ys,acc=>zdn r ys _
def nOf (ds:List α) (x:α):Nat:=ds.idxOf x
def nxt (ds:List α) (x:α):List α:=if x ∈ ds then ds else ds ++ [x]
theorem zkh {ds:List α} {x:α} (h:x ∈ ds):nxt ds x=ds:=if_pos h
theorem zgm {ds:List α} {x:α} (h:¬ x ∈ ds):nxt ds x=ds ++ [x]:=if_neg h
theorem zqq (xs:List α) (x:α):news [] (xs ++ [x])=nxt (news [] xs) x:=ze5 xs [] x
theorem zhx {xs:List α} {i:Nat} {x:α} (h:xs[i]?=some x):news [] (xs.take (i + 1))=nxt (news [] (xs.take i)) x:=by rw [y1e,h,y1f,zqq]
theorem zfc {xs ys:List α} {x:α} (h:x ∈ xs):(xs ++ ys).idxOf x=xs.idxOf x:=by rw [List.idxOf_append,if_pos h]
theorem zrt (marks:List α):Num marks (marks.map (nOf (news [] marks))):=by
 show Num marks (marks.map fun x=>(news [] marks).idxOf x)
 have at':∀ {i:Nat} {a:α},marks[i]?=some a→ix (marks.map fun x=>(news [] marks).idxOf x) i=(news [] marks).idxOf a:=fun h=>zgq (by rw [y02,h];rfl)
 have mem:∀ {a:α},a ∈ marks→a ∈ news [] marks:=fun h=>(za0 marks [] _).mpr (.inr h)
 refine ⟨y00 _,fun i j a b ha hb=>?_,⟨fun i hi b hb=>?_⟩⟩
 ·rw [at' ha,at' hb]
  refine ⟨fun e=>?_,fun e=>by rw [e]⟩
  have h1:=y2i.mpr (mem (y0a ha))
  have h2:=y2i.mpr (mem (y0a hb))
  have e1:=y36 h1
  have e2:=y36 h2
  rw [← e1,← e2]
  congr 1
 ·rw [y00] at hi
  have hx:marks[i]?=some marks[i]:=y01 hi
  rw [at' hx] at hb
  have em:marks=marks.take i ++ marks[i] :: marks.drop (i + 1):=by rw [← List.drop_eq_getElem_cons hi,y2c]
  have en:news [] marks=news (if marks[i] ∈ news [] (marks.take i) then news [] (marks.take i) else news [] (marks.take i) ++ [marks[i]]) (marks.drop (i + 1)):=by
   conv=>lhs;rw [em]
   rw [zdn];rfl
  obtain ⟨t,et⟩:=zbx (marks.drop (i + 1)) (if marks[i] ∈ news [] (marks.take i) then news [] (marks.take i) else news [] (marks.take i) ++ [marks[i]])
  rw [← en] at et
  have hbl:b < (news [] (marks.take i)).length:=by
   by_cases c:marks[i] ∈ news [] (marks.take i)
   ·rw [if_pos c] at et
    rw [et,zfc c] at hb
    have:=y2i.mpr c
    omega
   ·rw [if_neg c] at et
    rw [et,zfc (by simp),List.idxOf_append,if_neg c] at hb
    simp at hb
    omega
  have hpre:∃ t',news [] marks=news [] (marks.take i) ++ t':=by
   by_cases c:marks[i] ∈ news [] (marks.take i)
   ·rw [if_pos c] at et;exact ⟨t,et⟩
   ·rw [if_neg c] at et;exact ⟨[marks[i]] ++ t,by rw [et,y12]⟩
  obtain ⟨t',et'⟩:=hpre
  have hm:(news [] (marks.take i))[b] ∈ marks.take i:=by
   rcases (za0 (marks.take i) [] _).mp (y0q hbl) with h | h
   ·exact nomatch h
   ·exact h
  obtain ⟨j,hj,ej⟩:=y1g hm
  rw [y0y] at hj
  rw [List.getElem_take] at ej
  refine ⟨j,by omega,?_⟩
  have hj':marks[j]?=some (news [] (marks.take i))[b]:=by rw [y01 (by omega),ej]
  rw [at' hj',et',zfc (y0q hbl)]
  exact List.Nodup.idxOf_getElem (ze6 _ _ y2r) b hbl
end
theorem zr4:∀ (ns:List Nat) (s j:Nat),ns[j]?=some s→ns.idxOf s ≤ j
 | [],_,_,h=>by simp at h
 | x :: ns,s,0,h=>by
  simp only [y4a,Option.some.injEq] at h
  subst h
  simp
 | x :: ns,s,j + 1,h=>by
  simp only [y1w] at h
  have ih:=zr4 ns s j h
  rw [y33]
  cases hx:x == s with
  | true=>simp
  | false=>simp;omega
theorem zf5 {ns:List Nat} {s:Nat} (h:s ∈ ns):ns.idxOf s < ns.length∧ix ns (ns.idxOf s)=s:=by
 have h1:=y2i.mpr h
 exact ⟨h1,zgq (by rw [y01 h1,y36 h1])⟩
theorem zh7 {ns:List Nat} {M:Nat} (S:Srt ns) (hM:M ∈ ns) (hle:∀ a ∈ ns,a ≤ M):Firsts ns ((List.range (M + 1)).map fun s=>ns.idxOf s)∧∀ s,s ≤ M→s ∈ ns:=by
 have mem:∀ s,s ≤ M→s ∈ ns:=fun s hs=>by
  by_cases e:s=M
  ·rw [e];exact hM
  ·obtain ⟨i,hi,ei⟩:=zth hM
   obtain ⟨j,hj,ej⟩:=S.grow i hi s (by omega)
   rw [← ej]
   exact zca (by omega)
 have at':∀ {s:Nat},s < M + 1→ix ((List.range (M + 1)).map fun s=>ns.idxOf s) s=ns.idxOf s:=fun {s} h=>zgq (by rw [y02,y0j h];rfl)
 have len:((List.range (M + 1)).map fun s=>ns.idxOf s).length=M + 1:=by simp
 refine ⟨⟨fun s hs=>?_,fun s hs=>?_,fun s j hs hj e=>?_,fun i hi=>?_⟩,mem⟩
 ·rw [len] at hs;rw [at' hs];exact (zf5 (mem s (by omega))).1
 ·rw [len] at hs;rw [at' hs];exact (zf5 (mem s (by omega))).2
 ·rw [len] at hs;rw [at' hs]
  exact zr4 ns s j (by rw [zd9 hj,e])
 ·rw [len]
  have:=hle _ (zca hi)
  omega
end SM
set_option Elab.async false
set_option maxRecDepth 100000
namespace SM
structure Thg where
 w:Nat
 step:List Nat→List (List Nat)
 fin:List Nat→Bool
section
variable {T:Thg} {G:List Nat→Prop} {first:List Nat} {fs:List (List Nat)}
theorem zbb {α:Type} [DecidableEq α]:∀ {xs:List α} {x:α},x ∈ xs→xs[nOf xs x]?=some x
 | y :: ys,x,h=>by
  by_cases e:y=x
  ·subst e;simp [nOf]
  ·have h':x ∈ ys:=by
    rcases y0f.mp h with z | z
    ·exact absurd z.symm e
    ·exact z
   show (y :: ys)[List.idxOf x (y :: ys)]?=some x
   rw [y33,show (y == x)=false by simp [e],cond_false,y1w]
   exact zbb h'
end
theorem news_snoc' {α:Type} [DecidableEq α] (acc xs:List α) (x:α):news acc (xs ++ [x])=nxt (news acc xs) x:=ze5 xs acc x
theorem zcy {α:Type} [DecidableEq α] {acc xs:List α} {i:Nat} {x:α} (h:xs[i]?=some x):news acc (xs.take (i + 1))=nxt (news acc (xs.take i)) x:=by rw [y1e,h,y1f,news_snoc']
theorem zdm {α:Type} [DecidableEq α]:∀ {xs ys:List α},xs.Nodup→(∀ x ∈ xs,x ∈ ys)→xs.length ≤ ys.length
 | [],_,_,_=>y1k _
 | x :: xs,ys,hn,h=>by
  rw [y1h] at hn
  have hx:=h x y0d
  have:=zdm (ys:=ys.erase x) hn.2 fun y hy=>(List.mem_erase_of_ne (fun e=>hn.1 (by rw [← e];exact hy))).mpr (h y (y08 _ hy))
  rw [y3b hx] at this
  have:=y3f hx
  rw [y10];omega
structure Tm where
 w:Nat
 ways:List (List (List Nat))
 ends:List Bool
abbrev Tm.n (m:Tm):Nat:=m.ends.length
structure Tm.Ok (m:Tm):Prop where
 wid:m.w ≤ 3
 pos:0 < m.ends.length
 few:m.ends.length ≤ 30
 len:m.ways.length=2 ^ m.w
 tab:∀ t ∈ m.ways,t.length=m.ends.length
 line:∀ t ∈ m.ways,∀ r ∈ t,r.length=m.ends.length
 room:∀ t ∈ m.ways,∀ r ∈ t,∀ x ∈ r,x < m.ends.length
def Tm.go (m:Tm) (l a b:Nat):Nat:=((m.ways.getD l []).getD a []).getD b 0
def Tm.fin (m:Tm) (r:Nat):Bool:=m.ends.getD r false
theorem Tm.Ok.at {m:Tm} (ok:m.Ok) {l a b:Nat} (hl:l < 2 ^ m.w) (ha:a < m.n) (hb:b < m.n):∃ t r,m.ways[l]?=some t∧t[a]?=some r∧r[b]?=some (m.go l a b)∧m.go l a b < m.n:=by
 have h1:l < m.ways.length:=by rw [ok.len];exact hl
 have e1:m.ways[l]?=some m.ways[l]:=y01 h1
 have m1:=y0q h1
 have h2:a < m.ways[l].length:=by rw [ok.tab _ m1];exact ha
 have e2:m.ways[l][a]?=some m.ways[l][a]:=y01 h2
 have m2:=y0q h2
 have h3:b < m.ways[l][a].length:=by rw [ok.line _ m1 _ m2];exact hb
 have e3:m.ways[l][a][b]?=some m.ways[l][a][b]:=y01 h3
 have eg:m.go l a b=m.ways[l][a][b]:=by simp only [Tm.go,y03,e1,y1q,e2,e3]
 exact ⟨_,_,e1,e2,by rw [eg];exact e3,by rw [eg];exact ok.room _ m1 _ m2 _ (y0q h3)⟩
theorem Tm.Ok.go_lt {m:Tm} (ok:m.Ok) {l a b:Nat} (hl:l < 2 ^ m.w) (ha:a < m.n) (hb:b < m.n):m.go l a b < m.n:=let ⟨_,_,_,_,_,h⟩:=ok.at hl ha hb;h
theorem Tm.fin_at {m:Tm} {r:Nat} (hr:r < m.ends.length):m.ends[r]?=some (m.fin r):=by
 unfold Tm.fin
 rw [y03,y01 hr,y1q]
structure TTh where
 w:Nat
 com:List Nat→List Nat→List (List Nat)
 fin:List Nat→Bool
inductive RchT (T:TTh) (t0:List Nat):List Nat→Prop where
 | first:RchT T t0 t0
 | next {a b u:List Nat}:RchT T t0 a→RchT T t0 b→u ∈ T.com a b→RchT T t0 u
structure TAll (T:TTh) (t0:List Nat) (fs:List (List Nat)):Prop where
 nd:fs.Nodup
 hd:fs[0]?=some t0
 come:∀ t ∈ fs,RchT T t0 t
 clo:∀ a ∈ fs,∀ b ∈ fs,∀ u ∈ T.com a b,u ∈ fs
structure TSome (T:TTh) (t0:List Nat) (fs:List (List Nat)):Prop where
 nd:fs.Nodup
 come:∀ t ∈ fs,RchT T t0 t
variable {T:TTh} {t0:List Nat}
theorem TAll.mem {fs:List (List Nat)} (h:TAll T t0 fs) {t:List Nat} (r:RchT T t0 t):t ∈ fs:=by
 induction r with
 | first=>exact y0a h.hd
 | next _ _ hu iha ihb=>exact h.clo _ iha _ ihb _ hu
theorem RchT.all {G:List Nat→Prop} (h0:G t0) (hs:∀ a b,G a→G b→∀ u ∈ T.com a b,G u) {t:List Nat} (r:RchT T t0 t):G t:=by
 induction r with
 | first=>exact h0
 | next _ _ hu iha ihb=>exact hs _ _ iha ihb _ hu
def xplT (T:TTh) (fs:List (List Nat)):Tm:=⟨T.w,(List.range (2 ^ T.w)).map fun l=>fs.map fun a=>fs.map fun b=>nOf fs ((T.com a b).getD l []),fs.map T.fin⟩
theorem zma {fs:List (List Nat)} (hw:T.w ≤ 3) (h:TAll T t0 fs) (hl:fs.length ≤ 30) (hs:∀ a ∈ fs,∀ b ∈ fs,(T.com a b).length=2 ^ T.w):(xplT T fs).Ok:=by
 have h0:0 < fs.length:=(y04.mp h.hd).1
 refine { wid:=hw,pos:=?_,few:=?_,len:=?_,tab:=?_,line:=?_,room:=?_ }
 ·simpa [xplT] using h0
 ·simpa [xplT] using hl
 ·simp [xplT]
 ·intro t ht
  obtain ⟨l,_,rfl⟩:=y09.mp ht
  simp [xplT]
 ·intro t ht r hr
  obtain ⟨l,_,rfl⟩:=y09.mp ht
  obtain ⟨a,_,rfl⟩:=y09.mp hr
  simp [xplT]
 ·intro t ht r hr x hx
  obtain ⟨l,hl',rfl⟩:=y09.mp ht
  obtain ⟨a,ha,rfl⟩:=y09.mp hr
  obtain ⟨b,hb,rfl⟩:=y09.mp hx
  have hll:l < (T.com a b).length:=by rw [hs a ha b hb];exact y0k.mp hl'
  have hm:(T.com a b).getD l [] ∈ fs:=by
   rw [y03,y01 hll]
   exact h.clo a ha b hb _ (y0q hll)
  show nOf fs _ < (fs.map T.fin).length
  rw [y00]
  exact (y04.mp (zbb hm)).1
theorem zin {fs:List (List Nat)} (h:TAll T t0 fs) {i j l:Nat} {a b:List Nat} (ea:fs[i]?=some a) (eb:fs[j]?=some b) (hl:l < 2 ^ T.w):(xplT T fs).go l i j=nOf fs ((T.com a b).getD l []):=by
 show ((((List.range (2 ^ T.w)).map fun l=>fs.map fun a=>fs.map fun b=>nOf fs ((T.com a b).getD l [])).getD l []).getD i []).getD j 0=_
 simp only [y03,y02,y0j hl,ea,eb,y21,y1q]
theorem zph {fs:List (List Nat)} {i:Nat} {a:List Nat} (ea:fs[i]?=some a):(xplT T fs).fin i=T.fin a:=by
 show (fs.map T.fin).getD i false=_
 rw [y03,y02,ea]
 rfl
def ups (m:Nat):List (Nat × Nat):=((List.range m).map fun i=>(i,m)) ++ (List.range (m + 1)).map fun j=>(m,j)
def alls (n:Nat):List (Nat × Nat):=(List.range n).flatMap ups
theorem ups_mem {m:Nat} {p:Nat × Nat}:p ∈ ups m ↔ (p.1 ≤ m∧p.2 ≤ m∧(p.1=m∨p.2=m)):=by
 obtain ⟨i,j⟩:=p
 simp only [ups,y0i,y09,y0k,Prod.mk.injEq]
 constructor
 ·rintro (⟨a,h,rfl,rfl⟩ | ⟨a,h,rfl,rfl⟩) <;> omega
 ·rintro ⟨h1,h2,h3⟩
  by_cases h:i=m
  ·exact .inr ⟨j,by omega,h.symm,rfl⟩
  ·exact .inl ⟨i,by omega,rfl,by omega⟩
theorem alls_mem {n:Nat} {p:Nat × Nat}:p ∈ alls n ↔ p.1 < n∧p.2 < n:=by
 simp only [alls,y1m,y0k,ups_mem]
 constructor
 ·rintro ⟨m,h,h1,h2,h3⟩;omega
 ·rintro ⟨h1,h2⟩
  exact ⟨max p.1 p.2,by omega,by omega,by omega,by omega⟩
theorem zcd (n:Nat):alls (n + 1)=alls n ++ ups n:=by simp [alls,y2s,y1r]
theorem zrh {k n:Nat} (h:k ≤ n):∃ t,alls n=alls k ++ t:=by
 induction n with
 | zero=>exact ⟨[],by rw [show k=0 by omega];simp⟩
 | succ n ih =>
  by_cases e:k=n + 1
  ·exact ⟨[],by rw [e];simp⟩
  ·obtain ⟨t,ht⟩:=ih (by omega)
   exact ⟨t ++ ups n,by rw [zcd,ht,y12]⟩
def Tm.com (m:Tm) (a b:Nat):List Nat:=(List.range (2 ^ m.w)).map fun l=>m.go l a b
def Tm.evl (m:Tm) (k:Nat):List Nat:=(alls k).flatMap fun p=>m.com p.1 p.2
theorem Tm.com_mem {m:Tm} {a b x:Nat}:x ∈ m.com a b ↔ ∃ l,l < 2 ^ m.w∧m.go l a b=x:=by simp [Tm.com]
theorem Tm.evl_mem {m:Tm} {k x:Nat}:x ∈ m.evl k ↔ ∃ a b l,a < k∧b < k∧l < 2 ^ m.w∧m.go l a b=x:=by
 simp only [Tm.evl,y1m,alls_mem,Tm.com_mem]
 constructor
 ·rintro ⟨p,⟨h1,h2⟩,l,hl,e⟩;exact ⟨p.1,p.2,l,h1,h2,hl,e⟩
 ·rintro ⟨a,b,l,h1,h2,hl,e⟩;exact ⟨(a,b),⟨h1,h2⟩,l,hl,e⟩
theorem Tm.evl_pre (m:Tm) {k n:Nat} (h:k ≤ n):∃ t,m.evl n=m.evl k ++ t:=by
 obtain ⟨t,e⟩:=zrh h
 exact ⟨t.flatMap fun p=>m.com p.1 p.2,by unfold Tm.evl;rw [e,y1r]⟩
def TOrd (m:Tm):Prop:=news [0] (m.evl m.n)=List.range m.n
inductive Reach (m:Tm):Nat→Prop where
 | zero:Reach m 0
 | go {l a b:Nat}:l < 2 ^ m.w→Reach m a→Reach m b→Reach m (m.go l a b)
structure Bis (m1 m2:Tm) (R:Nat→Nat→Prop):Prop where
 w:m1.w=m2.w
 zero:R 0 0
 go:∀ a b c d l,R a b→R c d→l < 2 ^ m1.w→R (m1.go l a c) (m2.go l b d)
 fin:∀ a b,R a b→m1.fin a=m2.fin b
 lt:∀ a b,R a b→a < m1.n∧b < m2.n
structure Cong (m:Tm) (E:Nat→Nat→Prop):Prop where
 fin:∀ a b,E a b→m.fin a=m.fin b
 go:∀ a b l x,E a b→l < 2 ^ m.w→x < m.n→E (m.go l a x) (m.go l b x)∧E (m.go l x a) (m.go l x b)
def Min (m:Tm):Prop:=∀ E:Nat→Nat→Prop,Cong m E→∀ a b,a < m.n→b < m.n→E a b→a=b
theorem Bis.symm {m1 m2:Tm} {R:Nat→Nat→Prop} (h:Bis m1 m2 R):Bis m2 m1 fun b a=>R a b :=
 ⟨h.w.symm,h.zero,fun a b c d l h1 h2 hl=>h.go b a d c l h1 h2 (by rw [h.w];exact hl),fun a b h1=>(h.fin b a h1).symm,fun a b h1=>⟨(h.lt b a h1).2,(h.lt b a h1).1⟩⟩
theorem Bis.trans {m1 m2 m3:Tm} {R S:Nat→Nat→Prop} (h:Bis m1 m2 R) (k:Bis m2 m3 S):Bis m1 m3 fun a c=>∃ b,R a b∧S b c :=
 ⟨h.w.trans k.w,⟨0,h.zero,k.zero⟩,fun a b c d l ⟨x,h1,k1⟩ ⟨y,h2,k2⟩ hl=>⟨m2.go l x y,h.go _ _ _ _ l h1 h2 hl,k.go _ _ _ _ l k1 k2 (by rw [← h.w];exact hl)⟩,fun a b ⟨x,h1,k1⟩=>(h.fin a x h1).trans (k.fin x b k1),fun a b ⟨x,h1,k1⟩=>⟨(h.lt a x h1).1,(k.lt x b k1).2⟩⟩
theorem Bis.right {m1 m2:Tm} {R:Nat→Nat→Prop} (h:Bis m1 m2 R):∀ {x:Nat},Reach m2 x→∃ c,R c x:=fun {x} r=>by
 induction r with
 | zero=>exact ⟨0,h.zero⟩
 | go hl _ _ ih1 ih2 =>
  obtain ⟨c,h1⟩:=ih1
  obtain ⟨d,h2⟩:=ih2
  exact ⟨_,h.go _ _ _ _ _ h1 h2 (by rw [h.w];exact hl)⟩
theorem Bis.one {m1 m2:Tm} {R:Nat→Nat→Prop} (h:Bis m1 m2 R) (r1:∀ x,x < m2.n→Reach m2 x) (mi:Min m2) {a b b':Nat} (h1:R a b) (h2:R a b'):b=b':=by
 refine mi (fun b b'=>∃ a,R a b∧R a b') ⟨fun x y ⟨a,k1,k2⟩=>(h.fin a x k1).symm.trans (h.fin a y k2),fun x y l z ⟨a,k1,k2⟩ hl hz=>?_⟩ b b' (h.lt a b h1).2 (h.lt a b' h2).2 ⟨a,h1,h2⟩
 obtain ⟨c,hc⟩:=h.right (r1 z hz)
 have hl':l < 2 ^ m1.w:=by rw [h.w];exact hl
 exact ⟨⟨m1.go l a c,h.go _ _ _ _ l k1 hc hl',h.go _ _ _ _ l k2 hc hl'⟩,⟨m1.go l c a,h.go _ _ _ _ l hc k1 hl',h.go _ _ _ _ l hc k2 hl'⟩⟩
theorem zht:∀ {n:Nat} {P t:List Nat},List.range n=P ++ t→P=List.range P.length:=fun {n P t} h=>by
 have e:P=(List.range n).take P.length:=by rw [h];simp
 have hl:P.length ≤ n:=by have:=congrArg List.length h;simp at this;omega
 rw [e,y0y,y0t,List.take_range,y3j hl]
theorem zdb {k:Nat}:∀ {xs:List Nat},(∃ x ∈ xs,k ≤ x)→∃ A r B,xs=A ++ r :: B∧(∀ a ∈ A,a < k)∧k ≤ r
 | [],⟨x,h,_⟩=>nomatch h
 | y :: ys,⟨x,hx,hk⟩=>by
  by_cases h:k ≤ y
  ·exact ⟨[],y,ys,rfl,fun a ha=>(nomatch ha),h⟩
  ·have hx':x ∈ ys:=by
    rcases y0f.mp hx with e | e
    ·rw [e] at hk;exact absurd hk h
    ·exact e
   obtain ⟨A,r,B,e,h1,h2⟩:=zdb ⟨x,hx',hk⟩
   refine ⟨y :: A,r,B,by rw [e];rfl,fun a ha=>?_,h2⟩
   rcases y0f.mp ha with e | e
   ·omega
   ·exact h1 a e
theorem TOrd.first {m:Tm} (o:TOrd m) {k:Nat} (hk:0 < k) (hn:k ≤ m.n) {A B:List Nat} {r:Nat} (e:m.evl k=A ++ r :: B) (hA:∀ a ∈ A,a < k) (hr:k ≤ r):r=k:=by
 obtain ⟨t,et⟩:=m.evl_pre hn
 have o':news [0] (m.evl m.n)=List.range m.n:=o
 rw [et,e,y12,y2z,zdn] at o'
 have hnr:¬ r ∈ news [0] A:=fun z=>by
  rcases (za0 _ _ _).mp z with z | z
  ·have:=y07.mp z;omega
  ·have:=hA r z;omega
 obtain ⟨u,eu⟩:=zbx (B ++ t) (news [0] A ++ [r])
 have e2:news (news [0] A) (r :: (B ++ t))=news (news [0] A ++ [r]) (B ++ t):=by
  show news (if r ∈ news [0] A then news [0] A else news [0] A ++ [r]) (B ++ t)=_
  rw [if_neg hnr]
 rw [e2,eu] at o'
 have p1:=zht (P:=news [0] A ++ [r]) o'.symm
 have p2:=zht (P:=news [0] A) (t:=[r] ++ u) (by rw [← o',y12])
 rw [y0c,y17,y2s] at p1
 have hr2:r=(news [0] A).length:=by
  have:=congrArg (fun l=>l.getLast?) p1
  simpa using this
 have:(news [0] A).length ≤ k:=by
  refine zb4 (xs:=news [0] A) (ze6 _ _ (by simp)) fun x hx=>?_
  rcases (za0 _ _ _).mp hx with z | z
  ·have:=y07.mp z;omega
  ·exact hA x z
 omega
theorem zmt {m:Tm} {k:Nat} (hk:0 < k) (h:∀ x ∈ m.evl k,x < k):∀ {x:Nat},Reach m x→x < k:=fun {x} r=>by
 induction r with
 | zero=>exact hk
 | go hl _ _ ih1 ih2=>exact h _ (Tm.evl_mem.mpr ⟨_,_,_,ih1,ih2,hl,rfl⟩)
def Lt3 (p q:Nat × Nat):Prop:=max p.1 p.2 < max q.1 q.2∨(max p.1 p.2=max q.1 q.2∧(p.1 < q.1∨(p.1=q.1∧p.2 < q.2)))
def Lt4 (e f:Nat × Nat × Nat):Prop:=Lt3 (e.1,e.2.1) (f.1,f.2.1)∨(e.1=f.1∧e.2.1=f.2.1∧e.2.2 < f.2.2)
theorem Lt4.asym {e f:Nat × Nat × Nat} (h:Lt4 e f) (k:Lt4 f e):False:=by
 rcases h with h | ⟨h1,h2,h3⟩
 ·rcases k with k | ⟨k1,k2,k3⟩
  ·rcases h with h | ⟨h0,h | ⟨h1,h2⟩⟩
   ·rcases k with k | ⟨k0,_⟩
    ·exact y3x h k
    ·rw [k0] at h;exact y1a _ h
   ·rcases k with k | ⟨_,k | ⟨k1,_⟩⟩
    ·rw [h0] at k;exact y1a _ k
    ·exact y3x h k
    ·exact y1j h k1
   ·rcases k with k | ⟨_,k | ⟨_,k2⟩⟩
    ·rw [h0] at k;exact y1a _ k
    ·exact y1j k h1
    ·exact y3x h2 k2
  ·rcases h with h | ⟨_,h | ⟨_,h⟩⟩
   ·have h:max e.1 e.2.1 < max f.1 f.2.1:=h
    rw [k1,k2] at h;exact y1a _ h
   ·exact y1j h k1
   ·exact y1j h k2
 ·rcases k with k | ⟨_,_,k3⟩
  ·rcases k with k | ⟨_,k | ⟨_,k⟩⟩
   ·have k:max f.1 f.2.1 < max e.1 e.2.1:=k
    rw [h1,h2] at k;exact y1a _ k
   ·exact y1j k h1
   ·exact y1j k h2
  ·exact y3x h3 k3
theorem Lt4.tri (e f:Nat × Nat × Nat):Lt4 e f∨e=f∨Lt4 f e:=by
 obtain ⟨a,b,l⟩:=e
 obtain ⟨c,d,m⟩:=f
 rcases y1t (max a b) (max c d) with h | h | h
 ·exact .inl (.inl (.inl h))
 ·rcases y1t a c with i | i | i
  ·exact .inl (.inl (.inr ⟨h,.inl i⟩))
  ·subst i
   rcases y1t b d with j | j | j
   ·exact .inl (.inl (.inr ⟨h,.inr ⟨rfl,j⟩⟩))
   ·subst j
    rcases y1t l m with n | n | n
    ·exact .inl (.inr ⟨rfl,rfl,n⟩)
    ·subst n;exact .inr (.inl rfl)
    ·exact .inr (.inr (.inr ⟨rfl,rfl,n⟩))
   ·exact .inr (.inr (.inl (.inr ⟨h.symm,.inr ⟨rfl,j⟩⟩)))
  ·exact .inr (.inr (.inl (.inr ⟨h.symm,.inl i⟩)))
 ·exact .inr (.inr (.inl (.inl h)))
theorem Lt4.trans {e f g:Nat × Nat × Nat} (h:Lt4 e f) (k:Lt4 f g):Lt4 e g:=by
 obtain ⟨a,b,l⟩:=e
 obtain ⟨c,d,m⟩:=f
 obtain ⟨x,y,n⟩:=g
 rcases h with (h | ⟨h0,h | ⟨h1,h2⟩⟩) | ⟨h1,h2,h3⟩
 ·rcases k with (k | ⟨k0,_⟩) | ⟨k1,k2,_⟩
  ·exact .inl (.inl (y22 h k))
  ·exact .inl (.inl (by rw [← k0];exact h))
  ·cases k1;cases k2;exact .inl (.inl h)
 ·rcases k with (k | ⟨k0,k | ⟨k1,k2⟩⟩) | ⟨k1,k2,_⟩
  ·exact .inl (.inl (by rw [h0];exact k))
  ·exact .inl (.inr ⟨h0.trans k0,.inl (y22 h k)⟩)
  ·cases k1;exact .inl (.inr ⟨h0.trans k0,.inl h⟩)
  ·cases k1;cases k2;exact .inl (.inr ⟨h0,.inl h⟩)
 ·cases h1
  rcases k with (k | ⟨k0,k | ⟨k1,k2⟩⟩) | ⟨k1,k2,_⟩
  ·exact .inl (.inl (by rw [h0];exact k))
  ·exact .inl (.inr ⟨h0.trans k0,.inl k⟩)
  ·cases k1;exact .inl (.inr ⟨h0.trans k0,.inr ⟨rfl,y22 h2 k2⟩⟩)
  ·cases k1;cases k2;exact .inl (.inr ⟨h0,.inr ⟨rfl,h2⟩⟩)
 ·cases h1;cases h2
  rcases k with k | ⟨k1,k2,k3⟩
  ·exact .inl k
  ·cases k1;cases k2;exact .inr ⟨rfl,rfl,y22 h3 k3⟩
theorem Lt4.low {a b A B l:Nat} (h1:A ≤ a) (h2:B ≤ b):(A,B,l)=(a,b,l)∨Lt4 (A,B,l) (a,b,l):=by
 rcases Lt4.tri (A,B,l) (a,b,l) with z | z | z
 ·exact .inr z
 ·exact .inl z
 ·exfalso
  have hm:max A B ≤ max a b:=Nat.max_le.mpr ⟨y13 h1 (Nat.le_max_left _ _),y13 h2 (Nat.le_max_right _ _)⟩
  rcases z with (z | ⟨_,z | ⟨_,z⟩⟩) | ⟨_,_,z⟩
  ·exact y1a _ (y0h z hm)
  ·exact y1a _ (y0h z h1)
  ·exact y1a _ (y0h z h2)
  ·exact y1a _ z
theorem zrx {F:Nat→Nat} {k u v:Nat} (mo:∀ x y,x < k→y < k→x < y→F x < F y) (hu:u < k) (hv:v < k):max (F u) (F v)=F (max u v):=by
 rcases y1t u v with h | h | h
 ·rw [Nat.max_eq_right (y1l h),Nat.max_eq_right (y1l (mo u v hu hv h))]
 ·rw [h,Nat.max_self,Nat.max_self]
 ·rw [y3k (y1l h),y3k (y1l (mo v u hv hu h))]
theorem Lt4.up {F:Nat→Nat} {k a b c d l m:Nat} (mo:∀ x y,x < k→y < k→x < y→F x < F y) (ha:a < k) (hb:b < k) (hc:c < k) (hd:d < k) (h:Lt4 (a,b,l) (c,d,m)):Lt4 (F a,F b,l) (F c,F d,m):=by
 have m1:=zrx mo ha hb
 have m2:=zrx mo hc hd
 have k1:max a b < k:=Nat.max_lt.mpr ⟨ha,hb⟩
 have k2:max c d < k:=Nat.max_lt.mpr ⟨hc,hd⟩
 rcases h with (h | ⟨h0,h | ⟨h1,h2⟩⟩) | ⟨h1,h2,h3⟩
 ·exact .inl (.inl (by show max (F a) (F b) < max (F c) (F d);rw [m1,m2];exact mo _ _ k1 k2 h))
 ·exact .inl (.inr ⟨by show max (F a) (F b)=max (F c) (F d);rw [m1,m2];exact congrArg F h0,.inl (mo _ _ ha hc h)⟩)
 ·cases h1
  exact .inl (.inr ⟨by show max (F a) (F b)=max (F a) (F d);rw [m1,m2];exact congrArg F h0,.inr ⟨rfl,mo _ _ hb hd h2⟩⟩)
 ·cases h1;cases h2
  exact .inr ⟨rfl,rfl,h3⟩
theorem zk2 (n:Nat):(ups n).Pairwise Lt3:=by
 unfold ups
 rw [y1p]
 refine ⟨?_,?_,fun p hp q hq=>?_⟩
 ·rw [y20]
  refine List.Pairwise.imp_of_mem (R:=(· < ·)) (fun {a b} ha hb h=>?_) y1z
  have:=y0k.mp ha
  have:=y0k.mp hb
  simp only [Lt3];omega
 ·rw [y20]
  refine List.Pairwise.imp_of_mem (R:=(· < ·)) (fun {a b} ha hb h=>?_) y1z
  have h1:=y0k.mp ha
  have h2:=y0k.mp hb
  exact .inr ⟨by show max n a=max n b;rw [y3k (by omega),y3k (by omega)],.inr ⟨rfl,h⟩⟩
 ·obtain ⟨i,hi,rfl⟩:=y09.mp hp
  obtain ⟨j,hj,rfl⟩:=y09.mp hq
  have:=y0k.mp hi
  have:=y0k.mp hj
  simp only [Lt3];omega
theorem zde:∀ n,(alls n).Pairwise Lt3
 | 0=>by simp [alls]
 | n + 1=>by
  rw [zcd,y1p]
  refine ⟨zde n,zk2 n,fun p hp q hq=>?_⟩
  have h1:=alls_mem.mp hp
  have h2:=ups_mem.mp hq
  simp only [Lt3];omega
def evts (L k:Nat):List (Nat × Nat × Nat):=(alls k).flatMap fun p=>(List.range L).map fun l=>(p.1,p.2,l)
theorem evts_mem {L k:Nat} {e:Nat × Nat × Nat}:e ∈ evts L k ↔ e.1 < k∧e.2.1 < k∧e.2.2 < L:=by
 obtain ⟨a,b,l⟩:=e
 simp only [evts,y1m,alls_mem,y09,y0k,Prod.mk.injEq]
 constructor
 ·rintro ⟨p,⟨h1,h2⟩,l',hl,rfl,rfl,rfl⟩;exact ⟨h1,h2,hl⟩
 ·rintro ⟨h1,h2,h3⟩;exact ⟨(a,b),⟨h1,h2⟩,l,h3,rfl,rfl,rfl⟩
theorem zfe (L k:Nat):(evts L k).Pairwise Lt4:=by
 have h:∀ ps:List (Nat × Nat),ps.Pairwise Lt3→(ps.flatMap fun p=>(List.range L).map fun l=>(p.1,p.2,l)).Pairwise Lt4:=fun ps=>by
  induction ps with
  | nil=>intro _;simp
  | cons p ps ih =>
   intro hp
   rw [y2l] at hp
   rw [y1o,y1p]
   refine ⟨?_,ih hp.2,fun e he f hf=>?_⟩
   ·rw [y20]
    exact List.Pairwise.imp (R:=(· < ·)) (fun {a b} h=>.inr ⟨rfl,rfl,h⟩) y1z
   ·obtain ⟨l,_,rfl⟩:=y09.mp he
    obtain ⟨q,hq,hf⟩:=y1m.mp hf
    obtain ⟨l',_,rfl⟩:=y09.mp hf
    exact .inl (hp.1 q hq)
 exact h _ (zde k)
theorem zkx (m:Tm) (k:Nat):m.evl k=(evts (2 ^ m.w) k).map fun e=>m.go e.2.2 e.1 e.2.1:=by
 unfold Tm.evl evts
 rw [y41]
 simp [Tm.com,y0v,Function.comp_def]
def TOrd2 (m:Tm):Prop:=∀ k,0 < k→k < m.n→∃ a b l,a < k∧b < k∧l < 2 ^ m.w∧m.go l a b=k∧∀ a' b' l',a' < k→b' < k→l' < 2 ^ m.w→Lt4 (a',b',l') (a,b,l)→m.go l' a' b' < k
theorem TOrd.two {m:Tm} (o:TOrd m) (rc:∀ x,x < m.n→Reach m x):TOrd2 m:=fun k h0 hk=>by
 obtain ⟨A,r,B,eA,hA,hr⟩:=zdb (k:=k) (xs:=m.evl k) (Classical.byContradiction fun hno=>by
  have:=zmt h0 (fun x hx=>by
   have:¬ k ≤ x:=fun z=>hno ⟨x,hx,z⟩
   omega) (rc k hk)
  omega)
 have hra:r=k:=o.first h0 (by omega) eA hA hr
 subst hra
 rw [zkx] at eA
 obtain ⟨EA,ER,e1,e2,e3⟩:=y4d.mp eA
 obtain ⟨e,EB,e4,e5,e6⟩:=List.map_eq_cons_iff.mp e3
 have hs:=zfe (2 ^ m.w) r
 rw [e1,e4,y1p] at hs
 have me:e ∈ evts (2 ^ m.w) r:=by rw [e1,e4];simp
 have h1:=evts_mem.mp me
 refine ⟨e.1,e.2.1,e.2.2,h1.1,h1.2.1,h1.2.2,e5,fun a' b' l' ha hb hl lt=>?_⟩
 have me':(a',b',l') ∈ evts (2 ^ m.w) r:=evts_mem.mpr ⟨ha,hb,hl⟩
 rw [e1,e4] at me'
 rcases y0i.mp me' with z | z
 ·exact hA _ (by rw [← e2];exact y09.mpr ⟨_,z,rfl⟩)
 ·rcases y0f.mp z with z | z
  ·rw [z] at lt
   exact (Lt4.asym lt lt).elim
  ·have:=(y2l.mp hs.2.1).1 _ z
   exact (Lt4.asym lt this).elim
structure TCan2 (m:Tm):Prop where
 ok:m.Ok
 ord:TOrd2 m
 reach:∀ x,x < m.n→Reach m x
 min:Min m
theorem bis_id2 {m1 m2:Tm} {R:Nat→Nat→Prop} (h:Bis m1 m2 R) (c1:TCan2 m1) (c2:TCan2 m2):∀ k a b,a < k→R a b→a=b:=fun k=>by
 induction k with
 | zero=>intro a b h0;omega
 | succ k ih =>
  intro a b hk hR
  by_cases e:a < k
  ·exact ih a b e hR
  have:a=k:=by omega
  subst this
  have ha:=(h.lt a b hR).1
  have hb:=(h.lt a b hR).2
  by_cases h0:a=0
  ·subst h0
   exact (h.one c2.reach c2.min h.zero hR)
  have pos:0 < a:=by omega
  have low:∀ i,i < a→R i i:=fun i hi=>by
   obtain ⟨c,hc⟩:=h.symm.right (c1.reach i (by omega))
   have:=ih i c hi hc
   rw [← this] at hc;exact hc
  have hba:¬ b < a:=fun hlt=>by
   have:=h.symm.one c1.reach c1.min (low b hlt) hR
   omega
  obtain ⟨i,j,l,hi,hj,hl,ev,first⟩:=c1.ord a pos ha
  obtain ⟨i2,j2,l2,hi2,hj2,hl2,ev2,first2⟩:=c2.ord a pos (by omega)
  have hr:=h.go i i j j l (low i hi) (low j hj) hl
  rw [ev] at hr
  have eb:b=m2.go l i j:=h.one c2.reach c2.min hR hr
  rcases Lt4.tri (i,j,l) (i2,j2,l2) with z | z | z
  ·have:=first2 i j l hi hj (by rw [← h.w];exact hl) z
   omega
  ·rw [Prod.mk.injEq,Prod.mk.injEq] at z
   rw [eb,z.1,z.2.1,z.2.2,ev2]
  ·have hl2':l2 < 2 ^ m1.w:=by rw [h.w];exact hl2
   have lt:=first i2 j2 l2 hi2 hj2 hl2' z
   have hr2:=h.go i2 i2 j2 j2 l2 (low i2 hi2) (low j2 hj2) hl2'
   rw [ev2] at hr2
   have:=ih _ _ lt hr2
   omega
theorem Tm.ext_go {m1 m2:Tm} (o1:m1.Ok) (o2:m2.Ok) (hw:m1.w=m2.w) (hn:m1.n=m2.n) (hg:∀ l a b,l < 2 ^ m1.w→a < m1.n→b < m1.n→m1.go l a b=m2.go l a b) (hf:∀ a,a < m1.n→m1.fin a=m2.fin a):m1=m2:=by
 obtain ⟨w1,ways1,ends1⟩:=m1
 obtain ⟨w2,ways2,ends2⟩:=m2
 have e1:w1=w2:=hw
 have n12:ends1.length=ends2.length:=hn
 have e3:ends1=ends2:=by
  refine y16 fun i=>?_
  by_cases hi:i < ends1.length
  ·have a1:=Tm.fin_at (m:=⟨w1,ways1,ends1⟩) hi
   have a2:=Tm.fin_at (m:=⟨w2,ways2,ends2⟩) (r:=i) (by show i < ends2.length;rw [← n12];exact hi)
   show ends1[i]?=ends2[i]?
   rw [show ends1[i]?=_ from a1,show ends2[i]?=_ from a2,hf i hi]
  ·rw [y0e (y1c hi),y0e (by rw [← n12];exact y1c hi)]
 have e2:ways1=ways2:=by
  have l1:ways1.length=2 ^ w1:=o1.len
  have l2:ways2.length=2 ^ w2:=o2.len
  refine y16 fun l=>?_
  by_cases hl:l < 2 ^ w1
  ·have hl2:l < 2 ^ w2:=by rw [← e1];exact hl
   have g1:l < ways1.length:=by rw [l1];exact hl
   have g2:l < ways2.length:=by rw [l2];exact hl2
   rw [y01 g1,y01 g2]
   congr 1
   have t1:ways1[l].length=ends1.length:=o1.tab _ (y0q g1)
   have t2:ways2[l].length=ends2.length:=o2.tab _ (y0q g2)
   refine y16 fun a=>?_
   by_cases ha:a < ends1.length
   ·have k1:a < ways1[l].length:=by rw [t1];exact ha
    have k2:a < ways2[l].length:=by rw [t2,← n12];exact ha
    rw [y01 k1,y01 k2]
    congr 1
    have s1:ways1[l][a].length=ends1.length:=o1.line _ (y0q g1) _ (y0q k1)
    have s2:ways2[l][a].length=ends2.length:=o2.line _ (y0q g2) _ (y0q k2)
    refine y16 fun b=>?_
    by_cases hb:b < ends1.length
    ·obtain ⟨t,r,q1,q2,q3,_⟩:=o1.at (l:=l) (a:=a) (b:=b) hl ha hb
     obtain ⟨t',r',q1',q2',q3',_⟩:=o2.at (l:=l) (a:=a) (b:=b) hl2 (by show a < ends2.length;rw [← n12];exact ha) (by show b < ends2.length;rw [← n12];exact hb)
     have u1:t=ways1[l]:=(Option.some.inj ((y01 g1).symm.trans q1)).symm
     have u2:t'=ways2[l]:=(Option.some.inj ((y01 g2).symm.trans q1')).symm
     subst u1 u2
     have v1:r=ways1[l][a]:=(Option.some.inj ((y01 k1).symm.trans q2)).symm
     have v2:r'=ways2[l][a]:=(Option.some.inj ((y01 k2).symm.trans q2')).symm
     subst v1 v2
     rw [q3,q3',hg l a b hl ha hb]
    ·rw [y0e (by rw [s1];exact y1c hb),y0e (by rw [s2,← n12];exact y1c hb)]
   ·rw [y0e (by rw [t1];exact y1c ha),y0e (by rw [t2,← n12];exact y1c ha)]
  ·rw [y0e (by rw [l1];exact y1c hl),y0e (by rw [l2,← e1];exact y1c hl)]
 rw [e1,e2,e3]
theorem zmh {m1 m2:Tm} {R:Nat→Nat→Prop} (h:Bis m1 m2 R) (c1:TCan2 m1) (c2:TCan2 m2):m1=m2:=by
 have idd:∀ a b,R a b→a=b:=fun a b z=>bis_id2 h c1 c2 (a + 1) a b (by omega) z
 have low1:∀ i,i < m1.n→R i i∧i < m2.n:=fun i hi=>by
  obtain ⟨c,hc⟩:=h.symm.right (c1.reach i hi)
  have:=idd i c hc
  rw [← this] at hc
  exact ⟨hc,(h.lt _ _ hc).2⟩
 have low2:∀ i,i < m2.n→R i i∧i < m1.n:=fun i hi=>by
  obtain ⟨c,hc⟩:=h.right (c2.reach i hi)
  have:=idd c i hc
  rw [this] at hc
  exact ⟨hc,(h.lt _ _ hc).1⟩
 have hn:m1.n=m2.n:=by
  rcases y1t m1.n m2.n with z | z | z
  ·have:=(low2 m1.n z).2;omega
  ·exact z
  ·have:=(low1 m2.n z).2;omega
 exact Tm.ext_go c1.ok c2.ok h.w hn (fun l a b hl ha hb=>idd _ _ (h.go a a b b l (low1 a ha).1 (low1 b hb).1 hl)) fun a ha=>h.fin a a (low1 a ha).1
def mkT (w n:Nat) (go:Nat→Nat→Nat→Nat) (fin:Nat→Bool):Tm:=⟨w,(List.range (2 ^ w)).map fun l=>(List.range n).map fun a=>(List.range n).map fun b=>go l a b,(List.range n).map fin⟩
section
variable {w n:Nat} {go:Nat→Nat→Nat→Nat} {fin:Nat→Bool}
theorem mkT_n:(mkT w n go fin).n=n:=by simp [mkT,Tm.n]
theorem zrw {l a b:Nat} (hl:l < 2 ^ w) (ha:a < n) (hb:b < n):(mkT w n go fin).go l a b=go l a b:=by
 simp [mkT,Tm.go,y03,y02,y0j hl,y0j ha,y0j hb]
theorem zn1 {a:Nat} (ha:a < n):(mkT w n go fin).fin a=fin a:=by
 simp [mkT,Tm.fin,y03,y02,y0j ha]
theorem zrv (hw:w ≤ 3) (h0:0 < n) (h30:n ≤ 30) (hg:∀ l a b,l < 2 ^ w→a < n→b < n→go l a b < n):(mkT w n go fin).Ok:=by
 refine { wid:=hw,pos:=?_,few:=?_,len:=?_,tab:=?_,line:=?_,room:=?_ }
 ·simpa [mkT] using h0
 ·simpa [mkT] using h30
 ·simp [mkT]
 ·intro t ht
  obtain ⟨l,_,rfl⟩:=y09.mp ht
  simp [mkT]
 ·intro t ht r hr
  obtain ⟨l,_,rfl⟩:=y09.mp ht
  obtain ⟨a,_,rfl⟩:=y09.mp hr
  simp [mkT]
 ·intro t ht r hr x hx
  obtain ⟨l,hl,rfl⟩:=y09.mp ht
  obtain ⟨a,ha,rfl⟩:=y09.mp hr
  obtain ⟨b,hb,rfl⟩:=y09.mp hx
  have:=hg l a b (y0k.mp hl) (y0k.mp ha) (y0k.mp hb)
  simpa [mkT] using this
end
theorem zcb {α β:Type} {f g:α→List β}:∀ {xs:List α},(∀ x ∈ xs,f x=g x)→xs.flatMap f=xs.flatMap g
 | [],_=>rfl
 | x :: xs,h=>by rw [y1o,y1o,h x y0d,zcb fun y hy=>h y (y08 _ hy)]
theorem zgo {f:Nat→Nat}:∀ (xs acc:List Nat),(∀ a b,(a ∈ acc∨a ∈ xs)→(b ∈ acc∨b ∈ xs)→f a=f b→a=b)→news (acc.map f) (xs.map f)=(news acc xs).map f
 | [],acc,_=>rfl
 | x :: xs,acc,h=>by
  show news (if f x ∈ acc.map f then acc.map f else acc.map f ++ [f x]) (xs.map f)=(news (if x ∈ acc then acc else acc ++ [x]) xs).map f
  by_cases hx:x ∈ acc
  ·rw [if_pos hx,if_pos (y09.mpr ⟨x,hx,rfl⟩)]
   exact zgo xs acc fun a b ha hb=>h a b (ha.imp id (y08 _)) (hb.imp id (y08 _))
  ·have hn:¬ f x ∈ acc.map f:=fun z=>by
    obtain ⟨y,hy,e⟩:=y09.mp z
    have:=h y x (.inl hy) (.inr y0d) e
    rw [this] at hy;exact hx hy
   rw [if_neg hx,if_neg hn]
   have e2:acc.map f ++ [f x]=(acc ++ [x]).map f:=by simp
   rw [e2]
   have up:∀ a,(a ∈ acc ++ [x]∨a ∈ xs)→(a ∈ acc∨a ∈ x :: xs):=fun a ha=>by
    rcases ha with z | z
    ·rcases y0i.mp z with z | z
     ·exact .inl z
     ·rw [y07.mp z];exact .inr y0d
    ·exact .inr (y08 _ z)
   exact zgo xs (acc ++ [x]) fun a b ha hb=>h a b (up a ha) (up b hb)
theorem ztc:∀ {fs:List Nat},fs.Nodup→fs.map (nOf fs)=List.range fs.length:=fun {fs} hn=>by
 refine y16 fun i=>?_
 by_cases hi:i < fs.length
 ·rw [y02,y01 hi,y0j hi]
  show some (fs.idxOf fs[i])=some i
  congr 1
  obtain ⟨h1,h2⟩:=zf5 (y0q hi)
  exact zr2 hn h1 hi (h2.trans (zgq (y01 hi)).symm)
 ·rw [y0e (by rw [y00];omega),y0e (by rw [y0t];omega)]
structure TFnd (x:Tm) (fs:List Nat) (dn:List (Nat × Nat)):Prop where
 eq:fs=news [0] (dn.flatMap fun p=>x.com (ix fs p.1) (ix fs p.2))
 lt:∀ p ∈ dn,p.1 < fs.length∧p.2 < fs.length
 rm:∀ r ∈ fs,r < x.n
 rch:∀ r ∈ fs,Reach x r
theorem TFnd.start {x:Tm} (h:0 < x.n):TFnd x [0] []:=⟨rfl,fun p hp=>(nomatch hp),fun r hr=>by rw [y07.mp hr];exact h,fun r hr=>by rw [y07.mp hr];exact .zero⟩
theorem TFnd.step {x:Tm} {fs:List Nat} {dn:List (Nat × Nat)} (ok:x.Ok) (f:TFnd x fs dn) {i j:Nat} (hi:i < fs.length) (hj:j < fs.length):TFnd x (news fs (x.com (ix fs i) (ix fs j))) (dn ++ [(i,j)]):=by
 obtain ⟨t,et⟩:=zbx (x.com (ix fs i) (ix fs j)) fs
 have ixe:∀ k,k < fs.length→ix (news fs (x.com (ix fs i) (ix fs j))) k=ix fs k:=fun k hk=>by rw [et];exact zh1 hk
 have len:fs.length ≤ (news fs (x.com (ix fs i) (ix fs j))).length:=by rw [et,y0c];omega
 refine ⟨?_,fun p hp=>?_,fun r hr=>?_,fun r hr=>?_⟩
 ·have e1:(dn.flatMap fun p=>x.com (ix (news fs (x.com (ix fs i) (ix fs j))) p.1) (ix (news fs (x.com (ix fs i) (ix fs j))) p.2))=dn.flatMap fun p=>x.com (ix fs p.1) (ix fs p.2):=by
   refine zcb fun p hp=>?_
   rw [ixe _ (f.lt p hp).1,ixe _ (f.lt p hp).2]
  rw [y1r,e1,zdn,← f.eq,y1o,y2y,y0s,ixe i hi,ixe j hj]
 ·rcases y0i.mp hp with z | z
  ·have:=f.lt p z;omega
  ·rw [y07.mp z];exact ⟨by show i < _;omega,by show j < _;omega⟩
 ·rcases (za0 _ _ _).mp hr with z | z
  ·exact f.rm r z
  ·obtain ⟨l,hl,rfl⟩:=Tm.com_mem.mp z
   exact ok.go_lt hl (f.rm _ (zca hi)) (f.rm _ (zca hj))
 ·rcases (za0 _ _ _).mp hr with z | z
  ·exact f.rch r z
  ·obtain ⟨l,hl,rfl⟩:=Tm.com_mem.mp z
   exact .go hl (f.rch _ (zca hi)) (f.rch _ (zca hj))
def xpl (x:Tm) (fs:List Nat):Tm:=mkT x.w fs.length (fun l i j=>nOf fs (x.go l (ix fs i) (ix fs j))) fun i=>x.fin (ix fs i)
section
variable {x:Tm} {fs:List Nat}
theorem TFnd.nd {dn:List (Nat × Nat)} (f:TFnd x fs dn):fs.Nodup:=by rw [f.eq];exact ze6 _ _ (by simp)
theorem TFnd.hd {dn:List (Nat × Nat)} (f:TFnd x fs dn):fs[0]?=some 0:=by
 obtain ⟨t,e⟩:=zbx (dn.flatMap fun p=>x.com (ix fs p.1) (ix fs p.2)) [0]
 rw [f.eq,e];rfl
theorem TFnd.clo (f:TFnd x fs (alls fs.length)) {l i j:Nat} (hl:l < 2 ^ x.w) (hi:i < fs.length) (hj:j < fs.length):x.go l (ix fs i) (ix fs j) ∈ fs :=
 (congrArg (x.go l (ix fs i) (ix fs j) ∈ ·) f.eq).mpr ((za0 _ _ _).mpr (.inr (y1m.mpr ⟨(i,j),alls_mem.mpr ⟨hi,hj⟩,Tm.com_mem.mpr ⟨l,hl,rfl⟩⟩)))
theorem znz (hn:fs.Nodup) {i:Nat} (hi:i < fs.length):nOf fs (ix fs i)=i:=by
 obtain ⟨h1,h2⟩:=zf5 (zca hi)
 exact zr2 hn h1 hi h2
theorem zf4 {r:Nat} (h:r ∈ fs):nOf fs r < fs.length∧ix fs (nOf fs r)=r:=zf5 h
theorem zl9 (hl:l < 2 ^ x.w) (hi:i < fs.length) (hj:j < fs.length):(xpl x fs).go l i j=nOf fs (x.go l (ix fs i) (ix fs j)):=zrw hl hi hj
theorem zsb {i:Nat} (hi:i < fs.length):(xpl x fs).fin i=x.fin (ix fs i):=zn1 (w:=x.w) (go:=fun l i j=>nOf fs (x.go l (ix fs i) (ix fs j))) (fin:=fun i=>x.fin (ix fs i)) hi
theorem zl8 (ok:x.Ok) (f:TFnd x fs (alls fs.length)):(xpl x fs).Ok:=by
 have h1:fs.length ≤ x.n:=zb4 f.nd f.rm
 have h2:x.n ≤ 30:=ok.few
 exact zrv ok.wid (y04.mp f.hd).1 (by omega) fun l a b hl ha hb=>(zf4 (f.clo hl ha hb)).1
theorem zpf:(xpl x fs).n=fs.length:=mkT_n
theorem zsc (f:TFnd x fs (alls fs.length)):Bis x (xpl x fs) fun r i=>i < fs.length∧r=ix fs i:=by
 refine ⟨rfl,⟨(y04.mp f.hd).1,(zgq f.hd).symm⟩,?_,?_,?_⟩
 ·rintro a b c d l ⟨h1,rfl⟩ ⟨h2,rfl⟩ hl
  have h3:=zf4 (f.clo hl h1 h2)
  rw [zl9 hl h1 h2]
  exact ⟨h3.1,h3.2.symm⟩
 ·rintro a b ⟨h1,rfl⟩
  exact (zsb h1).symm
 ·rintro a b ⟨h1,rfl⟩
  exact ⟨f.rm _ (zca h1),by rw [zpf];exact h1⟩
theorem zg9 (f:TFnd x fs (alls fs.length)):∀ i,i < (xpl x fs).n→Reach (xpl x fs) i:=fun i hi=>by
 rw [zpf] at hi
 have h0:(0:Nat) ∈ fs:=y0a f.hd
 have key:∀ {r:Nat},Reach x r→r ∈ fs∧Reach (xpl x fs) (nOf fs r):=fun {r} z=>by
  induction z with
  | zero =>
   refine ⟨h0,?_⟩
   have:nOf fs 0=0:=by
    have:=znz f.nd (y04.mp f.hd).1
    rw [zgq f.hd] at this;exact this
   rw [this];exact .zero
  | @go l a b hl _ _ ih1 ih2 =>
   obtain ⟨m1,r1⟩:=ih1
   obtain ⟨m2,r2⟩:=ih2
   obtain ⟨k1,k2⟩:=zf4 m1
   obtain ⟨k3,k4⟩:=zf4 m2
   have hc:=f.clo hl k1 k3
   rw [k2,k4] at hc
   refine ⟨hc,?_⟩
   have:(xpl x fs).go l (nOf fs a) (nOf fs b)=nOf fs (x.go l a b):=by rw [zl9 hl k1 k3,k2,k4]
   rw [← this]
   exact .go hl r1 r2
 have:=(key (f.rch _ (zca hi))).2
 rw [znz f.nd hi] at this;exact this
theorem zsa (f:TFnd x fs (alls fs.length)):TOrd2 (xpl x fs):=by
 refine TOrd.two ?_ (zg9 f)
 show news [0] ((xpl x fs).evl (xpl x fs).n)=List.range (xpl x fs).n
 rw [zpf]
 have e1:(xpl x fs).evl fs.length=((alls fs.length).flatMap fun p=>x.com (ix fs p.1) (ix fs p.2)).map (nOf fs):=by
  unfold Tm.evl
  rw [y41]
  refine zcb fun p hp=>?_
  obtain ⟨h1,h2⟩:=alls_mem.mp hp
  unfold Tm.com
  rw [y0v]
  refine y1d fun l hl=>?_
  exact zl9 (y0k.mp hl) h1 h2
 have z0:nOf fs 0=0:=by
  have:=znz f.nd (y04.mp f.hd).1
  rw [zgq f.hd] at this;exact this
 have mm:∀ a,(a ∈ [0]∨a ∈ ((alls fs.length).flatMap fun p=>x.com (ix fs p.1) (ix fs p.2)))→a ∈ fs:=fun a ha=>(congrArg (a ∈ ·) f.eq).mpr ((za0 _ _ _).mpr ha)
 have e2:=zgo (f:=nOf fs) ((alls fs.length).flatMap fun p=>x.com (ix fs p.1) (ix fs p.2)) [0] fun a b ha hb e=>by
  have h1:=(zf4 (mm a ha)).2
  have h2:=(zf4 (mm b hb)).2
  rw [← h1,← h2,e]
 rw [y0u,y2o,z0,← f.eq] at e2
 rw [e1,e2,ztc f.nd]
end
def iy (fs:List (List Nat)) (i:Nat):List Nat:=fs.getD i []
theorem zfp {fs:List (List Nat)} {i:Nat} (h:i < fs.length):fs[i]?=some (iy fs i):=by
 unfold iy
 rw [y03,y01 h]
 rfl
theorem zod {fs:List (List Nat)} {i:Nat} {v:List Nat} (h:fs[i]?=some v):iy fs i=v:=by unfold iy;rw [y03,h];rfl
theorem zcl {fs:List (List Nat)} {i:Nat} (h:i < fs.length):iy fs i ∈ fs:=y0a (zfp h)
theorem zh0 {fs gs:List (List Nat)} {i:Nat} (h:i < fs.length):iy (fs ++ gs) i=iy fs i:=zod (by rw [y0o h];exact zfp h)
theorem iy_inj {fs:List (List Nat)} (hn:fs.Nodup) {i j:Nat} (hi:i < fs.length) (hj:j < fs.length) (e:iy fs i=iy fs j):i=j:=by
 have h1:=zfp hi
 have h2:=zfp hj
 rw [e,← h2] at h1
 exact (List.getElem?_inj hi hn).mp h1
theorem ze9 {fs:List (List Nat)} {t:List Nat} (h:t ∈ fs):nOf fs t < fs.length∧iy fs (nOf fs t)=t:=⟨(y04.mp (zbb h)).1,zod (zbb h)⟩
theorem zhy {fs:List (List Nat)} (hn:fs.Nodup) {i:Nat} (hi:i < fs.length):nOf fs (iy fs i)=i:=by
 obtain ⟨h1,h2⟩:=ze9 (zcl hi)
 exact iy_inj hn h1 hi h2
theorem zqs {fs:List (List Nat)} (hn:fs.Nodup):fs.map (nOf fs)=List.range fs.length:=by
 refine y16 fun i=>?_
 by_cases hi:i < fs.length
 ·rw [y02,zfp hi,y0j hi,y21,zhy hn hi]
 ·rw [y0e (by rw [y00];omega),y0e (by rw [y0t];omega)]
theorem ze7 {f:List Nat→Nat}:∀ (xs acc:List (List Nat)),(∀ a b,(a ∈ acc∨a ∈ xs)→(b ∈ acc∨b ∈ xs)→f a=f b→a=b)→news (acc.map f) (xs.map f)=(news acc xs).map f
 | [],acc,_=>rfl
 | x :: xs,acc,h=>by
  rw [y0u,news,news]
  by_cases hx:x ∈ acc
  ·rw [if_pos hx,if_pos (y09.mpr ⟨x,hx,rfl⟩)]
   exact ze7 xs acc fun a b ha hb=>h a b (ha.imp id (y08 _)) (hb.imp id (y08 _))
  ·have hn:¬ f x ∈ acc.map f:=fun z=>by
    obtain ⟨y,hy,e⟩:=y09.mp z
    have:=h y x (.inl hy) (.inr y0d) e
    rw [this] at hy;exact hx hy
   rw [if_neg hx,if_neg hn]
   have e2:acc.map f ++ [f x]=(acc ++ [x]).map f:=by simp
   rw [e2]
   have up:∀ a,(a ∈ acc ++ [x]∨a ∈ xs)→(a ∈ acc∨a ∈ x :: xs):=fun a ha=>by
    rcases ha with z | z
    ·rcases y0i.mp z with z | z
     ·exact .inl z
     ·rw [y07.mp z];exact .inr y0d
    ·exact .inr (y08 _ z)
   exact ze7 xs (acc ++ [x]) fun a b ha hb=>h a b (up a ha) (up b hb)
structure TFndT (T:TTh) (t0:List Nat) (fs:List (List Nat)) (dn:List (Nat × Nat)):Prop where
 eq:fs=news [t0] (dn.flatMap fun p=>T.com (iy fs p.1) (iy fs p.2))
 lt:∀ p ∈ dn,p.1 < fs.length∧p.2 < fs.length
 rch:∀ t ∈ fs,RchT T t0 t
variable {T:TTh} {t0:List Nat} {fs:List (List Nat)} {dn:List (Nat × Nat)}
theorem TFndT.start:TFndT T t0 [t0] []:=⟨rfl,fun p hp=>(nomatch hp),fun r hr=>by rw [y07.mp hr];exact .first⟩
theorem TFndT.step (f:TFndT T t0 fs dn) {i j:Nat} (hi:i < fs.length) (hj:j < fs.length):TFndT T t0 (news fs (T.com (iy fs i) (iy fs j))) (dn ++ [(i,j)]):=by
 obtain ⟨t,et⟩:=zbx (T.com (iy fs i) (iy fs j)) fs
 have ixe:∀ k,k < fs.length→iy (news fs (T.com (iy fs i) (iy fs j))) k=iy fs k:=fun k hk=>by rw [et];exact zh0 hk
 have len:fs.length ≤ (news fs (T.com (iy fs i) (iy fs j))).length:=by rw [et,y0c];omega
 refine ⟨?_,fun p hp=>?_,fun r hr=>?_⟩
 ·have e1:(dn.flatMap fun p=>T.com (iy (news fs (T.com (iy fs i) (iy fs j))) p.1) (iy (news fs (T.com (iy fs i) (iy fs j))) p.2))=dn.flatMap fun p=>T.com (iy fs p.1) (iy fs p.2):=by
   refine zcb fun p hp=>?_
   rw [ixe _ (f.lt p hp).1,ixe _ (f.lt p hp).2]
  rw [y1r,e1,zdn,← f.eq,y1o,y2y,y0s,ixe i hi,ixe j hj]
 ·rcases y0i.mp hp with z | z
  ·have:=f.lt p z;omega
  ·rw [y07.mp z];exact ⟨by show i < _;omega,by show j < _;omega⟩
 ·rcases (za0 _ _ _).mp hr with z | z
  ·exact f.rch r z
  ·exact .next (f.rch _ (zcl hi)) (f.rch _ (zcl hj)) z
theorem TFndT.nd (f:TFndT T t0 fs dn):fs.Nodup:=by rw [f.eq];exact ze6 _ _ (by simp)
theorem TFndT.hd (f:TFndT T t0 fs dn):fs[0]?=some t0:=by
 obtain ⟨t,e⟩:=zbx (dn.flatMap fun p=>T.com (iy fs p.1) (iy fs p.2)) [t0]
 rw [f.eq,e];rfl
theorem TFndT.some (f:TFndT T t0 fs dn):TSome T t0 fs:=⟨f.nd,f.rch⟩
theorem TFndT.all (f:TFndT T t0 fs (alls fs.length)):TAll T t0 fs:=by
 refine ⟨f.nd,f.hd,f.rch,fun a ha b hb u hu=>?_⟩
 obtain ⟨h1,h2⟩:=ze9 ha
 obtain ⟨h3,h4⟩:=ze9 hb
 refine (congrArg (u ∈ ·) f.eq).mpr ((za0 _ _ _).mpr (.inr (y1m.mpr ⟨(nOf fs a,nOf fs b),alls_mem.mpr ⟨h1,h3⟩,?_⟩)))
 show u ∈ T.com (iy fs (nOf fs a)) (iy fs (nOf fs b))
 rw [h2,h4]
 exact hu
theorem zju:(xplT T fs).n=fs.length:=by simp [xplT,Tm.n]
theorem zpi (h:TAll T t0 fs) (hs:∀ a ∈ fs,∀ b ∈ fs,(T.com a b).length=2 ^ T.w) {i j:Nat} (hi:i < fs.length) (hj:j < fs.length):(xplT T fs).com i j=(T.com (iy fs i) (iy fs j)).map (nOf fs):=by
 refine y16 fun l=>?_
 have hl:=hs _ (zcl hi) _ (zcl hj)
 show ((List.range (2 ^ T.w)).map fun l=>(xplT T fs).go l i j)[l]?=_
 by_cases c:l < 2 ^ T.w
 ·rw [y02,y0j c,y02,y01 (show l < (T.com (iy fs i) (iy fs j)).length by omega),y21,y21,zin h (zfp hi) (zfp hj) c,y03,y01 (show l < (T.com (iy fs i) (iy fs j)).length by omega)]
  rfl
 ·rw [y0e (by rw [y00,y0t];omega),y0e (by rw [y00];omega)]
theorem zft (h:TAll T t0 fs) (hs:∀ a ∈ fs,∀ b ∈ fs,(T.com a b).length=2 ^ T.w):∀ i,i < (xplT T fs).n→Reach (xplT T fs) i:=fun i hi=>by
 rw [zju] at hi
 have h0:0 < fs.length:=(y04.mp h.hd).1
 have key:∀ {t:List Nat},RchT T t0 t→t ∈ fs∧Reach (xplT T fs) (nOf fs t):=fun {t} z=>by
  induction z with
  | first =>
   refine ⟨y0a h.hd,?_⟩
   have:=zhy h.nd h0
   rw [zod h.hd] at this
   rw [this]
   exact .zero
  | @next a b u _ _ hu iha ihb =>
   obtain ⟨ma,ra⟩:=iha
   obtain ⟨mb,rb⟩:=ihb
   refine ⟨h.clo a ma b mb u hu,?_⟩
   obtain ⟨l,hl,e⟩:=y1g hu
   obtain ⟨k1,k2⟩:=ze9 ma
   obtain ⟨k3,k4⟩:=ze9 mb
   have hw:l < 2 ^ T.w:=by rw [← hs a ma b mb];exact hl
   have g:=zin h (zbb ma) (zbb mb) hw
   rw [y03,y01 hl,y1q,e] at g
   rw [← g]
   exact .go hw ra rb
 have:=(key (h.come _ (zcl hi))).2
 rw [zhy h.nd hi] at this
 exact this
theorem zpg (f:TFndT T t0 fs (alls fs.length)) (hs:∀ a ∈ fs,∀ b ∈ fs,(T.com a b).length=2 ^ T.w):TOrd2 (xplT T fs):=by
 have h:=f.all
 refine TOrd.two ?_ (zft h hs)
 show news [0] ((xplT T fs).evl (xplT T fs).n)=List.range (xplT T fs).n
 rw [zju]
 have e1:(xplT T fs).evl fs.length=((alls fs.length).flatMap fun p=>T.com (iy fs p.1) (iy fs p.2)).map (nOf fs):=by
  unfold Tm.evl
  rw [y41]
  refine zcb fun p hp=>?_
  obtain ⟨h1,h2⟩:=alls_mem.mp hp
  exact zpi h hs h1 h2
 have z0:nOf fs t0=0:=by
  have:=zhy h.nd (y04.mp h.hd).1
  rw [zod h.hd] at this;exact this
 have mm:∀ a,(a ∈ [t0]∨a ∈ ((alls fs.length).flatMap fun p=>T.com (iy fs p.1) (iy fs p.2)))→a ∈ fs:=fun a ha=>(congrArg (a ∈ ·) f.eq).mpr ((za0 _ _ _).mpr ha)
 have e2:=ze7 (f:=nOf fs) ((alls fs.length).flatMap fun p=>T.com (iy fs p.1) (iy fs p.2)) [t0] fun a b ha hb e=>by
  have h1:=(ze9 (mm a ha)).2
  have h2:=(ze9 (mm b hb)).2
  rw [← h1,← h2,e]
 rw [y0u,y2o,z0,← f.eq] at e2
 rw [e1,e2,zqs h.nd]
end SM
namespace L2
abbrev Key:=Sum Int Str
def blI (b:Bool):Int:=if b=true then 1 else 0
def isBl (k:Int):Value→Bool
 | .bool b=>k == blI b
 | _=>false
def keyIs:Key→Value→Bool
 | .inl k,v=>Value.isInt k v || isBl k v
 | .inr x,v=>Value.isStrOf x v
def keyH (w:World):Key→Int
 | .inl k=>hashInt k
 | .inr x=>hashStr w x
theorem zlw {k:Int}:∀ {v:Value},isBl k v=true→∃ b,k=blI b∧v=Value.bool b:=by
 intro v h
 cases v
 case bool b=>exact ⟨b,eq_of_beq h,rfl⟩
 all_goals exact absurd h y0l
theorem zav:∀ {k:Key} {v:Value},keyIs k v=true→(∃ i t,k=Sum.inl i∧v=Value.int i t)∨(∃ x t,k=Sum.inr x∧v=Value.str x t)∨∃ b,k=Sum.inl (blI b)∧v=Value.bool b
 | .inl i,v,h=>by
  rcases (Bool.or_eq_true _ _).mp (show (Value.isInt i v || isBl i v)=true from h) with h | h
  ·obtain ⟨t,e⟩:=Value.isInt_shape (k:=i) (v:=v) h
   exact .inl ⟨i,t,rfl,e⟩
  ·obtain ⟨b,e,e'⟩:=zlw h
   exact .inr (.inr ⟨b,by rw [e],e'⟩)
 | .inr x,v,h=>by
  obtain ⟨t,e⟩:=Value.isStrOf_shape (x:=x) (v:=v) h
  exact .inr (.inl ⟨x,t,rfl,e⟩)
theorem zob (i:Int) (t:Tok):keyIs (.inl i) (.int i t)=true:=by simp [keyIs,Value.isInt]
theorem zqt (b:Bool):keyIs (.inl (blI b)) (.bool b)=true:=by simp [keyIs,isBl]
theorem blI_inj {a b:Bool} (e:blI a=blI b):a=b:=by
 cases a <;> cases b <;> first | rfl | exact absurd e (by decide)
theorem ztm {prog:Program} {w:World} {A:Around} {E:Z0} {s:Shared} {b:Bool} {Q:Int→Shared→Prop} (h:Q (hashInt (blI b)) { s with toks:=s.toks + 1 }):wpAny (model prog w) A (pyHash (.bool b)) Q E s:=by
 have hT:s.TypeIs (.bool b) "bool":=rfl
 have hr:=rawHash_range (blI b)
 unfold pyHash
 refine wpAny_bind ?_
 rw [cRoomFor,if_neg (show ¬ [Value.bool b].any Value.onHeap=true from y0l)]
 refine wpAny_pure (wpAny_bind (wpAny_specialOf hT PySem.F.slot_bool_hash.lookup ?_))
 show wpAny _ _ (if (some (Value.builtin "int.__hash__") == some Value.none)=true then _ else _) Q E s
 rw [if_neg (show ¬ (some (Value.builtin "int.__hash__") == some Value.none)=true from y0l)]
 refine wpAny_bind (wpAny_specialOf hT PySem.F.slot_bool_hash.lookup ?_)
 show wpAny _ _ (callSpecialIfBoundUnlessNone? (.bool b) "__hash__" _ >>= _) Q E s
 refine wpAny_bind (wpAny_callSpecialIfBoundUnlessNone?_slot hT PySem.F.slot_bool_hash (wpAny_call_entry PySem.F.slot_bool_hash hT PySem.F.entry_int_hash ?_ (PySem.F.args_int_hash_1 _)))
 refine (show wpAny _ _ (do ret (← mkInt (rawHash (blI b)))) _ _ s from wpAny_ret_mkInt ?_)
 show wpAny _ _ (if (decide (-(2:Int) ^ 63 ≤ rawHash (blI b)) && decide (rawHash (blI b) < 2 ^ 63))=true then _ else _) Q E _
 rw [if_pos (by rw [decide_eq_true hr.1,decide_eq_true hr.2];rfl)]
 exact wpAny_pure h
theorem zoa (x:Str) (t:Tok):keyIs (.inr x) (.str x t)=true:=by simp [keyIs,Value.isStrOf]
theorem zkr (a b:Int):decide ((Sum.inl a:Key)=Sum.inl b)=(a == b):=by
 by_cases e:a=b
 ·subst e;simp
 ·have h:¬ (Sum.inl a:Key)=Sum.inl b:=fun q=>e (Sum.inl.inj q)
  rw [decide_eq_false h]
  exact (beq_eq_false_iff_ne.mpr e).symm
theorem key_rr (a b:Str):decide ((Sum.inr a:Key)=Sum.inr b)=decide (a=b):=by
 by_cases e:a=b
 ·subst e;simp
 ·have h:¬ (Sum.inr a:Key)=Sum.inr b:=fun q=>e (Sum.inr.inj q)
  rw [decide_eq_false h,decide_eq_false e]
theorem zr1 (a:Int) (b:Str):decide ((Sum.inl a:Key)=Sum.inr b)=false:=decide_eq_false (fun q=>nomatch q)
theorem zr0 (a:Str) (b:Int):decide ((Sum.inr a:Key)=Sum.inl b)=false:=decide_eq_false (fun q=>nomatch q)
def mixKind (prog:Program) (w:World):PySem.KeyKind prog w Key where
 is:=keyIs
 hash:=keyH w
 inj:=fun v a b ha hb=>by
  rcases zav ha with ⟨i,t,rfl,rfl⟩ | ⟨x,t,rfl,rfl⟩ | ⟨c,rfl,rfl⟩
  ·rcases zav hb with ⟨j,u,rfl,e⟩ | ⟨y,u,rfl,e⟩ | ⟨d,rfl,e⟩
   ·injection e with e1 _;rw [e1]
   ·exact nomatch e
   ·exact nomatch e
  ·rcases zav hb with ⟨j,u,rfl,e⟩ | ⟨y,u,rfl,e⟩ | ⟨d,rfl,e⟩
   ·exact nomatch e
   ·injection e with e1 _;rw [e1]
   ·exact nomatch e
  ·rcases zav hb with ⟨j,u,rfl,e⟩ | ⟨y,u,rfl,e⟩ | ⟨d,rfl,e⟩
   ·exact nomatch e
   ·exact nomatch e
   ·injection e with e1;rw [e1]
 byValue:=fun k v h=>by
  rcases zav h with ⟨i,t,rfl,rfl⟩ | ⟨x,t,rfl,rfl⟩ | ⟨c,rfl,rfl⟩ <;> rfl
 pyHash:=fun hv h=>by
  rcases zav hv with ⟨i,t,rfl,rfl⟩ | ⟨x,t,rfl,rfl⟩ | ⟨c,rfl,rfl⟩
  ·exact wpAny_pyHash_int h
  ·exact wpAny_pyHash_str h
  ·exact ztm h
 eqBool:=fun hu hv h=>by
  rcases zav hu with ⟨i,t,rfl,rfl⟩ | ⟨x,t,rfl,rfl⟩ | ⟨c,rfl,rfl⟩
  ·rcases zav hv with ⟨j,u,rfl,rfl⟩ | ⟨y,u,rfl,rfl⟩ | ⟨d,rfl,rfl⟩
   ·rw [zkr] at h;exact wpAny_eqBool_int h
   ·rw [zr1] at h;exact SeqAt.EqAt.int_str i t y u _ _ _ _ h
   ·rw [zkr] at h;exact SeqAt.EqAt.int_bool i t d _ _ _ _ h
  ·rcases zav hv with ⟨j,u,rfl,rfl⟩ | ⟨y,u,rfl,rfl⟩ | ⟨d,rfl,rfl⟩
   ·rw [zr0] at h;exact SeqAt.EqAt.str_int x t j u _ _ _ _ h
   ·rw [key_rr] at h;exact wpAny_eqBool_str h
   ·rw [zr0] at h;exact SeqAt.EqAt.str_bool x t d _ _ _ _ h
  ·rcases zav hv with ⟨j,u,rfl,rfl⟩ | ⟨y,u,rfl,rfl⟩ | ⟨d,rfl,rfl⟩
   ·rw [zkr] at h;exact SeqAt.EqAt.bool_int c j u _ _ _ _ h
   ·rw [zr1] at h;exact SeqAt.EqAt.bool_str c y u _ _ _ _ h
   ·rw [zkr,show (blI c == blI d)=(c == d) by cases c <;> cases d <;> rfl] at h
    exact SeqAt.EqAt.bool_bool c d _ _ _ _ h
 «strs»:=fun k x t v h=>by
  rcases zav h with ⟨i,u,rfl,e⟩ | ⟨y,u,rfl,e⟩ | ⟨d,rfl,e⟩
  ·exact nomatch e
  ·injection e with e1 _
   subst e1
   cases v <;> rfl
  ·exact nomatch e
theorem zi9 (prog:Program) (w:World) (i:Int) (t:Tok):(mixKind prog w).is (.inl i) (.int i t)=true:=zob i t
theorem zi8 (prog:Program) (w:World) (x:Str) (t:Tok):(mixKind prog w).is (.inr x) (.str x t)=true:=zoa x t
inductive V where
 | non | bl (b:Bool) | int (i:Int) | str (x:Str) | byt (b:Array UInt8) | flt (b:UInt64) | ref (a:Addr) | ty (n:String)
 deriving DecidableEq
def RelV:V→Value→Prop
 | .non,u=>u=Value.none
 | .bl b,u=>u=Value.bool b
 | .int i,u=>∃ t,u=Value.int i t
 | .str x,u=>∃ t,u=Value.str x t
 | .byt b,u=>∃ t,u=Value.bytes b t
 | .flt b,u=>∃ t,u=Value.float b t
 | .ref a,u=>u=Value.ref a
 | .ty n,u=>u=Value.type n
abbrev Vals:List V→List Value→Prop:=Paired RelV
theorem Vals.length {xs:List V} {us:List Value} (r:Vals xs us):xs.length=us.length:=Paired.length r
theorem Vals.get:∀ {xs:List V} {us:List Value} {i:Nat} {x:V},Vals xs us→xs[i]?=some x→∃ u,us[i]?=some u∧RelV x u
 | _,_,_,_,.nil,e=>by simp at e
 | _,_,0,_,.cons r _,e=>by simp at e;subst e;exact ⟨_,rfl,r⟩
 | _,_,i + 1,x,.cons _ t,e=>by
  obtain ⟨u,h1,h2⟩:=Vals.get (i:=i) (x:=x) t (by simpa using e)
  exact ⟨u,by simpa using h1,h2⟩
theorem Vals.append:∀ {xs ys:List V} {us ws:List Value},Vals xs us→Vals ys ws→Vals (xs ++ ys) (us ++ ws)
 | _,_,_,_,.nil,s=>s
 | _,_,_,_,.cons r t,s=>.cons r (Vals.append t s)
theorem Vals.take:∀ {xs:List V} {us:List Value} (n:Nat),Vals xs us→Vals (xs.take n) (us.take n)
 | _,_,0,_=>.nil
 | _,_,_ + 1,.nil=>.nil
 | _,_,n + 1,.cons r t=>.cons r (Vals.take n t)
theorem Vals.drop:∀ {xs:List V} {us:List Value} (n:Nat),Vals xs us→Vals (xs.drop n) (us.drop n)
 | _,_,0,r=>r
 | _,_,_ + 1,.nil=>.nil
 | _,_,n + 1,.cons _ t=>Vals.drop n t
def RelO:Option V→Option Value→Prop
 | some v,some u=>RelV v u
 | none,none=>True
 | _,_=>False
def KV {κ:Type}:List (κ × V)→List (κ × Value)→Prop:=Paired fun (p:κ × V) (q:κ × Value)=>p.1=q.1∧RelV p.2 q.2
def kV:Key→V
 | .inl i=>.int i
 | .inr x=>.str x
inductive HO where
  | lst (xs:List V)
  | tup (xs:List V)
  | dK (kvs:List (Key × V)) | dT (kvs:List (List Key × V))
  | set (S:Int→Bool) (n:Nat)
  | ins (C dx:Addr) (fs:List (Str × V))
  | own (x:Addr)
  | xd (fs:List (Str × V))
  | met (f x:Addr)
  | rng (lo hi:Int)
  | frz (o:Obj) (u:HO)
  | tbl (qs:Z3) (ps:Array Value)
  | ext (φ:Heap→Prop)
abbrev Hp:=Addr→Option HO
def upd (H:Hp) (a:Addr) (o:HO):Hp:=fun b=>if b=a then some o else H b
theorem zam {H:Hp} {a:Addr} {o:HO}:upd H a o a=some o:=by unfold upd;rw [if_pos rfl]
theorem zal {H:Hp} {a b:Addr} {o:HO} (h:b ≠ a):upd H a o b=H b:=by unfold upd;rw [if_neg h]
theorem zlr {H:Hp} {a b:Addr} {o u:HO} (h:H a=some o) (h':H b=some u) (d:o ≠ u):a ≠ b:=by
 intro e;subst e;rw [h] at h';exact d (Option.some.inj h')
theorem zaf {H:Hp} {a b:Addr} {o:HO} (h:H a=some o) (h':H b=none):a ≠ b:=by
 intro e;subst e;rw [h] at h';cases h'
section
variable (P:Program) (w:World)
def CodeObj (o:Obj) (q:Str):Prop:=∃ vs t,o.data=.fields vs∧vs[1]?=some (.str q t)
def ObjOk (H:Hp) (h:Heap) (a:Addr):HO→Prop
 | .lst xs=>xs.length ≤ sizeLine∧∃ (its:List Value) (n:Nat),Vals xs its∧h.get? a=some { cls:=.type "list",data:=.seq its.toArray n }
 | .tup xs=>xs.length ≤ sizeLine∧∃ its:List Value,Vals xs its∧IsTup h a its.toArray
 | .dK kvs=>kvs.length ≤ sizeLine∧(a == sysModules)=false∧∃ vs,KV kvs vs∧h.DictOf (mixKind P w) a vs
 | .dT kvs=>kvs.length ≤ sizeLine∧(a == sysModules)=false∧∃ xs:List (List Key × Addr × Value),
   Paired (fun (p:List Key × V) (q:List Key × Addr × Value)=>p.1=q.1∧H q.2.1=some (.tup (p.1.map kV))∧RelV p.2 q.2.2) kvs xs ∧
   ∃ o es ep,h.get? a=some o∧o.ExactDict∧o.data=.dict es ep∧es.toList=xs.map (entryOfKey (tupleKind (mixKind P w)))∧(xs.map (·.1)).Nodup
 | .set S n=>h.SetOf (intKind P w) a S n
 | .ins C dx fs=>H dx=some (.own a)∧fs.length ≤ 1000∧dx ≠ a∧h.get? a=some (PySem.W.instObj C dx) ∧
   ∃ mA,h.Ns1 dx mA∧(∀ f,RelO (fs.lookup f) (mA f))∧PySem.Within mA (fs.map (·.1))
 | .own _=>∃ o,h.get? a=some o
 | .xd fs=>∃ mA,h.Ns1 a mA∧∀ f,RelO (fs.lookup f) (mA f)
 | .rng lo hi=>∃ t u v,h.get? a=some { cls:=.type "range",data:=.fields #[.int lo t,.int hi u,.int 1 v] }
 | .frz o u=>h.get? a=some o∧ObjOk H h a u
 | .tbl qs ps=>∃ more:Array Value,h.get? a=some { cls:=.none,data:=.fields (ps ++ more) }∧TriplesOk (ps ++ more).toList∧∀ p ∈ qs,∀ v,codeAmong p.1 (ps ++ more).toList=some v→∃ c o,v=.ref c∧H c=some (.frz o (.own c))∧CodeObj o p.2
 | .met f x=>h.get? a=some (PySem.W.methodObj (.ref f) (.ref x))
 | .ext φ=>φ h∧(∃ o,h.get? a=some o)∧∀ h1 h2:Heap,φ h1→(∀ o,h1.get? a=some o→h2.get? a=some o)→φ h2
def HOk (H:Hp) (h:Heap):Prop:=∀ a o,H a=some o→ObjOk P w H h a o
end
section
variable {P:Program} {w:World} {H H':Hp} {h h':Heap} {a:Addr} {o:HO}
theorem ObjOk.lt (x:ObjOk P w H h a o):a < h.objs.size:=by
 cases o with
 | lst xs=>obtain ⟨_,_,_,_,e⟩:=x;exact y0g e
 | tup xs=>obtain ⟨_,_,_,p⟩:=x;exact p.lt
 | dK kvs=>obtain ⟨_,_,_,_,o,_,_,e,_⟩:=x;exact y0g e
 | dT kvs=>obtain ⟨_,_,_,_,o,_,_,e,_⟩:=x;exact y0g e
 | set S n=>obtain ⟨o,_,_,_,e,_⟩:=x;exact y0g e
 | ins C dx fs=>obtain ⟨_,_,_,e,_⟩:=x;exact y0g e
 | own y=>obtain ⟨_,e⟩:=x;exact y0g e
 | xd fs=>obtain ⟨_,⟨_,_,_,e,_⟩,_⟩:=x;exact y0g e
 | rng lo hi=>obtain ⟨_,_,_,e⟩:=x;exact y0g e
 | frz ob u=>obtain ⟨e,_⟩:=x;exact y0g e
 | tbl qs ps=>obtain ⟨_,e,_⟩:=x;exact y0g e
 | met f y=>exact y0g (show h.get? a=some _ from x)
 | ext φ=>obtain ⟨_,⟨_,e⟩,_⟩:=x;exact y0g e
theorem Paired.mapP {α β:Type} {F G:α→β→Prop}:∀ {l₁:List α} {l₂:List β},Paired F l₁ l₂→(∀ a b,F a b→G a b)→Paired G l₁ l₂
 | _,_,.nil,_=>.nil
 | _,_,.cons r t,f=>.cons (f _ _ r) (Paired.mapP t f)
theorem ObjOk.stay (x:ObjOk P w H h a o) (k:∀ b u,(b=a∨H b=some (.own a))→h.get? b=some u→h'.get? b=some u)
  (ho:∀ b,H b=some (.own a)→H' b=some (.own a)) (hf:∀ b o u q,CodeObj o q→H b=some (.frz o u)→H' b=some (.frz o u)) (ht:∀ b xs,H b=some (.tup xs)→H' b=some (.tup xs)):ObjOk P w H' h' a o:=by
 induction o with
 | lst xs=>obtain ⟨z,its,n,r,e⟩:=x;exact ⟨z,its,n,r,k _ _ (.inl rfl) e⟩
 | tup xs=>obtain ⟨z,its,r,ob,e,c⟩:=x;exact ⟨z,its,r,ob,k _ _ (.inl rfl) e,c⟩
 | dK kvs=>obtain ⟨z,y,vs,r,ob,es,ep,e,c⟩:=x;exact ⟨z,y,vs,r,ob,es,ep,k _ _ (.inl rfl) e,c⟩
 | dT kvs =>
  obtain ⟨z,y,xs,r,ob,es,ep,e,c⟩:=x
  exact ⟨z,y,xs,Paired.mapP r fun p q z=>⟨z.1,ht _ _ z.2.1,z.2.2⟩,ob,es,ep,k _ _ (.inl rfl) e,c⟩
 | set S n=>obtain ⟨ob,es,ep,t,e,c⟩:=x;exact ⟨ob,es,ep,t,k _ _ (.inl rfl) e,c⟩
 | ins C dx fs =>
  obtain ⟨d,z,ne,e,mA,⟨od,es,ep,e2,c⟩,r⟩:=x
  exact ⟨ho _ d,z,ne,k _ _ (.inl rfl) e,mA,⟨od,es,ep,k _ _ (.inr d) e2,c⟩,r⟩
 | own y=>obtain ⟨ob,e⟩:=x;exact ⟨ob,k _ _ (.inl rfl) e⟩
 | xd fs=>obtain ⟨mA,⟨od,es,ep,e,c⟩,r⟩:=x;exact ⟨mA,⟨od,es,ep,k _ _ (.inl rfl) e,c⟩,r⟩
 | rng lo hi=>obtain ⟨t,u,v,e⟩:=x;exact ⟨t,u,v,k _ _ (.inl rfl) e⟩
 | frz ob u ih=>obtain ⟨e,q⟩:=x;exact ⟨k _ _ (.inl rfl) e,ih q⟩
 | tbl qs ps=>obtain ⟨more,e,t,c⟩:=x;exact ⟨more,k _ _ (.inl rfl) e,t,fun p hp v q=>let ⟨c1,o,r,z,co⟩:=c p hp v q;⟨c1,o,r,hf _ _ _ _ co z,co⟩⟩
 | met f y =>
  have e:h.get? a=some (PySem.W.methodObj (.ref f) (.ref y)):=x
  show h'.get? a=some (PySem.W.methodObj (.ref f) (.ref y))
  exact k a _ (.inl rfl) e
 | ext φ=>obtain ⟨p,⟨o,e⟩,st⟩:=x;exact ⟨st _ _ p fun o q=>k _ _ (.inl rfl) q,⟨o,k _ _ (.inl rfl) e⟩,st⟩
theorem HOk.lt (x:HOk P w H h) (e:H a=some o):a < h.objs.size:=(x a o e).lt
theorem HOk.fresh (x:HOk P w H h) (e:h.objs.size ≤ a):H a=none:=by
 cases q:H a with
 | none=>rfl
 | some u=>exact absurd (y0h (x.lt q) e) (y1a _)
theorem HOk.kept (x:HOk P w H h) (k:∀ b u,h.get? b=some u→h'.get? b=some u):HOk P w H h':=fun a o e =>
 (x a o e).stay (fun b u _ q=>k b u q) (fun _ q=>q) (fun _ _ _ _ _ q=>q) fun _ _ q=>q
theorem HOk.laid (x:HOk P w H h) (k:∀ b u,h.get? b=some u→h'.get? b=some u) (hp:h.objs.size ≤ a) (new:ObjOk P w (upd H a o) h' a o):HOk P w (upd H a o) h':=fun b u e=>by
 have hn:=x.fresh hp
 by_cases hb:b=a
 ·subst hb;rw [zam] at e;cases e;exact new
 ·rw [zal hb] at e
  exact (x b u e).stay (fun c v _ q=>k c v q) (fun c q=>by rw [zal (zaf q hn)];exact q) (fun c _ _ _ _ q=>by rw [zal (zaf q hn)];exact q) fun c xs q=>by rw [zal (zaf q hn)];exact q
end
def Rd (H:Hp) (a:Addr) (u:HO):Prop:=H a=some u∨∃ o,H a=some (.frz o u)
theorem Rd.ok {P:Program} {w:World} {H:Hp} {h:Heap} {a:Addr} {u:HO} (r:Rd H a u) (x:HOk P w H h):ObjOk P w H h a u:=by
 rcases r with r | ⟨o,r⟩
 ·exact x a u r
 ·obtain ⟨_,q⟩:=x a _ r
  exact q
def Mut:Option HO→Prop
 | some (.lst _)=>True
 | some (.dK _)=>True
 | some (.dT _)=>True
 | some (.set _ _)=>True
 | some (.ins _ _ _)=>True
 | some (.ext _)=>True
 | _=>False
section
variable {P:Program} {w:World} {H:Hp} {h h':Heap} {x e:Addr} {o':HO}
theorem HOk.write (ok:HOk P w H h) (mu:Mut (H x)) (he:e=x∨H e=some (.own x)) (k:∀ b u,b ≠ e→h.get? b=some u→h'.get? b=some u) (heo:∃ u,h'.get? e=some u)
  (new:ObjOk P w (upd H x o') h' x o'):HOk P w (upd H x o') h':=fun b u q=>by
 have nown:∀ c y,H c=some (.own y)→c ≠ x:=fun c y r z=>by subst z;rw [r] at mu;exact mu
 have ntup:∀ c xs,H c=some (.tup xs)→c ≠ x:=fun c xs r z=>by subst z;rw [r] at mu;exact mu
 have nfrz:∀ c o y,H c=some (.frz o y)→c ≠ x:=fun c o y r z=>by subst z;rw [r] at mu;exact mu
 by_cases hb:b=x
 ·subst hb;rw [zam] at q;cases q;exact new
 ·rw [zal hb] at q
  by_cases hbe:b=e
  ·have q':H b=some (.own x):=by
    rcases he with z | z
    ·exact absurd (hbe.trans z) hb
    ·rw [hbe];exact z
   rw [q] at q';cases q'
   obtain ⟨v,hv⟩:=heo
   exact ⟨v,by rw [hbe];exact hv⟩
  ·refine (ok b u q).stay (fun c v hc r=>k c v ?_ r) (fun c r=>by rw [zal (nown c b r)];exact r) (fun c o y _ _ r=>by rw [zal (nfrz c o y r)];exact r) fun c xs r=>by rw [zal (ntup c xs r)];exact r
   rcases hc with rfl | hc
   ·exact hbe
   ·rintro rfl
    rcases he with z | z
    ·exact nown c b hc z
    ·rw [hc] at z;cases z;exact hb rfl
end
structure Un (fs ex:List Addr) (H H':Hp) (h h':Heap):Prop where
 keep:∀ b o,h.get? b=some o→H b=none→b ∉ fs→b ∉ ex→h'.get? b=some o
 slot:∀ b o,h.get? b=some o→H b=none→b ∈ fs→b ∉ ex→∃ sl,h'.get? b=some { o with slots:=sl }
 free:∀ b o,h.get? b=some o→H b=none→b ∉ ex→H' b=none
 there:∀ b o,h.get? b=some o→b ∉ ex→∃ o',h'.get? b=some o'
 tups:∀ b xs,H b=some (.tup xs)→H' b=some (.tup xs)
 frzs:∀ b o u,H b=some (.frz o u)→H' b=some (.frz o u)
 tbls:∀ b qs ps,H b=some (.tbl qs ps)→H' b=some (.tbl qs ps)
section
variable {fs fs' ex ex':List Addr} {H H1 H2:Hp} {h h1 h2 h':Heap} {a x e:Addr} {o:HO}
theorem Un.any (u:Un fs ex H H1 h h1) {b:Addr} {ob:Obj} (q:h.get? b=some ob) (n:H b=none) (hx:b ∉ ex):∃ sl,h1.get? b=some { ob with slots:=sl }:=by
 by_cases hb:b ∈ fs
 ·exact u.slot b ob q n hb hx
 ·exact ⟨ob.slots,u.keep b ob q n hb hx⟩
theorem Un.kept (k:∀ b u,h.get? b=some u→h'.get? b=some u):Un fs ex H H h h' :=
 ⟨fun b ob q _ _ _=>k b ob q,fun b ob q _ _ _=>⟨ob.slots,k b ob q⟩,fun _ _ _ n _=>n,fun b ob q _=>⟨ob,k b ob q⟩,fun _ _ q=>q,fun _ _ _ q=>q,fun _ _ _ q=>q⟩
theorem Un.refl:Un fs ex H H h h:=Un.kept fun _ _ q=>q
theorem Un.laid (k:∀ b u,h.get? b=some u→h'.get? b=some u) (hp:h.objs.size ≤ a) (hn:H a=none):Un fs ex H (upd H a o) h h' where
 keep:=fun b u q _ _ _=>k b u q
 slot:=fun b u q _ _ _=>⟨u.slots,k b u q⟩
 free:=fun b u q n _=>by rw [zal (y0n (y0h (y0g q) hp))];exact n
 there:=fun b u q _=>⟨u,k b u q⟩
 tups:=fun b xs q=>by rw [zal (zaf q hn)];exact q
 frzs:=fun b u xs q=>by rw [zal (zaf q hn)];exact q
 tbls:=fun b qs ps q=>by rw [zal (zaf q hn)];exact q
theorem Un.write (mu:Mut (H x)) (he:e=x∨H e=some (.own x)) (k:∀ b u,b ≠ e→h.get? b=some u→h'.get? b=some u) (heo:∃ u,h'.get? e=some u):Un fs ex H (upd H x o) h h':=by
 have hx:∀ b,H b=none→b ≠ x:=fun b n z=>by subst z;rw [n] at mu;exact mu
 have hb:∀ b,H b=none→b ≠ e:=fun b n z=>by
  subst z
  rcases he with r | r
  ·exact hx b n r
  ·rw [n] at r;cases r
 have hm:∀ b u,H b=some u→¬ Mut (some u)→b ≠ x:=fun b u q nm z=>by subst z;rw [q] at mu;exact nm mu
 refine ⟨fun b u q n _ _=>k b u (hb b n) q,fun b u q n _ _=>⟨u.slots,k b u (hb b n) q⟩,fun b u q n _=>by rw [zal (hx b n)];exact n,fun b u q _=>?_,
  fun b xs q=>by rw [zal (hm b _ q fun z=>z)];exact q,fun b u xs q=>by rw [zal (hm b _ q fun z=>z)];exact q,fun b qs ps q=>by rw [zal (hm b _ q fun z=>z)];exact q⟩
 by_cases hbe:b=e
 ·subst hbe;exact heo
 ·exact ⟨u,k b u hbe q⟩
end
def trk (h:Heap) (H:Hp):List Addr:=(List.range h.objs.size).filter fun a=>(H a).isSome
def hidT (h:Heap) (H:Hp):Heap:=PySem.W.hideAll h (trk h H)
theorem zoi (h:Heap) (H:Hp):(hidT h H).objs.size=h.objs.size:=PySem.W.hideAll_size _ _
theorem zqz {h:Heap} {H:Hp} {b:Addr} {o:Obj} (e:h.get? b=some o) (n:H b=none):(hidT h H).get? b=some o :=
 PySem.W.hideAll_get _ e fun hm=>by
  have q:(H b).isSome=true:=(y32.mp hm).2
  rw [n] at q;simp at q
theorem zs9 {h:Heap} {H:Hp} {b:Addr} {o:Obj} (e:(hidT h H).get? b=some o):h.get? b=some o∧H b=none:=by
 have e':h.get? b=some o:=PySem.W.of_hideAll (trk h H) e
 refine ⟨e',?_⟩
 cases q:H b with
 | none=>rfl
 | some x =>
  have hm:b ∈ trk h H:=y32.mpr ⟨y0k.mpr (y0g e'),by simp [q]⟩
  have z:(hidT h H).get? b=none:=PySem.W.hideAll_none (trk h H) hm
  rw [z] at e;cases e
def allNews (g h:Heap) (L:Addr):List (Addr × Obj):=(List.range h.objs.size).filterMap fun a=>if a=L∨(g.get? a).isSome=true then none else (h.get? a).map fun o=>(a,o)
def rest (g h:Heap) (L d:Addr):List (Addr × Obj):=(allNews g h L).filter fun p=>decide (p.1 ≠ d)
structure Mod (K:Frag) (mg:Z1) (base:Heap):Prop where
 kin:K.In base
 glob:base.Ns mainGlobals mg
 blt:∃ mb,base.Ns builtinsNs mb∧∀ x:Str,x ≠ "__name__"→mb x=bootBuiltins x
 nolimit:base.NoLimit
structure Cx where
 prog:Program
 w:World
 K:Frag
 mg:Str→Option Value
 base:Heap
 A:Around
 N:List Str
 s₀:Shared
 H₀:Hp
 env:Env
 outer:List Env
 stack:List Env
 ex:List Addr
 fn:Str→Bool
 calm:Bool
 pn:List (Addr × Obj)
 xe:Value→Shared→Prop
def frs (l:List Env):List Addr:=l.filterMap (·.frame)
abbrev Cx.fs (X:Cx):List Addr:=frs X.outer
def Vis (sc:Scope) (x:Str):Prop:=sc.names.lookup x=some .local∨sc.names.lookup x=some .cell∨sc.names.lookup x=some .free
def Loc (sc:Scope) (x:Str):Prop:=sc.names.lookup x=some .local∨sc.names.lookup x=some .cell
def Look (env:Env) (h:Heap) (m:Z1) (x:Str) (u:Value):Prop :=
 (env.kindOf x=some .local∧m x=some u)∨((env.kindOf x=some .cell∨env.kindOf x=some .free)∧∃ c,env.cells.lookup x=some c∧h.IsCell c (some u))
structure Cx.Ok (X:Cx):Prop where
 mod:Mod X.K X.mg X.base
 kind:X.env.scope.kind=.function
 glob:X.env.globals=mainGlobals
 blt:X.env.builtins=builtinsNs
 above:X.s₀.heap.objs.size ≤ X.env.locals
 inj:∀ x y c,X.env.cells.lookup x=some c→X.env.cells.lookup y=some c→x=y
 has:∀ x,(X.env.kindOf x=some .cell∨X.env.kindOf x=some .free)→∃ c,X.env.cells.lookup x=some c
 cab:∀ x c,X.fn x=true→X.env.cells.lookup x=some c→X.s₀.heap.objs.size ≤ c
 hd:X.calm=true→X.A.handled=none
 frames:X.A.frames=some X.stack
 stk:X.stack=X.outer∨(X.stack=X.env :: X.outer∧X.env.frame=some X.env.locals)
 exf:∀ b ∈ X.ex,b ≠ X.env.locals∧∀ x c,X.env.cells.lookup x=some c→c ≠ b
 bs:∀ b o,X.base.get? b=some o→X.s₀.heap.get? b=some o∧X.H₀ b=none
 bsz:X.base.objs.size ≤ X.s₀.heap.objs.size
 noex:∀ b o,X.base.get? b=some o→b ∉ X.ex
 exfs:∀ b ∈ X.ex,b ∉ X.fs
 funs:X.s₀.heap.FunFrames X.base X.outer
 frf:∀ b ∈ X.fs,X.H₀ b=none
structure Inv (X:Cx) (pins:Z2) (σ:List (Option V)) (H:Hp) (s:Shared):Prop where
 ok:X.Ok
 os:s.os=X.s₀.os
 bare:AllBare s.gens
 base:Un X.fs X.ex X.H₀ H X.s₀.heap s.heap
 loc:∃ m,s.heap.Ns X.env.locals m∧∀ (i:Nat) (x:Str) (v:V),X.N[i]?=some x→σ[i]?=some (some v)→Vis X.env.scope x→∃ u,RelV v u∧Look X.env s.heap m x u
 cell:∀ x c,X.env.cells.lookup x=some c→∃ v,s.heap.IsCell c v
 free:H X.env.locals=none
 freeC:∀ x c,X.env.cells.lookup x=some c→H c=none
 pin:∀ p ∈ X.pn ++ pins,s.heap.get? p.1=some p.2∧H p.1=none∧p.1 ≠ X.env.locals∧p.1 ∉ X.fs∧∀ v,p.2.data ≠ .cell v
 hok:HOk X.prog X.w H s.heap
 len:σ.length=X.N.length
section
variable {X:Cx} {pins:Z2} {σ:List (Option V)} {H H':Hp} {s:Shared} {h':Heap}
theorem Cx.Ok.nofr (ok:X.Ok) {b:Addr} {o:Obj} (e:X.base.get? b=some o):b ∉ X.fs:=fun hb=>by
 have:=(ok.funs.mem hb).1
 rw [e] at this;cases this
theorem Inv.bs (I:Inv X pins σ H s):∀ b o,X.base.get? b=some o→s.heap.get? b=some o∧H b=none:=fun b o e =>
 ⟨I.base.keep b o (I.ok.bs b o e).1 (I.ok.bs b o e).2 (I.ok.nofr e) (I.ok.noex b o e),I.base.free b o (I.ok.bs b o e).1 (I.ok.bs b o e).2 (I.ok.noex b o e)⟩
theorem Inv.bk (I:Inv X pins σ H s):∀ b o,X.base.get? b=some o→s.heap.get? b=some o:=fun b o e=>(I.bs b o e).1
theorem Inv.mod (I:Inv X pins σ H s):Mod X.K X.mg X.base:=I.ok.mod
theorem Inv.kIn (I:Inv X pins σ H s):X.K.In s.heap:=I.ok.mod.kin.keeps I.bk
theorem Inv.lt (I:Inv X pins σ H s):X.env.locals < s.heap.objs.size:=let ⟨_,hn,_⟩:=I.loc;hn.lt
theorem Inv.sz (I:Inv X pins σ H s):X.s₀.heap.objs.size ≤ s.heap.objs.size:=y13 I.ok.above (y1l I.lt)
theorem Inv.nofs (I:Inv X pins σ H s) {a:Addr} (h:s.heap.objs.size ≤ a):a ∉ X.fs:=fun hb=>by
 obtain ⟨_,o,ho,_⟩:=I.ok.funs.mem hb
 exact absurd (y0h (y0g ho) (y13 I.sz h)) (y1a _)
theorem Inv.cne (I:Inv X pins σ H s):∀ x c,X.env.cells.lookup x=some c→c ≠ X.env.locals:=fun x c e z=>by
 obtain ⟨v,o,ho,hd⟩:=I.cell x c e
 obtain ⟨m,⟨o',es,ep,ho',hd',_⟩,_⟩:=I.loc
 rw [z,ho'] at ho;cases ho;rw [hd'] at hd;cases hd
theorem Inv.funs (I:Inv X pins σ H s):s.heap.FunFrames X.base X.outer:=by
 have all:∀ (l:List Env),(∀ b ∈ frs l,b ∈ X.fs)→X.s₀.heap.FunFrames X.base l→s.heap.FunFrames X.base l:=by
  intro l
  induction l with
  | nil=>intro _ _;trivial
  | cons env r ih =>
   intro hs hl
   obtain ⟨hk,⟨L,o,hf,hn,ho,hd⟩,hr⟩:=hl
   have hL:L ∈ X.fs:=hs L (by unfold frs;rw [y1s,hf];exact y0d)
   obtain ⟨sl,e⟩:=I.base.slot L o ho (I.ok.frf L hL) hL fun z=>I.ok.exfs L z hL
   exact ⟨hk,⟨L,_,hf,hn,e,hd⟩,ih (fun b hb=>hs b (by unfold frs;rw [y1s,hf];exact y08 _ hb)) hr⟩
 exact all X.outer (fun _ hb=>hb) I.ok.funs
theorem Inv.stack (I:Inv X pins σ H s):s.heap.FunFrames X.base X.stack:=by
 rcases I.ok.stk with e | ⟨e,hf⟩
 ·rw [e];exact I.funs
 ·rw [e]
  obtain ⟨m,hn,_⟩:=I.loc
  refine .cons (by rw [I.ok.kind];decide) hf hn ?_ I.funs
  exact Heap.get?_none_of_le (y13 I.ok.bsz I.ok.above)
theorem Inv.stkSub (I:Inv X pins σ H s):∀ b ∈ frs X.stack,b ∈ X.env.locals :: X.fs:=fun b hb=>by
 rcases I.ok.stk with e | ⟨e,hf⟩
 ·rw [e] at hb;exact y08 _ hb
 ·rw [e] at hb
  unfold frs at hb
  rw [y1s,hf] at hb
  exact hb
theorem Inv.stkFree (I:Inv X pins σ H s):∀ b ∈ frs X.stack,H b=none:=fun b hb=>by
 rcases y0f.mp (I.stkSub b hb) with e | hb
 ·rw [e];exact I.free
 ·obtain ⟨_,o,ho,_⟩:=I.ok.funs.mem hb
  exact I.base.free b o ho (I.ok.frf b hb) fun z=>I.ok.exfs b z hb
theorem Inv.step {g':Array GenState} {t':Nat} {d':Drawn} {ch:List Addr} (I:Inv X pins σ H s)
  (hch:∀ b ∈ ch,(b ∈ X.ex∨X.s₀.heap.objs.size ≤ b)∧b ≠ X.env.locals∧(∀ x c,X.env.cells.lookup x=some c→c ≠ b)∧∀ p ∈ X.pn ++ pins,p.1 ≠ b)
  (keep:∀ b o,b ≠ X.env.locals→b ∉ X.fs→b ∉ ch→s.heap.get? b=some o→H b=none→h'.get? b=some o)
  (slot:∀ b o,b ≠ X.env.locals→b ∈ X.fs→b ∉ ch→s.heap.get? b=some o→H b=none→∃ sl,h'.get? b=some { o with slots:=sl }) (free:∀ b o,b ∉ ch→s.heap.get? b=some o→H b=none→H' b=none)
  (there:∀ b o,b ∉ ch→s.heap.get? b=some o→∃ o',h'.get? b=some o')
  (tups:∀ b xs,H b=some (.tup xs)→H' b=some (.tup xs)) (frzs:∀ b o u,H b=some (.frz o u)→H' b=some (.frz o u)) (tbls:∀ b qs ps,H b=some (.tbl qs ps)→H' b=some (.tbl qs ps))
  (ns:∀ m,s.heap.Ns X.env.locals m→h'.Ns X.env.locals m) (hok:HOk X.prog X.w H' h') (hg:AllBare g') :
  Inv X pins σ H' { s with heap:=h',gens:=g',drawn:=d',toks:=t' }:=by
 have neL:∀ b o,X.s₀.heap.get? b=some o→b ≠ X.env.locals:=fun b o e=>y0n (y0h (y0g e) I.ok.above)
 have neC:∀ b o,X.s₀.heap.get? b=some o→b ∉ X.ex→b ∉ ch:=fun b o e hx hb=>by
  rcases (hch b hb).1 with z | z
  ·exact hx z
  ·exact absurd (y0h (y0g e) z) (y1a _)
 have cellK:∀ x c,X.env.cells.lookup x=some c→∀ v,s.heap.IsCell c v→h'.IsCell c v:=fun x c e v ⟨o,ho,hd⟩=>by
  have nch:c ∉ ch:=fun z=>(hch c z).2.2.1 x c e rfl
  by_cases hc:c ∈ X.fs
  ·obtain ⟨sl,q⟩:=slot c o (I.cne x c e) hc nch ho (I.freeC x c e)
   exact ⟨_,q,hd⟩
  ·exact ⟨o,keep c o (I.cne x c e) hc nch ho (I.freeC x c e),hd⟩
 refine ⟨I.ok,I.os,hg,⟨fun b o e n hb hx=>?_,fun b o e n hb hx=>?_,fun b o e n hx=>?_,fun b o e hx=>?_,fun b xs e=>tups b xs (I.base.tups b xs e),fun b o xs e=>frzs b o xs (I.base.frzs b o xs e),fun b qs ps e=>tbls b qs ps (I.base.tbls b qs ps e)⟩,?_,fun x c e=>?_,?_,fun x c e=>?_,fun p hp=>?_,hok,I.len⟩
 ·exact keep b o (neL b o e) hb (neC b o e hx) (I.base.keep b o e n hb hx) (I.base.free b o e n hx)
 ·obtain ⟨sl,e1⟩:=I.base.slot b o e n hb hx
  obtain ⟨sl',e2⟩:=slot b _ (neL b o e) hb (neC b o e hx) e1 (I.base.free b o e n hx)
  exact ⟨sl',e2⟩
 ·obtain ⟨o',e1⟩:=I.base.there b o e hx
  exact free b o' (neC b o e hx) e1 (I.base.free b o e n hx)
 ·obtain ⟨o',e1⟩:=I.base.there b o e hx
  exact there b o' (neC b o e hx) e1
 ·obtain ⟨m,hn,hl⟩:=I.loc
  refine ⟨m,ns m hn,fun i x v e1 e2 e3=>?_⟩
  obtain ⟨u,r,l⟩:=hl i x v e1 e2 e3
  refine ⟨u,r,?_⟩
  rcases l with l | ⟨k,c,e,z⟩
  ·exact .inl l
  ·exact .inr ⟨k,c,e,cellK x c e _ z⟩
 ·obtain ⟨v,z⟩:=I.cell x c e
  exact ⟨v,cellK x c e v z⟩
 ·obtain ⟨m,⟨o,_,_,ho,_⟩,_⟩:=I.loc
  exact free _ o (fun z=>(hch _ z).2.1 rfl) ho I.free
 ·obtain ⟨v,o,ho,hd⟩:=I.cell x c e
  exact free c o (fun z=>(hch c z).2.2.1 x c e rfl) ho (I.freeC x c e)
 ·obtain ⟨e,n,ne,nf,d⟩:=I.pin p hp
  have nch:p.1 ∉ ch:=fun z=>(hch p.1 z).2.2.2 p hp rfl
  exact ⟨keep p.1 p.2 ne nf nch e n,free p.1 p.2 nch e n,ne,nf,d⟩
theorem Inv.un {t':Nat} (I:Inv X pins σ H s) (u:Un X.fs [] H H' s.heap h') (hok:HOk X.prog X.w H' h'):Inv X pins σ H' { s with heap:=h',toks:=t' }:=by
 obtain ⟨m,⟨o,es,ep,ho,r⟩,_⟩:=id I.loc
 obtain ⟨sl,hL⟩:=u.any ho I.free (by simp)
 exact I.step (g':=s.gens) (d':=s.drawn) (ch:=[]) (fun _ z=>nomatch z) (fun b o _ hb _ e n=>u.keep b o e n hb (by simp)) (fun b o _ hb _ e n=>u.slot b o e n hb (by simp)) (fun b o _ e n=>u.free b o e n (by simp)) (fun b o _ e=>u.there b o e (by simp)) u.tups u.frzs u.tbls (fun m' hm=>by
  obtain ⟨o',es',ep',ho',r'⟩:=hm
  rw [ho] at ho';cases ho'
  exact ⟨_,es',ep',hL,r'⟩) hok I.bare
theorem Inv.call {g':Array GenState} {t':Nat} {d':Drawn} {ch:List Addr} (I:Inv X pins σ H s) (u:Un (frs X.stack) ch H H' s.heap h') (hok:HOk X.prog X.w H' h') (hg:AllBare g')
  (hch:∀ b ∈ ch,(b ∈ X.ex∨X.s₀.heap.objs.size ≤ b)∧b ≠ X.env.locals∧(∀ x c,X.env.cells.lookup x=some c→c ≠ b)∧∀ p ∈ X.pn ++ pins,p.1 ≠ b) :
  Inv X pins σ H' { s with heap:=h',gens:=g',drawn:=d',toks:=t' }:=by
 obtain ⟨m,⟨o,es,ep,ho,r⟩,_⟩:=id I.loc
 obtain ⟨sl,hL⟩:=u.any ho I.free fun z=>(hch _ z).2.1 rfl
 exact I.step (ch:=ch) hch (fun b o hL hb hc e n=>u.keep b o e n (fun z=>(y0f.mp (I.stkSub b z)).elim hL hb) hc) (fun b o _ _ hc e n=>u.any e n hc) (fun b o hc e n=>u.free b o e n hc) (fun b o hc e=>u.there b o e hc) u.tups u.frzs u.tbls (fun m' hm=>by
  obtain ⟨o',es',ep',ho',r'⟩:=hm
  rw [ho] at ho';cases ho'
  exact ⟨_,es',ep',hL,r'⟩) hok hg
theorem Inv.turned {t':Nat} {it:Addr} (I:Inv X pins σ H s) (k:∀ b o,b ≠ it→s.heap.get? b=some o→h'.get? b=some o) (hn:H it=none) (hL:it ≠ X.env.locals)
  (h1:it ∈ X.ex∨X.s₀.heap.objs.size ≤ it) (h2:∀ x c,X.env.cells.lookup x=some c→c ≠ it) (h3:∀ p ∈ X.pn ++ pins,p.1 ≠ it):Inv X pins σ H { s with heap:=h',toks:=t' }:=by
 have nit:∀ b u,H b=some u→b ≠ it:=fun b u e z=>by rw [z,hn] at e;cases e
 refine I.step (g':=s.gens) (d':=s.drawn) (ch:=[it]) (fun b hb=>?_) (fun b o _ _ hc e _=>k b o (fun z=>hc (by simp [z])) e) (fun b o _ _ hc e _=>⟨o.slots,k b o (fun z=>hc (by simp [z])) e⟩) (fun _ _ _ _ n=>n)
  (fun b o hc e=>⟨o,k b o (fun z=>hc (by simp [z])) e⟩) (fun _ _ e=>e) (fun _ _ _ e=>e) (fun _ _ _ e=>e) (fun m hm=>?_) (fun b u e=>?_) I.bare
 ·have e:b=it:=by simpa using hb
  subst e
  exact ⟨h1,hL,h2,h3⟩
 ·obtain ⟨o,es,ep,ho,r⟩:=hm
  exact ⟨o,es,ep,k _ o (Ne.symm hL) ho,r⟩
 ·refine (I.hok b u e).stay (fun c v hc q=>k c v ?_ q) (fun _ q=>q) (fun _ _ _ _ _ q=>q) fun _ _ q=>q
  rcases hc with z | z
  ·rw [z];exact nit b u e
  ·exact nit c _ z
theorem Inv.tok (I:Inv X pins σ H s) (t:Nat):Inv X pins σ H { s with toks:=t }:=I.un (h':=s.heap) (t':=t) Un.refl I.hok
theorem Inv.kept {t':Nat} (I:Inv X pins σ H s) (k:∀ b u,s.heap.get? b=some u→h'.get? b=some u):Inv X pins σ H { s with heap:=h',toks:=t' }:=I.un (Un.kept k) (I.hok.kept k)
theorem Inv.laid {a:Addr} {o:HO} {t':Nat} (I:Inv X pins σ H s) (k:∀ b u,s.heap.get? b=some u→h'.get? b=some u) (hp:s.heap.objs.size ≤ a) (new:ObjOk X.prog X.w (upd H a o) h' a o) :
  Inv X pins σ (upd H a o) { s with heap:=h',toks:=t' }:=I.un (Un.laid k hp (I.hok.fresh hp)) (I.hok.laid k hp new)
theorem Inv.write {x e:Addr} {o:HO} {t':Nat} (I:Inv X pins σ H s) (mu:Mut (H x)) (he:e=x∨H e=some (.own x)) (k:∀ b u,b ≠ e→s.heap.get? b=some u→h'.get? b=some u) (heo:∃ u,h'.get? e=some u)
  (new:ObjOk X.prog X.w (upd H x o) h' x o):Inv X pins σ (upd H x o) { s with heap:=h',toks:=t' }:=I.un (Un.write mu he k heo) (I.hok.write mu he k heo new)
theorem Inv.pins_of {pins':Z2} (I:Inv X pins σ H s) (h:∀ p ∈ pins',s.heap.get? p.1=some p.2∧H p.1=none∧p.1 ≠ X.env.locals∧p.1 ∉ X.fs∧∀ v,p.2.data ≠ .cell v):Inv X pins' σ H s :=
 ⟨I.ok,I.os,I.bare,I.base,I.loc,I.cell,I.free,I.freeC,fun p hp=>(y0i.mp hp).elim (fun z=>I.pin p (y1x _ z)) (h p),I.hok,I.len⟩
theorem zgn {N:List Str} (hN:N.Nodup) {i j:Nat} {x:Str} (a:N[i]?=some x) (b:N[j]?=some x):i=j:=by
 obtain ⟨h1,e1⟩:=y04.mp a
 obtain ⟨h2,e2⟩:=y04.mp b
 exact (List.getElem_inj hN).mp (e1.trans e2.symm)
theorem zhh {M:Model} {A:Around} {E:Z0} {i:Nat} {x:Str} {v:V} {u:Value} {Q:Unit→Shared→Prop} (I:Inv X pins σ H s) (hN:X.N.Nodup) (hi:X.N[i]?=some x) (hx:Loc X.env.scope x) (r:RelV v u)
  (h:∀ s',Inv X pins (σ.set i (some v)) H s'→(∃ a,Heap.SameBut a s.heap s'.heap∧(a=X.env.locals∨X.env.cells.lookup x=some a))→Q () s') (hf:X.fn x=true∨X.env.scope.names.lookup x=some .local:=by first | exact .inl rfl | exact .inr rfl | assumption):wpAny M A (storeName X.env x u) Q E s:=by
 obtain ⟨m,hn,hl⟩:=id I.loc
 have hcls:(X.env.scope.kind == .class || (X.env.scope.kind == .module && X.env.locals != X.env.globals))=false:=by rw [I.ok.kind];rfl
 have hiσ:i < σ.length:=by rw [I.len];exact (y04.mp hi).1
 have cne:=I.cne
 have tracked:∀ {a:Addr} {h':Heap},(∃ o,s.heap.get? a=some o∧H a=none)→Heap.SameBut a s.heap h'→HOk X.prog X.w H h':=fun {a h'} ha hs b ob e=>by
  obtain ⟨_,_,hfree⟩:=ha
  refine (I.hok b ob e).stay (fun c w' hc q=>(hs.2 c ?_).trans q) (fun _ q=>q) (fun _ _ _ _ _ q=>q) fun _ _ q=>q
  rintro rfl
  rcases hc with rfl | hc
  ·rw [hfree] at e;cases e
  ·rw [hfree] at hc;cases hc
 rcases hx with hk | hk
 ·refine wpAny_storeName_local hk hn (fun h' hn' hs=>?_) hcls
  obtain ⟨oL,_,_,hoL,_⟩:=id hn
  refine h _ ⟨I.ok,I.os,I.bare,⟨fun b o e n hb hx=>?_,fun b o e n hb hx=>?_,I.base.free,fun b o e hx=>?_,I.base.tups,I.base.frzs,I.base.tbls⟩,⟨_,hn',fun j y v' e1 e2 e3=>?_⟩,fun y c e=>?_,I.free,I.freeC,fun p hp=>?_,tracked ⟨oL,hoL,I.free⟩ hs,by simpa using I.len⟩ ⟨_,hs,.inl rfl⟩
  ·exact (hs.2 b (y0n (y0h (y0g e) I.ok.above))).trans (I.base.keep b o e n hb hx)
  ·obtain ⟨sl,e1⟩:=I.base.slot b o e n hb hx
   exact ⟨sl,(hs.2 b (y0n (y0h (y0g e) I.ok.above))).trans e1⟩
  ·obtain ⟨o',e1⟩:=I.base.there b o e hx
   exact ⟨o',(hs.2 b (y0n (y0h (y0g e) I.ok.above))).trans e1⟩
  ·by_cases hj:j=i
   ·subst hj
    rw [hi] at e1;cases e1
    rw [y2u hiσ] at e2
    cases e2
    exact ⟨u,r,.inl ⟨hk,by simp⟩⟩
   ·rw [y3o (Ne.symm hj)] at e2
    obtain ⟨u',r',q⟩:=hl j y v' e1 e2 e3
    refine ⟨u',r',?_⟩
    rcases q with ⟨k,e⟩ | ⟨k,c,e,z⟩
    ·refine .inl ⟨k,?_⟩
     have:y ≠ x:=fun e=>hj (zgn hN e1 (e ▸ hi))
     simp [this,e]
    ·exact .inr ⟨k,c,e,z.sameBut hs (cne y c e)⟩
  ·obtain ⟨w',z⟩:=I.cell y c e
   exact ⟨w',z.sameBut hs (cne y c e)⟩
  ·obtain ⟨e,n,ne,nf,d⟩:=I.pin p hp
   exact ⟨(hs.2 p.1 ne).trans e,n,ne,nf,d⟩
 ·have hfn:X.fn x=true:=by
   rcases hf with z | z
   ·exact z
   ·rw [z] at hk;cases hk
  obtain ⟨c,hc⟩:=I.ok.has x (.inl hk)
  obtain ⟨w',z⟩:=I.cell x c hc
  refine wpAny_storeName_cell I.ok.kind hk hc z (fun h' hc' hs=>?_)
  obtain ⟨oc,hoc,hocd⟩:=id z
  refine h { s with heap:=h' } ⟨I.ok,I.os,I.bare,⟨fun b o e n hb hx=>?_,fun b o e n hb hx=>?_,I.base.free,fun b o e hx=>?_,I.base.tups,I.base.frzs,I.base.tbls⟩,⟨m,hn.sameBut hs (Ne.symm (cne x c hc)),fun j y v' e1 e2 e3=>?_⟩,fun y c' e=>?_,I.free,I.freeC,fun p hp=>?_,tracked ⟨oc,hoc,I.freeC x c hc⟩ hs,by simpa using I.len⟩ ⟨c,hs,.inr hc⟩
  ·exact (hs.2 b (y0n (y0h (y0g e) (I.ok.cab x c hfn hc)))).trans (I.base.keep b o e n hb hx)
  ·obtain ⟨sl,e1⟩:=I.base.slot b o e n hb hx
   exact ⟨sl,(hs.2 b (y0n (y0h (y0g e) (I.ok.cab x c hfn hc)))).trans e1⟩
  ·obtain ⟨o',e1⟩:=I.base.there b o e hx
   exact ⟨o',(hs.2 b (y0n (y0h (y0g e) (I.ok.cab x c hfn hc)))).trans e1⟩
  ·by_cases hj:j=i
   ·subst hj
    rw [hi] at e1;cases e1
    rw [y2u hiσ] at e2
    cases e2
    exact ⟨u,r,.inr ⟨.inl hk,c,hc,hc'⟩⟩
   ·rw [y3o (Ne.symm hj)] at e2
    obtain ⟨u',r',q⟩:=hl j y v' e1 e2 e3
    refine ⟨u',r',?_⟩
    rcases q with q | ⟨k,c',e,z'⟩
    ·exact .inl q
    ·refine .inr ⟨k,c',e,z'.sameBut hs ?_⟩
     rintro rfl
     exact hj (zgn hN e1 (I.ok.inj _ _ _ e hc ▸ hi))
  ·by_cases hcc:c'=c
   ·subst hcc;exact ⟨_,hc'⟩
   ·obtain ⟨w2,z2⟩:=I.cell y c' e
    exact ⟨w2,z2.sameBut hs hcc⟩
  ·obtain ⟨e,n,ne,nf,d⟩:=I.pin p hp
   refine ⟨(hs.2 p.1 ?_).trans e,n,ne,nf,d⟩
   intro q
   rw [q,hoc] at e
   have q':oc=p.2:=Option.some.inj e
   exact d w' (by rw [← q'];exact hocd)
theorem zcf {M:Model} {A:Around} {E:Z0} {i:Nat} {x:Str} {v:V} {u:Value} {Q:Unit→Shared→Prop} (I:Inv X pins σ H s) (hN:X.N.Nodup) (hi:X.N[i]?=some x) (hx:Loc X.env.scope x) (r:RelV v u)
  (h:∀ s',Inv X pins (σ.set i (some v)) H s'→Q () s') (hf:X.fn x=true∨X.env.scope.names.lookup x=some .local:=by first | exact .inl rfl | exact .inr rfl | assumption):wpAny M A (storeName X.env x u) Q E s :=
 zhh I hN hi hx r (fun s' I' _=>h s' I') hf
theorem Inv.call' {s':Shared} {ch:List Addr} (I:Inv X pins σ H s) (ho:s'.os=s.os) (u:Un (frs X.stack) ch H H' s.heap s'.heap) (hok:HOk X.prog X.w H' s'.heap) (hg:AllBare s'.gens)
  (hch:∀ b ∈ ch,(b ∈ X.ex∨X.s₀.heap.objs.size ≤ b)∧b ≠ X.env.locals∧(∀ x c,X.env.cells.lookup x=some c→c ≠ b)∧∀ p ∈ X.pn ++ pins,p.1 ≠ b):Inv X pins σ H' s':=by
 obtain ⟨h',g',d',t',o'⟩:=s'
 have e:o'=s.os:=ho
 subst e
 exact I.call (g':=g') (t':=t') (d':=d') u hok hg hch
end
abbrev XK:=Value→Option Addr→Hp→Prop
abbrev St:=List (Option V)
abbrev VK:=V→Hp→Prop
abbrev TE:=St→Hp→VK→Prop
abbrev TT:=St→Hp→(Bool→Hp→Prop)→Prop
abbrev TA:=St→Hp→(List V→Hp→Prop)→Prop
structure Ends where
 nx:St→Hp→Prop
 rt:VK
 bk:St→Hp→Prop:=fun _ _=>False
 ct:St→Hp→Prop:=fun _ _=>False
abbrev TS:=Ends→St→Hp→Prop
def EP (X:Cx) (pins:Z2) (σ:St) (Q:VK) (u:Value) (s':Shared):Prop:=∃ v H',Inv X pins σ H' s'∧RelV v u∧Q v H'
def TP (X:Cx) (pins:Z2) (σ:St) (Q:Bool→Hp→Prop) (b:Bool) (s':Shared):Prop:=∃ H',Inv X pins σ H' s'∧Q b H'
def AP (X:Cx) (pins:Z2) (σ:St) (Q:List V→Hp→Prop) (us:List Value) (s':Shared):Prop:=∃ vs H',Inv X pins σ H' s'∧Vals vs us∧Q vs H'
def SP (X:Cx) (pins:Z2) (D:Ends) (f:Flow) (s':Shared):Prop :=
 match f with
 | .next=>∃ σ' H',Inv X pins σ' H' s'∧D.nx σ' H'
 | .brk=>∃ σ' H',Inv X pins σ' H' s'∧D.bk σ' H'
 | .cont=>∃ σ' H',Inv X pins σ' H' s'∧D.ct σ' H'
 | .ret u=>∃ v σ' H',Inv X pins σ' H' s'∧RelV v u∧D.rt v H'
def PE (X:Cx) (e:Expr) (t:TE):Prop :=
 ∀ (pins:Z2) (s:Shared) (σ:St) (H:Hp) (Q:VK),Inv X pins σ H s→t σ H Q→wpAny (model X.prog X.w) X.A (eval e X.env) (EP X pins σ Q) X.xe s
def PT (X:Cx) (e:Expr) (t:TT):Prop :=
 ∀ (pins:Z2) (s:Shared) (σ:St) (H:Hp) (Q:Bool→Hp→Prop),Inv X pins σ H s→t σ H Q→wpAny (model X.prog X.w) X.A (isTrue e X.env (eval e X.env)) (TP X pins σ Q) X.xe s
def PW (X:Cx) (e:Expr) (t:TT):Prop :=
 ∀ (whole:Sem Value) (pins:Z2) (s:Shared) (σ:St) (H:Hp) (Q:Bool→Hp→Prop),Inv X pins σ H s→t σ H Q→wpAny (model X.prog X.w) X.A (isTrue e X.env whole) (TP X pins σ Q) X.xe s
theorem PW.pt {X:Cx} {e:Expr} {t:TT} (h:PW X e t):PT X e t:=h _
def PA (X:Cx) (es:List Expr) (t:TA):Prop :=
 ∀ (pos:Pos) (pins:Z2) (s:Shared) (σ:St) (H:Hp) (Q:List V→Hp→Prop),Inv X pins σ H s→t σ H Q→wpAny (model X.prog X.w) X.A (spliced (backTo pos (starEach es X.env))) (AP X pins σ Q) X.xe s
def PS (X:Cx) (st:Stmt) (t:TS):Prop :=
 ∀ (pins:Z2) (s:Shared) (σ:St) (H:Hp) (D:Ends),Inv X pins σ H s→t D σ H→wpAny (model X.prog X.w) X.A (exec st X.env) (SP X pins D) X.xe s
def PSs (X:Cx) (st:List Stmt) (t:TS):Prop :=
 ∀ (pins:Z2) (s:Shared) (σ:St) (H:Hp) (D:Ends),Inv X pins σ H s→t D σ H→wpAny (model X.prog X.w) X.A (execs st X.env) (SP X pins D) X.xe s
theorem thn {α:Type} {t:Sem α} {Q Q':α→Shared→Prop} {M:Model} {A:Around} {E:Z0} {s:Shared} (h:wpAny M A t Q E s) (hQ:∀ a s,Q a s→Q' a s):wpAny M A t Q' E s:=wpAny_mono h hQ fun _ _ x=>x
section
variable {X:Cx}
def tVar (i:Nat):TE:=fun σ H Q=>∃ v,σ[i]?=some (some v)∧Q v H
def tC (v:V):TE:=fun _ H Q=>Q v H
theorem zro {i:Nat} {x:Str} {pos:Pos} (hN:X.N[i]?=some x) (hv:Vis X.env.scope x) (hd:(x == ("__debug__":Str))=false:=by decide) (hcd:(x == ("__classdict__":Str))=false:=by decide):PE X (.Name x pos) (tVar i):=by
 intro pins s σ H Q I h
 obtain ⟨v,e,h⟩:=h
 obtain ⟨m,hn,hl⟩:=I.loc
 obtain ⟨u,r,l⟩:=hl i x v hN e hv
 have fin:EP X pins σ Q u s:=⟨v,H,I,r,h⟩
 rcases l with ⟨hk,hm⟩ | ⟨hk,c,hc,hcell⟩
 ·exact wpAny_Name (wpAny_loadName_local I.ok.kind hk hn hm fin) hd
 ·rcases hk with hk | hk
  ·exact wpAny_Name (wpAny_loadName_cell I.ok.kind hk hc hcell fin) hd
  ·exact wpAny_Name (wpAny_loadName_free I.ok.kind hk hc hcell fin hcd) hd
theorem zad {i j pos}:PE X (.Constant (.int i) j pos) (tC (.int i)):=fun _ _ _ H _ I h=>wpAny_Constant_int ⟨.int i,H,I.tok _,⟨_,rfl⟩,h⟩
theorem zcg {b j pos}:PE X (.Constant (.bool b) j pos) (tC (.bl b)):=fun _ _ _ H _ I h=>Constant_bool ⟨.bl b,H,I,rfl,h⟩
theorem pe_non {j pos}:PE X (.Constant .none j pos) (tC .non):=fun _ _ _ H _ I h=>Constant_none ⟨.non,H,I,rfl,h⟩
theorem zrp {x j pos}:PE X (.Constant (.str x) j pos) (tC (.str x)):=fun _ _ _ H _ I h=>Calls.Constant_str ⟨.str x,H,I.tok _,⟨_,rfl⟩,h⟩
def Gl (X:Cx) (x:Str):Prop:=X.env.kindOf x=some .globalImplicit
theorem zdz {E:Z0} {pins:Z2} {s:Shared} {σ:St} {H:Hp} {x:Str} {u:Value} {pos:Pos} {Q:Z0} (I:Inv X pins σ H s) (hg:Gl X x) (hm:X.mg x=some u) (h:Q u s)
  (hd:(x == ("__debug__":Str))=false:=by decide):wpAny (model X.prog X.w) X.A (eval (.Name x pos) X.env) Q E s :=
 Calls.Name_function_global I.ok.kind hg (Calls.loadGlobal_global (by rw [I.ok.glob];exact I.mod.glob.keeps I.bk) hm h) hd
theorem zkn {E:Z0} {pins:Z2} {s:Shared} {σ:St} {H:Hp} {x:Str} {u:Value} {pos:Pos} {Q:Z0} (I:Inv X pins σ H s) (hg:Gl X x) (hm:X.mg x=none) (hv:bootBuiltins x=some u) (h:Q u s)
  (hn:x ≠ "__name__":=by decide) (hd:(x == ("__debug__":Str))=false:=by decide):wpAny (model X.prog X.w) X.A (eval (.Name x pos) X.env) Q E s:=by
 obtain ⟨mb,h1,h2⟩:=I.mod.blt
 exact Calls.Name_function_global I.ok.kind hg (Calls.loadGlobal_builtin (by rw [I.ok.glob];exact I.mod.glob.keeps I.bk) hm (by rw [I.ok.blt];exact h1.keeps I.bk) ((h2 x hn).trans hv) h) hd
theorem znc {x:Str} {v:V} {u:Value} {pos:Pos} (hg:Gl X x) (hm:X.mg x=some u) (r:RelV v u) (hd:(x == ("__debug__":Str))=false:=by decide):PE X (.Name x pos) (tC v) :=
 fun _ _ _ H _ I h=>zdz I hg hm ⟨v,H,I,r,h⟩ hd
theorem zbv {x:Str} {v:V} {u:Value} {pos:Pos} (hg:Gl X x) (hm:X.mg x=none) (hv:bootBuiltins x=some u) (r:RelV v u) (hn:x ≠ "__name__":=by decide) (hd:(x == ("__debug__":Str))=false:=by decide):PE X (.Name x pos) (tC v) :=
 fun _ _ _ H _ I h=>zkn I hg hm hv ⟨v,H,I,r,h⟩ hn hd
variable {a b:Expr} {ta tb:TE} {pos:Pos}
def tB (t:TE):TT:=fun σ H Q=>t σ H fun x H1=>∃ c,x=.bl c∧Q c H1
theorem zc3 {e:Expr} {t:TE} (h:PE X e t) (he:∀ whole,isTrue e X.env whole=(do let v ← whole;standAt e.pos;holding [v] (truthy v)):=by intro _;rfl):PT X e (tB t):=by
 intro pins s σ H Q I hw
 refine isTrue_plain (thn (h pins s σ H _ I hw) fun v s1 ⟨x,H1,I1,r1,q1⟩=>?_) (he _)
 obtain ⟨d,rfl,q⟩:=q1
 cases r1
 exact wpAny_truthy_bool ⟨H1,I1,q⟩
variable {tA tB':TT} {rest:List Expr}
def tOr (t u:TT):TT:=fun σ H Q=>t σ H fun c H1=>if c=true then Q true H1 else u σ H1 Q
def tNot (t:TT):TT:=fun σ H Q=>t σ H fun c H1=>Q (!c) H1
theorem zf0 (ha:PT X a tA):PW X (.BoolOp .Or [a] pos) tA:=by
 intro wh pins s σ H Q I h
 refine isTrue_or (thn (ha pins s σ H Q I h) fun c s1 e=>?_)
 cases c with
 | false=>exact isTrue_or_nil e
 | true=>exact e
theorem zgk (ha:PT X a tA) (hb:PW X (.BoolOp .Or (b :: rest) pos) tB'):PW X (.BoolOp .Or (a :: b :: rest) pos) (tOr tA tB'):=by
 intro wh pins s σ H Q I h
 refine isTrue_or (thn (ha pins s σ H _ I h) fun c s1 ⟨H1,I1,q1⟩=>?_)
 cases c with
 | true=>exact ⟨H1,I1,q1⟩
 | false=>exact hb wh pins s1 σ H1 Q I1 q1
theorem zdk (ha:PT X a tA):PT X (.UnaryOp .Not a pos) (tNot tA):=by
 intro pins s σ H Q I h
 exact isTrue_not (ha pins s σ H (fun c H1=>Q (!c) H1) I h)
def tAndV (ta tb:TE):TE:=fun σ H Q=>ta σ H fun x H1=>∃ c,x=.bl c∧if c=true then tb σ H1 Q else Q (.bl false) H1
def tNotV (ta:TE):TE:=fun σ H Q=>ta σ H fun x H1=>∃ c,x=.bl c∧Q (.bl (!c)) H1
theorem zm9 {op} {t:TE} (h:PE X a t):PE X (.BoolOp op [a] pos) t:=fun pins s σ H Q I hw=>BoolOp_one (h pins s σ H Q I hw)
theorem zke (ha:PE X a ta) (hb:PE X (.BoolOp .And (b :: rest) pos) tb):PE X (.BoolOp .And (a :: b :: rest) pos) (tAndV ta tb):=by
 intro pins s σ H Q I h
 refine BoolOp_and (thn (ha pins s σ H _ I h) fun v s1 ⟨x,H1,I1,r1,q1⟩=>?_)
 obtain ⟨c,rfl,q1⟩:=q1
 cases r1
 refine wpAny_truthy_bool ?_
 cases c with
 | true=>exact hb pins s1 σ H1 Q I1 q1
 | false=>exact ⟨.bl false,H1,I1,rfl,q1⟩
theorem zna (ha:PE X a ta):PE X (.UnaryOp .Not a pos) (tNotV ta):=by
 intro pins s σ H Q I h
 refine UnaryOp_ (thn (ha pins s σ H _ I h) fun v s1 ⟨x,H1,I1,r1,q1⟩=>?_)
 obtain ⟨c,rfl,q1⟩:=q1
 cases r1
 exact not_of (wpAny_truthy_bool ⟨.bl (!c),H1,I1,rfl,q1⟩)
end
def SqL (K:Frag) (H:Hp) (a:Addr) (xs:List V):Prop :=
 Rd H a (.lst xs) ∨
  ∃ (o:Obj) (its:Array Value) (n:Nat),K.lookup a=some o∧o.cls=.type "list"∧o.dict=none∧o.data=.seq its n∧its.size ≤ sizeLine∧Vals xs its.toList
def SqT (K:Frag) (H:Hp) (a:Addr) (xs:List V):Prop :=
 Rd H a (.tup xs) ∨
  ∃ (o:Obj) (its:Array Value) (n:Nat),K.lookup a=some o∧o.cls=.type "tuple"∧o.data=.seq its n∧its.size ≤ sizeLine∧Vals xs its.toList
def absV:Value→Option V
 | .none=>some .non
 | .bool b=>some (.bl b)
 | .int i _=>some (.int i)
 | .str x _=>some (.str x)
 | .bytes b _=>some (.byt b)
 | .float b _=>some (.flt b)
 | .ref a=>some (.ref a)
 | .type n=>some (.ty n)
 | _=>none
theorem RelV.abs {x:V} {u:Value} (r:RelV x u):absV u=some x:=by
 cases x with
 | non=>cases r;rfl
 | bl _=>cases r;rfl
 | int _=>obtain ⟨t,rfl⟩:=r;rfl
 | str _=>obtain ⟨t,rfl⟩:=r;rfl
 | byt _=>obtain ⟨t,rfl⟩:=r;rfl
 | flt _=>obtain ⟨t,rfl⟩:=r;rfl
 | ref _=>cases r;rfl
 | ty _=>cases r;rfl
theorem RelV.inj {x y:V} {u:Value} (r:RelV x u) (q:RelV y u):x=y:=Option.some.inj (r.abs.symm.trans q.abs)
theorem Vals.inj:∀ {xs ys:List V} {us:List Value},Vals xs us→Vals ys us→xs=ys
 | _,_,_,.nil,.nil=>rfl
 | _,_,_,.cons r t,.cons r' t'=>by rw [r.inj r',Vals.inj t t']
section
variable {X:Cx} {pins:Z2} {σ:St} {H:Hp} {s:Shared} {a:Addr} {xs ys:List V}
theorem SqL.of {K:Frag} (h:H a=some (.lst xs)):SqL K H a xs:=.inl (.inl h)
theorem SqT.of {K:Frag} (h:H a=some (.tup xs)):SqT K H a xs:=.inl (.inl h)
theorem Inv.list (I:Inv X pins σ H s) (h:SqL X.K H a xs):∃ its:List Value,Vals xs its∧PlainL s.heap a its.toArray∧xs.length ≤ sizeLine:=by
 rcases h with h | ⟨o,its,n,hk,hc,hd,hs,hz,r⟩
 ·obtain ⟨z,its,n,r,e⟩:=h.ok I.hok
  exact ⟨its,r,⟨_,n,e,rfl,rfl,rfl⟩,z⟩
 ·refine ⟨its.toList,r,⟨o,n,I.kIn a o hk,hc,hd,by simpa using hs⟩,?_⟩
  have e:=r.length
  simp only [y0x] at e
  omega
theorem Inv.tuple (I:Inv X pins σ H s) (h:SqT X.K H a xs):∃ its:List Value,Vals xs its∧IsTup s.heap a its.toArray∧xs.length ≤ sizeLine:=by
 rcases h with h | ⟨o,its,n,hk,hc,hs,hz,r⟩
 ·obtain ⟨z,its,r,p⟩:=h.ok I.hok
  exact ⟨its,r,p,z⟩
 ·refine ⟨its.toList,r,⟨o,I.kIn a o hk,hc,n,by simpa using hs⟩,?_⟩
  have e:=r.length
  simp only [y0x] at e
  omega
theorem Inv.list_inj (I:Inv X pins σ H s) (h:SqL X.K H a xs) (h':SqL X.K H a ys):xs=ys:=by
 obtain ⟨its,r,⟨o,n,e,_,_,d⟩,_⟩:=I.list h
 obtain ⟨its',r',⟨o',n',e',_,_,d'⟩,_⟩:=I.list h'
 rw [e] at e';cases e'
 rw [d] at d'
 injection d' with d1 _
 have:its=its':=by simpa using congrArg Array.toList d1
 subst this
 exact r.inj r'
theorem Inv.tuple_inj (I:Inv X pins σ H s) (h:SqT X.K H a xs) (h':SqT X.K H a ys):xs=ys:=by
 obtain ⟨its,r,⟨o,e,_,n,d⟩,_⟩:=I.tuple h
 obtain ⟨its',r',⟨o',e',_,n',d'⟩,_⟩:=I.tuple h'
 rw [e] at e';cases e'
 rw [d] at d'
 injection d' with d1 _
 have:its=its':=by simpa using congrArg Array.toList d1
 subst this
 exact r.inj r'
end
abbrev Cx.wish (X:Cx) (E:Z0):Cx:={ X with xe:=E }
abbrev Cx.nox (X:Cx):Cx:=X.wish fun _ _=>False
theorem Cx.Ok.wish {X:Cx} (ok:X.Ok) (E:Z0):(X.wish E).Ok :=
 ⟨ok.mod,ok.kind,ok.glob,ok.blt,ok.above,ok.inj,ok.has,ok.cab,ok.hd,ok.frames,ok.stk,ok.exf,ok.bs,ok.bsz,ok.noex,ok.exfs,ok.funs,ok.frf⟩
theorem Cx.Ok.unwish {X:Cx} {E:Z0} (ok:(X.wish E).Ok):X.Ok :=
 ⟨ok.mod,ok.kind,ok.glob,ok.blt,ok.above,ok.inj,ok.has,ok.cab,ok.hd,ok.frames,ok.stk,ok.exf,ok.bs,ok.bsz,ok.noex,ok.exfs,ok.funs,ok.frf⟩
section
variable {X:Cx} {pins:Z2} {σ:St} {H:Hp} {s:Shared} {E:Z0}
theorem Inv.wish (I:Inv X pins σ H s) (E:Z0):Inv (X.wish E) pins σ H s:=⟨I.ok.wish E,I.os,I.bare,I.base,I.loc,I.cell,I.free,I.freeC,I.pin,I.hok,I.len⟩
theorem Inv.unwish (I:Inv (X.wish E) pins σ H s):Inv X pins σ H s:=⟨I.ok.unwish,I.os,I.bare,I.base,I.loc,I.cell,I.free,I.freeC,I.pin,I.hok,I.len⟩
theorem SP.unwish {D:Ends} {f:Flow} {s':Shared} (h:SP (X.wish E) pins D f s'):SP X pins D f s':=by
 cases f with
 | next=>obtain ⟨σ',H',I,q⟩:=h;exact ⟨σ',H',I.unwish,q⟩
 | brk=>obtain ⟨σ',H',I,q⟩:=h;exact ⟨σ',H',I.unwish,q⟩
 | cont=>obtain ⟨σ',H',I,q⟩:=h;exact ⟨σ',H',I.unwish,q⟩
 | ret u=>obtain ⟨v,σ',H',I,r,q⟩:=h;exact ⟨v,σ',H',I.unwish,r,q⟩
theorem PSs.nox {st:List Stmt} {t:TS} (h:PSs X.nox st t):PSs X st t:=fun pins s σ H D I hw =>
 wpAny_mono (h pins s σ H D (I.wish _) hw) (fun _ _ q=>q.unwish) fun _ _ z=>False.elim z
end
section
variable {X:Cx} {st:Stmt} {rest:List Stmt} {t u:TS} {e:Expr} {te:TE} {pos:Pos}
def tNext:TS:=fun D σ H=>D.nx σ H
def tSeq (t u:TS):TS:=fun D σ H=>t { D with nx:=u D } σ H
theorem za2:PSs X [] tNext:=fun _ _ σ H _ I h=>wpAny_execs_nil ⟨σ,H,I,h⟩
theorem zac (h1:PS X st t) (h2:PSs X rest u):PSs X (st :: rest) (tSeq t u):=by
 intro pins s σ H D I h
 refine wpAny_execs_cons (thn (h1 pins s σ H { D with nx:=u D } I h) fun f s1 q=>?_)
 cases f with
 | next =>
  obtain ⟨σ',H',I',q⟩:=q
  exact h2 pins s1 σ' H' D I' q
 | ret v=>exact q
 | brk=>exact q
 | cont=>exact q
theorem zae (h1:PS X st t):PSs X [st] t:=by
 intro pins s σ H D I h
 refine wpAny_execs_cons (thn (h1 pins s σ H D I h) fun f s1 q=>?_)
 cases f with
 | next=>exact wpAny_execs_nil q
 | ret v=>exact q
 | brk=>exact q
 | cont=>exact q
theorem Inv.quiet {pins:Z2} {σ:St} {H:Hp} {s:Shared} (I:Inv X pins σ H s):interactive X.env=false:=by simp [interactive,I.ok.kind]
def tDrop (te:TE):TS:=fun D σ H=>te σ H fun _ H1=>D.nx σ H1
theorem zbz (he:PE X e te) (hs:swapsWith e none pos.line X.env=pure false:=by rfl):PS X (.Expr e pos) (tDrop te):=by
 intro pins s σ H D I h
 exact wpAny_Expr_any (thn (he pins s σ H _ I h) fun v s1 ⟨x,H1,I1,r1,q1⟩=>⟨σ,H1,I1,q1⟩) I.quiet hs
def tRet (te:TE):TS:=fun D σ H=>te σ H D.rt
theorem zar (he:PE X e te):PS X (.Return (some e) pos) (tRet te):=by
 intro pins s σ H D I h
 exact wpAny_Return_some (thn (he pins s σ H _ I h) fun v s1 ⟨x,H1,I1,r1,q1⟩=>⟨x,σ,H1,I1,r1,q1⟩)
def tIfS (c:TT) (t u:TS):TS:=fun D σ H=>c σ H fun b H1=>if b=true then t D σ H1 else u D σ H1
theorem zb1 {c:Expr} {a b:List Stmt} {tc:TT} (hc:PT X c tc) (ha:PSs X a t) (hb:PSs X b u):PS X (.If c a b pos) (tIfS tc t u):=by
 intro pins s σ H D I h
 refine wpAny_If (thn (hc pins s σ H _ I h) fun d s1 ⟨H1,I1,q1⟩=>?_)
 cases d with
 | true=>exact ha pins s1 σ H1 D I1 q1
 | false=>exact hb pins s1 σ H1 D I1 q1
def tNever:TS:=fun _ _ _=>False
theorem zp2:PS X st tNever:=fun _ _ _ _ _ _ h=>h.elim
end
abbrev TG:=V→St→Hp→(St→Hp→Prop)→Prop
abbrev TGs:=List V→St→Hp→(St→Hp→Prop)→Prop
def PG (X:Cx) (target:Expr) (t:TG):Prop :=
 ∀ (pins:Z2) (s:Shared) (σ:St) (H:Hp) (v:V) (u:Value) (Q:St→Hp→Prop),Inv X pins σ H s→RelV v u→t v σ H Q →
  wpAny (model X.prog X.w) X.A (assign target X.env u) (fun _ s'=>∃ σ' H',Inv X pins σ' H' s'∧Q σ' H') X.xe s
def PGs (X:Cx) (ts:List Expr) (t:TGs):Prop :=
 ∀ (pins:Z2) (s:Shared) (σ:St) (H:Hp) (vs:List V) (us:List Value) (Q:St→Hp→Prop),Inv X pins σ H s→Vals vs us→t vs σ H Q →
  wpAny (model X.prog X.w) X.A (assignInOrder ((assignEach ts X.env).map (·.2)) us) (fun _ s'=>∃ σ' H',Inv X pins σ' H' s'∧Q σ' H') X.xe s
abbrev TIp:=V→V→Hp→VK→Prop
def PIp (X:Cx) (op:Operator) (t:TIp):Prop :=
 ∀ (pins:Z2) (s:Shared) (σ:St) (H:Hp) (x y:V) (v u:Value) (Q:VK),Inv X pins σ H s→RelV x v→RelV y u→t x y H Q →
  wpAny (model X.prog X.w) X.A (inplaceOp op v u) (EP X pins σ Q) X.xe s
section
variable {X:Cx} {pos:Pos}
def gName (i:Nat):TG:=fun v σ H Q=>Q (σ.set i (some v)) H
theorem zah {i:Nat} {x:Str} (hN:X.N.Nodup) (hi:X.N[i]?=some x) (hx:Loc X.env.scope x) (hf:X.fn x=true∨X.env.scope.names.lookup x=some .local:=by first | exact .inl rfl | exact .inr rfl | assumption):PG X (.Name x pos) (gName i):=by
 intro pins s σ H v u Q I r h
 exact wpAny_assign_Name (zcf I hN hi hx r (fun s' I'=>⟨_,H,I',h⟩) hf)
def gNil:TGs:=fun vs σ H Q=>vs=[]∧Q σ H
def gCons (t:TG) (u:TGs):TGs:=fun vs σ H Q=>∃ v r,vs=v :: r∧t v σ H fun σ' H'=>u r σ' H' Q
theorem zey:PGs X [] gNil:=by
 intro pins s σ H vs us Q I r h
 obtain ⟨e,h⟩:=h
 subst e
 cases r
 exact assignInOrder_nil ⟨σ,H,I,h⟩
theorem zbm {e:Expr} {es:List Expr} {t:TG} {u:TGs} (h1:PG X e t) (h2:PGs X es u)
  (hs:(assignEach (e :: es) X.env).map (·.2)=assign e X.env :: (assignEach es X.env).map (·.2):=by rfl):PGs X (e :: es) (gCons t u):=by
 intro pins s σ H vs us Q I r h
 obtain ⟨v,vr,e1,h⟩:=h
 subst e1
 cases r with
 | cons r rr =>
  rw [hs]
  refine assignInOrder_cons (thn (h1 pins s σ H _ _ _ I r h) fun _ s1 ⟨σ1,H1,I1,q1⟩=>?_)
  exact h2 pins s1 σ1 H1 _ _ Q I1 rr q1
def gTup (K:Frag) (n:Nat) (t:TGs):TG:=fun v σ H Q=>∃ a xs,v=.ref a∧SqT K H a xs∧xs.length=n∧t xs σ H Q
theorem pg_tup {es:List Expr} {k:Nat} {t:TGs} {n:Nat} (hc:X.calm=true) (h:PGs X es t)
  (hn:(assignEach es X.env).length=n:=by rfl) (hst:(assignEach es X.env).findIdx? (·.1)=none:=by rfl):PG X (.Tuple es k pos) (gTup X.K n t):=by
 intro pins s σ H v u Q I r hw
 obtain ⟨a,xs,e1,hq,hl,hw⟩:=hw
 subst e1
 cases r
 obtain ⟨its,rv,ht,hz⟩:=I.tuple hq
 refine assign_Tuple_tuple (I.ok.hd hc) ht (by simp [hn,← hl,rv.length]) hst fun h' hx=>?_
 have I1:Inv X pins σ H { s with heap:=h' }:=I.kept (t':=s.toks) fun b o e=>hx b o (y0n (y0g e)) e
 exact h pins _ σ H xs _ Q I1 (by simpa using rv) hw
def tAsg (te:TE) (g:TG):TS:=fun D σ H=>te σ H fun x H1=>g x σ H1 D.nx
theorem zrn {tg e:Expr} {te:TE} {g:TG} (he:PE X e te) (hg:PG X tg g) (hs:swapsWithSole [tg] e pos.line X.env=pure false:=by rfl) (hw:swappedStores [tg] e X.env=pure none:=by rfl)
  (h1:(assignEach [tg] X.env).map (·.2)=[assign tg X.env]:=by rfl):PS X (.Assign [tg] e pos) (tAsg te g):=by
 intro pins s σ H D I h
 refine wpAny_Assign_stores (thn (he pins s σ H _ I h) fun v s1 ⟨x,H1,I1,r1,q1⟩=>?_) hs hw
 rw [h1]
 exact thn (hg pins s1 σ H1 x v _ I1 r1 q1) fun _ s2 q=>q
theorem zan {i:Nat} {x:Str} {e:Expr} {te:TE} {pos':Pos} (hN:X.N.Nodup) (hi:X.N[i]?=some x) (hx:Loc X.env.scope x) (he:PE X e te) (hs:swapsWith e (some (.Name x pos')) pos.line X.env=pure false:=by rfl) (hf:X.fn x=true∨X.env.scope.names.lookup x=some .local:=by first | exact .inl rfl | exact .inr rfl | assumption) :
  PS X (.Assign [.Name x pos'] e pos) (tAsg te (gName i)):=by
 intro pins s σ H D I h
 refine wpAny_Assign_Name (thn (he pins s σ H _ I h) fun v s1 ⟨y,H1,I1,r1,q1⟩=>?_) hs
 exact zcf I1 hN hi hx r1 (fun s2 I2=>⟨_,H1,I2,q1⟩) hf
def tAug (i:Nat) (te:TE) (ti:TIp):TS:=fun D σ H=>∃ x,σ[i]?=some (some x)∧te σ H fun y H1=>ti x y H1 fun z H2=>D.nx (σ.set i (some z)) H2
theorem zm2 {i:Nat} {x:Str} {e:Expr} {te:TE} {op:Operator} {ti:TIp} {pos':Pos} (hN:X.N.Nodup) (hi:X.N[i]?=some x) (hx:Loc X.env.scope x) (he:PE X e te) (ho:PIp X op ti) (hf:X.fn x=true∨X.env.scope.names.lookup x=some .local:=by first | exact .inl rfl | exact .inr rfl | assumption) :
  PS X (.AugAssign (.Name x pos') op e pos) (tAug i te ti):=by
 intro pins s σ H D I h
 obtain ⟨v,e1,h⟩:=h
 obtain ⟨m,hn,hl⟩:=I.loc
 have vis:Vis X.env.scope x:=by rcases hx with k | k;exact .inl k;exact .inr (.inl k)
 obtain ⟨u,r,l⟩:=hl i x v hi e1 vis
 refine wpAny_AugAssign_Name ?_
 have go:wpAny (model X.prog X.w) X.A (eval e X.env) (fun w s₂=>wpAny (model X.prog X.w) X.A (inplaceOp op u w) (fun r s₃=>wpAny (model X.prog X.w) X.A (storeName X.env x r) (fun _=>SP X pins D .next) X.xe s₃) X.xe s₂) X.xe s:=by
  refine thn (he pins s σ H _ I h) fun w s1 ⟨y,H1,I1,r1,q1⟩=>?_
  refine thn (ho pins s1 σ H1 v y u w _ I1 r r1 q1) fun z s2 ⟨zv,H2,I2,r2,q2⟩=>?_
  exact zcf I2 hN hi hx r2 (fun s3 I3=>⟨_,H2,I3,q2⟩) hf
 rcases l with ⟨hk,hm⟩ | ⟨hk,c,hc,hcell⟩
 ·exact wpAny_loadName_local I.ok.kind hk hn hm go
 ·rcases hk with hk | hk
  ·exact wpAny_loadName_cell I.ok.kind hk hc hcell go
  ·rcases hx with k | k
   ·have:X.env.scope.names.lookup x=some .free:=hk
    rw [k] at this;cases this
   ·have:X.env.scope.names.lookup x=some .free:=hk
    rw [k] at this;cases this
def ipI (f:Int→Int→Int):TIp:=fun x y H Q=>∃ i j,x=.int i∧y=.int j∧Q (.int (f i j)) H
theorem zr3:PIp X .Add (ipI fun i j=>i + j):=by
 intro pins s σ H x y v u Q I r1 r2 h
 obtain ⟨i,j,e1,e2,q⟩:=h
 subst e1;subst e2
 obtain ⟨t,rfl⟩:=r1
 obtain ⟨t',rfl⟩:=r2
 exact iadd_int ⟨.int _,H,I.tok _,⟨_,rfl⟩,q⟩
end
section
variable {X:Cx} {pos:Pos}
def tWhile (c:TT) (tb:TS):TS:=fun D σ H=>∃ W:Nat→St→Hp→Prop,(∃ m,W m σ H)∧∀ m σ H,W m σ H →
 c σ H fun b H1=>if b=true then ∃ N:St→Hp→Prop,(∀ σ' H',N σ' H'→∃ m',m' < m∧W m' σ' H')∧tb { D with nx:=N,ct:=N,bk:=D.nx } σ H1 else D.nx σ H1
theorem zef {c:Expr} {body:List Stmt} {tc:TT} {tb:TS} (hp:PassesOwn (model X.prog X.w) X.A X.env X.xe) (hc:PT X c tc) (hb:PSs X body tb):PS X (.While c body [] pos) (tWhile tc tb):=by
 intro pins s σ H D I h
 obtain ⟨W,⟨m0,w0⟩,turn⟩:=h
 refine wpAny_While (codeAny_whileLoop (fun n s'=>∃ σ' H',Inv X pins σ' H' s'∧W n σ' H') ?_ m0 ⟨σ,H,I,w0⟩)
 rintro n s1 ⟨σ1,H1,I1,w1⟩
 refine wpAny_passesOwn hp (thn (hc pins s1 σ1 H1 _ I1 (turn n σ1 H1 w1)) fun b s2 ⟨H2,I2,q2⟩=>?_)
 cases b with
 | true =>
  obtain ⟨N,hN,q2⟩:=q2
  rw [if_pos rfl]
  refine wpAny_passesOwn hp (thn (hb pins s2 σ1 H2 _ I2 q2) fun f s3 q3=>?_)
  cases f with
  | next =>
   obtain ⟨σ3,H3,I3,n3⟩:=q3
   obtain ⟨m',hm,w3⟩:=hN σ3 H3 n3
   exact ⟨m',hm,σ3,H3,I3,w3⟩
  | cont =>
   obtain ⟨σ3,H3,I3,n3⟩:=q3
   obtain ⟨m',hm,w3⟩:=hN σ3 H3 n3
   exact ⟨m',hm,σ3,H3,I3,w3⟩
  | brk=>exact q3
  | ret v=>exact q3
 | false =>
  rw [if_neg y0l]
  exact wpAny_execs_nil ⟨σ1,H2,I2,q2⟩
end
structure It where
 go:Nat→Hp→Prop
 yld:Nat→Hp→V→Hp→Prop
 stop:Nat→Hp→Prop
def FpOk (X:Cx) (pins:Z2) (H:Hp) (b:Addr):Prop :=
 H b=none∧b ≠ X.env.locals∧b ∉ X.fs∧(b ∈ X.ex∨X.s₀.heap.objs.size ≤ b)∧(∀ x c,X.env.cells.lookup x=some c→c ≠ b)∧∀ p ∈ X.pn ++ pins,p.1 ≠ b
theorem Inv.fpOk {X:Cx} {pins:Z2} {σ:St} {H H':Hp} {s:Shared} {b:Addr} (I:Inv X pins σ H s) (hb:s.heap.objs.size ≤ b) (hn:H' b=none):FpOk X pins H' b:=by
 refine ⟨hn,y1j (y0h I.lt hb),I.nofs hb,.inr (y13 I.sz hb),fun x c e z=>?_,fun p hp z=>?_⟩
 ·obtain ⟨v,q⟩:=I.cell x c e
  exact absurd (y0h q.lt (by rw [z];exact hb)) (y1a _)
 ·exact absurd (y0h (y0g (I.pin p hp).1) (by rw [z];exact hb)) (y1a _)
structure Turn (P:Program) (w:World) (K:Frag) (tg:Expr) (J:It) (fp:List Addr) (it:Addr) (tn:Nat→Heap→Prop):Prop where
 mem:it ∈ fp
 obj:∀ i h,tn i h→∀ b ∈ fp,∃ o,h.get? b=some o∧∀ v,o.data ≠ .cell v
 keep:∀ i h h',tn i h→(∀ b ∈ fp,∀ o,h.get? b=some o→h'.get? b=some o)→tn i h'
 item:∀ (X:Cx),X.prog=P→X.w=w→X.K=K→X.calm=true→∀ (i:Nat) (pins:Z2) (s:Shared) (σ:St) (H:Hp) (E:Z0),Inv X pins σ H s→(∀ b ∈ fp,FpOk X pins H b)→tn i s.heap→J.go i H →
  wpAny (model P w) X.A (pyNext (.ref it)) (fun r s1=>∃ u,r=some u ∧
   wpAny (model P w) X.A (letOwnedTupleGo tg (.ref it) u) (fun _ s2=>∃ x H',Inv X pins σ H' s2∧RelV x u∧J.yld i H x H'∧tn (i + 1) s2.heap∧∀ b ∈ fp,H' b=none) E s1) E s
 done:∀ (X:Cx),X.prog=P→X.w=w→X.K=K→X.calm=true→∀ (i:Nat) (pins:Z2) (s:Shared) (σ:St) (H:Hp) (E:Z0),Inv X pins σ H s→(∀ b ∈ fp,FpOk X pins H b)→tn i s.heap→J.stop i H →
  wpAny (model P w) X.A (pyNext (.ref it)) (fun r s1=>r=none∧Inv X pins σ H s1) E s
 self:∀ (A:Around) (i:Nat) (s:Shared) (Q:Z0) (E:Z0),tn i s.heap→Q (.ref it) s→wpAny (model P w) A (pyIter (.ref it)) Q E s
abbrev TI:=St→Hp→(It→Hp→Prop)→Prop
def PIE (X:Cx) (pins:Z2) (σ:St) (tg:Expr) (R:It→Hp→Prop) (itv:Value) (s2:Shared):Prop :=
 ∃ (it:Addr) (fp:List Addr) (tn:Nat→Heap→Prop) (J:It) (H':Hp),itv=.ref it∧Inv X pins σ H' s2∧Turn X.prog X.w X.K tg J fp it tn∧tn 0 s2.heap∧(∀ b ∈ fp,FpOk X pins H' b)∧R J H'
def PI (X:Cx) (tg iter:Expr) (wi:TI):Prop :=
 ∀ (pins:Z2) (s:Shared) (σ:St) (H:Hp) (R:It→Hp→Prop),Inv X pins σ H s→wi σ H R →
  wpAny (model X.prog X.w) X.A (eval iter X.env) (fun v s1=>wpAny (model X.prog X.w) X.A (pyIter v) (PIE X pins σ tg R) X.xe s1) X.xe s
theorem ztn {M:Model} {A:Around} {E:Z0} {s:Shared} {tg:Expr} {it:Addr} {u:Value} {o:Obj} {n:String} {vs:Array Value} {Q:Unit→Shared→Prop} (ho:s.heap.get? it=some o) (hc:o.cls=.type n) (hd:o.data=.fields vs)
  (hn:["enumerate","zip","dict_itemiterator","dict_reverseitemiterator","odict_iterator","itertools.zip_longest","itertools.pairwise"].contains n=false) (hQ:Q () s):wpAny M A (letOwnedTupleGo tg (.ref it) u) Q E s:=by
 unfold letOwnedTupleGo
 cases tg <;> first
  | exact wpAny_pure hQ
  | (cases u <;> first
    | exact wpAny_pure hQ
    | (refine wpAny_bind (wpAny_load ho ?_)
       rw [hc,hd]
       show wpAny M A (if (["enumerate","zip","dict_itemiterator","dict_reverseitemiterator","odict_iterator","itertools.zip_longest","itertools.pairwise"].contains n && vs[0]? == some (rawInt _))=true then _ else _) Q E s
       rw [if_neg (by intro h;rw [hn,y47] at h;cases h)]
       exact wpAny_pure hQ))
def Itl (K:Frag) (a:Addr):It :=
 ⟨fun i H=>∃ xs x,SqL K H a xs∧xs[i]?=some x,fun i H x H'=>H'=H∧∀ xs,SqL K H a xs→xs[i]?=some x,fun i H=>∃ xs,SqL K H a xs∧xs.length ≤ i⟩
def Itt (K:Frag) (a:Addr):It :=
 ⟨fun i H=>∃ xs x,SqT K H a xs∧xs[i]?=some x,fun i H x H'=>H'=H∧∀ xs,SqT K H a xs→xs[i]?=some x,fun i H=>∃ xs,SqT K H a xs∧xs.length ≤ i⟩
def Itr (lo:Int) (n:Nat):It:=⟨fun i _=>i < n,fun i H x H'=>H'=H∧x=.int (lo + i),fun i _=>n ≤ i⟩
theorem zmf {P:Program} {w:World} {K:Frag} {tg:Expr} (a it:Addr):Turn P w K tg (Itl K a) [it] it (fun i h=>h.IsListIter it a i) where
 mem:=by simp
 obj:=fun i h st b hb=>by
  have e:b=it:=by simpa using hb
  subst e
  obtain ⟨o,e,c,d⟩:=st
  exact ⟨o,e,fun v z=>by rw [d] at z;cases z⟩
 keep:=fun i h h' st k=>st.at fun o e=>k it (by simp) o e
 item:=by
  intro X hP hw hK hc i pins s σ H E I hf st hg
  subst hP hw hK
  obtain ⟨xs,x,hq,hx⟩:=hg
  obtain ⟨its,rv,p,hz⟩:=I.list hq
  obtain ⟨u,hu,ru⟩:=rv.get hx
  obtain ⟨f0,f1,f2,f3,f4,f5⟩:=hf it (by simp)
  refine wpAny_pyNext_list_item st p.isList (x:=u) (by simpa using hu) fun h' st' sb=>?_
  have I1:Inv X pins σ H { s with heap:=h' }:=I.turned (t':=s.toks) (fun b o hb e=>(sb.2 b hb).trans e) f0 f1 f3 f4 f5
  obtain ⟨o,e,c,d⟩:=id st'
  exact ⟨u,rfl,ztn (s:={ s with heap:=h' }) e c d (by decide) ⟨x,H,I1,ru,⟨rfl,fun ys hy=>by rw [I.list_inj hy hq];exact hx⟩,st',fun b hb=>(hf b hb).1⟩⟩
 done:=by
  intro X hP hw hK hc i pins s σ H E I hf st hg
  subst hP hw hK
  obtain ⟨xs,hq,hx⟩:=hg
  obtain ⟨its,rv,p,hz⟩:=I.list hq
  obtain ⟨f0,f1,f2,f3,f4,f5⟩:=hf it (by simp)
  have hl:=rv.length
  exact wpAny_pyNext_list_end (I.ok.hd hc) st p.isList (by simp;omega) fun h' eb=>⟨rfl,I.turned (t':=s.toks) (fun b o hb e=>eb b o hb e) f0 f1 f3 f4 f5⟩
 self:=fun _ _ _ _ _ st h=>wpAny_pyIter_listiter st h
theorem zk4 {P:Program} {w:World} {K:Frag} {tg:Expr} (a it:Addr):Turn P w K tg (Itt K a) [it] it (fun i h=>h.IsTupleIter it a i) where
 mem:=by simp
 obj:=fun i h st b hb=>by
  have e:b=it:=by simpa using hb
  subst e
  obtain ⟨o,e,c,d⟩:=st
  exact ⟨o,e,fun v z=>by rw [d] at z;cases z⟩
 keep:=fun i h h' st k=>st.at fun o e=>k it (by simp) o e
 item:=by
  intro X hP hw hK hc i pins s σ H E I hf st hg
  subst hP hw hK
  obtain ⟨xs,x,hq,hx⟩:=hg
  obtain ⟨its,rv,p,hz⟩:=I.tuple hq
  obtain ⟨u,hu,ru⟩:=rv.get hx
  obtain ⟨f0,f1,f2,f3,f4,f5⟩:=hf it (by simp)
  refine wpAny_pyNext_tuple_item st (show s.heap.IsTuple a its.toArray from p) (x:=u) (by simpa using hu) fun h' st' sb=>?_
  have I1:Inv X pins σ H { s with heap:=h' }:=I.turned (t':=s.toks) (fun b o hb e=>(sb.2 b hb).trans e) f0 f1 f3 f4 f5
  obtain ⟨o,e,c,d⟩:=id st'
  exact ⟨u,rfl,ztn (s:={ s with heap:=h' }) e c d (by decide) ⟨x,H,I1,ru,⟨rfl,fun ys hy=>by rw [I.tuple_inj hy hq];exact hx⟩,st',fun b hb=>(hf b hb).1⟩⟩
 done:=by
  intro X hP hw hK hc i pins s σ H E I hf st hg
  subst hP hw hK
  obtain ⟨xs,hq,hx⟩:=hg
  obtain ⟨its,rv,p,hz⟩:=I.tuple hq
  obtain ⟨f0,f1,f2,f3,f4,f5⟩:=hf it (by simp)
  have hl:=rv.length
  exact wpAny_pyNext_tuple_end (I.ok.hd hc) st (show s.heap.IsTuple a its.toArray from p) (by simp;omega) fun h' eb=>⟨rfl,I.turned (t':=s.toks) (fun b o hb e=>eb b o hb e) f0 f1 f3 f4 f5⟩
 self:=fun _ _ _ _ _ st h=>wpAny_pyIter_tupleiter st h
theorem zk5 {P:Program} {w:World} {K:Frag} {tg:Expr} (it:Addr) (lo:Int) (n:Nat):Turn P w K tg (Itr lo n) [it] it (fun i h=>IsRangeIter h it (lo + (i:Nat) * 1) ((n:Int) - (i:Nat)) 1) where
 mem:=by simp
 obj:=fun i h st b hb=>by
  have e:b=it:=by simpa using hb
  subst e
  exact ⟨_,st,fun v z=>by
   have z':Data.fields _=Data.cell v:=z
   cases z'⟩
 keep:=fun i h h' st k=>k it (by simp) _ st
 item:=by
  intro X hP hw hK hc i pins s σ H E I hf st hg
  subst hP hw hK
  obtain ⟨f0,f1,f2,f3,f4,f5⟩:=hf it (by simp)
  have W:=Walks.range (prog:=X.prog) (w:=X.w) (I.ok.hd hc) it lo 1 n
  refine W.item i s _ _ hg st fun v h' tk hv st' kk=>?_
  obtain ⟨t,rfl⟩:=hv
  have I1:Inv X pins σ H { s with heap:=h',toks:=tk }:=I.turned (fun b o hb e=>kk b o (by simpa using hb) e) f0 f1 f3 f4 f5
  refine ⟨_,rfl,ztn (s:={ s with heap:=h',toks:=tk }) (n:="range_iterator") st' rfl rfl (by decide) ⟨.int (lo + i),H,I1,⟨t,?_⟩,⟨rfl,rfl⟩,st',fun b hb=>(hf b hb).1⟩⟩
  rw [Int.mul_one]
 done:=by
  intro X hP hw hK hc i pins s σ H E I hf st hg
  subst hP hw hK
  obtain ⟨f0,f1,f2,f3,f4,f5⟩:=hf it (by simp)
  exact wpAny_pyNext_range_end (I.ok.hd hc) st (by have:n ≤ i:=hg;omega) fun h' eb=>⟨rfl,I.turned (t':=s.toks) (fun b o hb e=>eb b o hb e) f0 f1 f3 f4 f5⟩
 self:=fun _ _ _ _ _ st h=>wpAny_pyIter_rangeiter st h
section
variable {X:Cx} {tg:Expr}
def iList (K:Frag) (tl:TE):TI:=fun σ H R=>tl σ H fun x H1=>∃ a,x=.ref a∧(∃ xs,SqL K H1 a xs)∧R (Itl K a) H1
def iTup (K:Frag) (tl:TE):TI:=fun σ H R=>tl σ H fun x H1=>∃ a,x=.ref a∧(∃ xs,SqT K H1 a xs)∧R (Itt K a) H1
theorem zsz {l:Expr} {tl:TE} (hl:PE X l tl):PI X tg l (iList X.K tl):=by
 intro pins s σ H R I h
 refine thn (hl pins s σ H _ I h) fun v s1 ⟨x,H1,I1,r1,q1⟩=>?_
 obtain ⟨a,e,⟨xs,hq⟩,q⟩:=q1
 subst e
 cases r1
 obtain ⟨its,rv,p,hz⟩:=I1.list hq
 refine wpAny_pyIter_list p.isList ?_
 refine ⟨s1.heap.objs.size,[s1.heap.objs.size],_,_,H1,rfl,I1.kept (t':=s1.toks) fun b o e=>y0b _ e,zmf a _,⟨_,y0m _ rfl,rfl,rfl⟩,fun b hb=>?_,q⟩
 have e:b=s1.heap.objs.size:=by simpa using hb
 subst e
 exact I1.fpOk (y05 _) (I1.hok.fresh (y05 _))
theorem pi_tup {l:Expr} {tl:TE} (hl:PE X l tl):PI X tg l (iTup X.K tl):=by
 intro pins s σ H R I h
 refine thn (hl pins s σ H _ I h) fun v s1 ⟨x,H1,I1,r1,q1⟩=>?_
 obtain ⟨a,e,⟨xs,hq⟩,q⟩:=q1
 subst e
 cases r1
 obtain ⟨its,rv,p,hz⟩:=I1.tuple hq
 refine wpAny_pyIter_tuple (show s1.heap.IsTuple a its.toArray from p) ?_
 refine ⟨s1.heap.objs.size,[s1.heap.objs.size],_,_,H1,rfl,I1.kept (t':=s1.toks) fun b o e=>y0b _ e,zk4 a _,⟨_,y0m _ rfl,rfl,rfl⟩,fun b hb=>?_,q⟩
 have e:b=s1.heap.objs.size:=by simpa using hb
 subst e
 exact I1.fpOk (y05 _) (I1.hok.fresh (y05 _))
theorem zp0 {pins:Z2} {σ:St} {H:Hp} {s:Shared} {R:It→Hp→Prop} {E:Z0} {lo hi:Int} {t u v:Tok} {tk:Nat} (I:Inv X pins σ H s) (h1:-(2 ^ 62) ≤ lo) (h2:lo < 2 ^ 62) (h3:-(2 ^ 62) ≤ hi) (h4:hi < 2 ^ 62)
  (q:R (Itr lo (hi - lo).toNat) H):wpAny (model X.prog X.w) X.A (pyIter (.ref s.heap.objs.size)) (PIE X pins σ tg R) E { s with heap:=s.heap.push { cls:=.type "range",data:=.fields #[.int lo t,.int hi u,.int 1 v] },toks:=tk }:=by
 refine wpAny_pyIter_range (IsRange.new ..) (small_one h1 h2 h3 h4) ?_
 have I1:Inv X pins σ H { s with heap:=s.heap.push { cls:=.type "range",data:=.fields #[.int lo t,.int hi u,.int 1 v] },toks:=tk }:=I.kept fun b o e=>y0b _ e
 refine ⟨(s.heap.push { cls:=.type "range",data:=.fields #[.int lo t,.int hi u,.int 1 v] }).objs.size,[(s.heap.push { cls:=.type "range",data:=.fields #[.int lo t,.int hi u,.int 1 v] }).objs.size],_,_,H,rfl,
  I1.kept (t':=tk) fun b o e=>y0b _ e,zk5 _ lo (hi - lo).toNat,?_,fun b hb=>?_,q⟩
 ·have e1:lo + ((0:Nat):Int) * 1=lo:=by simp
  have e2:(((hi - lo).toNat:Nat):Int) - ((0:Nat):Int)=Builtin.Range.rangeSize lo hi 1:=by rw [rangeSize_one];split <;> omega
  show IsRangeIter _ _ (lo + ((0:Nat):Int) * 1) ((((hi - lo).toNat:Nat):Int) - ((0:Nat):Int)) 1
  rw [e1,e2]
  exact y0m _ rfl
 ·have e:b=(s.heap.push { cls:=.type "range",data:=.fields #[.int lo t,.int hi u,.int 1 v] }).objs.size:=by simpa using hb
  subst e
  exact I1.fpOk (y05 _) (I1.hok.fresh (y05 _))
def iRng1 (ta:TA):TI:=fun σ H R=>ta σ H fun vs H1=>∃ j:Int,vs=[.int j]∧-(2 ^ 62) ≤ j∧j < 2 ^ 62∧R (Itr 0 j.toNat) H1
theorem zaw {a:Expr} {ta:TA} {p pos:Pos} (hg:Gl X "range") (hm:X.mg "range"=none) (ha:PA X [a] ta) (hs:starEach [a] X.env=[(false,eval a X.env)]:=by rfl):PI X tg (.Call (.Name "range" p) [a] [] pos) (iRng1 ta):=by
 intro pins s σ H R I h
 refine Call_ (zkn I hg hm boot_range (PyProof.Rows.callWith_type1 (thn (ha pos pins s σ H _ I h) fun us s1 ⟨vs,H1,I1,r1,q1⟩=>?_) hs rfl))
 obtain ⟨j,e,q1,q2,q⟩:=q1
 subst e
 cases r1 with
 | cons r rr =>
  cases rr
  obtain ⟨t,rfl⟩:=r
  exact call_range_1 (zp0 I1 (by omega) (by omega) q1 q2 (by simpa using q))
def tFor (wi:TI) (g:TG) (tb:TS):TS:=fun D σ H=>wi σ H fun J H1=>∃ W:Nat→Nat→St→Hp→Prop,(∃ m,W 0 m σ H1)∧∀ i m σ H,W i m σ H →
 (J.stop i H∧D.nx σ H)∨(J.go i H∧∃ N:St→Hp→Prop,(∀ σ' H',N σ' H'→∃ m',m' < m∧W (i + 1) m' σ' H')∧∀ x H',J.yld i H x H'→g x σ H' fun σ2 H2=>tb { D with nx:=N,ct:=N,bk:=D.nx } σ2 H2)
def pinsAt (fp:List Addr) (h:Heap):List (Addr × Obj):=fp.filterMap fun b=>(h.get? b).map fun o=>(b,o)
theorem zc0 {fp:List Addr} {h:Heap} {b:Addr} {o:Obj} (hb:b ∈ fp) (e:h.get? b=some o):(b,o) ∈ pinsAt fp h:=y3s.mpr ⟨b,hb,by rw [e];rfl⟩
theorem znw {fp:List Addr} {h:Heap} {p:Addr × Obj} (hp:p ∈ pinsAt fp h):p.1 ∈ fp∧h.get? p.1=some p.2:=by
 obtain ⟨b,hb,e⟩:=y3s.mp hp
 cases q:h.get? b with
 | none=>rw [q] at e;cases e
 | some o =>
  rw [q] at e
  have e':(b,o)=p:=Option.some.inj e
  subst e'
  exact ⟨hb,q⟩
theorem Inv.pinned {pins:Z2} {σ:St} {H:Hp} {s:Shared} {fp:List Addr} (I:Inv X pins σ H s) (hf:∀ b ∈ fp,FpOk X pins H b) (ho:∀ b ∈ fp,∃ o,s.heap.get? b=some o∧∀ v,o.data ≠ .cell v):Inv X (pins ++ pinsAt fp s.heap) σ H s :=
 I.pins_of fun p hp=>(y0i.mp hp).elim (fun z=>I.pin p (y11 _ z)) fun z=>by
  obtain ⟨hb,e⟩:=znw z
  obtain ⟨f0,f1,f2,_⟩:=hf p.1 hb
  obtain ⟨o,e',d⟩:=ho p.1 hb
  rw [e] at e';cases e'
  exact ⟨e,f0,f1,f2,d⟩
theorem Inv.unpinned {pins pl:Z2} {σ:St} {H:Hp} {s:Shared} (I:Inv X (pins ++ pl) σ H s):Inv X pins σ H s:=I.pins_of fun p hp=>I.pin p (y11 _ (y1x _ hp))
theorem za5 {iter:Expr} {body:List Stmt} {wi:TI} {g:TG} {tb:TS} {pos:Pos} (hp:PassesOwn (model X.prog X.w) X.A X.env X.xe) (hc:X.calm=true) (hi:PI X tg iter wi) (hg:PG X tg g) (hb:PSs X body tb)
  (hs:∀ x,foldedSetIterable iter X.env x=pure x:=by intro _;rfl):PS X (.For tg iter body [] pos) (tFor wi g tb):=by
 intro pins s σ H D I h
 refine wpAny_For (thn (hi pins s σ H _ I h) fun v s1 h1=>thn h1 fun itv s2 h2=>?_) hs
 obtain ⟨it,fp,tn,J,H2,e,I2,T,st2,f2,W,⟨m0,w0⟩,turn⟩:=h2
 subst e
 have stat:∀ {H':Hp},(∀ b ∈ fp,H' b=none)→∀ b ∈ fp,FpOk X pins H' b:=fun hn b hb=>⟨hn b hb,(f2 b hb).2⟩
 refine codeAny_forLoop_any (fun n s'=>∃ i σ' H',Inv X pins σ' H' s'∧tn i s'.heap∧(∀ b ∈ fp,H' b=none)∧W i n σ' H') ?_ m0 ⟨0,σ,H2,I2,st2,fun b hb=>(f2 b hb).1,w0⟩
 rintro n s3 ⟨i,σ3,H3,I3,st3,fr3,w3⟩
 rcases turn i n σ3 H3 w3 with ⟨stop,qn⟩ | ⟨go,N,hN,step⟩
 ·refine wpAny_passesOwn hp (thn (T.done X rfl rfl rfl hc i pins s3 σ3 H3 X.xe I3 (stat fr3) st3 stop) fun r s4 ⟨hr,I4⟩=>?_)
  subst hr
  exact wpAny_execs_nil ⟨σ3,H3,I4,qn⟩
 ·refine wpAny_passesOwn hp (thn (T.item X rfl rfl rfl hc i pins s3 σ3 H3 X.xe I3 (stat fr3) st3 go) fun r s4 ⟨u,hr,h4⟩=>?_)
  subst hr
  refine wpAny_passesOwn hp (thn h4 fun _ s5 ⟨x,H5,I5,r5,y5,st5,fr5⟩=>?_)
  have I5':=I5.pinned (stat fr5) (T.obj _ _ st5)
  refine wpAny_passesOwn hp (thn (hg _ s5 σ3 H5 x u _ I5' r5 (step x H5 y5)) fun _ s6 ⟨σ6,H6,I6,q6⟩=>?_)
  refine wpAny_passesOwn hp (thn (hb _ s6 σ6 H6 _ I6 q6) fun f s7 q7=>?_)
  have again:∀ {σ7:St} {H7:Hp},Inv X (pins ++ pinsAt fp s5.heap) σ7 H7 s7→N σ7 H7→∃ m,m < n∧∃ i σ' H',Inv X pins σ' H' s7∧tn i s7.heap∧(∀ b ∈ fp,H' b=none)∧W i m σ' H':=fun {σ7 H7} I7 n7=>by
   obtain ⟨m',hm,w7⟩:=hN σ7 H7 n7
   refine ⟨m',hm,i + 1,σ7,H7,I7.unpinned,T.keep _ _ _ st5 fun b hb o e=>(I7.pin (b,o) (y11 _ (y11 _ (zc0 hb e)))).1,fun b hb=>?_,w7⟩
   obtain ⟨o,e,d⟩:=T.obj _ _ st5 b hb
   exact (I7.pin (b,o) (y11 _ (y11 _ (zc0 hb e)))).2.1
  cases f with
  | next=>obtain ⟨σ7,H7,I7,n7⟩:=q7;exact again I7 n7
  | cont=>obtain ⟨σ7,H7,I7,n7⟩:=q7;exact again I7 n7
  | brk=>obtain ⟨σ7,H7,I7,q7⟩:=q7;exact ⟨σ7,H7,I7.unpinned,q7⟩
  | ret v=>obtain ⟨x7,σ7,H7,I7,r7,q7⟩:=q7;exact ⟨x7,σ7,H7,I7.unpinned,r7,q7⟩
end
theorem zq4 {K:Frag} {a:Addr} {xs:List V} {g:TG} {tb:TS} {D:Ends} {σ:St} {H:Hp} (Pv:Nat→St→Hp→Prop) (h0:Pv 0 σ H) (hl:∀ i σ H,i ≤ xs.length→Pv i σ H→SqL K H a xs)
  (hs:∀ i x σ H,xs[i]?=some x→Pv i σ H→g x σ H fun σ2 H2=>tb { D with nx:=Pv (i + 1),ct:=Pv (i + 1),bk:=D.nx } σ2 H2) (hd:∀ σ H,Pv xs.length σ H→D.nx σ H) :
  ∃ W:Nat→Nat→St→Hp→Prop,(∃ m,W 0 m σ H)∧∀ i m σ H,W i m σ H →
   ((Itl K a).stop i H∧D.nx σ H)∨((Itl K a).go i H∧∃ N:St→Hp→Prop,(∀ σ' H',N σ' H'→∃ m',m' < m∧W (i + 1) m' σ' H')∧∀ x H',(Itl K a).yld i H x H'→g x σ H' fun σ2 H2=>tb { D with nx:=N,ct:=N,bk:=D.nx } σ2 H2):=by
 refine ⟨fun i m σ H=>m=xs.length - i∧i ≤ xs.length∧Pv i σ H,⟨xs.length,by simp,y1k _,h0⟩,?_⟩
 rintro i m σ H ⟨rfl,hi,p⟩
 have q:=hl i σ H hi p
 by_cases hlt:i < xs.length
 ·refine .inr ⟨⟨xs,xs[i],q,by simp [hlt]⟩,Pv (i + 1),fun σ' H' p'=>⟨xs.length - (i + 1),by omega,rfl,hlt,p'⟩,fun x H' y=>?_⟩
  obtain ⟨e,y⟩:=y
  subst e
  exact hs i x σ _ (y xs q) p
 ·have e:i=xs.length:=by omega
  subst e
  exact .inl ⟨⟨xs,q,y05 _⟩,hd σ H p⟩
theorem ztq {K:Frag} {a:Addr} {xs:List V} {g:TG} {tb:TS} {D:Ends} {σ:St} {H:Hp} (Pv:Nat→St→Hp→Prop) (h0:Pv 0 σ H) (hl:∀ i σ H,i ≤ xs.length→Pv i σ H→SqT K H a xs)
  (hs:∀ i x σ H,xs[i]?=some x→Pv i σ H→g x σ H fun σ2 H2=>tb { D with nx:=Pv (i + 1),ct:=Pv (i + 1),bk:=D.nx } σ2 H2) (hd:∀ σ H,Pv xs.length σ H→D.nx σ H) :
  ∃ W:Nat→Nat→St→Hp→Prop,(∃ m,W 0 m σ H)∧∀ i m σ H,W i m σ H →
   ((Itt K a).stop i H∧D.nx σ H)∨((Itt K a).go i H∧∃ N:St→Hp→Prop,(∀ σ' H',N σ' H'→∃ m',m' < m∧W (i + 1) m' σ' H')∧∀ x H',(Itt K a).yld i H x H'→g x σ H' fun σ2 H2=>tb { D with nx:=N,ct:=N,bk:=D.nx } σ2 H2):=by
 refine ⟨fun i m σ H=>m=xs.length - i∧i ≤ xs.length∧Pv i σ H,⟨xs.length,by simp,y1k _,h0⟩,?_⟩
 rintro i m σ H ⟨rfl,hi,p⟩
 have q:=hl i σ H hi p
 by_cases hlt:i < xs.length
 ·refine .inr ⟨⟨xs,xs[i],q,by simp [hlt]⟩,Pv (i + 1),fun σ' H' p'=>⟨xs.length - (i + 1),by omega,rfl,hlt,p'⟩,fun x H' y=>?_⟩
  obtain ⟨e,y⟩:=y
  subst e
  exact hs i x σ _ (y xs q) p
 ·have e:i=xs.length:=by omega
  subst e
  exact .inl ⟨⟨xs,q,y05 _⟩,hd σ H p⟩
theorem zon {lo:Int} {n:Nat} {g:TG} {tb:TS} {D:Ends} {σ:St} {H:Hp} (Pv:Nat→St→Hp→Prop) (h0:Pv 0 σ H)
  (hs:∀ i σ H,i < n→Pv i σ H→g (.int (lo + i)) σ H fun σ2 H2=>tb { D with nx:=Pv (i + 1),ct:=Pv (i + 1),bk:=D.nx } σ2 H2) (hd:∀ σ H,Pv n σ H→D.nx σ H) :
  ∃ W:Nat→Nat→St→Hp→Prop,(∃ m,W 0 m σ H)∧∀ i m σ H,W i m σ H →
   ((Itr lo n).stop i H∧D.nx σ H)∨((Itr lo n).go i H∧∃ N:St→Hp→Prop,(∀ σ' H',N σ' H'→∃ m',m' < m∧W (i + 1) m' σ' H')∧∀ x H',(Itr lo n).yld i H x H'→g x σ H' fun σ2 H2=>tb { D with nx:=N,ct:=N,bk:=D.nx } σ2 H2):=by
 refine ⟨fun i m σ H=>m=n - i∧i ≤ n∧Pv i σ H,⟨n,by simp,y1k _,h0⟩,?_⟩
 rintro i m σ H ⟨rfl,hi,p⟩
 by_cases hlt:i < n
 ·refine .inr ⟨hlt,Pv (i + 1),fun σ' H' p'=>⟨n - (i + 1),by omega,rfl,hlt,p'⟩,fun x H' y=>?_⟩
  obtain ⟨e,y⟩:=y
  subst e y
  exact hs i σ _ hlt p
 ·have e:i=n:=by omega
  subst e
  exact .inl ⟨y05 _,hd σ H p⟩
abbrev R2:=V→V→Hp→VK→Prop
def OpR (X:Cx) (f:Value→Value→Sem Value) (r:R2):Prop :=
 ∀ (pins:Z2) (s:Shared) (σ:St) (H:Hp) (x y:V) (v u:Value) (Q:VK),Inv X pins σ H s→RelV x v→RelV y u→r x y H Q →
  wpAny (model X.prog X.w) X.A (f v u) (EP X pins σ Q) X.xe s
def UnR (X:Cx) (f:Value→Sem Value) (r:V→Hp→VK→Prop):Prop :=
 ∀ (pins:Z2) (s:Shared) (σ:St) (H:Hp) (x:V) (v:Value) (Q:VK),Inv X pins σ H s→RelV x v→r x H Q →
  wpAny (model X.prog X.w) X.A (f v) (EP X pins σ Q) X.xe s
def CallR (X:Cx) (f:Value) (r:List V→Hp→VK→Prop):Prop :=
 ∀ (pins:Z2) (s:Shared) (σ:St) (H:Hp) (xs:List V) (us:List Value) (Q:VK),Inv X pins σ H s→Vals xs us→r xs H Q →
  wpAny (model X.prog X.w) X.A (call f us) (EP X pins σ Q) X.xe s
def tOp (r:R2) (ta tb:TE):TE:=fun σ H Q=>ta σ H fun x H1=>tb σ H1 fun y H2=>r x y H2 Q
def tUn (r:V→Hp→VK→Prop) (ta:TE):TE:=fun σ H Q=>ta σ H fun x H1=>r x H1 Q
def rI (C:Int→Int→Prop) (g:Int→Int→V):R2:=fun x y H Q=>∃ i j,x=.int i∧y=.int j∧C i j∧Q (g i j) H
def rI0 (g:Int→Int→V):R2:=fun x y H Q=>∃ i j,x=.int i∧y=.int j∧Q (g i j) H
def rU (g:Int→V):V→Hp→VK→Prop:=fun x H Q=>∃ i,x=.int i∧Q (g i) H
section
variable {X:Cx} {a b c:Expr} {ta tb tc:TE} {pos:Pos}
theorem binT (ha:PE X a ta) (hb:PE X b tb) {pins:Z2} {s:Shared} {σ:St} {H:Hp} {R:V→V→Hp→Prop} (I:Inv X pins σ H s)
  (h:ta σ H fun x H1=>tb σ H1 fun y H2=>R x y H2) {Q:Z0} {f:Value→Value→Sem Value}
  (hf:∀ v u s2 x y H2,Inv X pins σ H2 s2→RelV x v→RelV y u→R x y H2→wpAny (model X.prog X.w) X.A (f v u) Q X.xe s2) :
  wpAny (model X.prog X.w) X.A (eval a X.env) (fun v s₁=>wpAny (model X.prog X.w) X.A (eval b X.env) (fun u s₂=>wpAny (model X.prog X.w) X.A (f v u) Q X.xe s₂) X.xe s₁) X.xe s:=by
 refine thn (ha pins s σ H _ I h) fun v s1 ⟨x,H1,I1,r1,q1⟩=>?_
 refine thn (hb pins s1 σ H1 _ I1 q1) fun u s2 ⟨y,H2,I2,r2,q2⟩=>?_
 exact hf v u s2 x y H2 I2 r1 r2 q2
theorem zap {op:Operator} {r:R2} (ho:OpR X (binaryOp op) r) (ha:PE X a ta) (hb:PE X b tb):PE X (.BinOp a op b pos) (tOp r ta tb):=by
 intro pins s σ H Q I h
 exact wpAny_BinOp (binT ha hb I h fun v u s2 x y H2 I2 rx ry q=>ho pins s2 σ H2 x y v u Q I2 rx ry q)
theorem pe_un {op:UnaryOp} {r:V→Hp→VK→Prop} (ho:UnR X (unaryOp op) r) (ha:PE X a ta):PE X (.UnaryOp op a pos) (tUn r ta):=by
 intro pins s σ H Q I h
 exact UnaryOp_ (thn (ha pins s σ H _ I h) fun v s1 ⟨x,H1,I1,r1,q1⟩=>ho pins s1 σ H1 x v Q I1 r1 q1)
theorem opI {f:Value→Value→Sem Value} {C:Int→Int→Prop} {g:Int→Int→Int}
  (rule:∀ (i j:Int) (t u:Tok) (s:Shared) (Q:Z0) (E:Z0),C i j→Q (.int (g i j) s.toks) { s with toks:=s.toks + 1 }→wpAny (model X.prog X.w) X.A (f (.int i t) (.int j u)) Q E s) :
  OpR X f (rI C fun i j=>.int (g i j)):=by
 intro pins s σ H x y v u Q I rx ry h
 obtain ⟨i,j,rfl,rfl,hc,q⟩:=h
 obtain ⟨t,rfl⟩:=rx
 obtain ⟨t',rfl⟩:=ry
 exact rule i j t t' s _ _ hc ⟨.int (g i j),H,I.tok _,⟨_,rfl⟩,q⟩
theorem opI0 {f:Value→Value→Sem Value} {g:Int→Int→Int}
  (rule:∀ (i j:Int) (t u:Tok) (s:Shared) (Q:Z0) (E:Z0),Q (.int (g i j) s.toks) { s with toks:=s.toks + 1 }→wpAny (model X.prog X.w) X.A (f (.int i t) (.int j u)) Q E s) :
  OpR X f (rI0 fun i j=>.int (g i j)):=by
 intro pins s σ H x y v u Q I rx ry h
 obtain ⟨i,j,rfl,rfl,q⟩:=h
 obtain ⟨t,rfl⟩:=rx
 obtain ⟨t',rfl⟩:=ry
 exact rule i j t t' s _ _ ⟨.int (g i j),H,I.tok _,⟨_,rfl⟩,q⟩
theorem opB0 {f:Value→Value→Sem Value} {g:Int→Int→Bool}
  (rule:∀ (i j:Int) (t u:Tok) (s:Shared) (Q:Z0) (E:Z0),Q (.bool (g i j)) s→wpAny (model X.prog X.w) X.A (f (.int i t) (.int j u)) Q E s) :
  OpR X f (rI0 fun i j=>.bl (g i j)):=by
 intro pins s σ H x y v u Q I rx ry h
 obtain ⟨i,j,rfl,rfl,q⟩:=h
 obtain ⟨t,rfl⟩:=rx
 obtain ⟨t',rfl⟩:=ry
 exact rule i j t t' s _ _ ⟨.bl (g i j),H,I,rfl,q⟩
def CDiv (i j:Int):Prop:=0 < j∧j < 1073741824
def CPow (i j:Int):Prop:=0 ≤ j∧j ≤ 1000000∧i.natAbs < 2 ^ 64
def CMul (i j:Int):Prop:=(-(2 ^ 64) < i∧i < 2 ^ 64)∨(-(2 ^ 64) < j∧j < 2 ^ 64)
theorem CMul.ok {i j:Int} (h:CMul i j):IntMulOk i j:=by
 rcases h with ⟨h1,h2⟩ | ⟨h1,h2⟩
 ·exact .of_left (intBits_le_64 h1 h2)
 ·exact .of_right (intBits_le_64 h1 h2)
theorem zk3 (k:Nat):(0:Int) ≤ 2 ^ k:=by
 rw [two_pow_cast]
 exact Int.natCast_nonneg _
theorem zbe:OpR X (binaryOp .Add) (rI0 fun i j=>.int (i + j)):=opI0 fun _ _ _ _ _ _ _ q=>add_int q
theorem zf1:OpR X (binaryOp .Sub) (rI0 fun i j=>.int (i - j)):=opI0 fun _ _ _ _ _ _ _ q=>sub_int q
theorem ze1:OpR X (binaryOp .Mult) (rI CMul fun i j=>.int (i * j)):=opI fun _ _ _ _ _ _ _ hc q=>mul_int q hc.ok
theorem zb0:OpR X (binaryOp .FloorDiv) (rI CDiv fun i j=>.int (i / j)):=opI fun i j _ _ _ _ _ hc q=>by
 have h1:(0:Int) < j:=hc.1
 have h2:j < 1073741824:=hc.2
 exact floordiv_int (by omega) (by rw [y43 i (by omega)];exact q) (.inl (PyProof.noPylong_small (by omega)))
theorem zb3:OpR X (binaryOp .Mod) (rI (fun _ j=>0 < j) fun i j=>.int (i % j)):=opI fun i j _ _ _ _ _ hc q=>by
 have h1:(0:Int) < j:=hc
 exact mod_int' (by omega) (by rw [Int.fmod_eq_emod_of_nonneg i (by omega)];exact q)
theorem zrr:OpR X (binaryOp .Pow) (rI CPow fun i j=>.int (i ^ j.toNat)):=opI fun _ _ _ _ _ _ _ hc q=>pow_int_small hc.1 hc.2.1 hc.2.2 q
theorem zhw:OpR X (binaryOp .LShift) (rI CPow fun i j=>.int (i * 2 ^ j.toNat)):=opI fun _ _ _ _ _ _ _ hc q=>lshift_int_small hc.1 hc.2.1 hc.2.2 q
theorem op_shr:OpR X (binaryOp .RShift) (rI (fun _ j=>0 ≤ j) fun i j=>.int (i / 2 ^ j.toNat)):=opI fun i j _ _ _ _ _ hc q =>
 rshift_int hc (by rw [y43 i (zk3 _)];exact q)
theorem unI {f:Value→Sem Value} {g:Int→Int}
  (rule:∀ (i:Int) (t:Tok) (s:Shared) (Q:Z0) (E:Z0),Q (.int (g i) s.toks) { s with toks:=s.toks + 1 }→wpAny (model X.prog X.w) X.A (f (.int i t)) Q E s) :
  UnR X f (rU fun i=>.int (g i)):=by
 intro pins s σ H x v Q I rx h
 obtain ⟨i,rfl,q⟩:=h
 obtain ⟨t,rfl⟩:=rx
 exact rule i t s _ _ ⟨.int (g i),H,I.tok _,⟨_,rfl⟩,q⟩
theorem zrj:UnR X (unaryOp .USub) (rU fun i=>.int (-i)):=unI fun _ _ _ _ _ q=>neg_int q
end
def scal:V→V→Bool
 | .non,.non=>true | .non,.int _=>true | .int _,.non=>true | .non,.bl _=>true | .bl _,.non=>true | .non,.str _=>true | .str _,.non=>true
 | .int _,.int _=>true | .bl _,.bl _=>true | .str _,.str _=>true | .byt _,.byt _=>true
 | .int _,.str _=>true | .str _,.int _=>true | .bl _,.str _=>true | .str _,.bl _=>true
 | _,_=>false
def rEq:R2:=fun x y H Q=>scal x y=true∧Q (.bl (decide (x=y))) H
def rNe:R2:=fun x y H Q=>scal x y=true∧Q (.bl (!decide (x=y))) H
theorem zow {i j:Int}:decide (V.int i=V.int j)=(i == j):=by
 rw [y35]
 simp
theorem zr9 {i j:Bool}:decide (V.bl i=V.bl j)=(i == j):=by
 rw [y35]
 simp
theorem zov {i j:Str}:decide (V.str i=V.str j)=(i == j):=by
 rw [y35]
 simp
theorem zox {i j:Array UInt8}:decide (V.byt i=V.byt j)=(i.toList == j.toList):=by
 rw [y35]
 cases i
 cases j
 simp
section
variable {X:Cx} {a b c:Expr} {ta tb tc:TE} {pos:Pos}
theorem za1 {pins:Z2} {σ:St} {H:Hp} {s:Shared} {Q:VK} {k k':Bool} (I:Inv X pins σ H s) (q:Q (.bl k) H) (e:k=k'):EP X pins σ Q (.bool k') s:=by
 subst e
 exact ⟨.bl k,H,I,rfl,q⟩
theorem zqg:OpR X (compareOp .Eq) rEq:=by
 intro pins s σ H x y v u Q I rx ry h
 obtain ⟨hs,q⟩:=h
 cases x with
 | non =>
  cases rx
  cases y with
  | non=>cases ry;exact PySem.EqNone.eq_none_none (za1 I q (by simp))
  | bl j=>cases ry;exact PySem.EqNone.eq_none_bool (za1 I q (by simp))
  | int j=>obtain ⟨t',rfl⟩:=ry;exact PySem.EqNone.eq_none_int (za1 I q (by simp))
  | str j=>obtain ⟨t',rfl⟩:=ry;exact PySem.EqNone.eq_none_str (za1 I q (by simp))
  | _=>exact absurd (show false=true from hs) y0l
 | bl i =>
  cases rx
  cases y with
  | non=>cases ry;exact PySem.EqNone.eq_bool_none (za1 I q (by simp))
  | bl j=>cases ry;exact eq_bool (za1 I q zr9)
  | str j=>obtain ⟨t',rfl⟩:=ry;exact PySem.EqMixed.eq_bool_str (za1 I q (by simp))
  | _=>exact absurd (show false=true from hs) y0l
 | int i =>
  obtain ⟨t,rfl⟩:=rx
  cases y with
  | non=>cases ry;exact PySem.EqNone.eq_int_none (za1 I q (by simp))
  | int j=>obtain ⟨t',rfl⟩:=ry;exact eq_int (za1 I q zow)
  | str j=>obtain ⟨t',rfl⟩:=ry;exact PySem.EqMixed.eq_int_str (za1 I q (by simp))
  | _=>exact absurd (show false=true from hs) y0l
 | str i =>
  obtain ⟨t,rfl⟩:=rx
  cases y with
  | non=>cases ry;exact PySem.EqNone.eq_str_none (za1 I q (by simp))
  | bl j=>cases ry;exact PySem.EqMixed.eq_str_bool (za1 I q (by simp))
  | int j=>obtain ⟨t',rfl⟩:=ry;exact PySem.EqMixed.eq_str_int (za1 I q (by simp))
  | str j=>obtain ⟨t',rfl⟩:=ry;exact eq_str (za1 I q zov)
  | _=>exact absurd (show false=true from hs) y0l
 | byt i =>
  obtain ⟨t,rfl⟩:=rx
  cases y with
  | byt j=>obtain ⟨t',rfl⟩:=ry;exact PySem.W.eq_bytes (za1 I q zox)
  | _=>exact absurd (show false=true from hs) y0l
 | _=>cases y <;> exact absurd (show false=true from hs) y0l
theorem znk:OpR X (compareOp .NotEq) rNe:=by
 intro pins s σ H x y v u Q I rx ry h
 obtain ⟨hs,q⟩:=h
 cases x with
 | non =>
  cases rx
  cases y with
  | non=>cases ry;exact PySem.EqNone.ne_none_none (za1 I q (by simp))
  | bl j=>cases ry;exact PySem.EqNone.ne_none_bool (za1 I q (by simp))
  | int j=>obtain ⟨t',rfl⟩:=ry;exact PySem.EqNone.ne_none_int (za1 I q (by simp))
  | str j=>obtain ⟨t',rfl⟩:=ry;exact PySem.EqNone.ne_none_str (za1 I q (by simp))
  | _=>exact absurd (show false=true from hs) y0l
 | bl i =>
  cases rx
  cases y with
  | non=>cases ry;exact PySem.EqNone.ne_bool_none (za1 I q (by simp))
  | bl j=>cases ry;exact ne_bool (za1 I q (congrArg not zr9))
  | str j=>obtain ⟨t',rfl⟩:=ry;exact PySem.EqMixed.ne_bool_str (za1 I q (by simp))
  | _=>exact absurd (show false=true from hs) y0l
 | int i =>
  obtain ⟨t,rfl⟩:=rx
  cases y with
  | non=>cases ry;exact PySem.EqNone.ne_int_none (za1 I q (by simp))
  | int j=>obtain ⟨t',rfl⟩:=ry;exact ne_int (za1 I q (congrArg not zow))
  | str j=>obtain ⟨t',rfl⟩:=ry;exact PySem.EqMixed.ne_int_str (za1 I q (by simp))
  | _=>exact absurd (show false=true from hs) y0l
 | str i =>
  obtain ⟨t,rfl⟩:=rx
  cases y with
  | non=>cases ry;exact PySem.EqNone.ne_str_none (za1 I q (by simp))
  | bl j=>cases ry;exact PySem.EqMixed.ne_str_bool (za1 I q (by simp))
  | int j=>obtain ⟨t',rfl⟩:=ry;exact PySem.EqMixed.ne_str_int (za1 I q (by simp))
  | str j=>obtain ⟨t',rfl⟩:=ry;exact ne_str (za1 I q (congrArg not zov))
  | _=>exact absurd (show false=true from hs) y0l
 | byt i =>
  obtain ⟨t,rfl⟩:=rx
  cases y with
  | byt j=>obtain ⟨t',rfl⟩:=ry;exact PySem.W.ne_bytes (za1 I q (congrArg not zox))
  | _=>exact absurd (show false=true from hs) y0l
 | _=>cases y <;> exact absurd (show false=true from hs) y0l
theorem zlk:OpR X (compareOp .Lt) (rI0 fun i j=>.bl (decide (i < j))):=opB0 fun _ _ _ _ _ _ _ q=>lt_int q
theorem op_le:OpR X (compareOp .LtE) (rI0 fun i j=>.bl (decide (i ≤ j))):=opB0 fun _ _ _ _ _ _ _ q=>le_int q
theorem zqf:OpR X (compareOp .Gt) (rI0 fun i j=>.bl (decide (j < i))):=opB0 fun _ _ _ _ _ _ _ q=>gt_int q
theorem nomark (b:Expr) {op:CmpOp} (h:op ≠ .In:=by decide) (h2:op ≠ .NotIn:=by decide):behindInMarks op b=false:=by
 have e1:(op == CmpOp.In)=false:=by cases op <;> first | rfl | exact absurd rfl h
 have e2:(op == CmpOp.NotIn)=false:=by cases op <;> first | rfl | exact absurd rfl h2
 cases b <;> simp [behindInMarks,e1,e2]
theorem zi0 {op:CmpOp} {r:R2} (ho:OpR X (compareOp op) r) (ha:PE X a ta) (hb:PE X b tb) (hm:behindInMarks op b=false):PE X (.Compare a [op] [b] pos) (tOp r ta tb):=by
 intro pins s σ H Q I h
 exact wpAny_Compare1 (binT ha hb I h fun v u s2 x y H2 I2 rx ry q=>ho pins s2 σ H2 x y v u Q I2 rx ry q) hm
def tTest (t:TE):TT:=fun σ H Q=>t σ H fun x H'=>∃ k,x=.bl k∧Q k H'
theorem zax {op:CmpOp} {r:R2} (ho:OpR X (compareOp op) r) (ha:PE X a ta) (hb:PE X b tb) (hm:behindInMarks op b=false):PT X (.Compare a [op] [b] pos) (tTest (tOp r ta tb)):=by
 intro pins s σ H Q I h
 refine wpAny_isTrue_Compare1 (thn (ha pins s σ H _ I h) fun v s1 ⟨x,H1,I1,r1,q1⟩=>thn (hb pins s1 σ H1 _ I1 q1) fun u s2 ⟨y,H2,I2,r2,q2⟩ =>
  thn (ho pins s2 σ H2 x y v u _ I2 r1 r2 q2) fun c s3 ⟨z,H3,I3,r3,k,e,q3⟩=>?_) hm
 subst e
 cases r3
 exact wpAny_truthy_bool ⟨H3,I3,q3⟩
def tChain (r r':R2) (ta tb tc:TE):TE:=fun σ H Q=>ta σ H fun x H1=>tb σ H1 fun y H2=>r x y H2 fun z H3=>∃ k,z=.bl k ∧
 (if k=true then tc σ H3 fun w' H4=>r' y w' H4 Q else Q (.bl false) H3)
theorem zkd {op op':CmpOp} {r r':R2} (ho:OpR X (compareOp op) r) (ho':OpR X (compareOp op') r') (ha:PE X a ta) (hb:PE X b tb) (hc:PE X c tc)
  (hm:lastMarks [op,op'] [b,c]=false:=by with_unfolding_all rfl):PE X (.Compare a [op,op'] [b,c] pos) (tChain r r' ta tb tc):=by
 intro pins s σ H Q I h
 refine Compare_chain (thn (ha pins s σ H _ I h) fun v s1 ⟨x,H1,I1,r1,q1⟩=>chain_link (thn (hb pins s1 σ H1 _ I1 q1) fun u s2 ⟨y,H2,I2,r2,q2⟩ =>
  thn (ho pins s2 σ H2 x y v u _ I2 r1 r2 q2) fun d s3 ⟨z,H3,I3,r3,k,e,q3⟩=>?_)) hm
 subst e
 cases r3
 refine wpAny_truthy_bool ?_
 cases k with
 | false=>exact ite_ff ⟨.bl false,H3,I3,rfl,q3⟩
 | true=>exact ite_tt (chain_last (thn (hc pins s3 σ H3 _ I3 q3) fun w' s4 ⟨z',H4,I4,r4,q4⟩=>ho' pins s4 σ H4 y z' u w' Q I4 r2 r4 q4))
theorem line63:(sizeLine:Nat) < 2 ^ 63:=by rw [sizeLine_eq];decide
theorem vals1 {x:V} {us:List Value} (r:Vals [x] us):∃ u,us=[u]∧RelV x u:=by
 cases r with
 | cons r1 r2=>cases r2;exact ⟨_,rfl,r1⟩
theorem vals2 {x y:V} {us:List Value} (r:Vals [x,y] us):∃ u w',us=[u,w']∧RelV x u∧RelV y w':=by
 cases r with
 | cons r1 r2 =>
  cases r2 with
  | cons r3 r4=>cases r4;exact ⟨_,_,rfl,r1,r3⟩
end
structure ObjM (h:Heap) (x dx C:Addr) (mA:Z1):Prop where
 obj:h.get? x=some (PySem.W.instObj C dx)
 ns:h.Ns1 dx mA
 ne:dx ≠ x
theorem zn4 {h:Heap} {dx:Addr} {mA:Z1} (n:h.Ns1 dx mA):∃ od,h.get? dx=some od∧∀ name,PySem.W.lookIn name od=some (mA name):=by
 obtain ⟨o,es,ep,ho,hd,hk,_,hm⟩:=n
 refine ⟨o,ho,fun name=>?_⟩
 have e:=hm name
 unfold nsFind findBy at e
 rw [← Array.find?_toList] at e
 unfold PySem.W.lookIn
 rw [hd]
 dsimp only
 split
 ·rename_i y q
  rw [q] at e
  exact congrArg some e
 ·rename_i q
  rw [q] at e
  have a:es.toList.any (·.refKey)=false:=by
   rw [List.any_eq_false]
   intro y hy
   obtain ⟨z,t,hkey⟩:=hk y (Array.mem_toList_iff.mp hy)
   simp [DictEntry.refKey,hkey]
  have a':¬ es.toList.any (·.refKey)=true:=by rw [a];exact y0l
  rw [if_neg a']
  exact congrArg some e
theorem ObjM.look {h:Heap} {x dx C:Addr} {mA:Z1} (I:ObjM h x dx C mA):∃ od,PySem.W.InstAt h x (PySem.W.instObj C dx) C (some od)∧∀ name,PySem.W.lookIn name od=some (mA name) :=
 let ⟨od,ho,hl⟩:=zn4 I.ns
 ⟨od,⟨I.obj,rfl,rfl,ho⟩,hl⟩
theorem RelO.some_of {v:V} {o:Option Value} (r:RelO (some v) o):∃ u,o=some u∧RelV v u:=by
 cases o with
 | none=>exact (show False from r).elim
 | some u=>exact ⟨u,rfl,r⟩
section
variable {P:Program} {w:World} {H H':Hp} {h h':Heap} {a C dx:Addr} {fs fs':List (Str × V)}
theorem ztk (hok:HOk P w H h) (e:H a=some (.ins C dx fs)):∃ mA,ObjM h a dx C mA∧(∀ f,RelO (fs.lookup f) (mA f))∧PySem.Within mA (fs.map (·.1))∧fs.length ≤ 1000∧H dx=some (.own a):=by
 obtain ⟨d,z,ne,ob,mA,n,r,q⟩:=(show ObjOk P w H h a (.ins C dx fs) from hok a _ e)
 exact ⟨mA,⟨ob,n,ne⟩,r,q,z,d⟩
end
structure Cls (K:Frag) (C:Addr):Prop where
 pg:PySem.W.plainGet K C Str.empty=true
 hd:PySem.W.hasDictIn K C=true
 po:PySem.W.plainOver K C=true
 sa:PySem.W.findIn K (.ref C) "__setattr__"=some (some (.builtin "object.__setattr__"))
theorem Cls.get {K:Frag} {C:Addr} (c:Cls K C) (f:Str):PySem.W.plainGet K C f=true:=c.pg
section
variable {X:Cx} {pins:Z2} {σ:St} {H:Hp} {s:Shared} {A:Around} {E:Z0} {Q:Z0} {c:Value} {b:Bool}
inductive TyOf (K:Frag) (H:Hp):V→Value→Prop where
 | non:TyOf K H .non (.type "NoneType")
 | bl (x:Bool):TyOf K H (.bl x) (.type "bool")
 | int (i:Int):TyOf K H (.int i) (.type "int")
 | str (x:Str):TyOf K H (.str x) (.type "str")
 | flt (x:UInt64):TyOf K H (.flt x) (.type "float")
 | lst {a:Addr} {xs:List V} (e:H a=some (.lst xs)):TyOf K H (.ref a) (.type "list")
 | frz {a:Addr} {o:Obj} {xs:List V} (e:H a=some (.frz o (.lst xs))):TyOf K H (.ref a) (.type "list")
 | tup {a:Addr} {xs:List V} (e:H a=some (.tup xs)):TyOf K H (.ref a) (.type "tuple")
 | dK {a:Addr} {kvs:List (Key × V)} (e:H a=some (.dK kvs)):TyOf K H (.ref a) (.type "dict")
 | dT {a:Addr} {kvs:List (List Key × V)} (e:H a=some (.dT kvs)):TyOf K H (.ref a) (.type "dict")
 | ins {a C dx:Addr} {fs:List (Str × V)} (e:H a=some (.ins C dx fs)) (cl:Cls K C) (ha:PySem.W.findIn K (.ref C) "__class__"=some (some (.builtin "object.__class__")))
   (hn:PySem.W.specialIn K (.builtin "object.__class__") "__get__"=some (some (.builtin "getset_descriptor.__get__"))) (htk:PySem.W.takesIn K (.builtin "object.__class__")=some true)
   (hm:PySem.W.mroIn K C (.type "object")=some true):TyOf K H (.ref a) (.ref C)
theorem zoe {x:V} {u t:Value} (I:Inv X pins σ H s) (rx:RelV x u) (ty:TyOf X.K H x t) (e:PySem.W.kitOne X.K t c=some b) (h:∀ tk,Q (.bool b) { s with toks:=tk }) :
  wpAny (model X.prog X.w) A (call (.builtin "isinstance") [u,c]) Q E s:=by
 cases ty with
 | non=>cases (show u=Value.none from rx);exact PySem.W.kia_one PySem.W.kitx_none I.kIn True.intro e (fun z=>nomatch z) h
 | bl y=>cases (show u=Value.bool y from rx);exact PySem.W.kia_one PySem.W.kitx_bool I.kIn True.intro e (fun z=>nomatch z) h
 | int i=>obtain ⟨t,q⟩:=(show ∃ t,u=Value.int i t from rx);cases q;exact PySem.W.kia_one PySem.W.kitx_int I.kIn True.intro e (fun z=>nomatch z) h
 | str y=>obtain ⟨t,q⟩:=(show ∃ t,u=Value.str y t from rx);cases q;exact PySem.W.kia_one PySem.W.kitx_str I.kIn True.intro e (fun z=>nomatch z) h
 | flt y=>obtain ⟨t,q⟩:=(show ∃ t,u=Value.float y t from rx);cases q;exact PySem.W.kia_one PySem.W.kitx_float I.kIn True.intro e (fun z=>nomatch z) h
 | @lst a xs ea =>
  cases (show u=Value.ref a from rx)
  obtain ⟨_,_,n,_,h1⟩:=(show ObjOk X.prog X.w H s.heap a (.lst xs) from I.hok a _ ea)
  exact PySem.W.kia_one PySem.W.kitx_list I.kIn ⟨_,h1,rfl⟩ e (fun z=>nomatch z) h
 | @frz a ob xs ea =>
  cases (show u=Value.ref a from rx)
  obtain ⟨_,_,_,n,_,h1⟩:=(show ObjOk X.prog X.w H s.heap a (.frz ob (.lst xs)) from I.hok a _ ea)
  exact PySem.W.kia_one PySem.W.kitx_list I.kIn ⟨_,h1,rfl⟩ e (fun z=>nomatch z) h
 | @tup a xs ea =>
  cases (show u=Value.ref a from rx)
  obtain ⟨_,_,_,p⟩:=(show ObjOk X.prog X.w H s.heap a (.tup xs) from I.hok a _ ea)
  obtain ⟨o,h1,h2,_⟩:=p
  exact PySem.W.kia_one PySem.W.kitx_tuple I.kIn ⟨o,h1,h2⟩ e (fun z=>nomatch z) h
 | @dK a kvs ea =>
  cases (show u=Value.ref a from rx)
  obtain ⟨_,_,vs,_,p⟩:=(show ObjOk X.prog X.w H s.heap a (.dK kvs) from I.hok a _ ea)
  obtain ⟨o,es,ep,h1,h2,_⟩:=p
  exact PySem.W.kia_one PySem.W.kitx_dict I.kIn ⟨o,h1,h2.1⟩ e (fun z=>nomatch z) h
 | @dT a kvs ea =>
  cases (show u=Value.ref a from rx)
  obtain ⟨_,_,xs,_,o,es,ep,h1,h2,_⟩:=(show ObjOk X.prog X.w H s.heap a (.dT kvs) from I.hok a _ ea)
  exact PySem.W.kia_one PySem.W.kitx_dict I.kIn ⟨o,h1,h2.1⟩ e (fun z=>nomatch z) h
 | @ins a C dx fs ea cl ha hn htk hm =>
  cases (show u=Value.ref a from rx)
  obtain ⟨mA,O,_⟩:=ztk I.hok ea
  obtain ⟨od,J,_⟩:=O.look
  exact PySem.W.kia_one (PySem.W.kitx_own (cl.get _) cl.hd ha hn htk hm) I.kIn J e (fun z=>nomatch z) h
end
structure Room (k:Nat) (A:Around):Prop where
 hd:A.handled=none
 dp:A.depth + 3 * k + 5 < recursionLimit
 un:A.units + 16 * k + 200 < cLine
theorem Room.mono {j k:Nat} {A:Around} (r:Room k A) (h:j ≤ k):Room j A:=⟨r.hd,by have:=r.dp;omega,by have:=r.un;omega⟩
theorem Room.deeper {k:Nat} {A:Around} (r:Room (k + 1) A) (env:Env):Room k (A.deeper env) :=
 ⟨r.hd,by have:=r.dp;show A.depth + 1 + 3 * k + 5 < _;omega,by have:=r.un;show A.units + 3 + 16 * k + 200 < _;omega⟩
theorem Room.depth {k:Nat} {A:Around} (r:Room k A):A.depth < recursionLimit:=by have:=r.dp;omega
theorem Room.units {k:Nat} {A:Around} (r:Room k A):A.units + 64 < cLine:=by have:=r.un;omega
def tNil:TA:=fun _ H Q=>Q [] H
def tCons (ta:TE) (tr:TA):TA:=fun σ H Q=>ta σ H fun x H1=>tr σ H1 fun xs H2=>Q (x :: xs) H2
section
variable {X:Cx} {e:Expr} {es:List Expr} {te:TE} {t:TA} {pos:Pos}
theorem zaa:PA X [] tNil:=fun _ _ _ _ H Q I h=>Calls.spliced_nil ⟨[],H,I,.nil,h⟩
theorem zs3 (ha:PE X e te) (hr:PA X es t) (hs:starEach (e :: es) X.env=(false,eval e X.env) :: starEach es X.env:=by rfl):PA X (e :: es) (tCons te t):=by
 intro pos pins s σ H Q I h
 rw [hs]
 show wpAny _ _ (spliced ((false,eval e X.env) :: backTo pos (starEach es X.env))) _ _ s
 refine Calls.spliced_cons (thn (ha pins s σ H _ I h) fun u s1 ⟨x,H1,I1,r1,q1⟩=>?_)
 exact thn (hr pos pins s1 σ H1 _ I1 q1) fun us s2 ⟨xs,H2,I2,r2,q2⟩=>⟨x :: xs,H2,I2,.cons r1 r2,q2⟩
end
abbrev Sp:=List V→Hp→VK→XK→Prop
abbrev CXT:=List Env→Hp→Shared→XK→Value→Shared→Prop
structure Env0 (P:Program) (w:World) (K:Frag) (mg:Z1) (base:Heap) (A:Around) (outer:List Env) (s:Shared) (H:Hp):Prop where
 frames:A.frames=some outer
 mod:Mod K mg base
 bs:∀ b o,base.get? b=some o→s.heap.get? b=some o∧H b=none
 bsz:base.objs.size ≤ s.heap.objs.size
 funs:s.heap.FunFrames base outer
 frf:∀ b ∈ frs outer,H b=none
 hok:HOk P w H s.heap
 bare:AllBare s.gens
def CE (outer:List Env) (P:Program) (w:World) (H:Hp) (s:Shared) (Q:VK) (u:Value) (s':Shared):Prop :=
 ∃ v H',s'.os=s.os∧AllBare s'.gens∧Un (frs outer) [] H H' s.heap s'.heap∧HOk P w H' s'.heap∧RelV v u∧Q v H'
def CR (CX:CXT) (outer:List Env) (P:Program) (w:World) (H:Hp) (s:Shared) (Q:VK) (E:XK) (r:Result) (s':Shared):Prop :=
 match r with
 | .ok (.ret u)=>CE outer P w H s Q u s'
 | .ok _=>False
 | .error e=>CX outer H s E e s'
structure FnOk (P:Program) (w:World) (K:Frag) (mg:Z1) (base:Heap) (CX:CXT) (k:Nat) (f:Addr) (fd:FuncData) (ps:List Str) (sp:Sp):Prop where
 len:∀ vs H Q E,sp vs H Q E→vs.length=ps.length
 run:∀ (A:Around) (outer:List Env) (s:Shared) (H:Hp) (args:Args) (us:List Value) (vs:List V) (Q:VK) (E:XK),Room k A→Env0 P w K mg base A outer s H→BindsTo s fd args (ps.zip us)→Vals vs us→sp vs H Q E →
  codeAny (model P w) A (.call (.ref f) args) (CR CX outer P w H s Q E) s
section
variable {X:Cx} {pins:Z2} {σ:St} {H:Hp} {s s':Shared}
theorem Inv.env0 (I:Inv X pins σ H s):Env0 X.prog X.w X.K X.mg X.base X.A X.stack s H :=
 ⟨I.ok.frames,I.ok.mod,I.bs,y13 I.ok.bsz I.sz,I.stack,I.stkFree,I.hok,I.bare⟩
theorem Inv.after {Q:VK} {u:Value} (I:Inv X pins σ H s) (h:CE X.stack X.prog X.w H s Q u s'):EP X pins σ Q u s':=by
 obtain ⟨v,H',os,bare,un,hok,r,q⟩:=h
 obtain ⟨hh,g,d,t,os'⟩:=s'
 obtain rfl:os'=s.os:=os
 exact ⟨v,H',I.call (h':=hh) (g':=g) (d':=d) (t':=t) (ch:=[]) un hok bare (fun b z=>absurd z (by simp)),r,q⟩
end
def tCall (sp:Sp) (dvs:List V) (E:XK) (t:TA):TE:=fun σ H Q=>t σ H fun vs H1=>sp (vs ++ dvs) H1 Q E
def Binds (K:Frag) (fd:FuncData) (ps:List Str) (ds:List Value):Prop :=
 ∀ (s:Shared) (us:List Value),K.In s.heap→(us ++ ds).length=ps.length→BindsTo s fd ⟨us,[]⟩ (ps.zip (us ++ ds))
theorem Binds.all {K:Frag} {fd:FuncData} {ps:List Str} (h:∀ us:List Value,us.length=ps.length→bindArgs fd ⟨us,[]⟩=pure (ps.zip us)):Binds K fd ps []:=fun s us _ hl=>by
 rw [y0s] at hl ⊢
 exact .of_eq (h us hl)
def Passes (CX:CXT) (X:Cx) (E:XK):Prop:=∀ (pins:Z2) (σ:St) (H:Hp) (s:Shared) (e:Value) (s':Shared),Inv X pins σ H s→CX X.stack H s E e s'→X.xe e s'
section
variable {X:Cx} {CX:CXT} {k:Nat} {f C:Addr} {fd:FuncData} {ps:List Str} {sp:Sp} {dvs:List V} {ds:List Value} {E:XK} {x m:Str} {p pos apos:Pos} {e o:Expr} {es:List Expr} {ta:TE} {t:TA}
theorem run_fn {pins:Z2} {σ:St} {H:Hp} {s:Shared} {Q:VK} {us:List Value} {vs:List V} (F:FnOk X.prog X.w X.K X.mg X.base CX k f fd ps sp) (hr:Room k X.A) (hb:Binds X.K fd ps ds) (hd:Vals dvs ds) (hx:Passes CX X E)
  (I:Inv X pins σ H s) (r:Vals vs us) (h:sp (vs ++ dvs) H Q E):wpAny (model X.prog X.w) X.A (call (.ref f) us) (EP X pins σ Q) X.xe s:=by
 have r2:Vals (vs ++ dvs) (us ++ ds):=r.append hd
 have hl:(us ++ ds).length=ps.length:=by rw [← r2.length];exact F.len _ _ _ _ h
 refine wpAny_call (codeAny_mono (F.run X.A X.stack s H ⟨us,[]⟩ (us ++ ds) (vs ++ dvs) Q E hr I.env0 (hb s us I.kIn hl) r2 h) fun r s' hq=>?_)
 cases r with
 | error e=>exact hx pins σ H s e s' I hq
 | ok fl =>
  cases fl with
  | ret u=>exact I.after hq
  | next=>exact False.elim hq
  | brk=>exact False.elim hq
  | cont=>exact False.elim hq
theorem zs2 (F:FnOk X.prog X.w X.K X.mg X.base CX k f fd ps sp) (hr:Room k X.A) (hg:Gl X x) (hm:X.mg x=some (.ref f)) (hk:PySem.W.keepIn X.K (.ref f)=true) (hb:Binds X.K fd ps ds) (hd:Vals dvs ds) (hx:Passes CX X E)
  (ha:PA X (e :: es) t) (hdb:(x == ("__debug__":Str))=false:=by decide) (he:starEach (e :: es) X.env=(false,eval e X.env) :: starEach es X.env:=by rfl) (hpl:(backTo pos (starEach es X.env)).any (·.1)=false:=by rfl) :
  PE X (.Call (.Name x p) (e :: es) [] pos) (tCall sp dvs E t):=by
 intro pins s σ H Q I h
 refine wpAny_Call_Name_kw (zdz I hg hm ?_ hdb)
 refine PySem.W.callWith_K (h₀:=X.base) I.ok.mod.kin hk (thn (ha pos pins s σ H _ I h) fun us s1 ⟨vs,H1,I1,r,q⟩=>⟨I1.kIn,?_⟩) he hpl
 exact run_fn F hr hb hd hx I1 r q
end
structure FnScope (N P:List Str) (sc:Scope):Prop where
 kind:sc.kind=.function
 co:sc.isCoroutine=false
 gen:sc.isGenerator=false
 nd:N.Nodup
 pre:N.take P.length=P
 par:∀ x ∈ P,sc.names.lookup x=some .local∨sc.names.lookup x=some .cell
 nofree:∀ y ∈ sc.names,y.2 ≠ .free
theorem zil {kindOf:Str→Option NameKind} {x:Str}:∀ {binds:List (Str × Value)} {m:Z1},(∀ v,(x,v) ∉ binds)→bindL kindOf binds m x=m x
 | [],_,_=>rfl
 | (n,v) :: r,m,h=>by
  unfold bindL
  rw [zil fun w hw=>h w (y08 _ hw)]
  split
  ·have:x ≠ n:=by rintro rfl;exact h v y0d
   simp [this]
  ·rfl
theorem zim {kindOf:Str→Option NameKind} {x:Str}:∀ {binds:List (Str × Value)} {m:Z1},(∀ v,(x,v) ∉ binds)→bindC kindOf binds m x=m x
 | [],_,_=>rfl
 | (n,v) :: r,m,h=>by
  unfold bindC
  rw [zim fun w hw=>h w (y08 _ hw)]
  split
  ·rfl
  ·have:x ≠ n:=by rintro rfl;exact h v y0d
   simp [this]
theorem zfi {kindOf:Str→Option NameKind} {x:Str} {v:Value}:∀ {P:List Str} {vs:List Value} {i:Nat} {m:Z1},P.Nodup→P[i]?=some x→vs[i]?=some v→kindOf x=some .local →
  bindL kindOf (P.zip vs) m x=some v
 | [],_,_,_,_,h,_,_=>by simp at h
 | _ :: _,[],_,_,_,_,h,_=>by simp at h
 | p :: P,w :: vs,0,m,nd,h1,h2,hk=>by
  simp at h1 h2;subst h1;subst h2
  show bindL kindOf ((p,w) :: P.zip vs) m p=_
  unfold bindL
  rw [zil fun v hv=>(y1h.mp nd).1 (y2n hv).1,if_pos hk]
  simp
 | p :: P,w :: vs,i + 1,m,nd,h1,h2,hk=>by
  show bindL kindOf ((p,w) :: P.zip vs) m x=_
  unfold bindL
  exact zfi (i:=i) (y1h.mp nd).2 (by simpa using h1) (by simpa using h2) hk
theorem zfj {kindOf:Str→Option NameKind} {x:Str} {v:Value}:∀ {P:List Str} {vs:List Value} {i:Nat} {m:Z1},P.Nodup→P[i]?=some x→vs[i]?=some v→kindOf x ≠ some .local →
  bindC kindOf (P.zip vs) m x=some v
 | [],_,_,_,_,h,_,_=>by simp at h
 | _ :: _,[],_,_,_,_,h,_=>by simp at h
 | p :: P,w :: vs,0,m,nd,h1,h2,hk=>by
  simp at h1 h2;subst h1;subst h2
  show bindC kindOf ((p,w) :: P.zip vs) m p=_
  unfold bindC
  rw [zim fun v hv=>(y1h.mp nd).1 (y2n hv).1,if_neg hk]
  simp
 | p :: P,w :: vs,i + 1,m,nd,h1,h2,hk=>by
  show bindC kindOf ((p,w) :: P.zip vs) m x=_
  unfold bindC
  exact zfj (i:=i) (y1h.mp nd).2 (by simpa using h1) (by simpa using h2) hk
def start (N:List Str) (vs:List V):St:=vs.map some ++ List.replicate (N.length - vs.length) none
def cxOf (CX:CXT) (P:Program) (w:World) (K:Frag) (mg:Z1) (base:Heap) (N:List Str) (qual:Str) (scope:Scope) (f:Addr) (cd:Value) (A:Around) (outer:List Env) (s:Shared) (H:Hp) (E:XK):Cx where
 prog:=P
 w:=w
 K:=K
 mg:=mg
 base:=base
 A:=A.deeper (envOfC qual scope s.heap.objs.size f cd)
 N:=N
 s₀:=s
 H₀:=H
 env:=envOfC qual scope s.heap.objs.size f cd
 outer:=outer
 stack:=envOfC qual scope s.heap.objs.size f cd :: outer
 ex:=[]
 calm:=true
 fn:=fun _=>true
 pn:=[]
 xe:=fun e s'=>wpAny (model P w) (A.deeper (envOfC qual scope s.heap.objs.size f cd)) (leaving (envOfC qual scope s.heap.objs.size f cd) e) (fun _ s''=>CX outer H s E e s'') (fun e' s''=>CX outer H s E e' s'') s'
theorem zc2 {sc:Scope} {n:Nat} {x:Str} (h:sc.names.lookup x=some .cell):∃ c,(cellsFrom n sc.names []).lookup x=some c:=by
 have q:=PySem.W.cellsFrom_some sc.names n [] (.inl h)
 exact y38.mp q
theorem zof {CX:CXT} {P:Program} {w:World} {K:Frag} {mg:Z1} {base:Heap} {N ps:List Str} {qual:Str} {scope:Scope} {f:Addr} {cd:Value} {A:Around} {outer:List Env} {s s1:Shared} {H:Hp} {E:XK} {us:List Value} {vs:List V}
  (S:FnScope N ps scope) (hd:A.handled=none) (e0:Env0 P w K mg base A outer s H) (hl:vs.length=ps.length) (r:Vals vs us)
  (x:InCallC s s.heap.objs.size (bindL (envOfC qual scope s.heap.objs.size f cd).kindOf (ps.zip us) fun _=>none) (cellsFrom (s.heap.objs.size + 1) scope.names []) (bindC (envOfC qual scope s.heap.objs.size f cd).kindOf (ps.zip us) fun _=>none) s1) :
  Inv (cxOf CX P w K mg base N qual scope f cd A outer s H E) [] (start N vs) H s1:=by
 have hpl:ps.length ≤ N.length:=by have:=congrArg List.length S.pre;rw [y0y] at this;omega
 obtain ⟨h1,tk,rfl,hk⟩:=x.done
 have noA:∀ b:Addr,b ∉ (cxOf CX P w K mg base N qual scope f cd A outer s H E).ex:=fun b z=>absurd (show b ∈ ([]:List Addr) from z) (by simp)
 refine ⟨⟨e0.mod,S.kind,rfl,rfl,y05 _,fun y z c h1 h2=>?_,fun y hy=>?_,fun y c _ h=>?_,fun _=>hd,Around.frames_deeper e0.frames,.inr ⟨rfl,rfl⟩,fun b z=>absurd z (noA b),e0.bs,e0.bsz,fun b _ _=>noA b,fun b z=>absurd z (noA b),e0.funs,e0.frf⟩,
  rfl,e0.bare,Un.kept hk,⟨_,x.toInCall.ns,fun i y v h1 h2 h3=>?_⟩,fun y c h=>⟨_,x.cell y c h⟩,e0.hok.fresh (y05 _),fun y c h=>?_,fun p hp=>absurd (show p ∈ ([]:Z2) from hp) (by simp),e0.hok.kept hk,?_⟩
 ·exact name_of_addr x.apart (PySem.mem_of_lookup h1) (PySem.mem_of_lookup h2)
 ·have hy:scope.names.lookup y=some .cell∨scope.names.lookup y=some .free:=hy
  rcases hy with hy | hy
  ·exact zc2 hy
  ·exact absurd rfl (S.nofree _ (PySem.mem_of_lookup hy))
 ·exact y1l (x.above y c (PySem.mem_of_lookup h))
 ·have hi:i < vs.length:=by
   unfold start at h2
   by_cases hi:i < vs.length
   ·exact hi
   ·rw [y0p (by simpa using hi)] at h2
    rw [y2t] at h2
    split at h2 <;> cases h2
  have ha:vs[i]?=some v:=by
   unfold start at h2
   rw [y0o (by simpa using hi),y02] at h2
   cases e:vs[i]? with
   | none=>rw [e] at h2;cases h2
   | some a=>rw [e] at h2;cases h2;rfl
  obtain ⟨u,hu,rv⟩:=r.get ha
  have hp:ps[i]?=some y:=by
   rw [← S.pre,y3c (by omega)];exact h1
  have ndP:ps.Nodup:=by rw [← S.pre];exact S.nd.sublist (List.take_sublist _ _)
  refine ⟨u,rv,?_⟩
  rcases S.par y (y0a hp) with k | k
  ·exact .inl ⟨k,zfi ndP hp hu k⟩
  ·obtain ⟨c,e⟩:=zc2 (n:=s.heap.objs.size + 1) k
   refine .inr ⟨.inl k,c,e,?_⟩
   have q:=x.cell y c e
   rw [zfj ndP hp hu (by show scope.names.lookup y ≠ _;rw [k];decide)] at q
   exact q
 ·exact e0.hok.fresh (y1l (x.above y c (PySem.mem_of_lookup h)))
 ·unfold start
  show _=N.length
  rw [y0c,y00,y23]
  omega
theorem zq5 {CX:CXT} {P:Program} {w:World} {K:Frag} {mg:Z1} {base:Heap} {k:Nat} {f:Addr} {name qual:Str} {params:Arguments} {body:List Stmt} {scope:Scope} {dV kV doc pm cdv ct oc:Value} {an od:Option Addr}
  {osl:Z8} {N ps:List Str} {sp:Sp} (lk:K.lookup f=some ⟨oc,od,.func (PySem.W.fnOf name qual params body scope dV kV doc pm an cdv ct),osl⟩) (hcd:PySem.W.codeIn K cdv qual=true) (S:FnScope N ps scope)
  (len:∀ vs H Q E,sp vs H Q E→vs.length=ps.length)
  (hbody:∀ (A:Around) (outer:List Env) (s:Shared) (H:Hp) (vs:List V) (Q:VK) (E:XK),Room k (A.deeper (envOfC qual scope s.heap.objs.size f cdv))→sp vs H Q E →
   ∃ t,PSs (cxOf CX P w K mg base N qual scope f cdv A outer s H E) body t∧t { nx:=fun _ H'=>Q .non H',rt:=Q } (start N vs) H) :
  FnOk P w K mg base CX (k + 1) f (PySem.W.fnOf name qual params body scope dV kV doc pm an cdv ct) ps sp:=by
 refine ⟨len,fun A outer s H args us vs Q E hr e0 hb r hsp=>?_⟩
 have hl:=len _ _ _ _ hsp
 have KX:K.In s.heap:=e0.mod.kin.keeps fun b o e=>(e0.bs b o e).1
 have lim:s.heap.NoLimit:=e0.mod.nolimit.keeps fun b o e=>(e0.bs b o e).1
 have hkind:∀ y ∈ ps.zip us,scope.names.lookup y.1=some .local∨(scope.names.lookup y.1=some .cell∧((cellsFrom (s.heap.objs.size + 1) scope.names []).lookup y.1).isSome=true):=fun ⟨n,v⟩ hy=>by
  rcases S.par n (y2n hy).1 with q | q
  ·exact .inl q
  ·exact .inr ⟨q,PySem.W.cellsFrom_some _ _ _ (.inl q)⟩
 refine codeAny_call_function hr.depth (KX _ _ lk) rfl S.co S.gen rfl (PySem.W.codeRec_of KX hcd) (hb _ _ _ _ ?_)
 refine wpAny_newFunctionEnv_cells S.kind hkind fun env he s1 x=>?_
 subst he
 refine ⟨lim.keeps x.toInCall.keep,codeAny_func ?_⟩
 obtain ⟨t,ht,hq⟩:=hbody A outer s H vs Q E (hr.deeper _) hsp
 have I:Inv (cxOf CX P w K mg base N qual scope f cdv A outer s H E) [] (start N vs) H s1:=zof S hr.hd e0 hl r x
 refine wpAny_mono (ht [] s1 (start N vs) H _ I hq) (fun fl s' hs=>?_) fun e s' hs=>hs
 have fin:∀ {σ':St} {H':Hp} {v:V} {u:Value},Inv (cxOf CX P w K mg base N qual scope f cdv A outer s H E) [] σ' H' s'→RelV v u→Q v H'→CE outer P w H s Q u s' :=
  fun {σ' H' v u} J rv q=>⟨v,H',J.os,J.bare,J.base,J.hok,rv,q⟩
 cases fl with
 | ret u =>
  obtain ⟨v,σ',H',J,rv,q⟩:=hs
  exact fin J rv q
 | next =>
  obtain ⟨σ',H',J,q⟩:=hs
  exact fin (v:=V.non) (u:=Value.none) J rfl q
 | brk =>
  obtain ⟨_,_,_,q⟩:=hs
  exact False.elim q
 | cont =>
  obtain ⟨_,_,_,q⟩:=hs
  exact False.elim q
section
variable {X:Cx} {x:Str} {p pos:Pos} {e:Expr} {es:List Expr} {t:TA} {id T:String} {r:List V→Hp→VK→Prop}
def tCB (r:List V→Hp→VK→Prop) (t:TA):TE:=fun σ H Q=>t σ H fun vs H1=>r vs H1 Q
theorem zqc (hc:CallR X (.builtin id) r) (hg:Gl X x) (hm:X.mg x=none) (hv:bootBuiltins x=some (.builtin id)) (ha:PA X (e :: es) t) (hn:x ≠ "__name__":=by decide) (hdb:(x == ("__debug__":Str))=false:=by decide)
  (he:starEach (e :: es) X.env=(false,eval e X.env) :: starEach es X.env:=by rfl) (hpl:(backTo pos (starEach es X.env)).any (·.1)=false:=by rfl):PE X (.Call (.Name x p) (e :: es) [] pos) (tCB r t):=by
 intro pins s σ H Q I h
 refine wpAny_Call_Name_kw (zkn I hg hm hv ?_ hn hdb)
 exact PyProof.Rows.callWith_builtin1 (thn (ha pos pins s σ H _ I h) fun us s1 ⟨vs,H1,I1,r1,q1⟩=>hc pins s1 σ H1 vs us Q I1 r1 q1) he hpl
theorem zng (hc:CallR X (.type T) r) (hg:Gl X x) (hm:X.mg x=none) (hv:bootBuiltins x=some (.type T)) (ha:PA X (e :: es) t) (hn:x ≠ "__name__":=by decide) (hdb:(x == ("__debug__":Str))=false:=by decide)
  (he:starEach (e :: es) X.env=(false,eval e X.env) :: starEach es X.env:=by rfl) (hpl:(backTo pos (starEach es X.env)).any (·.1)=false:=by rfl):PE X (.Call (.Name x p) (e :: es) [] pos) (tCB r t):=by
 intro pins s σ H Q I h
 refine wpAny_Call_Name_kw (zkn I hg hm hv ?_ hn hdb)
 exact PyProof.Rows.callWith_type1 (thn (ha pos pins s σ H _ I h) fun us s1 ⟨vs,H1,I1,r1,q1⟩=>hc pins s1 σ H1 vs us Q I1 r1 q1) he hpl
end
end L2
namespace HT
open PySem PyProof.Rows
section
open PySem.SeqAt
open PySem.AutoSeq1 (wpAny_loadPart')
open PySem.MeetsSeq PySem.MeetsSeq2 PySem.MeetsSeq3
end
section
variable {prog:Program} {w:World} {A:Around} {E:Z0} {s:Shared}
theorem cat_tup {t b:Addr} {vs ws:List Value} {Q:Z0} (ht:IsTup s.heap t vs.toArray) (hb:IsTup s.heap b ws.toArray) (hv:vs ≠ [])
  (h1:ws=[]→Q (.ref t) s) (h2:ws ≠ []→Q (.ref s.heap.objs.size) { s with heap:=s.heap.push { cls:=.type "tuple",data:=.seq (vs ++ ws).toArray } })
  (hsz:vs.length + ws.length ≤ sizeLine):wpAny (model prog w) A (binaryOp .Add (.ref t) (.ref b)) Q E s:=by
 obtain ⟨⟨cls,dd,data,sl⟩,ho,hc,n,hd⟩:=id ht
 obtain ⟨⟨cls2,dd2,data2,sl2⟩,ho2,hc2,n2,hd2⟩:=id hb
 simp only at hc hd hc2 hd2
 subst hc hd hc2 hd2
 have e:vs.toArray ++ ws.toArray=(vs ++ ws).toArray:=by simp
 by_cases hw:ws=[]
 ·exact concat_meets ⟨_,ho,rfl⟩ ⟨_,ho2,rfl⟩ noFill_tuple_add seq_tuple_add PySem.F.slot_tuple_add PySem.F.entry_tuple_add (PySem.F.args_tuple_add_2 _ _)
   (tuple_addW1 t b vs.toArray ws.toArray n n2 dd dd2 sl sl2 (by simpa using hv) (by simp [hw])) ⟨ho,ho2,h1 hw⟩
 ·refine concat_meets ⟨_,ho,rfl⟩ ⟨_,ho2,rfl⟩ noFill_tuple_add seq_tuple_add PySem.F.slot_tuple_add PySem.F.entry_tuple_add (PySem.F.args_tuple_add_2 _ _)
   (tuple_addW2 t b vs.toArray ws.toArray n n2 dd dd2 sl sl2 (by simpa using hv) (by simpa using hw) (by rw [y06,y06];exact hsz)) ⟨ho,ho2,?_⟩
  rw [e]
  exact h2 hw
def sIx (n d:Nat):Option Int→Nat
 | none=>d
 | some v=>if v < 0 then (v + (n:Int)).toNat else min v.toNat n
theorem sIx_none (n d:Nat):sIx n d none=d:=rfl
theorem sIx_nat (n d k:Nat):sIx n d (some (k:Int))=min k n:=by
 show (if (k:Int) < 0 then ((k:Int) + (n:Int)).toNat else min (k:Int).toNat n)=min k n
 rw [if_neg (by omega),y1u]
theorem sIx_le (n d:Nat) (hd:d ≤ n) (o:Option Int):sIx n d o ≤ n:=by
 cases o with
 | none=>exact hd
 | some v =>
  show (if v < 0 then (v + (n:Int)).toNat else min v.toNat n) ≤ n
  by_cases hv:v < 0
  ·rw [if_pos hv];omega
  ·rw [if_neg hv];exact Nat.min_le_right _ _
theorem zo6 (v:Int) (n d:Nat):(if v < 0 then max (v + (n:Int)) 0 else min v (n:Int))=((sIx n d (some v):Nat):Int):=by
 show (if v < 0 then max (v + (n:Int)) 0 else min v (n:Int))=(((if v < 0 then (v + (n:Int)).toNat else min v.toNat n):Nat):Int)
 by_cases hv:v < 0
 ·simp only [if_pos hv];omega
 ·simp only [if_neg hv];omega
theorem zl7 (lo hi:Option Int) (n:Nat):Builtin.Slice.sliceAdjust lo hi 1 (n:Int)=(((sIx n 0 lo:Nat):Int),((sIx n n hi:Nat):Int)):=by
 have h1:¬ ((1:Int) < 0):=by omega
 unfold Builtin.Slice.sliceAdjust
 simp only [h1,if_false]
 refine Prod.ext ?_ ?_
 ·cases lo with
  | none=>rfl
  | some v=>exact zo6 v n 0
 ·cases hi with
  | none=>rfl
  | some v=>exact zo6 v n n
theorem zli (i j:Nat):Builtin.Slice.slicePlaces (i:Int) (j:Int) 1=j - i:=by
 unfold Builtin.Slice.slicePlaces
 have h1:(1:Int) > 0:=by omega
 simp only [h1,if_true,Int.ediv_one]
 split <;> omega
theorem zfy {v:Value} {o:Option Int} {Q:Option Int→Shared→Prop} (p:IsPart v o) (h:Q o s):wpAny (model prog w) A (Builtin.Slice.slicePartIndex v) Q E s:=by
 cases p with
 | none=>exact slicePart_none h
 | int i t=>exact slicePart_int h
theorem zd8 {sl:Addr} {vl vu:Value} {lo hi:Option Int} {n:Nat} {Q:Int × Int × Nat→Shared→Prop} (hs:s.heap.IsSliceOf sl vl vu .none) (pl:IsPart vl lo) (pu:IsPart vu hi)
  (h:Q (((sIx n 0 lo:Nat):Int),1,sIx n n hi - sIx n 0 lo) s):wpAny (model prog w) A (Builtin.Slice.sliceApplied (.ref sl) (pure (n:Int))) Q E s:=by
 obtain ⟨os,hos,hcs,hds⟩:=id hs
 unfold Builtin.Slice.sliceApplied Builtin.Slice.sliceFields
 refine wpAny_bind (wpAny_bind (wpAny_field hos hds (x:=vl) rfl (wpAny_bind (wpAny_field hos hds (x:=vu) rfl (wpAny_bind (wpAny_field hos hds (x:=.none) rfl (wpAny_pure ?_)))))))
 refine wpAny_bind (slicePart_none ?_)
 show wpAny _ _ (if ((1:Int) == 0)=true then _ else _) _ _ s
 rw [if_neg (by decide)]
 refine wpAny_bind (zfy pl (wpAny_bind (zfy pu (wpAny_bind (wpAny_pure ?_)))))
 show wpAny _ _ (match Builtin.Slice.sliceAdjust lo hi 1 (n:Int) with | (lo,hi)=>pure (lo,(1:Int),Builtin.Slice.slicePlaces lo hi 1)) _ _ s
 rw [zl7 lo hi n]
 show wpAny _ _ (pure (((sIx n 0 lo:Nat):Int),(1:Int),Builtin.Slice.slicePlaces ((sIx n 0 lo:Nat):Int) ((sIx n n hi:Nat):Int) 1)) _ _ s
 rw [zli]
 exact wpAny_pure h
theorem zp6 (xs:Array Value) (i k:Nat):((List.range k).filterMap fun (m:Nat)=>xs[((i:Int) + (m:Int) * 1).toNat]?).toArray=((xs.toList.drop i).take k).toArray:=by
 have e:(fun (m:Nat)=>xs[((i:Int) + (m:Int) * 1).toNat]?)=fun m=>xs[i + m]?:=by
  funext m
  have:((i:Int) + (m:Int) * 1).toNat=i + m:=by omega
  rw [this]
 rw [e]
 have:=pick_run xs i k
 rw [List.filterMap_map] at this
 have e2:((fun x=>xs[x]?) ∘ fun x=>i + x)=fun m=>xs[i + m]?:=rfl
 rw [e2] at this
 rw [this]
theorem getItem_tuple_cut {t sl:Addr} {items:Array Value} {vl vu:Value} {lo hi:Option Int} {Q:Z0} (ht:IsTup s.heap t items) (hs:s.heap.IsSliceOf sl vl vu .none) (pl:IsPart vl lo) (pu:IsPart vu hi)
  (hw:¬ (sIx items.size 0 lo=0∧sIx items.size items.size hi=items.size))
  (h:Q (.ref s.heap.objs.size) { s with heap:=s.heap.push { cls:=.type "tuple",data:=.seq ((items.toList.drop (sIx items.size 0 lo)).take (sIx items.size items.size hi - sIx items.size 0 lo)).toArray } })
  (hsz:items.size ≤ sizeLine):wpAny (model prog w) A (getItem (.ref t) (.ref sl)) Q E s:=by
 have htake:sizeOk (.seq ((items.toList.drop (sIx items.size 0 lo)).take (sIx items.size items.size hi - sIx items.size 0 lo)).toArray):=by
  show ((items.toList.drop (sIx items.size 0 lo)).take (sIx items.size items.size hi - sIx items.size 0 lo)).toArray.size ≤ sizeLine
  rw [y06,y0y,y2b,y0x]
  omega
 have hj:sIx items.size items.size hi ≤ items.size:=sIx_le _ _ (y05 _) hi
 obtain ⟨os,hos,hcs,hds⟩:=id hs
 have hTs:s.TypeIs (.ref sl) "slice":=⟨os,hos,hcs⟩
 unfold getItem
 try with_reducible refine wpAny_holding ?_
 first | refine wpAny_bind (wpAny_pure ?_) | skip
 refine wpAny_bind (wpAny_sequenceKey ht.typeIs (by decide) ?_)
 refine wpAny_bind (wpAny_callSpecial?_slot (name:=Str.ofString "__getitem__") ht.typeIs PyProof.Rows.slot_tuple_getitem
  (wpAny_call_entry PyProof.Rows.slot_tuple_getitem ht.typeIs entry_tuple_getitem ?_ (args_tuple_getitem _ _)))
 show wpAny _ _ (Builtin.Tuple.tupleItemsOf (.ref t) >>= _) _ _ s
 refine wpAny_bind (tupleItemsOf_ ht ?_)
 refine wpAny_bind (wpAny_typeOf hTs ?_)
 rw [if_pos (by decide)]
 refine wpAny_bind (zd8 hs pl pu ?_)
 have hno:¬ ((((sIx items.size 0 lo:Nat):Int) == 0 && (1:Int) == 1 && (sIx items.size items.size hi - sIx items.size 0 lo) == items.size)=true):=by
  intro q
  rw [y18,y18] at q
  have q1:((sIx items.size 0 lo:Nat):Int)=0:=eq_of_beq q.1.1
  have q2:sIx items.size items.size hi - sIx items.size 0 lo=items.size:=eq_of_beq q.2
  exact hw ⟨by omega,by omega⟩
 show wpAny _ _ (if (((sIx items.size 0 lo:Nat):Int) == 0 && (1:Int) == 1 && (sIx items.size items.size hi - sIx items.size 0 lo) == items.size)=true then _ else _) _ _ s
 rw [if_neg hno,zp6]
 first
  | exact wpAny_bind (m:=Builtin.Tuple.tupleExact _) (wpAny_newObj_type (wpAny_pure ⟨_,rfl,wpAny_pure h⟩) htake)
  | exact wpAny_bind (m:=Builtin.Tuple.tupleExact _) (wpAny_newObj_type (wpAny_bind (wpAny_pure (wpAny_pure ⟨_,rfl,wpAny_pure h⟩))) htake)
  | exact wpAny_bind (wpAny_bind (m:=Builtin.Tuple.tupleExact _) (wpAny_newObj_type (wpAny_pure (wpAny_pure ⟨_,rfl,wpAny_pure h⟩)) htake))
  | exact wpAny_bind (wpAny_bind (m:=Builtin.Tuple.tupleExact _) (wpAny_newObj_type (wpAny_pure ⟨_,rfl,wpAny_pure h⟩) htake))
end
end HT
namespace L2
abbrev TO:=St→Hp→(Option Int→Hp→Prop)→Prop
def PO (X:Cx) (e:Option Expr) (t:TO):Prop :=
 ∀ (pins:Z2) (s:Shared) (σ:St) (H:Hp) (Q:Option Int→Hp→Prop),Inv X pins σ H s→t σ H Q →
  wpAny (model X.prog X.w) X.A (evalPart e X.env) (fun u s'=>∃ o H',Inv X pins σ H' s'∧IsPart u o∧Q o H') X.xe s
def tNoPart:TO:=fun _ H Q=>Q none H
def tPart (t:TE):TO:=fun σ H Q=>t σ H fun x H1=>∃ i,x=.int i∧Q (some i) H1
theorem zd0 {ns:List Int}:∀ {us:List Value},Vals (ns.map V.int) us→IntsAre us ns:=by
 induction ns with
 | nil=>intro us r;rw [y2o] at r;cases r;exact .nil
 | cons n ns ih =>
  intro us r
  rw [y0u] at r
  cases r with
  | cons r1 r2 =>
   obtain ⟨t,e⟩:=r1
   subst e
   exact .cons n t (ih r2)
section
variable {X:Cx} {e:Expr} {te:TE} {lo hi:Option Expr} {tl th:TO} {pos p2:Pos}
theorem zm5:PO X none tNoPart:=by
 intro pins s σ H Q I h
 rw [evalPart_none]
 exact wpAny_pure ⟨none,H,I,.none,h⟩
theorem zm4 (h:PE X e te):PO X (some e) (tPart te):=by
 intro pins s σ H Q I hw
 rw [evalPart_some]
 refine thn (h pins s σ H _ I hw) fun u s1 ⟨x,H1,I1,r1,q1⟩=>?_
 obtain ⟨i,rfl,q⟩:=q1
 obtain ⟨t,rfl⟩:=r1
 exact ⟨some i,H1,I1,.int i t,q⟩
def SlR (X:Cx) (r:V→Option Int→Option Int→Hp→VK→Prop):Prop :=
 ∀ (pins:Z2) (s:Shared) (σ:St) (H:Hp) (x:V) (v vl vu:Value) (lo hi:Option Int) (sl:Addr) (Q:VK),Inv X pins σ H s→RelV x v→s.heap.IsSliceOf sl vl vu .none→IsPart vl lo→IsPart vu hi→r x lo hi H Q →
  ∃ T id,typeLookup (.type T) "__getitem__"=pure (some (.builtin id))∧s.TypeIs v T∧wpAny (model X.prog X.w) X.A (getItem v (.ref sl)) (EP X pins σ Q) X.xe s
def tSl (r:V→Option Int→Option Int→Hp→VK→Prop) (te:TE) (tl th:TO):TE:=fun σ H Q=>te σ H fun x H1=>tl σ H1 fun l H2=>th σ H2 fun u H3=>r x l u H3 Q
theorem zkc {r:V→Option Int→Option Int→Hp→VK→Prop} (hr:SlR X r) (he:PE X e te) (hl:PO X lo tl) (hu:PO X hi th):PE X (.Subscript e (.Slice lo hi none p2) pos) (tSl r te tl th):=by
 intro pins s σ H Q I h
 refine Subscript_ (thn (he pins s σ H _ I h) fun v s1 ⟨x,H1,I1,r1,q1⟩=>?_)
 refine wpAny_Slice (thn (hl pins s1 σ H1 _ I1 q1) fun vl s2 ⟨l,H2,I2,pl,q2⟩=>thn (hu pins s2 σ H2 _ I2 q2) fun vu s3 ⟨u,H3,I3,pu,q3⟩=>?_)
 rw [evalPart_none]
 refine wpAny_pure ?_
 have I4:Inv X pins σ H3 { s3 with heap:=s3.heap.push { cls:=.type "slice",data:=.fields #[vl,vu,.none] } }:=I3.kept (t':=s3.toks) fun b ob q=>y0b _ q
 obtain ⟨T,id,hT,ht,hg⟩:=hr pins { s3 with heap:=s3.heap.push { cls:=.type "slice",data:=.fields #[vl,vu,.none] } } σ H3 x v vl vu l u s3.heap.objs.size Q I4 r1 (Heap.IsSliceOf.new ..) pl pu q3
 show wpAny (model X.prog X.w) X.A (subscriptTail e (.Slice lo hi none p2) v (.ref s3.heap.objs.size)) (EP X pins σ Q) X.xe { s3 with heap:=s3.heap.push { cls:=.type "slice",data:=.fields #[vl,vu,.none] } }
 exact tail_any (ops:=[.ref s3.heap.objs.size,v]) ht hT hg (by with_unfolding_all rfl)
def cutV (xs:List V) (lo hi:Option Int):List V:=(xs.drop (HT.sIx xs.length 0 lo)).take (HT.sIx xs.length xs.length hi - HT.sIx xs.length 0 lo)
theorem zfg (xs:List V) (lo hi:Option Int):(cutV xs lo hi).length ≤ xs.length:=by
 unfold cutV
 rw [y0y,y2b]
 omega
def rSlT (K:Frag):V→Option Int→Option Int→Hp→VK→Prop:=fun x lo hi H Q=>∃ a xs,x=.ref a∧SqT K H a xs ∧
 ¬ (HT.sIx xs.length 0 lo=0∧HT.sIx xs.length xs.length hi=xs.length)∧∀ p,H p=none→Q (.ref p) (upd H p (.tup (cutV xs lo hi)))
theorem sl_tup:SlR X (rSlT X.K):=by
 intro pins s σ H x v vl vu lo hi sl Q I rx hs pl pu h
 obtain ⟨a,xs,rfl,hx,hw,q⟩:=h
 cases rx
 obtain ⟨its,r,ht,hz⟩:=I.tuple hx
 have hlen:its.toArray.size=xs.length:=by rw [y06];exact r.length.symm
 refine ⟨"tuple",_,PyProof.Rows.slot_tuple_getitem.lookup,ht.typeIs,?_⟩
 refine HT.getItem_tuple_cut ht hs pl pu (by rw [hlen];exact hw) ?_ (by rw [hlen];exact hz)
 rw [hlen]
 refine ⟨.ref s.heap.objs.size,_,I.laid (t':=s.toks) (o:=.tup (cutV xs lo hi)) (fun b ob q=>y0b _ q) (y05 _) ?_,rfl,q _ (I.hok.fresh (y05 _))⟩
 exact ⟨y13 (zfg xs lo hi) hz,_,(r.drop (HT.sIx xs.length 0 lo)).take (HT.sIx xs.length xs.length hi - HT.sIx xs.length 0 lo),IsTup.new _ _⟩
def rCatT (K:Frag):R2:=fun x y H Q=>∃ a b xs ys,x=.ref a∧y=.ref b∧SqT K H a xs∧SqT K H b ys∧xs ≠ []∧xs.length + ys.length ≤ sizeLine ∧
 (ys=[]→Q (.ref a) H)∧(ys ≠ []→∀ p,H p=none→Q (.ref p) (upd H p (.tup (xs ++ ys))))
theorem Vals.nil_iff {xs:List V} {us:List Value} (r:Vals xs us):us=[] ↔ xs=[]:=by
 cases r with
 | nil=>simp
 | cons _ _=>simp
theorem znm:OpR X (binaryOp .Add) (rCatT X.K):=by
 intro pins s σ H x y v u Q I rx ry h
 obtain ⟨a,b,xs,ys,rfl,rfl,ha,hb,hx,hz,q1,q2⟩:=h
 cases rx
 cases ry
 obtain ⟨its,r1,p1,_⟩:=I.tuple ha
 obtain ⟨its2,r2,p2,_⟩:=I.tuple hb
 refine HT.cat_tup p1 p2 (fun z=>hx (r1.nil_iff.mp z)) (fun z=>⟨.ref a,H,I,rfl,q1 (r2.nil_iff.mp z)⟩) (fun z=>?_) (by rw [← r1.length,← r2.length];exact hz)
 refine ⟨.ref s.heap.objs.size,_,I.laid (t':=s.toks) (o:=.tup (xs ++ ys)) (fun b ob q=>y0b _ q) (y05 _) ?_,rfl,q2 (fun w=>z (r2.nil_iff.mpr w)) _ (I.hok.fresh (y05 _))⟩
 exact ⟨by rw [y0c];exact hz,_,r1.append r2,IsTup.new _ _⟩
end
def ixN (n:Nat) (i:Int):Option Nat:=if 0 ≤ i then (if i < n then some i.toNat else none) else if -(n:Int) ≤ i then some (i + n).toNat else none
def atI {α:Type} (xs:List α) (i:Int):Option α:=(ixN xs.length i).bind fun j=>xs[j]?
theorem zti {n:Nat} {i:Int} {j:Nat} (h:ixN n i=some j):seqIndex? i n=some j∧j < n∧-(n:Int) ≤ i∧i < n:=by
 unfold ixN at h
 by_cases h0:0 ≤ i
 ·rw [if_pos h0] at h
  by_cases h1:i < n
  ·rw [if_pos h1] at h
   have e:i.toNat=j:=Option.some.inj h
   exact ⟨by rw [seqIndex_of h0 h1,e],by omega,by omega,h1⟩
  ·rw [if_neg h1] at h;cases h
 ·rw [if_neg h0] at h
  by_cases h1:-(n:Int) ≤ i
  ·rw [if_pos h1] at h
   have e:(i + n).toNat=j:=Option.some.inj h
   exact ⟨by rw [seqIndex_neg (by omega) h1,e],by omega,h1,by omega⟩
  ·rw [if_neg h1] at h;cases h
theorem zpc {α:Type} {xs:List α} {i:Int} {v:α} (h:atI xs i=some v):∃ j,seqIndex? i xs.length=some j∧xs[j]?=some v∧j < xs.length∧-(xs.length:Int) ≤ i∧i < xs.length:=by
 unfold atI at h
 cases e:ixN xs.length i with
 | none=>rw [e] at h;cases h
 | some j =>
  rw [e] at h
  obtain ⟨h1,h2,h3,h4⟩:=zti e
  exact ⟨j,h1,h,h2,h3,h4⟩
theorem zai {α:Type} {xs:List α} {j:Nat} {v:α} (h:xs[j]?=some v):atI xs (j:Int)=some v:=by
 have hj:j < xs.length:=(y04.mp h).1
 have e:ixN xs.length (j:Int)=some j:=by
  unfold ixN
  rw [if_pos (by omega),if_pos (by omega)];simp
 unfold atI;rw [e];exact h
def PlainIx (b:Expr):Prop:=∀ o i,subscripted b false o i=operate [o,i] (getItem o i)
def IxR (X:Cx) (r:R2):Prop :=
 ∀ (value slice:Expr) (pins:Z2) (s:Shared) (σ:St) (H:Hp) (x y:V) (v u:Value) (Q:VK),Inv X pins σ H s→RelV x v→RelV y u→r x y H Q →
  subscripted slice false v u=operate [v,u] (getItem v u)→wpAny (model X.prog X.w) X.A (subscriptTail value slice v u) (EP X pins σ Q) X.xe s
def MtR (X:Cx) (id:String) (r:V→List V→Hp→VK→Prop):Prop :=
 ∀ (pins:Z2) (s:Shared) (σ:St) (H:Hp) (x:V) (xs:List V) (v:Value) (us:List Value) (Q:VK),Inv X pins σ H s→RelV x v→Vals xs us→r x xs H Q →
  wpAny (model X.prog X.w) X.A (call (.builtin id) (v :: us)) (EP X pins σ Q) X.xe s
section
variable {X:Cx} {a b:Expr} {ta tb:TE} {pos:Pos}
theorem zaq {r:R2} (hr:IxR X r) (ha:PE X a ta) (hb:PE X b tb) (hs:PlainIx b):PE X (.Subscript a b pos) (tOp r ta tb):=by
 intro pins s σ H Q I h
 exact Subscript_ (binT ha hb I h fun v u s2 x y H2 I2 rx ry q=>hr a b pins s2 σ H2 x y v u Q I2 rx ry q (hs _ _))
def rIxL (K:Frag):R2:=fun x y H Q=>∃ p xs i v,x=.ref p∧y=.int i∧SqL K H p xs∧atI xs i=some v∧Q v H
def rIxT (K:Frag):R2:=fun x y H Q=>∃ p xs i v,x=.ref p∧y=.int i∧SqT K H p xs∧atI xs i=some v∧Q v H
theorem ztg:IxR X (rIxL X.K):=by
 intro value slice pins s σ H x y v u Q I rx ry h hs
 obtain ⟨p,xs,i,z,rfl,rfl,hq,he,q⟩:=h
 cases rx
 obtain ⟨t,rfl⟩:=ry
 obtain ⟨its,r,pl,hz⟩:=I.list hq
 obtain ⟨j,h1,h2,h3,h4,h5⟩:=zpc he
 obtain ⟨w,ew,rw'⟩:=r.get h2
 have hl:=r.length
 have hn:=line63
 have fin:EP X pins σ Q w s:=⟨z,H,I,rw',q⟩
 by_cases h0:0 ≤ i
 ·have hj:i.toNat=j:=by
   rw [seqIndex_of h0 h5] at h1
   exact Option.some.inj h1
  exact item_listR pl.isList h0 (by omega) (by rw [hj];simpa using ew) fin hs
 ·have hj:(i + (its.toArray.size:Int)).toNat=j:=by
   rw [seqIndex_neg (by omega) h4] at h1
   rw [y06,← hl]
   exact Option.some.inj h1
  exact subscriptTail_builtinR (x:=w) pl.isList.typeIs slot_list_getitem.lookup
   (wpAny_getItem_list_neg (Q:=fun r s'=>r=w∧EP X pins σ Q r s') pl.isList (by omega) (by rw [y06] <;> omega) (by omega) (by rw [hj];simpa using ew) ⟨rfl,fin⟩) hs
theorem ix_tup:IxR X (rIxT X.K):=by
 intro value slice pins s σ H x y v u Q I rx ry h hs
 obtain ⟨p,xs,i,z,rfl,rfl,hq,he,q⟩:=h
 cases rx
 obtain ⟨t,rfl⟩:=ry
 obtain ⟨its,r,pl,hz⟩:=I.tuple hq
 obtain ⟨j,h1,h2,h3,h4,h5⟩:=zpc he
 obtain ⟨w,ew,rw'⟩:=r.get h2
 have hl:=r.length
 have hn:=line63
 have fin:EP X pins σ Q w s:=⟨z,H,I,rw',q⟩
 exact subscriptTail_builtinR (x:=w) pl.typeIs slot_tuple_getitem.lookup
  (getItem_tuple (j:=j) (Q:=fun r s'=>r=w∧EP X pins σ Q r s') pl (by omega) (by omega) (by rw [y06,← hl];exact h1) (by simpa using ew) ⟨rfl,fin⟩) hs
theorem zhq (lo hi:Option Int) (n:Nat):(sliceBounds lo hi none n).1=((HT.sIx n 0 lo:Nat):Int)∧(sliceBounds lo hi none n).2.1=((HT.sIx n n hi:Nat):Int)∧(sliceBounds lo hi none n).2.2=1:=by
 refine ⟨?_,?_,rfl⟩
 ·cases lo with
  | none=>simp [sliceBounds,HT.sIx]
  | some i =>
   simp only [sliceBounds,HT.sIx,Option.getD_none,show (1:Int) > 0 by decide,if_true]
   by_cases h:i < 0
   ·simp only [h,if_true] <;> omega
   ·simp only [h,if_false] <;> omega
 ·cases hi with
  | none=>simp [sliceBounds,HT.sIx]
  | some i =>
   simp only [sliceBounds,HT.sIx,Option.getD_none,show (1:Int) > 0 by decide,if_true]
   by_cases h:i < 0
   ·simp only [h,if_true] <;> omega
   ·simp only [h,if_false] <;> omega
theorem zgh (its:List Value) (lo hi:Option Int):slicePick its.toArray lo hi none=((its.drop (HT.sIx its.length 0 lo)).take (HT.sIx its.length its.length hi - HT.sIx its.length 0 lo)).toArray:=by
 obtain ⟨h1,h2,h3⟩:=zhq lo hi its.toArray.size
 unfold slicePick
 rw [h1,h2,h3]
 simp only [sliceRange_one,pick_run,y06] <;> rfl
def rSlL (K:Frag):V→Option Int→Option Int→Hp→VK→Prop:=fun x lo hi H Q=>∃ a xs,x=.ref a∧SqL K H a xs∧∀ p,H p=none→Q (.ref p) (upd H p (.lst (cutV xs lo hi)))
theorem zsl:SlR X (rSlL X.K):=by
 intro pins s σ H x v vl vu lo hi sl Q I rx hs pl pu h
 obtain ⟨a,xs,rfl,hx,q⟩:=h
 cases rx
 obtain ⟨its,r,ht,hz⟩:=I.list hx
 have hlen:=r.length
 refine ⟨"list",_,slot_list_getitem.lookup,ht.isList.typeIs,?_⟩
 refine wpAny_getItem_list_slice ht.isList hs pl pu .none (by simp) ?_ (by rw [y06] <;> omega)
 rw [zgh,← hlen]
 refine ⟨.ref s.heap.objs.size,_,I.laid (t':=s.toks) (o:=.lst (cutV xs lo hi)) (fun b ob q=>y0b _ q) (y05 _) ?_,rfl,q _ (I.hok.fresh (y05 _))⟩
 exact ⟨y13 (zfg xs lo hi) hz,_,0,(r.drop (HT.sIx xs.length 0 lo)).take (HT.sIx xs.length xs.length hi - HT.sIx xs.length 0 lo),y0m _ rfl⟩
def flatV:V→Bool
 | .non=>true
 | .bl _=>true
 | .int _=>true
 | .str _=>true
 | _=>false
def eqV:V→V→Bool
 | .non,.non=>true
 | .bl a,.bl b=>a == b
 | .bl a,.int b=>(if a then 1 else 0) == b
 | .int a,.bl b=>a == (if b then 1 else 0)
 | .int a,.int b=>a == b
 | .str a,.str b=>a == b
 | _,_=>false
theorem zr6 {A:Around} {s:Shared} {y x:V} {u v:Value} (ry:RelV y u) (rx:RelV x v) (fy:flatV y=true) (fx:flatV x=true):SeqAt.EqAt A s u v (eqV y x):=by
 cases y with
 | non =>
  cases ry
  cases x with
  | non=>cases rx;exact SeqAt.EqAt.same _
  | bl b=>cases rx;exact SeqAt.EqAt.none_bool b
  | int b=>obtain ⟨t,rfl⟩:=rx;exact SeqAt.EqAt.none_int b t
  | str b=>obtain ⟨t,rfl⟩:=rx;exact SeqAt.EqAt.none_str b t
  | _=>exact absurd (show false=true from fx) y0l
 | bl a =>
  cases ry
  cases x with
  | non=>cases rx;exact SeqAt.EqAt.bool_none a
  | bl b=>cases rx;exact SeqAt.EqAt.bool_bool a b
  | int b=>obtain ⟨t,rfl⟩:=rx;exact SeqAt.EqAt.bool_int a b t
  | str b=>obtain ⟨t,rfl⟩:=rx;exact SeqAt.EqAt.bool_str a b t
  | _=>exact absurd (show false=true from fx) y0l
 | int a =>
  obtain ⟨t',rfl⟩:=ry
  cases x with
  | non=>cases rx;exact SeqAt.EqAt.int_none a t'
  | bl b=>cases rx;exact SeqAt.EqAt.int_bool a t' b
  | int b=>obtain ⟨t,rfl⟩:=rx;exact SeqAt.EqAt.int_int a t' b t
  | str b=>obtain ⟨t,rfl⟩:=rx;exact SeqAt.EqAt.int_str a t' b t
  | _=>exact absurd (show false=true from fx) y0l
 | str a =>
  obtain ⟨t',rfl⟩:=ry
  cases x with
  | non=>cases rx;exact SeqAt.EqAt.str_none a t'
  | bl b=>cases rx;exact SeqAt.EqAt.str_bool a t' b
  | int b=>obtain ⟨t,rfl⟩:=rx;exact SeqAt.EqAt.str_int a t' b t
  | str b=>obtain ⟨t,rfl⟩:=rx;exact SeqAt.EqAt.str_str a t' b t
  | _=>exact absurd (show false=true from fx) y0l
 | _=>exact absurd (show false=true from fy) y0l
theorem zii:CallR X (.builtin "len") (fun xs H Q=>∃ p ys,xs=[.ref p]∧(SqL X.K H p ys∨SqT X.K H p ys)∧Q (.int ys.length) H):=by
 infer_instance
 obtain ⟨p,ys,rfl,hq,q⟩:=h
 obtain ⟨u,rfl,rx⟩:=vals1 r
 cases rx
 have hn:=line63
 rcases hq with hq | hq
 ·obtain ⟨its,r',pl,hz⟩:=I.list hq
  have hlen:=r'.length
  exact Calls.call_len_list pl.isList (by simp only [y06] <;> omega) ⟨.int ys.length,H,I.tok _,⟨s.toks + 1,by rw [y06,hlen]⟩,q⟩
 ·obtain ⟨its,r',pl,hz⟩:=I.tuple hq
  have hlen:=r'.length
  exact len_tuple pl (by simp only [y06] <;> omega) ⟨.int ys.length,H,I.tok _,⟨s.toks + 1,by rw [y06,hlen]⟩,q⟩
theorem zgz:CallR X (.type "tuple") (fun xs H Q=>∃ p ys,xs=[.ref p]∧((SqL X.K H p ys∧∀ l,H l=none→Q (.ref l) (upd H l (.tup ys)))∨(SqT X.K H p ys∧Q (.ref p) H))):=by
 infer_instance
 obtain ⟨p,ys,rfl,h⟩:=h
 obtain ⟨u,rfl,rx⟩:=vals1 r
 cases rx
 rcases h with ⟨hq,q⟩ | ⟨hq,q⟩
 ·obtain ⟨its,r',pl,hz⟩:=I.list hq
  have hlen:=r'.length
  refine call_tuple_list pl.isList (fun h' kp=>?_) (by simp only [y06] <;> omega)
  have I1:Inv X pins σ H { s with heap:=h' }:=I.kept (t':=s.toks) kp
  have I2:Inv X pins σ (upd H h'.objs.size (.tup ys)) { s with heap:=h'.push { cls:=.type "tuple",data:=.seq its.toArray } } :=
   I1.laid (t':=s.toks) (fun b o e=>y0b _ e) (y05 _) (show ObjOk X.prog X.w _ _ _ (.tup ys) from ⟨hz,its,r',IsTup.new _ _⟩)
  exact ⟨.ref h'.objs.size,_,I2,rfl,q _ (I1.hok.fresh (y05 _))⟩
 ·obtain ⟨its,r',pl,hz⟩:=I.tuple hq
  exact call_tuple_same pl ⟨.ref p,H,I,rfl,q⟩
def tyV (K:Frag) (T:String) (x:V) (H:Hp):Prop:=match x with
 | .str _=>T="str"
 | .int _=>T="int"
 | .ref p=>(T="list"∧∃ xs,SqL K H p xs)∨(T="tuple"∧∃ o,K.lookup p=some o∧o.cls=.type "tuple"∧o.dict=none) ∨
   (T="dict"∧((∃ kvs,H p=some (.dK kvs))∨∃ kvs,H p=some (.dT kvs)))∨(T="set"∧∃ S n,H p=some (.set S n))
 | _=>False
theorem tyV_is {pins:Z2} {σ:St} {H:Hp} {s:Shared} {T:String} {x:V} {v:Value} (I:Inv X pins σ H s) (r:RelV x v) (ty:tyV X.K T x H) :
  s.TypeIs v T∧∀ a,v=.ref a→∃ ob,s.heap.get? a=some ob∧ob.dict=none:=by
 cases x with
 | str z =>
  obtain ⟨t,rfl⟩:=r
  cases (show T="str" from ty)
  exact ⟨typeIs_str s z t,fun _ e=>nomatch e⟩
 | int i =>
  obtain ⟨t,rfl⟩:=r
  cases (show T="int" from ty)
  exact ⟨typeIs_int s i t,fun _ e=>nomatch e⟩
 | ref p =>
  cases r
  rcases ty with ⟨rfl,xs,hq⟩ | ⟨rfl,o,hk,hc,hd⟩ | ⟨rfl,hk⟩ | ⟨rfl,S,n,hk⟩
  ·obtain ⟨its,_,pl,_⟩:=I.list hq
   refine ⟨pl.isList.typeIs,fun a e=>?_⟩
   cases e
   obtain ⟨o,n,e,c,hd,_⟩:=pl
   exact ⟨o,e,hd⟩
  ·refine ⟨⟨o,I.kIn p o hk,hc⟩,fun a e=>?_⟩
   cases e
   exact ⟨o,I.kIn _ o hk,hd⟩
  ·have z:∃ o,s.heap.get? p=some o∧o.ExactDict:=by
    rcases hk with ⟨kvs,hk⟩ | ⟨kvs,hk⟩
    ·obtain ⟨_,_,_,_,o,_,_,e,ex,_⟩:=I.hok p _ hk
     exact ⟨o,e,ex⟩
    ·obtain ⟨_,_,_,_,o,_,_,e,ex,_⟩:=I.hok p _ hk
     exact ⟨o,e,ex⟩
   obtain ⟨o,e,ex⟩:=z
   refine ⟨⟨o,e,ex.1⟩,fun a e2=>?_⟩
   cases e2
   exact ⟨o,e,ex.2.1⟩
  ·obtain ⟨o,_,_,_,e,ex,_⟩:=I.hok p _ hk
   refine ⟨⟨o,e,ex.1⟩,fun a e2=>?_⟩
   cases e2
   exact ⟨o,e,ex.2.1⟩
 | _=>exact False.elim ty
def tBM (K:Frag) (T:String) (r:V→List V→Hp→VK→Prop) (to:TE) (t:TA):TE:=fun σ H Q=>to σ H fun x H1=>tyV K T x H1∧t σ H1 fun xs H2=>r x xs H2 Q
variable {o e:Expr} {es:List Expr} {to:TE} {t:TA} {name:Str} {apos cpos:Pos} {T id:String} {r:V→List V→Hp→VK→Prop}
theorem pe_bm (pa:PlainAttrs T) (slot:Slot T name id) (hty:typeOf (.builtin id)=pure (.type "method_descriptor")) (hm:MtR X id r) (ho:PE X o to) (ha:PA X (e :: es) t)
  (hbase:attributeBase o name X.env (eval o X.env)=eval o X.env:=by rfl)
  (hfew:((backTo cpos (starEach (e :: es) X.env)).all (fun x=>!x.1) && (backToKw cpos (keywordEach [] X.env)).all (fun x=>x.1.isSome)
   && decide ((e :: es).length + ([]:List Keyword).length + (if ([]:List Keyword).isEmpty then 0 else 1) < 30))=true:=by rfl)
  (hline:(apos.endLine == cpos.line)=true:=by rfl) (hs:starEach (e :: es) X.env=(false,eval e X.env) :: starEach es X.env:=by rfl) (hplain:(backTo cpos (starEach es X.env)).any (·.1)=false:=by rfl) :
  PE X (.Call (.Attribute o name apos) (e :: es) [] cpos) (tBM X.K T r to t):=by
 intro pins s σ H Q I h
 refine wpAny_Call_method_late hbase hfew hline rfl (thn (ho pins s σ H _ I h) fun v s1 ⟨x,H1,I1,r1,ty,q1⟩=>?_)
 obtain ⟨h1,h2⟩:=tyV_is I1 r1 ty
 refine ⟨T,id,pa,slot,hty,h1,h2,?_⟩
 have hA:=ha cpos pins s1 σ H1 _ I1 q1
 rw [hs] at hA ⊢
 refine Calls.callWith_builtin (by show (false || (backTo cpos (starEach es X.env)).any (·.1))=false;rw [hplain] <;> rfl) (Calls.evalArgs_plain ?_)
 exact thn hA fun us s2 ⟨vs,H2,I2,r2,q2⟩=>hm pins s2 σ H2 x vs v us Q I2 r1 r2 q2
end
def MtM (X:Cx) (id:String) (r:V→List V→Hp→VK→Prop):Prop :=
 ∀ (pins:Z2) (s:Shared) (σ:St) (H:Hp) (x:V) (xs:List V) (v:Value) (us:List Value) (Q:VK),Inv X pins σ H s→RelV x v→Vals xs us→r x xs H Q →
  wpAny (model X.prog X.w) X.A (call (.builtin id) (v :: us)) (EP X pins σ Q) X.xe s
theorem Vals.one:∀ {x:V} {us:List Value},Vals [x] us→∃ u,us=[u]∧RelV x u
 | _,_,.cons r .nil=>⟨_,rfl,r⟩
theorem Vals.rep {xs:List V} {us:List Value} (h:Vals xs us):∀ k:Nat,Vals (List.replicate k xs).flatten (List.replicate k us).flatten
 | 0=>.nil
 | k + 1=>by
  rw [y26,y26,y3d,y3d]
  exact Vals.append h (Vals.rep h k)
theorem zh5 (its:List Value):∀ (k:Nat) (acc:List Value),
  List.foldl (fun x1 x2=>x1 ++ x2) acc.toArray (List.replicate k its.toArray)=(acc ++ (List.replicate k its).flatten).toArray
 | 0,acc=>by simp
 | k + 1,acc=>by
  have e:acc.toArray ++ its.toArray=(acc ++ its).toArray:=by simp
  have e2:(acc ++ its) ++ (List.replicate k its).flatten=acc ++ (List.replicate (k + 1) its).flatten:=by
   rw [y26,y3d,y12]
  rw [← e2,← zh5 its k (acc ++ its),← e,y26,List.foldl_cons]
section
variable {X:Cx} {pins:Z2} {σ:St} {H:Hp} {s:Shared} {l b:Addr} {xs ys zs:List V}
theorem Inv.lset {its its':List Value} {n:Nat} {f:Array Value→Array Value} {t':Nat} (I:Inv X pins σ H s) (hH:H l=some (.lst xs))
  (e:s.heap.get? l=some { cls:=.type "list",data:=.seq its.toArray n }) (hf:f its.toArray=its'.toArray) (hv:Vals ys its') (hz:ys.length ≤ sizeLine) :
  Inv X pins σ (upd H l (.lst ys)) { s with heap:=s.heap.update l (Obj.mapSeq f),toks:=t' }:=by
 have q:=PySem.IsL.update e f
 rw [hf] at q
 refine I.write (x:=l) (e:=l) (by rw [hH];exact trivial) (.inl rfl) (fun b' u hb hu=>(y29 s.heap (Obj.mapSeq f) (Ne.symm hb)).trans hu) ⟨_,q⟩ ?_
 exact ⟨hz,its',_,hv,q⟩
theorem Inv.lnew {its:List Value} {t':Nat} (I:Inv X pins σ H s) (hv:Vals ys its) (hz:ys.length ≤ sizeLine) :
  Inv X pins σ (upd H s.heap.objs.size (.lst ys)) { s with heap:=s.heap.push { cls:=.type "list",data:=.seq its.toArray },toks:=t' } :=
 I.laid (fun _ _ q=>y0b _ q) (y05 _) ⟨hz,its,0,hv,y0m _ rfl⟩
theorem Inv.fresh (I:Inv X pins σ H s):H s.heap.objs.size=none:=I.hok.fresh (y05 _)
theorem Inv.lstM (I:Inv X pins σ H s) (hH:H l=some (.lst xs)):xs.length ≤ sizeLine∧∃ (its:List Value) (n:Nat),Vals xs its∧xs.length=its.length∧s.heap.get? l=some { cls:=.type "list",data:=.seq its.toArray n }:=by
 obtain ⟨z,its,n,r,e⟩:=I.hok l _ hH
 exact ⟨z,its,n,r,r.length,e⟩
theorem notLongL {n:Nat} (h:n ≤ sizeLine):Builtin.List.listTooLong n=false:=by
 unfold Builtin.List.listTooLong
 exact decide_eq_false (by omega)
end
section
variable {X:Cx}
def rAppend:V→List V→Hp→VK→Prop:=fun x vs H Q=>∃ l xs y,x=.ref l∧vs=[y]∧H l=some (.lst xs)∧xs.length < sizeLine∧Q .non (upd H l (.lst (xs ++ [y])))
theorem za9:MtM X "list.append" rAppend:=by
 intro pins s σ H x vs v us Q I rx rv h
 obtain ⟨l,xs,y,rfl,rfl,hH,hz,q⟩:=h
 cases rx
 obtain ⟨u,rfl,ru⟩:=rv.one
 obtain ⟨z,its,n,r,hl,e⟩:=I.lstM hH
 refine call_meets F.slot_list_append ⟨_,e,rfl⟩ F.entry_list_append (F.args_list_append_2 _ _) (PySem.list_append l its.toArray n u (by rw [y06];omega)) ⟨e,?_⟩
 refine ⟨.non,_,I.lset (its':=its ++ [u]) hH e (by simp) (r.append (.cons ru .nil)) ?_,rfl,q⟩
 rw [y0c,y17]
 omega
def rCat:R2:=fun x y H Q=>∃ l b xs zs,x=.ref l∧y=.ref b∧H l=some (.lst xs)∧H b=some (.lst zs)∧xs.length + zs.length ≤ sizeLine∧∀ p,H p=none→Q (.ref p) (upd H p (.lst (xs ++ zs)))
theorem op_cat:OpR X (binaryOp .Add) rCat:=by
 intro pins s σ H x y v u Q I rx ry h
 obtain ⟨l,b,xs,zs,rfl,rfl,hH,hB,hz,q⟩:=h
 cases rx
 cases ry
 obtain ⟨z,its,n,r,hl,e⟩:=I.lstM hH
 obtain ⟨z2,its2,n2,r2,hl2,e2⟩:=I.lstM hB
 refine PySem.P.add_list e e2 ?_ (by rw [y06,y06];omega)
 have ea:its.toArray ++ its2.toArray=(its ++ its2).toArray:=by simp
 rw [ea]
 exact ⟨.ref _,_,I.lnew (t':=s.toks) (r.append r2) (by rw [y0c];omega),rfl,q _ I.fresh⟩
def rRep:R2:=fun x y H Q=>∃ l k xs,x=.ref l∧y=.int k∧H l=some (.lst xs)∧-(2 ^ 63) ≤ k∧k < 2 ^ 63∧xs.length * k.toNat ≤ sizeLine ∧
 ∀ p,H p=none→Q (.ref p) (upd H p (.lst (List.replicate k.toNat xs).flatten))
theorem ztd {α:Type} (xs:List α) (k:Nat):(List.replicate k xs).flatten.length=k * xs.length:=by
 induction k with
 | zero=>simp
 | succ k ih=>rw [y26,y3d,y0c,ih,y4f,Nat.add_comm]
theorem op_rep:OpR X (binaryOp .Mult) rRep:=by
 intro pins s σ H x y v u Q I rx ry h
 obtain ⟨l,k,xs,rfl,rfl,hH,h1,h2,hz,q⟩:=h
 cases rx
 obtain ⟨t,rfl⟩:=ry
 obtain ⟨z,its,n,r,hl,e⟩:=I.lstM hH
 have hlen:its.toArray.size * k.toNat ≤ sizeLine:=by rw [y06,← hl];exact hz
 have hcap:¬ its.toArray.size * k.toNat > (2 ^ 63 - 1) / 8:=by
  have:(sizeLine:Nat) ≤ (2 ^ 63 - 1) / 8:=by decide
  omega
 have hfit:¬ (!Builtin.List.listFitsIndex k)=true:=by
  rw [fitsIndex_both h1 h2]
  exact y0l
 have hlong:¬ Builtin.List.listTooLong (its.toArray.size * k.toNat)=true:=by
  rw [notLongL hlen]
  exact y0l
 have hnew:List.foldl (fun x1 x2=>x1 ++ x2) #[] (List.replicate (if its.toArray.isEmpty=true then 0 else k.toNat) its.toArray)=(List.replicate k.toNat its).flatten.toArray:=by
  have f0:∀ m:Nat,List.foldl (fun x1 x2=>x1 ++ x2) #[] (List.replicate m its.toArray)=(List.replicate m its).flatten.toArray:=fun m=>by
   have:=zh5 its m []
   rw [List.nil_append] at this
   exact this
  rw [f0]
  cases its with
  | nil=>simp
  | cons a r'=>rw [if_neg (by simp)]
 refine wpAny_binaryOp_repeat_ref (T:="list") (U:="int") (by decide) ⟨_,e,rfl⟩ (fun s'=>typeIs_int s' k t) noFill_list_mul F.fills_int_mul F.slot_int_rmul repeat_list F.slot_int_index.lookup
  (call_meets F.slot_int_rmul (typeIs_int s k t) F.entry_int_rmul (F.args_int_rmul_2 _ _) (int___rmul___int_list k t l its.toArray n)
   ⟨e,rfl,⟨_,e,rfl⟩,call_meets F.slot_list_mul ⟨_,e,rfl⟩ F.entry_list_mul (F.args_list_mul_2 _ _) (AutoListH.list___mul___list_int_3 l its.toArray n k t hfit hcap hlong) ⟨e,?_⟩⟩)
 rw [hnew]
 exact ⟨.ref _,_,I.lnew (t':=s.toks) (r.rep k.toNat) (by rw [ztd,Nat.mul_comm];exact hz),rfl,q _ I.fresh⟩
end
end L2
namespace Att
open PySem PySem.W PySem.Calls PyProof.Rows
theorem zfa {P:Params} {h:Heap}:∀ (ns:List Int) (vs:List Value),WellAll P h vs (ns.map WData.int)→IntsAre vs ns:=by
 intro ns
 induction ns with
 | nil =>
  intro vs w
  rw [y2o] at w
  cases w
  exact .nil
 | cons n ns ih =>
  intro vs w
  rw [y0u] at w
  cases w with
  | cons a b =>
   cases a
   exact .cons _ _ (ih _ b)
theorem zmq {l:OpenLaw} {n:Nat} (hn:l.most=some n) {P:Params} {h:Heap} {args:List WData} {vals:List Value}
  (hpre:l.row.toRowW.claim.pre args=true) (hwl:WellAll P h vals args) :
  ∃ a vs ns,vals=[Value.ref a]∧args=[WData.list (ns.map WData.int)]∧h.get? a=some { cls:=.type "list",data:=.seq vs.toArray }∧IntsAre vs ns∧ns.length ≤ n:=by
 have hsh:WShape.hasAll [] args [.list .int]=true:=(pre_splitW hpre).1
 have hc:l.pre.holds [] { args:=args }=true:=(pre_splitW hpre).2
 obtain ⟨d,r,rfl,h1,h2⟩:=hasAllW_cons hsh
 obtain rfl:=hasAllW_nil h2
 obtain ⟨xs,rfl,h3⟩:=hasW_list h1
 obtain ⟨ns,rfl⟩:=items_int h3
 have hlen:ns.length ≤ n:=by
  unfold OpenLaw.pre at hc
  have h4:(WTm.not (.lt (.lit (.int (n:Int))) (.len (.arg 0)))).holds [] { args:=[.list (ns.map .int)] }=true:=by
   have h4:=(holds_andW hc).1
   rw [hn] at h4
   exact h4
  have h5:=condW_of h4 (w_not (w_lt w_lit (w_len_list (w_arg rfl))))
  rw [y00] at h5
  refine y1c fun q=>?_
  have q':(n:Int) < ((ns.length:Nat):Int):=by omega
  first
   | (rw [decide_eq_true q'] at h5;exact absurd h5 (by decide))
   | (simp at h5;omega)
 cases hwl with
 | cons w1 w2 =>
  cases w2
  cases w1 with
  | list ho hall=>exact ⟨_,_,ns,rfl,rfl,ho,zfa ns _ hall,hlen⟩
theorem zm3 (l:OpenLaw) (args:List WData):l.row.toRowW.claim.post args (.bool true) args=true :=
 postW_of (r:=l.row.toRowW) (X:=(true == true))
  (show WShape.has [] (.bool true) .bool=true by first | rfl | decide | simp [WShape.has,WShape.arms,WShape.armsAll])
  (show (WTm.eq .res (.lit (.bool true))).value [] { args:=args,res:=some (.bool true),after:=args }=some (.bool (true == true)) from w_eq_bool (w_res rfl) w_lit) rfl
theorem attach_call {l:OpenLaw} {n:Nat} {q:Program} {loose:List Str} {XP:(Str→Option Value)→Heap→Prop} {YP:World→Heap→Prop} {d:DefRec}
  (hn:l.most=some n) (hdf:d.params.defaults=[])
  (call:∀ (w:World) (s₀ s₁:Shared) (mg mb:Z1) (fa:Addr) (o:Obj) (pm cd doc:Value) (a:Addr) (vs:List Value) (ns:List Int),
   Ground q loose [] XP w s₀ mg mb s₁.heap→YP w s₁.heap →
   s₁.heap.get? fa=some o→o.data=.func (docDef d.name d.params d.body d.scope pm cd doc)→s₁.heap.CodeRec cd d.name→mg d.name=some (.ref fa) →
   s₁.heap.get? a=some { cls:=.type "list",data:=.seq vs.toArray }→IntsAre vs ns→ns.length ≤ n→s₁.gens=#[] →
   codeAny (model l.prog w) callerA (.call (.ref fa) ⟨[.ref a],[]⟩) (fun r s'=>r=.ok (.ret (.bool true))∧OldK s₁.heap s'.heap∧s'.os=s₁.os∧AllBare s'.gens) s₁) :
  WalkO q loose XP YP l.row.toRowW d [] (fun f vs=>PySem.call f vs):=by
 intro w s₀ s₁ mg mb G Y fa o pm cd doc dV kV ho hd hcd hD hmg hg args vals as hpre hlay hrd hwl hlo
 obtain rfl:dV=.none:=Dflts.none hD hdf
 obtain rfl:kV=.none:=Dflts.noKw hD
 obtain ⟨a,vs,ns,rfl,rfl,hobj,hints,hlen⟩:=zmq hn hpre hwl
 refine enter_call (codeAny_mono (call w s₀ s₁ mg mb fa o pm cd doc a vs ns G Y ho (fd_plain hd) hcd hmg hobj hints hlen hg) fun r s' hq=>?_)
 obtain ⟨rfl,h2,h3,h4⟩:=hq
 exact ⟨.inl ⟨.bool true,.bool true,[],rfl,fun _=>rfl,.bool true,zm3 l _,fun _=>⟨List.Pairwise.nil,fun _ hm=>(nomatch hm)⟩⟩,h2,h3,h4⟩
end Att
namespace L2
theorem zha:∀ {vs:List Value} {ns:List Int},IntsAre vs ns→Vals (ns.map V.int) vs
 | _,_,.nil=>.nil
 | _,_,.cons n t h=>.cons ⟨t,rfl⟩ (zha h)
abbrev KOf {K:Frag} {h:Heap} (_:K.In h):Frag:=K
def defArgs (s:Stmt):Arguments:=match s with
 | .FunctionDef _ a _ _ _ _ _ _ _ _=>a
 | _=>{ posonlyargs:=[],args:=[],vararg:=none,kwonlyargs:=[],kw_defaults:=[],kwarg:=none,defaults:=[] }
def defBody (s:Stmt):List Stmt:=match s with
 | .FunctionDef _ _ b _ _ _ _ _ _ _=>b
 | _=>[]
def defScope (s:Stmt):Scope:=match s with
 | .FunctionDef _ _ _ _ _ _ sc _ _ _=>sc
 | _=>{ kind:=.function,names:=[],isGenerator:=false,isCoroutine:=false }
abbrev CX0:CXT:=fun _ _ _ _ _ _=>False
abbrev E0:XK:=fun _ _ _=>False
theorem pass0 {X:Cx}:Passes CX0 X E0:=fun _ _ _ _ _ _ _ h=>h.elim
structure Fun (K:Frag) (x qual:Str) (st:Stmt) (f:Addr) (fd:FuncData):Prop where
 ex:∃ (oc:Value) (od:Option Addr) (kV doc pm:Value) (an:Option Addr) (cdv ct:Value) (osl:Z8),
  fd=PySem.W.fnOf x qual (defArgs st) (defBody st) (defScope st) .none kV doc pm an cdv ct∧K.lookup f=some ⟨oc,od,.func fd,osl⟩∧PySem.W.codeIn K cdv qual=true
 kp:PySem.W.keepIn K (.ref f)=true
section
variable {P:Program} {w:World} {K:Frag} {mg:Z1} {base:Heap}
theorem Fun.ok {x qual:Str} {st:Stmt} {f:Addr} {fd:FuncData} {N ps:List Str} {k:Nat} {sp:Sp} (F:Fun K x qual st f fd) (S:FnScope N ps (defScope st)) (len:∀ vs H Q E,sp vs H Q E→vs.length=ps.length)
  (hbody:∀ (cdv:Value) (A:Around) (outer:List Env) (s:Shared) (H:Hp) (vs:List V) (Q:VK) (E:XK),Room k (A.deeper (envOfC qual (defScope st) s.heap.objs.size f cdv))→sp vs H Q E →
   ∃ t,PSs (cxOf CX0 P w K mg base N qual (defScope st) f cdv A outer s H E).nox (defBody st) t∧t { nx:=fun _ H'=>Q .non H',rt:=Q } (start N vs) H):FnOk P w K mg base CX0 (k + 1) f fd ps sp:=by
 obtain ⟨oc,od,kV,doc,pm,an,cdv,ct,osl,rfl,lk,hcd⟩:=F.ex
 refine zq5 lk hcd S len fun A outer s H vs Q E hr hsp=>?_
 obtain ⟨t,h,q⟩:=hbody cdv A outer s H vs Q E hr hsp
 exact ⟨t,h.nox,q⟩
theorem Fun.binds {x qual:Str} {st:Stmt} {f:Addr} {fd:FuncData} {ps:List Str} (F:Fun K x qual st f fd)
  (h:∀ (kV doc pm:Value) (an:Option Addr) (cdv ct:Value) (us:List Value),us.length=ps.length→bindArgs (PySem.W.fnOf x qual (defArgs st) (defBody st) (defScope st) .none kV doc pm an cdv ct) ⟨us,[]⟩=pure (ps.zip us)):Binds K fd ps []:=by
 obtain ⟨oc,od,kV,doc,pm,an,cdv,ct,osl,rfl,lk,hcd⟩:=F.ex
 exact .all (h kV doc pm an cdv ct)
theorem zkw {x qual:Str} {st:Stmt} {f:Addr} {oc:Value} {od an:Option Addr} {osl:Z8} {kV doc pm cdv ct:Value} (l:K.lookup f=some ⟨oc,od,.func (PySem.W.fnOf x qual (defArgs st) (defBody st) (defScope st) .none kV doc pm an cdv ct),osl⟩)
  (c:PySem.W.codeIn K cdv qual=true) (k:PySem.W.keepIn K (.ref f)=true):Fun K x qual st f (PySem.W.fnOf x qual (defArgs st) (defBody st) (defScope st) .none kV doc pm an cdv ct):=⟨⟨oc,od,kV,doc,pm,an,cdv,ct,osl,rfl,l,c⟩,k⟩
end
theorem small1000 {n:Nat} (h:n ≤ 1000):n < sizeLine:=y3r h (by decide)
section
variable {X:Cx}
theorem pv (i:Nat) {x:Str} {pos:Pos} (hN:X.N[i]?=some x:=by rfl) (hv:Vis X.env.scope x:=by first | exact Or.inl rfl | exact Or.inr (Or.inl rfl) | exact Or.inr (Or.inr rfl)) (hd:(x == ("__debug__":Str))=false:=by decide)
  (hcd:(x == ("__classdict__":Str))=false:=by decide):PE X (.Name x pos) (tVar i):=zro hN hv hd hcd
end
theorem iteF {A B:Prop} (h:B):if false=true then A else B:=by
 rw [if_neg y0l]
 exact h
theorem iteT {A B:Prop} (h:A):if true=true then A else B:=by
 rw [if_pos rfl]
 exact h
theorem ite2 {c A B:Prop} [Decidable c] (h1:c→A) (h2:¬ c→B):if c then A else B:=by
 by_cases h:c
 ·rw [if_pos h]
  exact h1 h
 ·rw [if_neg h]
  exact h2 h
def Same (H H':Hp):Prop:=∀ b o,H b=some o→H' b=some o
theorem Same.refl (H:Hp):Same H H:=fun _ _ h=>h
theorem Same.trans {H H1 H2:Hp} (a:Same H H1) (b:Same H1 H2):Same H H2:=fun c o h=>b c o (a c o h)
theorem Same.free {H H':Hp} (e:Same H H') {l:Addr} (h:H' l=Option.none):H l=Option.none:=by
 cases q:H l with
 | none=>rfl
 | some o =>
  rw [e l o q] at h
  cases h
theorem Same.seq {K:Frag} {H H':Hp} {a:Addr} {xs:List V} (e:Same H H') (h:SqL K H a xs):SqL K H' a xs:=by
 rcases h with (h | ⟨o,h⟩) | h
 ·exact .inl (.inl (e _ _ h))
 ·exact .inl (.inr ⟨o,e _ _ h⟩)
 ·exact .inr h
theorem zd1 (env:Env):∀ (names:List (Str × NameKind)) (cs:Z4),
  (∀ p ∈ names,p.2=.free→∃ c,env.cells.lookup p.1=some c)→(∀ x c,cs.lookup x=some c→env.cells.lookup x=some c) →
  ∃ cl:List (Str × Addr),(forIn names cs fun (p:Str × NameKind) (r:Z4)=>(if (p.2 == NameKind.free)=true then (do let c ← cellOf env p.1;pure (ForInStep.yield ((p.1,c) :: r))) else pure (ForInStep.yield r):Sem (ForInStep (List (Str × Addr)))))=(pure cl:Sem (List (Str × Addr))) ∧
   (∀ x c,cl.lookup x=some c→env.cells.lookup x=some c)∧(∀ x,(cs.lookup x).isSome=true→(cl.lookup x).isSome=true)∧(∀ p ∈ names,p.2=.free→(cl.lookup p.1).isSome=true)
 | [],cs,_,h2=>⟨cs,rfl,h2,fun _ h=>h,fun _ h=>nomatch h⟩
 | (n,k) :: r,cs,h1,h2=>by
  have h1':∀ p ∈ r,p.2=.free→∃ c,env.cells.lookup p.1=some c:=fun p hp=>h1 p (y08 _ hp)
  by_cases hk:(k == NameKind.free)=true
  ·have hk':k=.free:=by simpa using hk
   obtain ⟨c,hc⟩:=h1 (n,k) y0d hk'
   have h2':∀ x c',((n,c) :: cs).lookup x=some c'→env.cells.lookup x=some c':=fun x c' e=>by
    rw [y19] at e
    cases hx:x == n with
    | true =>
     rw [hx] at e
     have e1:x=n:=by simpa using hx
     rw [e1,hc];exact e
    | false=>rw [hx] at e;exact h2 x c' e
   obtain ⟨cl,e1,e2,e3,e4⟩:=zd1 env r ((n,c) :: cs) h1' h2'
   have hn:(((n,c) :: cs).lookup n).isSome=true:=by rw [y19,beq_self_eq_true];rfl
   refine ⟨cl,?_,e2,fun x hx=>e3 x ?_,fun p hp hf=>?_⟩
   ·rw [y34]
    have q:cellOf env n=pure c:=by unfold cellOf;rw [hc]
    simp only [hk,if_true,q]
    exact e1
   ·rw [y19]
    cases x == n with
    | true=>rfl
    | false=>exact hx
   ·rcases y0f.mp hp with e | hp
    ·rw [e];exact e3 n hn
    ·exact e4 p hp hf
  ·obtain ⟨cl,e1,e2,e3,e4⟩:=zd1 env r cs h1' h2
   refine ⟨cl,?_,e2,e3,fun p hp hf=>?_⟩
   ·rw [y34]
    have hkf:(k == NameKind.free)=false:=by simpa using hk
    simp only [hkf,y0w,if_false]
    exact e1
   ·rcases y0f.mp hp with e | hp
    ·rw [e] at hf;exact absurd (by simpa using hf) hk
    ·exact e4 p hp hf
theorem zf8 {scope:Scope} {env:Env} (h:∀ p ∈ scope.names,p.2=.free→∃ c,env.cells.lookup p.1=some c) :
  ∃ cl,closureFor scope env=pure cl∧(∀ x c,cl.lookup x=some c→env.cells.lookup x=some c)∧(∀ p ∈ scope.names,p.2=.free→∃ c,cl.lookup p.1=some c):=by
 obtain ⟨cl,e1,e2,_,e4⟩:=zd1 env scope.names [] h (fun x c e=>by simp at e)
 refine ⟨cl,?_,e2,fun p hp hf=>y38.mp (e4 p hp hf)⟩
 have q:closureFor scope env=(forIn scope.names [] fun (p:Str × NameKind) (r:Z4)=>(if (p.2 == NameKind.free)=true then (do let c ← cellOf env p.1;pure (ForInStep.yield ((p.1,c) :: r))) else pure (ForInStep.yield r):Sem (ForInStep (List (Str × Addr))))) >>= pure:=by
  unfold closureFor
  rfl
 rw [q,e1]
 rfl
theorem zd5 {env:Env}:∀ {names:List (Str × NameKind)} {x:Str},(∀ y ∈ names,y.2 ≠ .cell) →
  ((names.map fun (n,k)=>if (k == NameKind.free && env.scope.kind == .function && env.kindOf n == some .cell) then (n,NameKind.cell) else (n,k)).lookup x=some .cell ∨
   (names.map fun (n,k)=>if (k == NameKind.free && env.scope.kind == .function && env.kindOf n == some .cell) then (n,NameKind.cell) else (n,k)).lookup x=some .free)→(x,NameKind.free) ∈ names
 | [],_,_,h=>by simp at h
 | (n,k) :: r,x,hc,h=>by
  have ih:=@zd5 env r x (fun y hy=>hc y (y08 _ hy))
  simp only [y0u] at h
  cases hx:x == n with
  | true =>
   have e:x=n:=by simpa using hx
   subst e
   by_cases hh:(k == NameKind.free && env.scope.kind == .function && env.kindOf x == some .cell)=true
   ·have:k=.free:=by
     simp only [y18] at hh
     simpa using hh.1.1
    subst this
    exact y0d
   ·rw [if_neg hh] at h
    simp only [y19,hx] at h
    rcases h with h | h
    ·have:k=.cell:=Option.some.inj h
     exact absurd this (hc (x,k) y0d)
    ·have:k=.free:=Option.some.inj h
     subst this
     exact y0d
  | false =>
   refine y08 _ (ih ?_)
   by_cases hh:(k == NameKind.free && env.scope.kind == .function && env.kindOf n == some .cell)=true
   ·rw [if_pos hh] at h
    simpa only [y19,hx] using h
   ·rw [if_neg hh] at h
    simpa only [y19,hx] using h
theorem zd4 {env:Env}:∀ {names:List (Str × NameKind)} {x:Str},names.lookup x=some .free →
  ((names.map fun (n,k)=>if (k == NameKind.free && env.scope.kind == .function && env.kindOf n == some .cell) then (n,NameKind.cell) else (n,k)).lookup x=some .cell ∨
   (names.map fun (n,k)=>if (k == NameKind.free && env.scope.kind == .function && env.kindOf n == some .cell) then (n,NameKind.cell) else (n,k)).lookup x=some .free)
 | [],_,h=>by simp at h
 | (n,k) :: r,x,h=>by
  have ih:=@zd4 env r x
  simp only [y0u]
  cases hx:x == n with
  | true =>
   simp only [y19,hx] at h
   have e:k=.free:=Option.some.inj h
   subst e
   by_cases hh:(NameKind.free == NameKind.free && env.scope.kind == .function && env.kindOf n == some .cell)=true
   ·rw [if_pos hh];left;simp only [y19,hx]
   ·rw [if_neg hh];right;simp only [y19,hx]
  | false =>
   simp only [y19,hx] at h
   by_cases hh:(k == NameKind.free && env.scope.kind == .function && env.kindOf n == some .cell)=true
   ·rw [if_pos hh];simpa only [y19,hx] using ih h
   ·rw [if_neg hh];simpa only [y19,hx] using ih h
def cxB (X:Cx) (scope:Scope) (tn:List Str) (cp:Z6) (cl:Z4) (C:Addr) (s:Shared) (H:Hp) (fp:List Addr):Cx :=
 { X with N:=tn ++ cp.map (·.2),s₀:=s,H₀:=H,env:=compEnvC scope cl C X.env,outer:=X.stack,ex:=fp,fn:=fun _=>false,pn:=[],xe:=fun _ _=>False }
def stB (tn:List Str) (cp:Z6) (σ:St):St:=List.replicate tn.length none ++ cp.map fun p=>(σ[p.1]?).getD none
structure CompOk (X:Cx) (scope:Scope) (cp:Z6):Prop where
 kind:scope.kind=.function
 nocell:∀ y ∈ scope.names,y.2 ≠ .cell
 names:∀ y ∈ scope.names,y.2=.local→scope.names.lookup y.1=some .local
 free:∀ y ∈ scope.names,y.2=.free→X.env.kindOf y.1=some .cell∨X.env.kindOf y.1=some .free
 cap:∀ p ∈ cp,X.N[p.1]?=some p.2∧scope.names.lookup p.2=some .free
section
variable {X:Cx} {pins:Z2} {σ:St} {H:Hp} {s:Shared} {scope:Scope} {tn:List Str} {cp:Z6} {cl:Z4} {fp:List Addr}
theorem mem_of_lookup' {α:Type}:∀ {l:List (Str × α)} {x:Str} {v:α},l.lookup x=some v→(x,v) ∈ l
 | [],_,_,h=>by simp at h
 | (n,k) :: r,x,v,h=>by
  rw [y19] at h
  cases hx:x == n with
  | true =>
   rw [hx] at h
   have e:x=n:=by simpa using hx
   have e2:k=v:=Option.some.inj h
   subst e e2
   exact y0d
  | false=>rw [hx] at h;exact y08 _ (mem_of_lookup' h)
theorem zjs {h₁:Heap} {t':Nat} {m0:Z1} (I:Inv X pins σ H s) (O:CompOk X scope cp) (hcl1:∀ x c,cl.lookup x=some c→X.env.cells.lookup x=some c) (hcl2:∀ p ∈ scope.names,p.2=.free→∃ c,cl.lookup p.1=some c)
  (hf:∀ b ∈ fp,FpOk X pins H b∧b < s.heap.objs.size) (hns:h₁.Ns s.heap.objs.size m0) (hk:∀ b o,s.heap.get? b=some o→h₁.get? b=some o) :
  Inv (cxB X scope tn cp cl s.heap.objs.size s H fp) [] (stB tn cp σ) H { s with heap:=h₁,toks:=t' }:=by
 have ok:(cxB X scope tn cp cl s.heap.objs.size s H fp).Ok:=by
  refine ⟨I.ok.mod,O.kind,I.ok.glob,I.ok.blt,y05 _,fun x y c e1 e2=>I.ok.inj x y c (hcl1 x c e1) (hcl1 y c e2),fun x hx=>?_,fun x c hx=>(by cases hx),I.ok.hd,I.ok.frames,.inl rfl,fun b hb=>⟨y0n (hf b hb).2,fun x c e=>?_⟩,
   fun b o e=>I.bs b o e,y13 I.ok.bsz I.sz,fun b o e hb=>?_,fun b hb hb'=>?_,I.stack,I.stkFree⟩
  ·exact hcl2 (x,.free) (zd5 O.nocell hx) rfl
  ·exact (hf b hb).1.2.2.2.2.1 x c (hcl1 x c e)
  ·rcases (hf b hb).1.2.2.2.1 with z | z
   ·exact I.ok.noex b o e z
   ·exact absurd (y0h (y0g e) (y13 I.ok.bsz z)) (y1a _)
  ·rcases y0f.mp (I.stkSub b hb') with z | z
   ·exact (hf b hb).1.2.1 z
   ·exact (hf b hb).1.2.2.1 z
 refine ⟨ok,rfl,I.bare,Un.kept hk,⟨m0,hns,fun i x v e1 e2 e3=>?_⟩,fun x c e=>?_,I.hok.fresh (y05 _),fun x c e=>I.freeC x c (hcl1 x c e),fun p hp=>by simp [cxB] at hp,I.hok.kept hk,?_⟩
 ·-- a captured name
  have e1':(tn ++ cp.map (·.2))[i]?=some x:=e1
  have e2':(List.replicate tn.length none ++ cp.map fun p=>(σ[p.1]?).getD none)[i]?=some (some v):=e2
  by_cases hi:i < tn.length
  ·rw [y0o (by simpa using hi)] at e2'
   rw [y2t,if_pos hi] at e2'
   cases e2'
  ·rw [y0p (by simpa using y1c hi),y23,y02] at e2'
   rw [y0p (y1c hi),y02] at e1'
   cases hp:cp[i - tn.length]? with
   | none=>rw [hp] at e1';cases e1'
   | some p =>
    rw [hp] at e1' e2'
    have e1'':p.2=x:=Option.some.inj e1'
    have e2'':(σ[p.1]?).getD none=some v:=Option.some.inj e2'
    obtain ⟨c1,c2⟩:=O.cap p (y0a hp)
    rw [e1''] at c1 c2
    have hs:σ[p.1]?=some (some v):=by
     cases q:σ[p.1]? with
     | none=>rw [q] at e2'';cases e2''
     | some z=>rw [q] at e2'';exact congrArg some e2''
    have hk':=O.free (x,.free) (mem_of_lookup' c2) rfl
    have hvis:Vis X.env.scope x:=by
     rcases hk' with z | z
     ·exact .inr (.inl z)
     ·exact .inr (.inr z)
    obtain ⟨m,hn,hl⟩:=I.loc
    obtain ⟨u,r,l⟩:=hl p.1 x v c1 hs hvis
    refine ⟨u,r,.inr ?_⟩
    rcases l with ⟨z,_⟩ | ⟨_,c,hc,o,ho,hd⟩
    ·rcases hk' with y | y <;> (rw [z] at y;cases y)
    ·obtain ⟨c',hc'⟩:=hcl2 (x,.free) (mem_of_lookup' c2) rfl
     have:c'=c:=Option.some.inj ((hcl1 x c' hc').symm.trans hc)
     subst this
     exact ⟨zd4 c2,c',hc',o,hk c' o ho,hd⟩
 ·obtain ⟨v,o,ho,hd⟩:=I.cell x c (hcl1 x c e)
  exact ⟨v,o,hk c o ho,hd⟩
 ·show (stB tn cp σ).length=(tn ++ cp.map (·.2)).length
  unfold stB
  simp
theorem zpb {σ':St} {H':Hp} {s':Shared} {h':Heap} {pinsB:Z2} (I:Inv X pins σ H s) (hf:∀ b ∈ fp,FpOk X pins H b)
  (J:Inv (cxB X scope tn cp cl s.heap.objs.size s H fp) pinsB σ' H' s') (hs:Heap.SameBut s.heap.objs.size s'.heap h'):Inv X pins σ H' { s' with heap:=h' }:=by
 have ne:∀ b o,s.heap.get? b=some o→b ≠ s.heap.objs.size:=fun b o e=>y0n (y0g e)
 have U:Un (frs X.stack) fp H H' s.heap h':=by
  have u:Un (frs X.stack) fp H H' s.heap s'.heap:=J.base
  refine ⟨fun b o e n h1 h2=>(hs.2 b (ne b o e)).trans (u.keep b o e n h1 h2),fun b o e n h1 h2=>?_,u.free,fun b o e h2=>?_,u.tups,u.frzs,u.tbls⟩
  ·obtain ⟨sl,q⟩:=u.slot b o e n h1 h2
   exact ⟨sl,(hs.2 b (ne b o e)).trans q⟩
  ·obtain ⟨o',q⟩:=u.there b o e h2
   exact ⟨o',(hs.2 b (ne b o e)).trans q⟩
 have fr:H' s.heap.objs.size=none:=J.free
 have hok:HOk X.prog X.w H' h':=fun b ob e=>by
  refine (J.hok b ob e).stay (fun c v hc q=>(hs.2 c ?_).trans q) (fun _ q=>q) (fun _ _ _ _ _ q=>q) fun _ _ q=>q
  rintro rfl
  rcases hc with z | z
  ·rw [← z,fr] at e;cases e
  ·rw [fr] at z;cases z
 refine I.call' (s':={ s' with heap:=h' }) (ch:=fp) J.os U hok J.bare fun b hb=>?_
 obtain ⟨_,f1,_,f3,f4,f5⟩:=hf b hb
 exact ⟨f3,f1,f4,f5⟩
end
def PIfs (X:Cx) (ifs:List Expr) (t:TT):Prop :=
 ∀ (pins:Z2) (s:Shared) (σ:St) (H:Hp) (Q:Bool→Hp→Prop),Inv X pins σ H s→t σ H Q →
  wpAny (model X.prog X.w) X.A (forIn ifs true fun c r=>if r=true then do let ok ← isTrue c X.env (eval c X.env);pure (ForInStep.yield ok) else pure (ForInStep.yield r)) (TP X pins σ Q) X.xe s
def tYes:TT:=fun _ H Q=>Q true H
theorem za4 {X:Cx}:PIfs X [] tYes:=fun _ _ _ H _ I h=>wpAny_tests_nil ⟨H,I,h⟩
theorem zib {prog:Program} {w:World} {A:Around} {R:Result→Shared→Prop} {s:Shared} {elt target iter:Expr} {ifs:List Expr} {scope:Scope} {pos:Pos} {it acc:Value} {env:Env} (I:Nat→Shared→Prop)
  (turn:∀ n s,I n s→wpAny (model prog w) A (pyNext it) (fun r s₁=>match r with
   | none=>R (.ok .next) s₁
   | some v=>wpAny (model prog w) A (letOwnedTupleGo target it v) (fun _ s₂=>wpAny (model prog w) A (assign target env v) (fun _ s₃ =>
     wpAny (model prog w) A (forIn ifs true fun c r=>if r=true then do let ok ← isTrue c env (eval c env);pure (ForInStep.yield ok) else pure (ForInStep.yield r)) (fun ok s₄ =>
      if ok=true then wpAny (model prog w) A (eval elt env) (fun x s₅ =>
       wpAny (model prog w) A (call (.builtin "list.append") [acc,x]) (fun _ s₆=>∃ m,m < n∧I m s₆) (fun _ _=>False) s₅) (fun _ _=>False) s₄
      else ∃ m,m < n∧I m s₄) (fun _ _=>False) s₃) (fun _ _=>False) s₂) (fun _ _=>False) s₁) (fun _ _=>False) s)
  (n:Nat) (h:I n s) :
  codeAny (model prog w) A (.compLoop (.ListComp elt [⟨target,iter,ifs,0⟩] scope pos) 0 it acc env) R s:=by
 refine codeAny_loop rfl I (fun n s hI=>?_) n h
 show wpAny _ A ((compTurn (.ListComp elt [⟨target,iter,ifs,0⟩] scope pos) 0 it acc env).onRaise (fun x=>do noteFrame x env;theTreesLotGoes x)) _ _ s
 refine wpAny_noted ?_
 rw [compTurn_list]
 refine wpAny_bind (wpAny_standAt (wpAny_bind (wpAny_mono (turn n s hI) (fun r s₁ h₁=>?_) fun _ _ f=>f.elim)))
 cases r with
 | none=>exact wpAny_pure h₁
 | some v =>
  refine wpAny_bind (wpAny_mono h₁ (fun _ s₂ h₂=>?_) fun _ _ f=>f.elim)
  refine wpAny_bind (wpAny_mono h₂ (fun _ s₃ h₃=>wpAny_bind (wpAny_mono h₃ (fun ok s₄ h₄=>?_) fun _ _ f=>f.elim)) fun _ _ f=>f.elim)
  cases ok with
  | false=>exact wpAny_pure ⟨rfl,h₄⟩
  | true =>
   exact wpAny_bind (wpAny_bind (wpAny_mono h₄ (fun x s₅ h₅=>wpAny_bind (wpAny_mono h₅ (fun _ s₆ h₆=>wpAny_pure (wpAny_pure ⟨rfl,h₆⟩)) fun _ _ f=>f.elim)) fun _ _ f=>f.elim))
def tComp (tn:List Str) (cp:Z6) (wi:TI) (g:TG) (tif:TT) (te:TE):TE:=fun σ H Q=>wi σ H fun J H1=>∀ D,H1 D=none→∃ W:Nat→Nat→St→Hp→Prop,
 (∃ m,W 0 m (stB tn cp σ) (upd H1 D (.lst [])))∧∀ i m σb Hb,W i m σb Hb →
  (J.stop i Hb∧Q (.ref D) Hb)∨(J.go i Hb∧∀ x H',J.yld i Hb x H'→g x σb H' fun σ2 H2=>tif σ2 H2 fun c H3 =>
   if c=true then te σ2 H3 fun y H4=>∃ ys,H4 D=some (.lst ys)∧ys.length < sizeLine∧∃ m',m' < m∧W (i + 1) m' σ2 (upd H4 D (.lst (ys ++ [y])))
   else ∃ m',m' < m∧W (i + 1) m' σ2 H3)
theorem zf2 {X:Cx} {elt tg iter:Expr} {ifs:List Expr} {scope:Scope} {pos cpos:Pos} {wi:TI} {g:TG} {tif:TT} {te:TE} (tn:List Str) (cp:Z6) (O:CompOk X scope cp) (hc:X.calm=true) (hi:PI X tg iter wi)
  (hg:∀ cl C s H fp,PG (cxB X scope tn cp cl C s H fp) tg g) (hif:∀ cl C s H fp,PIfs (cxB X scope tn cp cl C s H fp) ifs tif) (he:∀ cl C s H fp,PE (cxB X scope tn cp cl C s H fp) elt te)
  (hs:∀ x,foldedSetIterable iter X.env x=pure x) {pins:Z2} {s:Shared} {σ:St} {H:Hp} {Q:VK} {R:Z0} {use:Option (Value→Sem Unit)} (I:Inv X pins σ H s) (h:tComp tn cp wi g tif te σ H Q)
  (fin:∀ (D C:Addr) (H5:Hp) (s5:Shared) (m:Z1),Inv X pins σ H5 s5→FpOk X pins H5 C→s5.heap.Ns C m→Q (.ref D) H5→compPost (model X.prog X.w) X.A X.xe use R (.ref D) C (.ok .next) s5) :
  wpAny (model X.prog X.w) X.A (comprehension (.ListComp elt [⟨tg,iter,ifs,0⟩] scope pos) scope X.env cpos (newList []) false (eval iter X.env) use) R X.xe s:=by
 obtain ⟨cl,hcl,hcl1,hcl2⟩:=zf8 (scope:=scope) (env:=X.env) fun p hp hf=>I.ok.has p.1 (O.free p hp hf)
 refine wpAny_comprehension_free (use:=use) rfl hs hcl O.kind O.names (thn (hi pins s σ H _ I h) fun v s1 h1=>thn h1 fun itv s2 h2=>?_)
 obtain ⟨it,fp,tn',J,H2,rfl,I2,T,st2,f2,rest⟩:=h2
 refine wpAny_newObj_type ?_
 have I3:Inv X pins σ (upd H2 s2.heap.objs.size (.lst [])) { s2 with heap:=s2.heap.push { cls:=.type "list",data:=.seq ([]:List Value).toArray } }:=I2.lnew (its:=[]) (t':=s2.toks) .nil (y1k _)
 obtain ⟨W,⟨m0,w0⟩,turn⟩:=rest s2.heap.objs.size I2.fresh
 have fpl:∀ b ∈ fp,b < s2.heap.objs.size:=fun b hb=>by
  obtain ⟨o,e,_⟩:=T.obj _ _ st2 b hb
  exact y0g e
 have f3:∀ b ∈ fp,FpOk X pins (upd H2 s2.heap.objs.size (.lst [])) b:=fun b hb=>⟨by rw [zal (y0n (fpl b hb))];exact (f2 b hb).1,(f2 b hb).2⟩
 have sz3:(s2.heap.push { cls:=.type "list",data:=.seq ([]:List Value).toArray }).objs.size=s2.heap.objs.size + 1:=y1i ..
 refine wpAny_newFunctionEnv O.nocell (by intro y hy;simp at hy) (fun h₁ hns hsb=>?_) O.kind
 have hk1:∀ b o,(s2.heap.push { cls:=.type "list",data:=.seq ([]:List Value).toArray }).get? b=some o→h₁.get? b=some o:=fun b o e =>
  hsb.extBut b o (y0n (y0g e)) (y0b _ e)
 have J3:=zjs (tn:=tn) (cp:=cp) (t':=s2.toks + ([]:List (Str × Value)).length) I3 O hcl1 hcl2 (fun b hb=>⟨f3 b hb,by rw [sz3];exact y25 (fpl b hb)⟩) hns hk1
 have st3:tn' 0 h₁:=T.keep _ _ _ st2 fun b hb o e=>hk1 b o (y0b _ e)
 show codeAny _ _ (.compStart _ 0 (.ref it) (.ref s2.heap.objs.size) (compEnvC scope cl (s2.heap.push { cls:=.type "list",data:=.seq ([]:List Value).toArray }).objs.size X.env)) _ _
 generalize hXB:cxB X scope tn cp cl (s2.heap.push { cls:=.type "list",data:=.seq ([]:List Value).toArray }).objs.size { s2 with heap:=s2.heap.push { cls:=.type "list",data:=.seq ([]:List Value).toArray } } (upd H2 s2.heap.objs.size (.lst [])) fp=XB at J3
 have hprog:XB.prog=X.prog:=by rw [← hXB];rfl
 have hw:XB.w=X.w:=by rw [← hXB];rfl
 have hK:XB.K=X.K:=by rw [← hXB];rfl
 have hA:XB.A=X.A:=by rw [← hXB];rfl
 have henv:XB.env=compEnvC scope cl (s2.heap.push { cls:=.type "list",data:=.seq ([]:List Value).toArray }).objs.size X.env:=by rw [← hXB];rfl
 have hcalm:XB.calm=true:=by rw [← hXB];exact hc
 have hxe:XB.xe=fun _ _=>False:=by rw [← hXB];rfl
 have hgB:PG XB tg g:=by rw [← hXB];exact hg _ _ _ _ _
 have hifB:PIfs XB ifs tif:=by rw [← hXB];exact hif _ _ _ _ _
 have heB:PE XB elt te:=by rw [← hXB];exact he _ _ _ _ _
 have fB:∀ (pb:Z2) (Hb:Hp),(∀ b ∈ fp,Hb b=none)→(∀ b ∈ fp,∀ p ∈ XB.pn ++ pb,p.1 ≠ b)→∀ b ∈ fp,FpOk XB pb Hb b:=fun pb Hb hn hp b hb=>by
  refine ⟨hn b hb,?_,?_,.inl (by rw [← hXB];exact hb),fun x c e=>?_,hp b hb⟩
  ·rw [henv];show b ≠ (s2.heap.push { cls:=.type "list",data:=.seq ([]:List Value).toArray }).objs.size
   rw [sz3];exact y0n (y25 (fpl b hb))
  ·rw [← hXB]
   show b ∉ frs X.stack
   intro z
   rcases y0f.mp (I2.stkSub b z) with y | y
   ·exact (f2 b hb).2.1 y
   ·exact (f2 b hb).2.2.1 y
  ·rw [henv] at e
   exact (f2 b hb).2.2.2.2.1 x c (hcl1 x c e)
 have pn0:XB.pn=[]:=by rw [← hXB];rfl
 have loop:∀ s₃:Shared,s₃={ s2 with heap:=h₁,toks:=s2.toks + ([]:List (Str × Value)).length } →
   codeAny (model X.prog X.w) X.A (.compLoop (.ListComp elt [⟨tg,iter,ifs,0⟩] scope pos) 0 (.ref it) (.ref s2.heap.objs.size) XB.env)
    (compPost (model X.prog X.w) X.A X.xe use R (.ref s2.heap.objs.size) (s2.heap.push { cls:=.type "list",data:=.seq ([]:List Value).toArray }).objs.size) s₃:=by
  rintro s₃ rfl
  refine zib (fun n s'=>∃ i σb Hb,Inv XB [] σb Hb s'∧tn' i s'.heap∧(∀ b ∈ fp,Hb b=none)∧W i n σb Hb) ?_ m0 ⟨0,stB tn cp σ,_,J3,st3,fun b hb=>(f3 b hb).1,w0⟩
  rintro n s4 ⟨i,σ4,H4,I4,st4,fr4,w4⟩
  rcases turn i n σ4 H4 w4 with ⟨stop,qn⟩ | ⟨go,step⟩
  ·have d:=T.done XB hprog hw hK hcalm i [] s4 σ4 H4 (fun _ _=>False) I4 (fB [] H4 fr4 (fun b hb p hp=>by rw [pn0] at hp;simp at hp)) st4 stop
   rw [hA] at d
   refine thn d fun r s5 ⟨hr,I5⟩=>?_
   subst hr
   obtain ⟨mm,hn5,_⟩:=id I5.loc
   have fr5:H4 (s2.heap.push { cls:=.type "list",data:=.seq ([]:List Value).toArray }).objs.size=none:=by
    have z:=I5.free
    rw [henv] at z
    exact z
   have J5:Inv X pins σ H4 s5:=by
    rw [← hXB] at I5
    exact zpb (h':=s5.heap) I3 f3 I5 ⟨rfl,fun _ _=>rfl⟩
   exact fin _ _ H4 s5 mm J5 (I3.fpOk (y05 _) fr5) (by rw [henv] at hn5;exact hn5) qn
  ·have d:=T.item XB hprog hw hK hcalm i [] s4 σ4 H4 (fun _ _=>False) I4 (fB [] H4 fr4 (fun b hb p hp=>by rw [pn0] at hp;simp at hp)) st4 go
   rw [hA] at d
   refine thn d fun r s5 ⟨u,hr,h5⟩=>?_
   subst hr
   refine thn h5 fun _ s6 ⟨x,H6,I6,r6,y6,st6,fr6⟩=>?_
   have I6':=I6.pinned (fB [] H6 fr6 (fun b hb p hp=>by rw [pn0] at hp;simp at hp)) (T.obj _ _ st6)
   have q6:=step x H6 y6
   have a1:=hgB _ s6 σ4 H6 x u _ I6' r6 q6
   rw [hxe,hprog,hw,hA] at a1
   refine thn a1 fun _ s7 ⟨σ7,H7,I7,q7⟩=>?_
   have a2:=hifB _ s7 σ7 H7 _ I7 q7
   rw [hxe,hprog,hw,hA] at a2
   refine thn a2 fun ok s8 ⟨H8,I8,q8⟩=>?_
   have again:∀ {σ9:St} {H9:Hp} {s9:Shared},Inv XB ([] ++ pinsAt fp s6.heap) σ9 H9 s9→(∃ m',m' < n∧W (i + 1) m' σ9 H9)→∃ m,m < n∧∃ i σb Hb,Inv XB [] σb Hb s9∧tn' i s9.heap∧(∀ b ∈ fp,Hb b=none)∧W i m σb Hb:=fun {σ9 H9 s9} I9 n9=>by
    obtain ⟨m',hm,w9⟩:=n9
    refine ⟨m',hm,i + 1,σ9,H9,I9.unpinned,T.keep _ _ _ st6 fun b hb o e=>(I9.pin (b,o) (y11 _ (y11 _ (zc0 hb e)))).1,fun b hb=>?_,w9⟩
    obtain ⟨o,e,d⟩:=T.obj _ _ st6 b hb
    exact (I9.pin (b,o) (y11 _ (y11 _ (zc0 hb e)))).2.1
   cases ok with
   | false=>exact again I8 q8
   | true =>
    show wpAny _ _ _ _ _ _
    have a3:=heB _ s8 σ7 H8 _ I8 q8
    rw [hxe,hprog,hw,hA] at a3
    refine thn a3 fun yv s9 ⟨y,H9,I9,r9,ys,hD,hlen,n9⟩=>?_
    have a4:=za9 (X:=XB) _ s9 σ7 H9 (.ref s2.heap.objs.size) [y] (.ref s2.heap.objs.size) [yv] (fun _ H'=>∃ m',m' < n∧W (i + 1) m' σ7 H') I9 rfl (.cons r9 .nil) ⟨_,ys,y,rfl,rfl,hD,hlen,n9⟩
    rw [hxe,hprog,hw,hA] at a4
    exact thn a4 fun _ s10 ⟨_,H10,I10,_,q10⟩=>again I10 q10
 rw [henv] at loop
 refine codeAny_compStart_list (loop _ rfl) (T.self _ 0 _ _ _ st3 (loop _ rfl))
theorem zas {X:Cx} {elt tg iter:Expr} {ifs:List Expr} {scope:Scope} {pos:Pos} {wi:TI} {g:TG} {tif:TT} {te:TE} (tn:List Str) (cp:Z6) (O:CompOk X scope cp) (hc:X.calm=true) (hi:PI X tg iter wi)
  (hg:∀ cl C s H fp,PG (cxB X scope tn cp cl C s H fp) tg g) (hif:∀ cl C s H fp,PIfs (cxB X scope tn cp cl C s H fp) ifs tif) (he:∀ cl C s H fp,PE (cxB X scope tn cp cl C s H fp) elt te)
  (hs:∀ x,foldedSetIterable iter X.env x=pure x:=by intro _;rfl) :
  PE X (.ListComp elt [⟨tg,iter,ifs,0⟩] scope pos) (tComp tn cp wi g tif te):=by
 intro pins s σ H Q I h
 rw [eval_ListComp]
 refine zf2 tn cp O hc hi hg hif he hs I h fun D C H5 s5 m I5 f5 n5 q5=>⟨m,n5,fun h' hs'=>⟨.ref D,H5,?_,rfl,q5⟩⟩
 obtain ⟨f0,f1,f2,f3,f4,f5⟩:=f5
 exact I5.turned (t':=s5.toks) (fun b o hb e=>(hs'.2 b hb).trans e) f0 f1 f3 f4 f5
theorem zm0 {X:Cx} {i:Nat} {x:Str} {elt tg iter:Expr} {ifs:List Expr} {scope:Scope} {pos pos' spos:Pos} {wi:TI} {g:TG} {tif:TT} {te:TE} (hN:X.N.Nodup) (hx:X.N[i]?=some x) (hl:Loc X.env.scope x) (tn:List Str) (cp:Z6) (O:CompOk X scope cp) (hc:X.calm=true) (hi:PI X tg iter wi)
  (hg:∀ cl C s H fp,PG (cxB X scope tn cp cl C s H fp) tg g) (hif:∀ cl C s H fp,PIfs (cxB X scope tn cp cl C s H fp) ifs tif) (he:∀ cl C s H fp,PE (cxB X scope tn cp cl C s H fp) elt te)
  (hsw:swapsWith (.ListComp elt [⟨tg,iter,ifs,0⟩] scope pos) (some (.Name x pos')) spos.line X.env=pure true:=by rfl) (hs:∀ x,foldedSetIterable iter X.env x=pure x:=by intro _;rfl)
  (hf:X.fn x=true∨X.env.scope.names.lookup x=some .local:=by first | exact .inl rfl | exact .inr rfl | assumption) :
  PS X (.Assign [.Name x pos'] (.ListComp elt [⟨tg,iter,ifs,0⟩] scope pos) spos) (tAsg (tComp tn cp wi g tif te) (gName i)):=by
 intro pins s σ H D I h
 rw [exec_Assign_Name_used _ _ _ _ hsw]
 refine wpAny_bind (wpAny_standAt (wpAny_bind ?_))
 show wpAny _ X.A (do let _ ← comprehension (.ListComp elt [⟨tg,iter,ifs,0⟩] scope pos) scope X.env _ (newList []) false (eval iter X.env) (some (assign (.Name x pos') X.env))) _ _ s
 refine wpAny_bind (wpAny_mono (zf2 tn cp O hc hi hg hif he hs (R:=fun _ s'=>SP X pins D .next s') I h fun E C H5 s5 m I5 f5 n5 q5=>?_) (fun _ _ q=>wpAny_pure (wpAny_pure q)) fun _ _ e=>e)
 obtain ⟨f0,f1,f2,f3,f4,f5⟩:=f5
 show wpAny _ X.A (assign (.Name x pos') X.env (.ref E)) _ _ _
 refine wpAny_assign_Name (zhh I5 hN hx hl (v:=.ref E) rfl (fun s6 I6 ⟨a,sb,ha⟩=>?_) hf)
 have ne:C ≠ a:=by
  rcases ha with e | e
  ·rw [e];exact f1
  ·exact fun z=>f4 x a e z.symm
 refine ⟨m,n5.sameBut sb ne,fun h' hs'=>⟨_,H5,I6.turned (t':=s6.toks) (fun b o hb e=>(hs'.2 b hb).trans e) f0 f1 f3 f4 f5,q5⟩⟩
theorem zjp {X:Cx}:CallR X (.builtin "isinstance") (fun xs H Q=>∃ x T t b,xs=[x,.ty T]∧TyOf X.K H x t∧PySem.W.kitOne X.K t (.type T)=some b∧Q (.bl b) H):=by
 infer_instance
 obtain ⟨x,T,t,b,rfl,ty,e,q⟩:=h
 obtain ⟨u,w',rfl,rx,ry⟩:=vals2 r
 cases (show w'=Value.type T from ry)
 exact zoe I rx ty e fun tk=>⟨.bl b,H,I.tok _,rfl,q⟩
section
open PyProof.Rows.LSm
theorem zg4 {bs:List Bool}:∀ {us:List Value},Vals (bs.map V.bl) us→BoolsAre us bs:=by
 induction bs with
 | nil=>intro us r;rw [y2o] at r;cases r;exact .nil
 | cons b bs ih =>
  intro us r
  rw [y0u] at r
  cases r with
  | cons r1 r2 =>
   cases (show _=Value.bool b from r1)
   exact .cons b (ih r2)
theorem zjr {X:Cx} (hc:X.calm=true):CallR X (.builtin "all") (fun xs H Q=>∃ (p:Addr) (bs:List Bool),xs=[.ref p]∧SqL X.K H p (bs.map V.bl)∧Q (.bl (bs.all id)) H):=by
 infer_instance
 obtain ⟨p,bs,rfl,hx,q⟩:=h
 obtain ⟨u,rfl,rx⟩:=vals1 r
 cases (show u=Value.ref p from rx)
 obtain ⟨vs,rv,pl,hz⟩:=I.list hx
 have hl:=pl.isList
 have hb:=zg4 rv
 have hlt:p < s.heap.objs.size:=by obtain ⟨_,e,_⟩:=hl;exact y0g e
 refine call_all_walk (wpAny_pyIter_list hl ?_)
 refine ⟨s.heap.objs.size,[s.heap.objs.size,p],[s.heap.objs.size],vs.toArray.size,_,_,fun i=>(bs[i]?).getD true,rfl,Walks.list (A:=X.A.in1) (I.ok.hd hc) _ p (y0n hlt) vs.toArray,
  ⟨⟨_,y0m _ rfl,rfl,rfl⟩,hl.push _⟩,fun i v s' Q' E' hP hQ=>?_,fun h' tk hk=>?_⟩
 ·obtain ⟨b,e,rfl⟩:=hb.get i v (by simpa using hP)
  simp only [e,y1q] at hQ
  exact wpAny_truthy_bool hQ
 ·have e:((List.range vs.toArray.size).all fun i=>(bs[i]?).getD true)=bs.all id:=by
   rw [y06,hb.length];exact range_all bs
  rw [e]
  exact ⟨.bl _,H,I.kept (kept_iter hk),rfl,q⟩
theorem zjq {X:Cx} (hc:X.calm=true):CallR X (.builtin "any") (fun xs H Q=>∃ (p:Addr) (bs:List Bool),xs=[.ref p]∧SqL X.K H p (bs.map V.bl)∧Q (.bl (bs.any id)) H):=by
 infer_instance
 obtain ⟨p,bs,rfl,hx,q⟩:=h
 obtain ⟨u,rfl,rx⟩:=vals1 r
 cases (show u=Value.ref p from rx)
 obtain ⟨vs,rv,pl,hz⟩:=I.list hx
 have hl:=pl.isList
 have hb:=zg4 rv
 have hlt:p < s.heap.objs.size:=by obtain ⟨_,e,_⟩:=hl;exact y0g e
 refine call_any_walk (wpAny_pyIter_list hl ?_)
 refine ⟨s.heap.objs.size,[s.heap.objs.size,p],[s.heap.objs.size],vs.toArray.size,_,_,fun i=>(bs[i]?).getD false,rfl,Walks.list (A:=X.A.in1) (I.ok.hd hc) _ p (y0n hlt) vs.toArray,
  ⟨⟨_,y0m _ rfl,rfl,rfl⟩,hl.push _⟩,fun i v s' Q' E' hP hQ=>?_,fun h' tk hk=>?_⟩
 ·obtain ⟨b,e,rfl⟩:=hb.get i v (by simpa using hP)
  simp only [e,y1q] at hQ
  exact wpAny_truthy_bool hQ
 ·have e:((List.range vs.toArray.size).any fun i=>(bs[i]?).getD false)=bs.any id:=by
   rw [y06,hb.length];exact range_any bs
  rw [e]
  exact ⟨.bl _,H,I.kept (kept_iter hk),rfl,q⟩
theorem zig {X:Cx} (hc:X.calm=true):CallR X (.builtin "sum") (fun xs H Q=>∃ (p:Addr) (ns:List Int),xs=[.ref p]∧SqL X.K H p (ns.map V.int)∧Q (.int ns.sum) H):=by
 infer_instance
 obtain ⟨p,ns,rfl,hx,q⟩:=h
 obtain ⟨u,rfl,rx⟩:=vals1 r
 cases (show u=Value.ref p from rx)
 obtain ⟨vs,rv,pl,hz⟩:=I.list hx
 have hi:=zd0 rv
 obtain ⟨ys,hy⟩:=hi.allInts.items
 have hl':s.heap.IsList p (intItems ys):=hy ▸ pl.isList
 refine sum_intListG (I.ok.hd hc) hl' fun h' tk t' hk=>?_
 have e1:ns=ys.toList.map (·.1):=by
  rw [← nums_intItems,← hy]
  exact (show numsOf vs.toArray.toList=ns from hi.numsOf).symm
 have e2:preSum (numAt ys) ys.size=ns.sum:=by
  rw [preSum_eq,y0r (by simp),e1]
 rw [e2]
 exact ⟨.int _,H,I.kept hk,⟨_,rfl⟩,q⟩
end
def EqOk (X:Cx) (k:Nat) (H:Hp) (x y:V) (b:Bool):Prop:=∀ (pins:Z2) (σ:St) (s:Shared) (A:Around) (u v:Value),A.units + k < cLine→Inv X pins σ H s→RelV x u→RelV y v→SeqAt.EqAt A s u v b
def RcOk (X:Cx) (k:Nat) (H:Hp) (x y:V) (b:Bool):Prop:=∀ (pins:Z2) (σ:St) (s:Shared) (A:Around) (u v:Value),A.units + k < cLine→Inv X pins σ H s→RelV x u→RelV y v→SeqAt.RcAt A s u v b
section
variable {X:Cx} {k:Nat} {H:Hp} {x y:V} {a b:Addr} {xs ys:List V}
theorem zcq (fx:flatV x=true) (fy:flatV y=true):EqOk X k H x y (eqV x y):=fun _ _ _ _ _ _ _ _ rx ry=>zr6 rx ry fx fy
theorem zos:EqOk X k H (.ref a) (.ref a) true:=fun _ _ _ _ u v _ _ rx ry=>by
 cases (show u=Value.ref a from rx)
 cases (show v=Value.ref a from ry)
 exact SeqAt.EqAt.same _
theorem EqOk.of_rc (hne:a ≠ b) {c:Bool} (h:RcOk X k H (.ref a) (.ref b) c):EqOk X k H (.ref a) (.ref b) c:=fun pins σ s A u v hu I rx ry=>by
 cases (show u=Value.ref a from rx)
 cases (show v=Value.ref b from ry)
 exact SeqAt.EqAt.of_refs hne (h pins σ s A _ _ hu I rfl rfl)
theorem Vals.at {xs:List V} {us:List Value} (r:Vals xs us) {j:Nat} (h:j < us.length):∃ (h':j < xs.length),RelV xs[j] us[j]:=by
 have hl:=r.length
 have h':j < xs.length:=by omega
 obtain ⟨u,e,q⟩:=r.get (i:=j) (x:=xs[j]) (by simp [h'])
 rw [y01 h] at e
 cases e
 exact ⟨h',q⟩
theorem zld (hx:SqL X.K H a xs) (hy:SqL X.K H b ys) (hl:xs.length=ys.length) (e:Nat→Bool) (he:∀ j (h1:j < xs.length) (h2:j < ys.length),EqOk X k H xs[j] ys[j] (e j)) :
  RcOk X (k + 1) H (.ref a) (.ref b) ((List.range xs.length).all e):=fun pins σ s A u v hu I rx ry=>by
 cases (show u=Value.ref a from rx)
 cases (show v=Value.ref b from ry)
 obtain ⟨us,r1,p1,_⟩:=I.list hx
 obtain ⟨vs,r2,p2,_⟩:=I.list hy
 have l1:=r1.length
 have l2:=r2.length
 have q:=SeqAt.RcAt.lists (A:=A) (e:=e) p1.isList p2.isList (by rw [y06,y06];omega) (by omega) fun j h1 h2=>by
  rw [y06] at h1 h2
  obtain ⟨g1,q1⟩:=r1.at h1
  obtain ⟨g2,q2⟩:=r2.at h2
  exact he j g1 g2 pins σ s A.in1 _ _ (by show A.units + 1 + k < cLine;omega) I (by simpa using q1) (by simpa using q2)
 rw [y06,← l1] at q
 exact q
theorem zmu (hx:SqL X.K H a xs) (hy:SqL X.K H b ys) (hl:xs.length ≠ ys.length):RcOk X k H (.ref a) (.ref b) false:=fun pins σ s A u v hu I rx ry=>by
 cases (show u=Value.ref a from rx)
 cases (show v=Value.ref b from ry)
 obtain ⟨us,r1,p1,_⟩:=I.list hx
 obtain ⟨vs,r2,p2,_⟩:=I.list hy
 have l1:=r1.length
 have l2:=r2.length
 exact SeqAt.RcAt.lists_lengths p1.isList p2.isList (by rw [y06,y06];simp;omega) (by omega)
theorem zdj (hx:SqT X.K H a xs) (hy:SqT X.K H b ys) (e:Nat→Bool) (he:∀ j (h1:j < xs.length) (h2:j < ys.length),EqOk X k H xs[j] ys[j] (e j)) :
  RcOk X (k + 1) H (.ref a) (.ref b) ((List.range (min xs.length ys.length)).all e && xs.length == ys.length):=fun pins σ s A u v hu I rx ry=>by
 cases (show u=Value.ref a from rx)
 cases (show v=Value.ref b from ry)
 obtain ⟨us,r1,p1,_⟩:=I.tuple hx
 obtain ⟨vs,r2,p2,_⟩:=I.tuple hy
 have l1:=r1.length
 have l2:=r2.length
 have q:=SeqAt.RcAt.tuples (A:=A) (e:=e) p1 p2 (by omega) fun j h1 h2=>by
  rw [y06] at h1 h2
  obtain ⟨g1,q1⟩:=r1.at h1
  obtain ⟨g2,q2⟩:=r2.at h2
  exact he j g1 g2 pins σ s A.in1 _ _ (by show A.units + 1 + k < cLine;omega) I (by simpa using q1) (by simpa using q2)
 rw [y06,y06,← l1,← l2] at q
 exact q
theorem zle (hx:SqL X.K H a xs) (hy:SqL X.K H b ys) (fx:xs.all flatV=true) (fy:ys.all flatV=true) :
  RcOk X 1 H (.ref a) (.ref b) (xs.length == ys.length && (List.range xs.length).all fun j=>eqV (xs.getD j .non) (ys.getD j .non)):=by
 by_cases hl:xs.length=ys.length
 ·have q:=zld (k:=0) hx hy hl (fun j=>eqV (xs.getD j .non) (ys.getD j .non)) fun j h1 h2=>by
   have e1:xs.getD j .non=xs[j]:=by simp [List.getD,h1]
   have e2:ys.getD j .non=ys[j]:=by simp [List.getD,h2]
   rw [e1,e2]
   exact zcq (y1n.mp fx _ (y0q h1)) (y1n.mp fy _ (y0q h2))
  rw [show (xs.length == ys.length)=true by simp [hl],y2k]
  exact q
 ·rw [show (xs.length == ys.length)=false by simp [hl],y47]
  exact zmu hx hy hl
end
def rEqD (X:Cx) (k:Nat):R2:=fun x y H Q=>∃ c,RcOk X k H x y c∧Q (.bl c) H
theorem op_eqD {X:Cx} {k:Nat} (hu:X.A.units + k < cLine):OpR X (compareOp .Eq) (rEqD X k):=by
 intro pins s σ H x y v u Q I rx ry h
 obtain ⟨c,r,q⟩:=h
 exact r pins σ s X.A v u hu I rx ry _ _ _ _ ⟨.bl c,H,I,rfl,q⟩
def CW (D:Addr) (n:Nat) (Pv:Nat→List V→St→Hp→Prop) (i m:Nat) (σ:St) (H:Hp):Prop:=m=n - i∧i ≤ n∧∃ ys,H D=some (.lst ys)∧ys.length ≤ i∧Pv i ys σ H
def CStep (D:Addr) (n i:Nat) (Pv:Nat→List V→St→Hp→Prop) (σ2:St) (y:V) (H4:Hp):Prop :=
 ∃ ys,H4 D=some (.lst ys)∧ys.length < sizeLine∧∃ m',m' < n - i∧CW D n Pv (i + 1) m' σ2 (upd H4 D (.lst (ys ++ [y])))
def CSkip (D:Addr) (n i:Nat) (Pv:Nat→List V→St→Hp→Prop) (σ2:St) (H3:Hp):Prop:=∃ m',m' < n - i∧CW D n Pv (i + 1) m' σ2 H3
section
variable {D:Addr} {Q:VK} {g:TG} {tif:TT} {te:TE} {σ0:St} {H1:Hp} {n i:Nat} {Pv:Nat→List V→St→Hp→Prop}
theorem cstep {ys:List V} {y:V} {σ2:St} {H4:Hp} (hn:n ≤ sizeLine) (hi:i < n) (hD:H4 D=some (.lst ys)) (hl:ys.length ≤ i) (h:Pv (i + 1) (ys ++ [y]) σ2 (upd H4 D (.lst (ys ++ [y])))):CStep D n i Pv σ2 y H4 :=
 ⟨ys,hD,by omega,n - (i + 1),by omega,rfl,hi,ys ++ [y],zam,by rw [y0c,y17];omega,h⟩
theorem zo2 {J:It} (Pv:Nat→List V→St→Hp→Prop) (hn:n ≤ sizeLine) (h0:Pv 0 [] σ0 (upd H1 D (.lst [])))
  (hgo:∀ i ys σ H,i < n→H D=some (.lst ys)→Pv i ys σ H→J.go i H) (hstop:∀ ys σ H,H D=some (.lst ys)→Pv n ys σ H→J.stop n H)
  (hs:∀ i ys σ H,i < n→H D=some (.lst ys)→ys.length ≤ i→Pv i ys σ H→∀ x H',J.yld i H x H'→g x σ H' fun σ2 H2=>tif σ2 H2 fun c H3 =>
   if c=true then te σ2 H3 fun y H4=>CStep D n i Pv σ2 y H4 else CSkip D n i Pv σ2 H3)
  (hd:∀ ys σ H,H D=some (.lst ys)→ys.length ≤ n→Pv n ys σ H→Q (.ref D) H) :
  ∃ W:Nat→Nat→St→Hp→Prop,(∃ m,W 0 m σ0 (upd H1 D (.lst [])))∧∀ i m σb Hb,W i m σb Hb →
   (J.stop i Hb∧Q (.ref D) Hb)∨(J.go i Hb∧∀ x H',J.yld i Hb x H'→g x σb H' fun σ2 H2=>tif σ2 H2 fun c H3 =>
    if c=true then te σ2 H3 fun y H4=>∃ ys,H4 D=some (.lst ys)∧ys.length < sizeLine∧∃ m',m' < m∧W (i + 1) m' σ2 (upd H4 D (.lst (ys ++ [y])))
    else ∃ m',m' < m∧W (i + 1) m' σ2 H3):=by
 refine ⟨CW D n Pv,⟨n,by omega,y1k _,[],zam,y05 _,h0⟩,?_⟩
 rintro i m σ H ⟨rfl,hi,ys,hD,hl,p⟩
 by_cases hlt:i < n
 ·exact .inr ⟨hgo i ys σ H hlt hD p,hs i ys σ H hlt hD hl p⟩
 ·have e:i=n:=by omega
  subst e
  exact .inl ⟨hstop ys σ H hD p,hd ys σ H hD hl p⟩
theorem zo1 {K:Frag} {a:Addr} {xs:List V} (Pv:Nat→List V→St→Hp→Prop) (hn:xs.length ≤ sizeLine) (h0:Pv 0 [] σ0 (upd H1 D (.lst [])))
  (hl:∀ i ys σ H,i ≤ xs.length→H D=some (.lst ys)→Pv i ys σ H→SqL K H a xs)
  (hs:∀ i ys σ H x,i < xs.length→xs[i]?=some x→H D=some (.lst ys)→ys.length ≤ i→Pv i ys σ H→g x σ H fun σ2 H2=>tif σ2 H2 fun c H3 =>
   if c=true then te σ2 H3 fun y H4=>CStep D xs.length i Pv σ2 y H4 else CSkip D xs.length i Pv σ2 H3)
  (hd:∀ ys σ H,H D=some (.lst ys)→ys.length ≤ xs.length→Pv xs.length ys σ H→Q (.ref D) H) :
  ∃ W:Nat→Nat→St→Hp→Prop,(∃ m,W 0 m σ0 (upd H1 D (.lst [])))∧∀ i m σb Hb,W i m σb Hb →
   ((Itl K a).stop i Hb∧Q (.ref D) Hb)∨((Itl K a).go i Hb∧∀ x H',(Itl K a).yld i Hb x H'→g x σb H' fun σ2 H2=>tif σ2 H2 fun c H3 =>
    if c=true then te σ2 H3 fun y H4=>∃ ys,H4 D=some (.lst ys)∧ys.length < sizeLine∧∃ m',m' < m∧W (i + 1) m' σ2 (upd H4 D (.lst (ys ++ [y])))
    else ∃ m',m' < m∧W (i + 1) m' σ2 H3) :=
 zo2 Pv hn h0 (fun i ys σ H hi hD p=>⟨xs,xs[i],hl i ys σ H (y1l hi) hD p,by simp [hi]⟩) (fun ys σ H hD p=>⟨xs,hl _ ys σ H (y05 _) hD p,y05 _⟩) (fun i ys σ H hi hD hl' p x H' y=>by
  obtain ⟨e,y⟩:=y
  subst e
  exact hs i ys σ _ x hi (y xs (hl i ys σ _ (y1l hi) hD p)) hD hl' p) hd
end
section
variable {κ:Type} [DecidableEq κ]
def valV (kvs:List (κ × V)) (k:κ):Option V:=(kvs.find? fun kv=>decide (kv.1=k)).map (·.2)
def putK (kvs:List (κ × V)) (k:κ) (v:V):List (κ × V) :=
 if (kvs.any fun kv=>decide (kv.1=k))=true then kvs.map (fun kv=>if kv.1=k then (kv.1,v) else kv) else kvs ++ [(k,v)]
theorem zpj {k:κ}:valV ([]:List (κ × V)) k=none:=rfl
theorem zbf {p:κ × V} {r:List (κ × V)} {k:κ} (e:p.1=k):valV (p :: r) k=some p.2:=by simp [valV,y27,e]
theorem zbg {p:κ × V} {r:List (κ × V)} {k:κ} (e:¬ p.1=k):valV (p :: r) k=valV r k:=by simp [valV,y27,e]
theorem zcu (k:κ):∀ kvs:List (κ × V),(kvs.any fun kv=>decide (kv.1=k))=(valV kvs k).isSome
 | []=>rfl
 | p :: r=>by
  rw [y4b]
  by_cases e:p.1=k
  ·simp only [zbf e,decide_eq_true e,Bool.true_or,Option.isSome_some]
  ·rw [zbg e,decide_eq_false e,Bool.false_or];exact zcu k r
theorem zjw (k j:κ) (y:V):∀ kvs:List (κ × V),valV (kvs.map fun kv=>if kv.1=k then (kv.1,y) else kv) j=(valV kvs j).map fun x=>if j=k then y else x
 | []=>rfl
 | p :: r=>by
  have ih:=zjw k j y r
  rw [y0u]
  by_cases h:p.1=k
  ·rw [if_pos h]
   by_cases e:p.1=j
   ·rw [zbf (p:=(p.1,y)) e,zbf e,y21,if_pos (e.symm.trans h)]
   ·rw [zbg (p:=(p.1,y)) e,zbg e,ih]
  ·rw [if_neg h]
   by_cases e:p.1=j
   ·rw [zbf (p:=p) e,zbf e,y21,if_neg (fun z=>h (e.trans z))]
   ·rw [zbg (p:=p) e,zbg e,ih]
theorem zhb (k j:κ) (y:V):∀ kvs:List (κ × V),valV kvs k=none→valV (kvs ++ [(k,y)]) j=if j=k then some y else valV kvs j
 | [],_=>by
  by_cases e:k=j
  ·rw [if_pos e.symm];exact zbf (p:=(k,y)) e
  ·rw [if_neg (fun z=>e z.symm)];exact zbg (p:=(k,y)) e
 | p :: r,hn=>by
  rw [y2z]
  have hk:¬ p.1=k:=fun z=>by rw [zbf z] at hn;cases hn
  rw [zbg hk] at hn
  have ih:=zhb k j y r hn
  by_cases e:p.1=j
  ·rw [zbf e,zbf e,if_neg (fun z=>hk (e.trans z))]
  ·rw [zbg e,zbg e,ih]
theorem zjv (kvs:List (κ × V)) (k j:κ) (y:V):valV (putK kvs k y) j=if j=k then some y else valV kvs j:=by
 unfold putK
 by_cases a:(kvs.any fun kv=>decide (kv.1=k))=true
 ·rw [if_pos a,zjw]
  rw [zcu] at a
  by_cases e:j=k
  ·obtain ⟨x,hx⟩:=y38.mp a
   rw [if_pos e,e,hx,y21,if_pos rfl]
  ·rw [if_neg e]
   cases valV kvs j with
   | none=>rfl
   | some x=>rw [y21,if_neg e]
 ·rw [if_neg a]
  refine zhb k j y kvs ?_
  rw [zcu] at a
  cases q:valV kvs k with
  | none=>rfl
  | some x=>rw [q] at a;exact (a rfl).elim
theorem zda (kvs:List (κ × V)) (k:κ) (v:V):(putK kvs k v).length ≤ kvs.length + 1:=by
 unfold putK
 split
 ·rw [y00];omega
 ·rw [y0c,y10,y2h];omega
theorem zkb {kvs:List (κ × V)} {k:κ} (v:V) (h:valV kvs k=none):putK kvs k v=kvs ++ [(k,v)]:=by
 unfold putK
 rw [zcu,h]
 exact if_neg (by decide)
theorem RelO.isSome_eq {o:Option V} {u:Option Value} (r:RelO o u):o.isSome=u.isSome:=by
 cases o with
 | none=>cases u with
  | none=>rfl
  | some _=>exact (show False from r).elim
 | some _=>cases u with
  | none=>exact (show False from r).elim
  | some _=>rfl
theorem KV.val {kvs:List (κ × V)} {vs:List (κ × Value)} (r:KV kvs vs) (k:κ):RelO (valV kvs k) (valueAt vs k):=by
 unfold KV at r
 induction r with
 | nil=>exact True.intro
 | @cons p q ps qs h t ih =>
  obtain ⟨h1,h2⟩:=h
  by_cases e:p.1=k
  ·have e':q.1=k:=h1.symm.trans e
   have b:valueAt (q :: qs) k=some q.2:=by simp [valueAt,y27,e']
   rw [zbf e,b];exact h2
  ·have e':¬ q.1=k:=fun z=>e (h1.trans z)
   have b:valueAt (q :: qs) k=valueAt qs k:=by simp [valueAt,y27,e']
   rw [zbg e,b];exact ih
theorem KV.any {kvs:List (κ × V)} {vs:List (κ × Value)} (r:KV kvs vs) (k:κ):(kvs.any fun kv=>decide (kv.1=k))=vs.any fun kv=>decide (kv.1=k):=by
 unfold KV at r
 induction r with
 | nil=>rfl
 | cons h t ih=>rw [y4b,y4b,ih,h.1]
theorem KV.repl {kvs:List (κ × V)} {vs:List (κ × Value)} (r:KV kvs vs) (k:κ) {y:V} {u:Value} (ry:RelV y u) :
  KV (kvs.map fun kv=>if kv.1=k then (kv.1,y) else kv) (vs.map fun kv=>if kv.1=k then (kv.1,u) else kv):=by
 unfold KV at r ⊢
 induction r with
 | nil=>exact .nil
 | @cons p q ps qs h t ih =>
  rw [y0u,y0u]
  refine .cons ?_ ih
  obtain ⟨h1,h2⟩:=h
  by_cases e:p.1=k
  ·rw [if_pos e,if_pos (h1.symm.trans e)];exact ⟨h1,ry⟩
  ·rw [if_neg e,if_neg (fun z=>e (h1.trans z))];exact ⟨h1,h2⟩
theorem KV.put {kvs:List (κ × V)} {vs:List (κ × Value)} (r:KV kvs vs) (k:κ) {y:V} {u:Value} (ry:RelV y u):KV (putK kvs k y) (stored vs k u):=by
 unfold putK stored
 rw [r.any k]
 by_cases e:(vs.any fun kv=>decide (kv.1=k))=true
 ·rw [if_pos e,if_pos e];exact r.repl k ry
 ·rw [if_neg e,if_neg e];exact Paired.snoc r ⟨rfl,ry⟩
theorem KV.length {kvs:List (κ × V)} {vs:List (κ × Value)} (r:KV kvs vs):kvs.length=vs.length:=Paired.length r
end
theorem zqv {P:Program} {w:World} {k:Key} {u:Value} (r:RelV (kV k) u):(mixKind P w).is k u=true:=by
 cases k with
 | inl i=>obtain ⟨t,e⟩:=(show ∃ t,u=Value.int i t from r);subst e;exact zi9 P w i t
 | inr x=>obtain ⟨t,e⟩:=(show ∃ t,u=Value.str x t from r);subst e;exact zi8 P w x t
theorem zh2 {P:Program} {w:World}:∀ {ks:List Key} {us:List Value},Vals (ks.map kV) us→ItemsAre (mixKind P w) ks us
 | [],_,r=>by rw [y2o] at r;cases r;exact .nil
 | k :: ks,_,r=>by
  rw [y0u] at r
  cases r with
  | cons h t=>exact .cons (zqv h) (zh2 t)
abbrev KT (H:Hp):List (List Key × V)→List (List Key × Addr × Value)→Prop:=Paired fun p q=>p.1=q.1∧H q.2.1=some (.tup (p.1.map kV))∧RelV p.2 q.2.2
theorem KT.val {H:Hp} {kvs:List (List Key × V)} {xs:List (List Key × Addr × Value)} (r:KT H kvs xs) (k:List Key):RelO (valV kvs k) ((atKey xs k).map (·.2)):=by
 induction r with
 | nil=>exact True.intro
 | @cons p q ps qs h t ih =>
  obtain ⟨h1,_,h2⟩:=h
  by_cases e:p.1=k
  ·have e':q.1=k:=h1.symm.trans e
   have b:atKey (q :: qs) k=some q.2:=by simp [atKey,y27,e']
   rw [zbf e,b];exact h2
  ·have e':¬ q.1=k:=fun z=>e (h1.trans z)
   have b:atKey (q :: qs) k=atKey qs k:=by simp [atKey,y27,e']
   rw [zbg e,b];exact ih
theorem KT.repl {H:Hp} {kvs:List (List Key × V)} {xs:List (List Key × Addr × Value)} (r:KT H kvs xs) (k:List Key) {y:V} {u:Value} (ry:RelV y u) :
  KT H (kvs.map fun kv=>if kv.1=k then (kv.1,y) else kv) (xs.map (putAt k u)):=by
 induction r with
 | nil=>exact .nil
 | @cons p q ps qs h t ih =>
  rw [y0u,y0u]
  refine .cons ?_ ih
  obtain ⟨h1,h2,h3⟩:=h
  unfold putAt
  by_cases e:p.1=k
  ·rw [if_pos e,if_pos (h1.symm.trans e)];exact ⟨h1,h2,ry⟩
  ·rw [if_neg e,if_neg (fun z=>e (h1.trans z))];exact ⟨h1,h2,h3⟩
theorem KT.put {H:Hp} {kvs:List (List Key × V)} {xs:List (List Key × Addr × Value)} (r:KT H kvs xs) (k:List Key) {b:Addr} {y:V} {u:Value} (hb:H b=some (.tup (k.map kV))) (ry:RelV y u) :
  KT H (putK kvs k y) (storedH xs k b u):=by
 have e:(kvs.any fun kv=>decide (kv.1=k))=(atKey xs k).isSome:=by
  rw [zcu,(r.val k).isSome_eq,y37]
 unfold putK storedH
 rw [e]
 by_cases q:(atKey xs k).isSome=true
 ·rw [if_pos q,if_pos q];exact r.repl k ry
 ·rw [if_neg q,if_neg q];exact Paired.snoc r ⟨rfl,hb,ry⟩
theorem KT.keeps {H H':Hp} {kvs:List (List Key × V)} {xs:List (List Key × Addr × Value)} (r:KT H kvs xs) (ht:∀ b ys,H b=some (.tup ys)→H' b=some (.tup ys)):KT H' kvs xs :=
 Paired.mapP r fun _ _ z=>⟨z.1,ht _ _ z.2.1,z.2.2⟩
section
variable {P:Program} {w:World} {H:Hp} {h:Heap} {a:Addr}
theorem rd_of {u:HO} (ok:HOk P w H h) (e:Rd H a u):ObjOk P w H h a u:=e.ok ok
theorem zou {kvs:List (Key × V)} (ok:HOk P w H h) (e:Rd H a (.dK kvs)):kvs.length ≤ sizeLine∧(a == sysModules)=false∧∃ vs,KV kvs vs∧h.DictOf (mixKind P w) a vs :=
 show ObjOk P w H h a (.dK kvs) from rd_of ok e
theorem dk_of {kvs:List (Key × V)} (ok:HOk P w H h) (e:H a=some (.dK kvs)):kvs.length ≤ sizeLine∧(a == sysModules)=false∧∃ vs,KV kvs vs∧h.DictOf (mixKind P w) a vs:=zou ok (.inl e)
theorem zf3 {ks:List Key} (ok:HOk P w H h) (e:H a=some (.tup (ks.map kV))):(tupleKind (mixKind P w)).is h ks a:=by
 obtain ⟨_,its,r,o,h1,h2,n,h3⟩:=(show ObjOk P w H h a (.tup (ks.map kV)) from ok a _ e)
 exact ⟨o,its.toArray,n,h1,h2,h3,by simpa using zh2 r⟩
theorem zq7 {kvs:List (List Key × V)} (ok:HOk P w H h) (e:Rd H a (.dT kvs)):kvs.length ≤ sizeLine∧(a == sysModules)=false ∧
  ∃ xs,KT H kvs xs∧h.DictOfH (tupleKind (mixKind P w)) a xs:=by
 obtain ⟨z,y,xs,r,o,es,ep,h1,h2,h3,h4,h5⟩:=(show ObjOk P w H h a (.dT kvs) from rd_of ok e)
 refine ⟨z,y,xs,r,o,es,ep,h1,h2,h3,h4,fun x hx=>?_,h5⟩
 have all:∀ {l:List (List Key × V)} {m:List (List Key × Addr × Value)},KT H l m→∀ x ∈ m,(tupleKind (mixKind P w)).is h x.1 x.2.1:=by
  intro l m q
  induction q with
  | nil=>intro x hx;exact nomatch hx
  | @cons p q ps qs hq t ih =>
   intro x hx
   rcases y0f.mp hx with e | hx
   ·subst e
    exact zf3 ok (by rw [← hq.1];exact hq.2.1)
   ·exact ih x hx
 exact all r x hx
theorem dt_of {kvs:List (List Key × V)} (ok:HOk P w H h) (e:H a=some (.dT kvs)):kvs.length ≤ sizeLine∧(a == sysModules)=false ∧
  ∃ xs,KT H kvs xs∧h.DictOfH (tupleKind (mixKind P w)) a xs:=zq7 ok (.inl e)
end
def KeyV (k:Key) (y:V):Prop:=y=kV k∨∃ b,y=.bl b∧k=.inl (blI b)
theorem KeyV.is {P:Program} {w:World} {k:Key} {y:V} {u:Value} (h:KeyV k y) (r:RelV y u):(mixKind P w).is k u=true:=by
 rcases h with rfl | ⟨b,rfl,rfl⟩
 ·exact zqv r
 ·cases (show u=Value.bool b from r)
  exact zqt b
def DGet (H:Hp) (a:Addr) (y:V) (r:Option V):Prop :=
 (∃ kvs k,Rd H a (.dK kvs)∧KeyV k y∧r=valV kvs k)∨∃ kvs k b,Rd H a (.dT kvs)∧y=.ref b∧H b=some (.tup (k.map kV))∧r=valV kvs k
def DPut (H:Hp) (a:Addr) (y v:V) (H':Hp):Prop :=
 (∃ kvs k,H a=some (.dK kvs)∧KeyV k y∧kvs.length < sizeLine∧H'=upd H a (.dK (putK kvs k v))) ∨
 ∃ kvs k b,H a=some (.dT kvs)∧y=.ref b∧H b=some (.tup (k.map kV))∧kvs.length < sizeLine∧H'=upd H a (.dT (putK kvs k v))
theorem DGet.k {H:Hp} {a:Addr} {kvs:List (Key × V)} {k:Key} (e:H a=some (.dK kvs)):DGet H a (kV k) (valV kvs k):=.inl ⟨kvs,k,.inl e,.inl rfl,rfl⟩
theorem DGet.t {H:Hp} {a b:Addr} {kvs:List (List Key × V)} {k:List Key} (e:H a=some (.dT kvs)) (eb:H b=some (.tup (k.map kV))):DGet H a (.ref b) (valV kvs k):=.inr ⟨kvs,k,b,.inl e,rfl,eb,rfl⟩
theorem DPut.k {H:Hp} {a:Addr} {kvs:List (Key × V)} {k:Key} {v:V} (e:H a=some (.dK kvs)) (hl:kvs.length < sizeLine):DPut H a (kV k) v (upd H a (.dK (putK kvs k v))):=.inl ⟨kvs,k,e,.inl rfl,hl,rfl⟩
theorem DPut.t {H:Hp} {a b:Addr} {kvs:List (List Key × V)} {k:List Key} {v:V} (e:H a=some (.dT kvs)) (eb:H b=some (.tup (k.map kV))) (hl:kvs.length < sizeLine) :
  DPut H a (.ref b) v (upd H a (.dT (putK kvs k v))):=.inr ⟨kvs,k,b,e,rfl,eb,hl,rfl⟩
section
variable {X:Cx} {pins:Z2} {σ:St} {H:Hp} {s:Shared} {a:Addr} {y v:V} {u r:Value} {o:Option V} {A:Around} {E:Z0}
theorem Inv.big (I:Inv X pins σ H s):sysModules < s.heap.objs.size:=by
 have h:mainGlobals < s.heap.objs.size:=(I.mod.glob.keeps I.bk).lt
 exact y22 (by decide) h
theorem zoz {Q:Z0} (hu:A.units + 1 < cLine) (I:Inv X pins σ H s) (g:DGet H a y (some v)) (ry:RelV y u) (h:∀ w' s',Inv X pins σ H s'→RelV v w'→Q w' s') :
  wpAny (model X.prog X.w) A (getItem (.ref a) u) Q E s:=by
 rcases g with ⟨kvs,k,e,ey,l⟩ | ⟨kvs,k,b,e,ey,eb,l⟩
 ·obtain ⟨z,hd,vs,rel,dd⟩:=zou I.hok e
  obtain ⟨w',hw,rw'⟩:=RelO.some_of (v:=v) (o:=valueAt vs k) (by rw [l];exact rel.val k)
  exact wpAny_getItem_of (ey.is ry) dd.mapOf hw (h w' _ (I.tok _) rw')
 ·subst ey
  cases (show u=Value.ref b from ry)
  obtain ⟨z,hd,xs,rel,dd⟩:=zq7 I.hok e
  obtain ⟨w',hw,rw'⟩:=RelO.some_of (v:=v) (o:=(atKey xs k).map (·.2)) (by rw [l];exact rel.val k)
  obtain ⟨p,hp,hp2⟩:=y0z.mp hw
  refine wpAny_getItem_heap (tupleKind_room_in1 hu) (zf3 I.hok eb) dd hp ?_
  rw [hp2]
  exact h w' _ (I.tok _) rw'
theorem d_notIn {Q:Z0} (hu:A.units + 1 < cLine) (I:Inv X pins σ H s) (g:DGet H a y o) (ry:RelV y u) (h:∀ s',Inv X pins σ H s'→Q (.bool (!o.isSome)) s') :
  wpAny (model X.prog X.w) A (compareOp .NotIn u (.ref a)) Q E s:=by
 rcases g with ⟨kvs,k,e,ey,l⟩ | ⟨kvs,k,b,e,ey,eb,l⟩
 ·obtain ⟨z,hd,vs,rel,dd⟩:=zou I.hok e
  refine wpAny_notIn_of (ey.is ry) hd dd.mapOf ?_
  rw [← (rel.val k).isSome_eq,← l]
  exact h _ (I.tok _)
 ·subst ey
  cases (show u=Value.ref b from ry)
  obtain ⟨z,hd,xs,rel,dd⟩:=zq7 I.hok e
  refine wpAny_notIn_heap (tupleKind_room_in1 hu) (zf3 I.hok eb) hd dd ?_
  have q:=(rel.val k).isSome_eq
  rw [y37] at q
  rw [← q,← l]
  exact h _ (I.tok _)
theorem zdc {h':Heap} {t':Nat} {ob:HO} (I:Inv X pins σ H s) (mu:Mut (H a)) (hs:Heap.SameBut a s.heap h') (he:∃ q,h'.get? a=some q) (new:ObjOk X.prog X.w (upd H a ob) h' a ob) :
  Inv X pins σ (upd H a ob) { s with heap:=h',toks:=t' } :=
 I.write (x:=a) (e:=a) mu (.inl rfl) (fun b q hb z=>(hs.2 b hb).trans z) he new
theorem zr7 {P:Program} {w:World} {H':Hp} {h':Heap} {kvs:List (Key × V)} {vs:List (Key × Value)} (z:kvs.length ≤ sizeLine) (hd:(a == sysModules)=false) (rel:KV kvs vs) (dd:h'.DictOf (mixKind P w) a vs) :
  ObjOk P w H' h' a (.dK kvs):=⟨z,hd,vs,rel,dd⟩
theorem zoy {H':Hp} {Q:Unit→Shared→Prop} (hu:A.units + 1 < cLine) (I:Inv X pins σ H s) (g:DPut H a y v H') (ry:RelV y u) (rv:RelV v r) (h:∀ s',Inv X pins σ H' s'→Q () s') :
  wpAny (model X.prog X.w) A (setItem (.ref a) u r) Q E s:=by
 rcases g with ⟨kvs,k,e,ey,l,eH⟩ | ⟨kvs,k,b,e,ey,eb,l,eH⟩
 ·subst eH
  obtain ⟨z,hd,vs,rel,dd⟩:=dk_of I.hok e
  have hz:vs.length ≤ sizeLine:=by rw [← rel.length];exact z
  have hl:(putK kvs k v).length ≤ sizeLine:=by have:=zda kvs k v;omega
  refine wpAny_setItem_pairs (hsz:=hz) (ey.is ry) dd fun h' dd' hs=>h _ ?_
  have he:∃ q,h'.get? a=some q:=let ⟨q,_,_,hq,_⟩:=dd';⟨q,hq⟩
  exact zdc I (by rw [e];exact True.intro) hs he (zr7 hl hd (rel.put k rv) dd')
 ·subst ey eH
  cases (show u=Value.ref b from ry)
  obtain ⟨z,hd,xs,rel,dd⟩:=dt_of I.hok e
  have hz:xs.length ≤ sizeLine:=by rw [← Paired.length rel];exact z
  have hl:(putK kvs k v).length ≤ sizeLine:=by have:=zda kvs k v;omega
  refine wpAny_setItem_heap (hsz:=hz) (tupleKind_room_in1 hu) (zf3 I.hok eb) dd fun h' dd' hs=>h _ ?_
  obtain ⟨q,es,ep,hq,h2,h3,h4,_,h5⟩:=dd'
  refine zdc I (by rw [e];exact True.intro) hs ⟨q,hq⟩ ⟨hl,hd,_,(rel.put k eb rv).keeps fun c ys ec=>?_,q,es,ep,hq,h2,h3,h4,h5⟩
  rw [zal (zlr ec e (fun z=>nomatch z))]
  exact ec
end
section
variable {X:Cx} {pins:Z2} {σ:St} {H:Hp} {s:Shared} {a:Addr} {kvs:List (Key × V)} {k:Key} {u:Value} {A:Around} {E:Z0}
theorem d_len {Q:Z0} (I:Inv X pins σ H s) (e:Rd H a (.dK kvs)) (h:∀ t s',Inv X pins σ H s'→Q (.int kvs.length t) s'):wpAny (model X.prog X.w) A (call (.builtin "len") [.ref a]) Q E s:=by
 obtain ⟨z,hd,vs,rel,dd⟩:=zou I.hok e
 refine call_len_dict hd dd (by rw [← rel.length];rw [sizeLine_eq] at z;omega) ?_
 rw [← rel.length]
 exact h _ _ (I.tok _)
end
def NoSl (i:Expr):Prop:=∀ ov iv,subscripted i false ov iv=operate [ov,iv] (getItem ov iv)
theorem zsj {prog:Program} {w:World} {A:Around} {E:Z0} {s:Shared} {env:Env} {value slice:Expr} {pos:Pos} {T id:String} {Q:Z0}
  (hl:typeLookup (.type T) "__getitem__"=pure (some (.builtin id))) (hs:NoSl slice)
  (h:wpAny (model prog w) A (eval value env) (fun o s₁=>wpAny (model prog w) A (eval slice env) (fun i s₂=>s₂.TypeIs o T∧wpAny (model prog w) A (getItem o i) Q E s₂) E s₁) E s) :
  wpAny (model prog w) A (eval (.Subscript value slice pos) env) Q E s:=by
 refine Subscript_ (wpAny_mono h (fun o s₁ h₁=>wpAny_mono h₁ (fun i s₂ h₂=>?_) fun _ _ x=>x) fun _ _ x=>x)
 obtain ⟨hT,h₂⟩:=h₂
 unfold subscriptTail
 refine wpAny_bind ?_
 rw [getitemInPython_of_ne hT.not_modules]
 refine wpAny_bind (wpAny_specialOf hT hl ?_)
 have fin:wpAny (model prog w) A (subscripted slice false o i) (fun r s₃=>wpAny (model prog w) A (letTemporaryGo value o r >>= fun _=>pure r) Q E s₃) E s₂:=by
  rw [hs o i]
  exact wpAny_operating (wpAny_mono h₂ (fun r s₃ h₃=>wpAny_bind (wpAny_letTemporaryGo (wpAny_pure h₃))) fun _ _ x=>x)
 first
  | exact wpAny_pure (wpAny_bind fin)
  | exact wpAny_bind (wpAny_pure (wpAny_bind fin))
  | exact wpAny_bind fin
theorem zji {X:Cx} {pins:Z2} {σ:St} {H:Hp} {s:Shared} {a:Addr} {y:V} {o:Option V} (I:Inv X pins σ H s) (g:DGet H a y o):s.TypeIs (.ref a) "dict":=by
 rcases g with ⟨kvs,k,e,_,_⟩ | ⟨kvs,k,b,e,_,_,_⟩
 ·obtain ⟨_,_,vs,_,dd⟩:=zou I.hok e
  exact dd.typeIs
 ·obtain ⟨_,_,xs,_,dd⟩:=zq7 I.hok e
  exact dd.typeIs
def tDGet (td ty:TE):TE:=fun σ H Q=>td σ H fun x H1=>ty σ H1 fun y H2=>∃ a v,x=.ref a∧DGet H2 a y (some v)∧Q v H2
def sDPut (td ty tv:TE):TS:=fun D σ H=>tv σ H fun v H1=>td σ H1 fun x H2=>ty σ H2 fun y H3=>∃ a H4,x=.ref a∧DPut H3 a y v H4∧D.nx σ H4
section
variable {X:Cx} {o i e value:Expr} {pos pos' tpos:Pos} {td ty tv:TE}
theorem zs1 (hu:X.A.units + 1 < cLine) (ho:PE X o td) (hi:PE X i ty) (hs:NoSl i):PE X (.Subscript o i pos) (tDGet td ty):=by
 intro pins s σ H Q I h
 refine zsj PySem.F.slot_dict_getitem.lookup hs (thn (ho pins s σ H _ I h) fun u s1 ⟨x,H1,I1,rx,q1⟩=>thn (hi pins s1 σ H1 _ I1 q1) fun iv s2 ⟨y,H2,I2,ry,a,v,ex,g,q2⟩=>?_)
 subst ex
 obtain rfl:u=Value.ref a:=rx
 exact ⟨zji I2 g,zoz hu I2 g ry fun w' s3 I3 rw'=>⟨v,H2,I3,rw',q2⟩⟩
theorem zsv (hu:X.A.units + 1 < cLine) (ho:PE X o td) (hi:PE X i ty) (hv:PE X value tv) (hs:swapsWith value (some (.Subscript o i pos')) pos.line X.env=pure false) :
  PS X (.Assign [.Subscript o i pos'] value pos) (sDPut td ty tv):=by
 intro pins s σ H D I h
 refine wpAny_Assign_Subscript (thn (hv pins s σ H _ I h) fun r s1 ⟨v,H1,I1,rv,q1⟩=>thn (ho pins s1 σ H1 _ I1 q1) fun u s2 ⟨x,H2,I2,rx,q2⟩=>thn (hi pins s2 σ H2 _ I2 q2) fun iv s3 ⟨y,H3,I3,ry,a,H4,ex,g,q3⟩=>?_) hs
 subst ex
 obtain rfl:u=Value.ref a:=rx
 exact zoy hu I3 g ry rv fun s4 I4=>⟨σ,H4,I4,q3⟩
end
theorem zkz {P:Program} {w:World} {H:Hp} (h:Heap) (hb:sysModules < h.objs.size):ObjOk P w H (h.push { cls:=.type "dict",data:=.dict #[] }) h.objs.size (.dK []) :=
 ⟨y1k _,beq_eq_false_iff_ne.mpr (Ne.symm (y0n hb)),[],.nil,Heap.DictOf.new h⟩
theorem zky {P:Program} {w:World} {H:Hp} (h:Heap) (hb:sysModules < h.objs.size):ObjOk P w H (h.push { cls:=.type "dict",data:=.dict #[] }) h.objs.size (.dT []) :=
 ⟨y1k _,beq_eq_false_iff_ne.mpr (Ne.symm (y0n hb)),[],.nil,_,#[],0,y0m _ rfl,⟨rfl,rfl,rfl⟩,rfl,rfl,y2r⟩
def tDNewK:TE:=fun _ H Q=>∀ p,H p=none→Q (.ref p) (upd H p (.dK []))
def tDNewT:TE:=fun _ H Q=>∀ p,H p=none→Q (.ref p) (upd H p (.dT []))
section
variable {X:Cx} {pos:Pos}
theorem zp9:PE X (.Dict [] [] pos) tDNewK:=fun pins s σ H Q I h =>
 wpAny_Dict_empty ⟨.ref s.heap.objs.size,_,I.laid (a:=s.heap.objs.size) (o:=.dK []) (t':=s.toks) (fun _ _ q=>y0b _ q) (y05 _) (zkz s.heap I.big),rfl,h _ (I.hok.fresh (y05 _))⟩
theorem zp7:PE X (.Dict [] [] pos) tDNewT:=fun pins s σ H Q I h =>
 wpAny_Dict_empty ⟨.ref s.heap.objs.size,_,I.laid (a:=s.heap.objs.size) (o:=.dT []) (t':=s.toks) (fun _ _ q=>y0b _ q) (y05 _) (zky s.heap I.big),rfl,h _ (I.hok.fresh (y05 _))⟩
end
def tPairs:List (TE × TE)→St→Hp→(List (V × V)→Hp→Prop)→Prop
 | [],_,H,Q=>Q [] H
 | (tk,tv) :: r,σ,H,Q=>tk σ H fun x H1=>tv σ H1 fun y H2=>tPairs r σ H2 fun ps H3=>Q ((x,y) :: ps) H3
abbrev VV:List (V × V)→List (Value × Value)→Prop:=Paired fun p q=>RelV p.1 q.1∧RelV p.2 q.2
def PPs (X:Cx) (pos:Pos) (keys:List (Option Expr)) (values:List Expr) (trs:List (TE × TE)):Prop :=
 ∀ (pins:Z2) (s:Shared) (σ:St) (H:Hp) (Q:List (V × V)→Hp→Prop),Inv X pins σ H s→tPairs trs σ H Q →
  wpAny (model X.prog X.w) X.A (evalPairs (pairTrees keys values X.env pos)) (fun vs s'=>∃ ps H',Inv X pins σ H' s'∧VV ps vs∧Q ps H') X.xe s
theorem zsx {X:Cx} {pos:Pos}:PPs X pos [] [] []:=fun pins s σ H Q I h=>pairTrees_nil_walk ⟨[],H,I,.nil,h⟩
theorem zp5 {X:Cx} {pos:Pos} {k v:Expr} {ks:List (Option Expr)} {vs:List Expr} {tk tv:TE} {trs:List (TE × TE)} (hk:PE X k tk) (hv:PE X v tv) (hr:PPs X pos ks vs trs) :
  PPs X pos (some k :: ks) (v :: vs) ((tk,tv) :: trs):=fun pins s σ H Q I h =>
 pairTrees_cons_walk (thn (hk pins s σ H _ I h) fun u s1 ⟨x,H1,I1,rx,q1⟩=>thn (hv pins s1 σ H1 _ I1 q1) fun w2 s2 ⟨y,H2,I2,ry,q2⟩ =>
  thn (hr pins s2 σ H2 _ I2 q2) fun ws s3 ⟨ps,H3,I3,rel,q3⟩=>⟨(x,y) :: ps,H3,I3,.cons ⟨rx,ry⟩ rel,q3⟩)
def mergeK (kvs more:List (Key × V)):List (Key × V):=more.foldl (fun acc kv=>putK acc kv.1 kv.2) kvs
theorem KV.merge:∀ {more:List (Key × V)} {rs:List (Key × Value)} {kvs:List (Key × V)} {vs:List (Key × Value)},KV more rs→KV kvs vs→KV (mergeK kvs more) (merged vs rs):=by
 intro more rs kvs vs r
 unfold KV at r
 induction r generalizing kvs vs with
 | nil=>intro q;exact q
 | @cons p q ps qs h t ih =>
  intro r0
  have e:KV (putK kvs p.1 p.2) (stored vs q.1 q.2):=by
   have:=r0.put p.1 h.2
   rw [← h.1];exact this
  exact ih e
theorem zdp:∀ (more kvs:List (Key × V)),(mergeK kvs more).length ≤ kvs.length + more.length
 | [],kvs=>by show kvs.length ≤ kvs.length + 0;omega
 | p :: r,kvs=>by
  have h1:=zdp r (putK kvs p.1 p.2)
  have h2:=zda kvs p.1 p.2
  show (mergeK (putK kvs p.1 p.2) r).length ≤ _
  rw [y10];omega
theorem zf9 {P:Program} {w:World}:∀ {kvs:List (Key × V)} {ws:List (Value × Value)},VV (kvs.map fun kv=>(kV kv.1,kv.2)) ws→∃ rs,Carries (mixKind P w) ws rs∧KV kvs rs
 | [],_,r=>by rw [y2o] at r;cases r;exact ⟨[],True.intro,.nil⟩
 | p :: kvs,_,r=>by
  rw [y0u] at r
  cases r with
  | @cons a b as bs h t =>
   obtain ⟨rs,c,q⟩:=zf9 (P:=P) (w:=w) t
   obtain ⟨b1,b2⟩:=b
   exact ⟨(p.1,b2) :: rs,⟨zqv h.1,rfl,c⟩,.cons ⟨rfl,h.2⟩ q⟩
def tDisp (trs:List (TE × TE)):TE:=fun σ H Q=>∀ p,H p=none→tPairs trs σ (upd H p (.dK [])) fun ps H2=>H2 p=some (.dK [])∧∃ kvs:List (Key × V),ps=kvs.map (fun kv=>(kV kv.1,kv.2))∧kvs.length ≤ 15∧Q (.ref p) (upd H2 p (.dK (mergeK [] kvs)))
theorem zs0 {X:Cx} {pos:Pos} {keys:List (Option Expr)} {values:List Expr} {trs:List (TE × TE)} (h:PPs X pos keys values trs) (hall:keys.all (·.isSome)=true) (hl:keys.length=values.length) (h0:keys ≠ [])
  (h15:keys.length ≤ 15):PE X (.Dict keys values pos) (tDisp trs):=by
 intro pins s σ H Q I q
 have hn:=I.hok.fresh (y05 s.heap.objs.size)
 have I1:=I.laid (a:=s.heap.objs.size) (o:=.dK []) (h':=s.heap.push { cls:=.type "dict",data:=.dict #[] }) (t':=s.toks) (fun _ _ q=>y0b _ q) (y05 _) (zkz s.heap I.big)
 refine wpAny_Dict_walk (knd:=mixKind X.prog X.w) hall hl h0 h15 (thn (h pins _ σ _ _ I1 (q _ hn)) fun ws s2 ⟨ps,H2,I2,rel,e,kvs,ep,lk,q2⟩=>?_)
 subst ep
 obtain ⟨rs,c,rk⟩:=zf9 (P:=X.prog) (w:=X.w) rel
 obtain ⟨z,hd,vs0,r0,dd⟩:=dk_of I2.hok e
 cases r0
 refine ⟨rs,c,dd,fun h' dd' hs=>⟨.ref s.heap.objs.size,_,?_,rfl,q2⟩⟩
 have hz:(mergeK [] kvs).length ≤ sizeLine:=by
  have h1:=zdp kvs []
  rw [y2h] at h1
  rw [sizeLine_eq];omega
 have he:∃ q,h'.get? s.heap.objs.size=some q:=let ⟨q,_,_,hq,_⟩:=dd';⟨q,hq⟩
 exact zdc I2 (by rw [e];exact True.intro) hs he (zr7 hz hd (rk.merge .nil) dd')
section
variable {X:Cx}
theorem zo9:CallR X (.builtin "len") (fun xs H Q=>∃ a kvs,xs=[V.ref a]∧H a=some (.dK kvs)∧Q (.int kvs.length) H):=by
 infer_instance
 obtain ⟨a,kvs,rfl,ha,q⟩:=h
 obtain ⟨u,rfl,ru⟩:=vals1 r
 cases ru
 exact d_len I (.inl ha) fun t s' I'=>⟨.int kvs.length,H,I',⟨t,rfl⟩,q⟩
end
section
variable {κ:Type} [DecidableEq κ]
theorem zmc {kvs:List (κ × V)} {k:κ} {v:V} (h:valV kvs k=some v):k ∈ kvs.map (·.1):=by
 have q:(kvs.any fun kv=>decide (kv.1=k))=true:=by
  rw [zcu,h]
  all_goals rfl
 obtain ⟨p,hp,e⟩:=y24.mp q
 exact y09.mpr ⟨p,hp,of_decide_eq_true e⟩
end
def notStar:Expr→Bool
 | .Starred _ _=>false
 | _=>true
theorem zbd {e:Expr} {es:List Expr} {env:Env} (h:notStar e=true):starEach (e :: es) env=(false,eval e env) :: starEach es env:=by
 cases e with
 | Starred v q=>exact absurd (show false=true from h) y0l
 | _=>rw [starEach.eq_def]
theorem zbw:∀ {es:List Expr} {env:Env} {pos:Pos},es.all notStar=true→(backTo pos (starEach es env)).any (·.1)=false
 | [],env,pos,_=>by rw [starEach.eq_def];rfl
 | e :: r,env,pos,h=>by
  rw [List.all_cons,y18] at h
  rw [zbd h.1]
  exact zbw h.2
section
variable {X:Cx} {x:Str} {p pos:Pos} {e:Expr} {es:List Expr} {te:TE} {t:TA} {T id:String} {r:List V→Hp→VK→Prop}
theorem pa_c (ha:PE X e te) (hr:PA X es t) (h:notStar e=true:=by rfl):PA X (e :: es) (tCons te t):=zs3 ha hr (zbd h)
theorem zau (hc:CallR X (.builtin id) r) (hg:Gl X x) (hm:X.mg x=none) (hv:bootBuiltins x=some (.builtin id)) (ha:PA X (e :: es) t) (hn:x ≠ "__name__":=by decide) (hdb:(x == ("__debug__":Str))=false:=by decide)
  (h1:notStar e=true:=by rfl) (h2:es.all notStar=true:=by rfl):PE X (.Call (.Name x p) (e :: es) [] pos) (tCB r t):=zqc hc hg hm hv ha hn hdb (zbd h1) (zbw h2)
theorem za6 (hc:CallR X (.type T) r) (hg:Gl X x) (hm:X.mg x=none) (hv:bootBuiltins x=some (.type T)) (ha:PA X (e :: es) t) (hn:x ≠ "__name__":=by decide) (hdb:(x == ("__debug__":Str))=false:=by decide)
  (h1:notStar e=true:=by rfl) (h2:es.all notStar=true:=by rfl):PE X (.Call (.Name x p) (e :: es) [] pos) (tCB r t):=zng hc hg hm hv ha hn hdb (zbd h1) (zbw h2)
end
structure Dfn (K:Frag) (mg:Z1) (x:Str) (st:Stmt) (ps:List Str):Prop where
 ex:∃ f fd,Fun K x x st f fd∧Binds K fd ps []∧mg x=some (.ref f)
structure Cal (P:Program) (w:World) (K:Frag) (mg:Z1) (base:Heap) (n:Nat) (x:Str) (ps:List Str) (sp:Sp):Prop where
 ex:∃ f fd,FnOk P w K mg base CX0 n f fd ps sp∧Binds K fd ps []∧PySem.W.keepIn K (.ref f)=true∧mg x=some (.ref f)
section
variable {P:Program} {w:World} {K:Frag} {mg:Z1} {base:Heap}
theorem Dfn.cal {x:Str} {st:Stmt} {N ps:List Str} {k:Nat} {sp:Sp} (d:Dfn K mg x st ps) (S:FnScope N ps (defScope st)) (len:∀ vs H Q E,sp vs H Q E→vs.length=ps.length)
  (hbody:∀ (f:Addr) (cdv:Value) (A:Around) (outer:List Env) (s:Shared) (H:Hp) (vs:List V) (Q:VK) (E:XK),Room k (A.deeper (envOfC x (defScope st) s.heap.objs.size f cdv))→sp vs H Q E →
   ∃ t,PSs (cxOf CX0 P w K mg base N x (defScope st) f cdv A outer s H E).nox (defBody st) t∧t { nx:=fun _ H'=>Q .non H',rt:=Q } (start N vs) H):Cal P w K mg base (k + 1) x ps sp:=by
 obtain ⟨f,fd,F,b,m⟩:=d.ex
 exact ⟨f,fd,F.ok S len (hbody f),b,F.kp,m⟩
end
section
variable {X:Cx} {n k:Nat} {x:Str} {ps:List Str} {sp:Sp} {p pos:Pos} {e:Expr} {es:List Expr} {t:TA}
theorem zao (C:Cal X.prog X.w X.K X.mg X.base n x ps sp) (hr:Room k X.A) (hle:n ≤ k) (hg:Gl X x) (ha:PA X (e :: es) t) (hdb:(x == ("__debug__":Str))=false:=by decide)
  (h1:notStar e=true:=by rfl) (h2:es.all notStar=true:=by rfl):PE X (.Call (.Name x p) (e :: es) [] pos) (tCall sp [] E0 t):=by
 obtain ⟨f,fd,F,b,kp,m⟩:=C.ex
 exact zs2 F (hr.mono hle) hg m kp b .nil pass0 ha hdb (zbd h1) (zbw h2)
def GlV (mg:Z1) (x:Str) (v:V):Prop:=∃ u,mg x=some u∧RelV v u
theorem zfo {v:V} (hg:Gl X x) (h:GlV X.mg x v) (hd:(x == ("__debug__":Str))=false:=by decide):PE X (.Name x pos) (tC v):=by
 obtain ⟨u,m,r⟩:=h
 exact znc hg m r hd
end
theorem CompOk.of {X:Cx} {scope:Scope} {cp:Z6} (kind:scope.kind=.function)
  (h1:(scope.names.all fun y=>y.2 != .cell && (y.2 != .local || scope.names.lookup y.1 == some .local) && (y.2 != .free || (X.env.scope.names.lookup y.1 == some .cell || X.env.scope.names.lookup y.1 == some .free)))=true)
  (h2:(cp.all fun p=>X.N[p.1]? == some p.2 && scope.names.lookup p.2 == some .free)=true):CompOk X scope cp:=by
 have g:=y1n.mp h1
 refine ⟨kind,fun y hy e=>?_,fun y hy e=>?_,fun y hy e=>?_,fun p hp=>?_⟩
 ·have q:=g y hy
  rw [y18,y18] at q
  rw [e] at q
  exact absurd q.1.1 (by decide)
 ·have q:=g y hy
  rw [y18,y18] at q
  have q:=q.1.2
  rw [e] at q
  simpa using q
 ·have q:=g y hy
  rw [y18,y18] at q
  have q:=q.2
  rw [e] at q
  have q:X.env.scope.names.lookup y.1=some .cell∨X.env.scope.names.lookup y.1=some .free:=by simpa using q
  exact q
 ·have q:=y1n.mp h2 p hp
  rw [y18] at q
  exact ⟨by simpa using q.1,by simpa using q.2⟩
inductive Kd (H:Hp):V→String→Prop where
 | non:Kd H .non "NoneType"
 | bl (b:Bool):Kd H (.bl b) "bool"
 | int (i:Int):Kd H (.int i) "int"
 | str (z:Str):Kd H (.str z) "str"
 | lst {a:Addr} {xs:List V} (e:H a=some (.lst xs)):Kd H (.ref a) "list"
 | tup {a:Addr} {xs:List V} (e:H a=some (.tup xs)):Kd H (.ref a) "tuple"
 | dK {a:Addr} {kvs:List (Key × V)} (e:H a=some (.dK kvs)):Kd H (.ref a) "dict"
def kinds:List String:=["NoneType","bool","int","str","list","tuple","dict"]
def subT (k T:String):Bool:=k == T || (k == "bool" && T == "int")
theorem kit_ok (K:Frag):∀ k ∈ kinds,∀ T ∈ ["str","list","tuple","bool","int","dict"],PySem.W.kitOne K (.type k) (.type T)=some (subT k T):=by
 intro k hk T hT
 simp only [kinds,y0f,y1y,or_false] at hk hT
 rcases hk with rfl | rfl | rfl | rfl | rfl | rfl | rfl <;> rcases hT with rfl | rfl | rfl | rfl | rfl | rfl <;> first | rfl | kernel_rfl
theorem Kd.ty {K:Frag} {H:Hp} {x:V} {k:String} (h:Kd H x k):TyOf K H x (.type k)∧k ∈ kinds:=by
 cases h with
 | non=>exact ⟨.non,by decide⟩
 | bl b=>exact ⟨.bl b,by decide⟩
 | int i=>exact ⟨.int i,by decide⟩
 | str z=>exact ⟨.str z,by decide⟩
 | lst e=>exact ⟨.lst e,by decide⟩
 | tup e=>exact ⟨.tup e,by decide⟩
 | dK e=>exact ⟨.dK e,by decide⟩
theorem Kd.same {H H':Hp} {x:V} {k:String} (h:Kd H x k) (g:Same H H'):Kd H' x k:=by
 cases h with
 | non=>exact .non
 | bl b=>exact .bl b
 | int i=>exact .int i
 | str z=>exact .str z
 | lst e=>exact .lst (g _ _ e)
 | tup e=>exact .tup (g _ _ e)
 | dK e=>exact .dK (g _ _ e)
theorem Kd.inj {H:Hp} {x:V} {k k':String} (h:Kd H x k) (h':Kd H x k'):k=k':=by
 cases h with
 | lst e=>cases h' with | lst _=>rfl | tup e'=>rw [e] at e';cases e' | dK e'=>rw [e] at e';cases e'
 | tup e=>cases h' with | lst e'=>rw [e] at e';cases e' | tup _=>rfl | dK e'=>rw [e] at e';cases e'
 | dK e=>cases h' with | lst e'=>rw [e] at e';cases e' | tup e'=>rw [e] at e';cases e' | dK _=>rfl
 | non=>cases h';rfl
 | bl _=>cases h';rfl
 | int _=>cases h';rfl
 | str _=>cases h';rfl
theorem zbr {X:Cx}:CallR X (.builtin "isinstance") (fun xs H Q=>∃ x T k,xs=[x,.ty T]∧Kd H x k∧T ∈ ["str","list","tuple","bool","int","dict"]∧Q (.bl (subT k T)) H):=by
 infer_instance
 obtain ⟨x,T,k,e,hk,hT,q⟩:=h
 obtain ⟨h1,h2⟩:=hk.ty (K:=X.K)
 exact zjp pins s σ H xs us Q I r ⟨x,T,.type k,_,e,h1,kit_ok X.K k h2 T hT,q⟩
theorem zbh {H:Hp} {p:Addr} (h:H p=none) (o:HO):Same H (upd H p o):=fun b u q=>by rw [zal (zaf q h)];exact q
theorem Same.seqT {K:Frag} {H H':Hp} {a:Addr} {xs:List V} (e:Same H H') (h:SqT K H a xs):SqT K H' a xs:=by
 rcases h with (h | ⟨o,h⟩) | h
 ·exact .inl (.inl (e _ _ h))
 ·exact .inl (.inr ⟨o,e _ _ h⟩)
 ·exact .inr h
section
variable {H:Hp} {Q:VK} {v:V} {a:Option V} {r:St} {i:Nat}
theorem zba {t:TS} {D:Ends} {σ:St} (σ':St) (e:σ=σ') (h:t D σ' H):t D σ H:=by rw [e];exact h
theorem zdi:tVar 0 (some v :: r) H Q=Q v H:=by simp [tVar]
theorem zfn:tVar (i + 1) (a :: r) H Q=tVar i r H Q:=rfl
theorem rd_ii {a b:Int}:(scal (.int a) (.int b)=true)=True:=by simp [scal]
def cBody (tn:List Str) (cp:Z6) (g:TG) (tif:TT) (te:TE) (σ:St) (Q:VK) (J:It) (H1:Hp):Prop:=∀ D,H1 D=none→∃ W:Nat→Nat→St→Hp→Prop,
 (∃ m,W 0 m (stB tn cp σ) (upd H1 D (.lst [])))∧∀ i m σb Hb,W i m σb Hb →
  (J.stop i Hb∧Q (.ref D) Hb)∨(J.go i Hb∧∀ x H',J.yld i Hb x H'→g x σb H' fun σ2 H2=>tif σ2 H2 fun c H3 =>
   if c=true then te σ2 H3 fun y H4=>∃ ys,H4 D=some (.lst ys)∧ys.length < sizeLine∧∃ m',m' < m∧W (i + 1) m' σ2 (upd H4 D (.lst (ys ++ [y])))
   else ∃ m',m' < m∧W (i + 1) m' σ2 H3)
theorem zgj {tn:List Str} {cp:Z6} {wi:TI} {g:TG} {tif:TT} {te:TE} {σ:St}:tComp tn cp wi g tif te σ H Q=wi σ H fun J H1=>cBody tn cp g tif te σ Q J H1:=rfl
def fBody (g:TG) (tb:TS) (D:Ends) (σ:St) (J:It) (H1:Hp):Prop:=∃ W:Nat→Nat→St→Hp→Prop,(∃ m,W 0 m σ H1)∧∀ i m σ H,W i m σ H →
 (J.stop i H∧D.nx σ H)∨(J.go i H∧∃ N:St→Hp→Prop,(∀ σ' H',N σ' H'→∃ m',m' < m∧W (i + 1) m' σ' H')∧∀ x H',J.yld i H x H'→g x σ H' fun σ2 H2=>tb { D with nx:=N,ct:=N,bk:=D.nx } σ2 H2)
theorem zrm {wi:TI} {g:TG} {tb:TS} {D:Ends} {σ:St}:tFor wi g tb D σ H=wi σ H fun J H1=>fBody g tb D σ J H1:=rfl
end
section
variable {tn:List Str} {cp:Z6} {g:TG} {tif:TT} {te:TE} {σ0:St} {Q:VK} {H1:Hp}
theorem cb_by {J:It} (n:Nat) (Pv:Addr→Nat→List V→St→Hp→Prop) (hn:n ≤ sizeLine) (h0:∀ D,H1 D=none→Pv D 0 [] (stB tn cp σ0) (upd H1 D (.lst [])))
  (hgo:∀ D i ys σ H,H1 D=none→i < n→H D=some (.lst ys)→Pv D i ys σ H→J.go i H) (hstop:∀ D ys σ H,H1 D=none→H D=some (.lst ys)→Pv D n ys σ H→J.stop n H)
  (hs:∀ D i ys σ H x H',H1 D=none→i < n→H D=some (.lst ys)→ys.length ≤ i→Pv D i ys σ H→J.yld i H x H'→g x σ H' fun σ2 H2=>tif σ2 H2 fun c H3 =>
   if c=true then te σ2 H3 fun y H4=>CStep D n i (Pv D) σ2 y H4 else CSkip D n i (Pv D) σ2 H3)
  (hd:∀ D ys σ H,H1 D=none→H D=some (.lst ys)→ys.length ≤ n→Pv D n ys σ H→Q (.ref D) H):cBody tn cp g tif te σ0 Q J H1:=fun D hD =>
 zo2 (Pv D) hn (h0 D hD) (fun i ys σ H=>hgo D i ys σ H hD) (fun ys σ H=>hstop D ys σ H hD) (fun i ys σ H hi hH hl p x H' y=>hs D i ys σ H x H' hD hi hH hl p y) (fun ys σ H=>hd D ys σ H hD)
theorem zo7 {K:Frag} {a:Addr} {xs:List V} (Pv:Addr→Nat→List V→St→Hp→Prop) (hn:xs.length ≤ sizeLine) (h0:∀ D,H1 D=none→Pv D 0 [] (stB tn cp σ0) (upd H1 D (.lst [])))
  (hl:∀ D i ys σ H,H1 D=none→i ≤ xs.length→H D=some (.lst ys)→Pv D i ys σ H→SqL K H a xs)
  (hs:∀ D i ys σ H x,H1 D=none→i < xs.length→xs[i]?=some x→H D=some (.lst ys)→ys.length ≤ i→Pv D i ys σ H→g x σ H fun σ2 H2=>tif σ2 H2 fun c H3 =>
   if c=true then te σ2 H3 fun y H4=>CStep D xs.length i (Pv D) σ2 y H4 else CSkip D xs.length i (Pv D) σ2 H3)
  (hd:∀ D ys σ H,H1 D=none→H D=some (.lst ys)→ys.length ≤ xs.length→Pv D xs.length ys σ H→Q (.ref D) H):cBody tn cp g tif te σ0 Q (Itl K a) H1:=fun D hD =>
 zo1 (Pv D) hn (h0 D hD) (fun i ys σ H=>hl D i ys σ H hD) (fun i ys σ H x=>hs D i ys σ H x hD) (fun ys σ H=>hd D ys σ H hD)
theorem cb_tup {K:Frag} {a:Addr} {xs:List V} (Pv:Addr→Nat→List V→St→Hp→Prop) (hn:xs.length ≤ sizeLine) (h0:∀ D,H1 D=none→Pv D 0 [] (stB tn cp σ0) (upd H1 D (.lst [])))
  (hl:∀ D i ys σ H,H1 D=none→i ≤ xs.length→H D=some (.lst ys)→Pv D i ys σ H→SqT K H a xs)
  (hs:∀ D i ys σ H x,H1 D=none→i < xs.length→xs[i]?=some x→H D=some (.lst ys)→ys.length ≤ i→Pv D i ys σ H→g x σ H fun σ2 H2=>tif σ2 H2 fun c H3 =>
   if c=true then te σ2 H3 fun y H4=>CStep D xs.length i (Pv D) σ2 y H4 else CSkip D xs.length i (Pv D) σ2 H3)
  (hd:∀ D ys σ H,H1 D=none→H D=some (.lst ys)→ys.length ≤ xs.length→Pv D xs.length ys σ H→Q (.ref D) H):cBody tn cp g tif te σ0 Q (Itt K a) H1 :=
 cb_by xs.length Pv hn h0 (fun D i ys σ H hD hi hH p=>⟨xs,xs[i],hl D i ys σ H hD (y1l hi) hH p,by simp [hi]⟩) (fun D ys σ H hD hH p=>⟨xs,hl D _ ys σ H hD (y05 _) hH p,y05 _⟩) (fun D i ys σ H x H' hD hi hH hl' p y=>by
  obtain ⟨e,y⟩:=y
  subst e
  exact hs D i ys σ _ x hD hi (y xs (hl D i ys σ _ hD (y1l hi) hH p)) hH hl' p) hd
variable {tb:TS} {D:Ends}
theorem zcp {K:Frag} {a:Addr} {xs:List V} (Pv:Nat→St→Hp→Prop) (h0:Pv 0 σ0 H1) (hl:∀ i σ H,i ≤ xs.length→Pv i σ H→SqL K H a xs)
  (hs:∀ i x σ H,xs[i]?=some x→Pv i σ H→g x σ H fun σ2 H2=>tb { D with nx:=Pv (i + 1),ct:=Pv (i + 1),bk:=D.nx } σ2 H2) (hd:∀ σ H,Pv xs.length σ H→D.nx σ H):fBody g tb D σ0 (Itl K a) H1:=zq4 Pv h0 hl hs hd
theorem zdq {K:Frag} {a:Addr} {xs:List V} (Pv:Nat→St→Hp→Prop) (h0:Pv 0 σ0 H1) (hl:∀ i σ H,i ≤ xs.length→Pv i σ H→SqT K H a xs)
  (hs:∀ i x σ H,xs[i]?=some x→Pv i σ H→g x σ H fun σ2 H2=>tb { D with nx:=Pv (i + 1),ct:=Pv (i + 1),bk:=D.nx } σ2 H2) (hd:∀ σ H,Pv xs.length σ H→D.nx σ H):fBody g tb D σ0 (Itt K a) H1:=ztq Pv h0 hl hs hd
theorem zb6 {lo:Int} {n:Nat} (Pv:Nat→St→Hp→Prop) (h0:Pv 0 σ0 H1)
  (hs:∀ i σ H,i < n→Pv i σ H→g (.int (lo + i)) σ H fun σ2 H2=>tb { D with nx:=Pv (i + 1),ct:=Pv (i + 1),bk:=D.nx } σ2 H2) (hd:∀ σ H,Pv n σ H→D.nx σ H):fBody g tb D σ0 (Itr lo n) H1:=zon Pv h0 hs hd
end
def cutL {α:Type} (xs:List α) (lo hi:Option Int):List α:=(xs.drop (HT.sIx xs.length 0 lo)).take (HT.sIx xs.length xs.length hi - HT.sIx xs.length 0 lo)
theorem zia {α:Type} (xs:List α) (k:Nat):cutL xs (some (k:Int)) none=xs.drop k:=by
 unfold cutL
 rw [HT.sIx_nat,HT.sIx_none,y0r (by rw [y2b];exact y05 _)]
 by_cases h:k ≤ xs.length
 ·rw [y3j h]
 ·rw [Nat.min_eq_right (by omega),y4e (y05 _),y4e (by omega)]
theorem zd2 {α:Type} {c:α} {r:List α}:atI (c :: r) 0=some c:=zai (j:=0) rfl
theorem RcOk.up {X:Cx} {j k:Nat} {H:Hp} {x y:V} {b:Bool} (h:RcOk X j H x y b) (hjk:j ≤ k):RcOk X k H x y b:=fun pins σ s A u v hu=>h pins σ s A u v (by omega)
theorem zab {n:Nat} (h:n ≤ 1000):n ≤ sizeLine:=y1l (small1000 h)
theorem zfq {A:Around} {k:Nat} (hr:Room k A) (j:Nat) (h:j ≤ 64):A.units + j < cLine:=by have:=hr.units;omega
section
variable {K:Frag} {h:Heap} {mg:Z1}
theorem dfn_mk {x:Str} {st:Stmt} {ps:List Str} {f:Addr} {oc:Value} {od an:Option Addr} {osl:Z8} {kV doc pm cdv ct:Value} (X:K.In h) (G:h.Ns mainGlobals mg)
  (a:PySem.W.nsIn K mainGlobals x=some (some (.ref f))) (l:K.lookup f=some ⟨oc,od,.func (PySem.W.fnOf x x (defArgs st) (defBody st) (defScope st) .none kV doc pm an cdv ct),osl⟩)
  (c:PySem.W.codeIn K cdv x=true) (k:PySem.W.keepIn K (.ref f)=true)
  (hb:∀ (kV doc pm:Value) (an:Option Addr) (cdv ct:Value) (us:List Value),us.length=ps.length→bindArgs (PySem.W.fnOf x x (defArgs st) (defBody st) (defScope st) .none kV doc pm an cdv ct) ⟨us,[]⟩=pure (ps.zip us)):Dfn K mg x st ps :=
 ⟨f,_,zkw l c k,(zkw l c k).binds hb,PySem.W.mg_of X G a⟩
theorem law_mk {x y:Str} {st:Stmt} {f fa:Addr} {oc:Value} {od an:Option Addr} {osl:Z8} {kV doc pm cdv ct:Value} (X:K.In h) (G:h.Ns mainGlobals mg) (hfa:mg x=some (.ref fa))
  (a:PySem.W.nsIn K mainGlobals x=some (some (.ref f))) (l:K.lookup f=some ⟨oc,od,.func (PySem.W.fnOf x x (defArgs st) (defBody st) (defScope st) .none kV doc pm an cdv ct),osl⟩)
  (c:PySem.W.codeIn K cdv x=true) (k:PySem.W.keepIn K (.ref f)=true) (hb:∀ (s:Shared) (v:Value),BindsTo s (PySem.W.fnOf x x (defArgs st) (defBody st) (defScope st) .none kV doc pm an cdv ct) ⟨[v],[]⟩ [(y,v)]) :
  ∃ fd:FuncData,(∀ (s:Shared) (v:Value),BindsTo s fd ⟨[v],[]⟩ [(y,v)])∧Fun K x x st fa fd:=by
 have e:=hfa.symm.trans (PySem.W.mg_of X G a)
 cases e
 exact ⟨_,hb,zkw l c k⟩
theorem glv_mk {x:Str} {u:Value} {v:V} (X:K.In h) (G:h.Ns mainGlobals mg) (a:PySem.W.nsIn K mainGlobals x=some (some u)) (r:RelV v u):GlV mg x v:=⟨u,PySem.W.mg_of X G a,r⟩
end
section
variable {CX:CXT} {P:Program} {w:World} {K:Frag} {mg:Z1} {base:Heap} {N:List Str} {x:Str} {sc:Scope} {f:Addr} {cdv:Value} {A:Around} {outer:List Env} {s:Shared} {H:Hp} {E:XK}
theorem cxK:(cxOf CX P w K mg base N x sc f cdv A outer s H E).K=K:=rfl
theorem cxP:(cxOf CX P w K mg base N x sc f cdv A outer s H E).prog=P:=rfl
theorem cxW:(cxOf CX P w K mg base N x sc f cdv A outer s H E).w=w:=rfl
end
section
variable {X:Cx} {st:Stmt} {rest:List Stmt} {t u:TS} {e:Expr} {te:TE}
def tCut (t u:TS):TS:=fun D σ H=>∃ Pv:St→Hp→Prop,t { D with nx:=Pv } σ H∧∀ σ' H',Pv σ' H'→u D σ' H'
theorem zdx (h1:PS X st t) (h2:PSs X rest u):PSs X (st :: rest) (tCut t u):=by
 intro pins s σ H D I h
 obtain ⟨Pv,q1,q2⟩:=h
 refine wpAny_execs_cons (thn (h1 pins s σ H { D with nx:=Pv } I q1) fun f s1 q=>?_)
 cases f with
 | next =>
  obtain ⟨σ',H',I',q⟩:=q
  exact h2 pins s1 σ' H' D I' (q2 σ' H' q)
 | ret v=>exact q
 | brk=>exact q
 | cont=>exact q
end
local instance (priority:=10000):BEq Key:=instBEqOfDecidableEq
local instance (priority:=10000):LawfulBEq Key:=inferInstanceAs (LawfulBEq (Sum Int Str))
structure New (H:Hp) (p:Addr) (o:HO) (H':Hp):Prop where
 nil:H p=none
 g:Same H H'
 at':H' p=some o
 eq:H'=upd H p o
theorem New.mk' {H:Hp} {p:Addr} (h:H p=none) (o:HO):New H p o (upd H p o):=⟨h,zbh h o,zam,rfl⟩
theorem Same.wr {H H':Hp} {p:Addr} (g:Same H H') (h:H p=none) (o:HO):Same H (upd H' p o):=fun b u e=>by rw [zal (zaf e h)];exact g b u e
section
variable {X:Cx} {e:Expr} {es:List Expr} {t:TA} {pos:Pos}
def tTupN (t:TA):TE:=fun σ H Q=>t σ H fun xs H1=>xs.length ≤ sizeLine∧∀ p H',New H1 p (.tup xs) H'→Q (.ref p) H'
def tLstN (t:TA):TE:=fun σ H Q=>t σ H fun xs H1=>xs.length ≤ sizeLine∧∀ p H',New H1 p (.lst xs) H'→Q (.ref p) H'
theorem zay {x1} (h:PA X es t):PE X (.Tuple es x1 pos) (tTupN t):=by
 intro pins s σ H Q I hq
 refine wpAny_Tuple_spliced (thn (h pos pins s σ H _ I hq) fun us s1 ⟨xs,H1,I1,r,z,q⟩=>⟨by rw [← r.length];exact z,?_⟩)
 refine ⟨.ref s1.heap.objs.size,upd H1 s1.heap.objs.size (.tup xs),I1.laid (t':=s1.toks) (fun b u e=>y0b _ e) (y05 _) ?_,rfl,q _ _ (.mk' I1.fresh _)⟩
 exact ⟨z,us,r,⟨_,y0m _ rfl,rfl,_,rfl⟩⟩
theorem zat (h:PA X es t):PE X (.List es pos) (tLstN t):=by
 intro pins s σ H Q I hq
 refine wpAny_List_spliced (thn (h pos pins s σ H _ I hq) fun us s1 ⟨xs,H1,I1,r,z,q⟩=>⟨by rw [← r.length];exact z,?_⟩)
 refine ⟨.ref s1.heap.objs.size,upd H1 s1.heap.objs.size (.lst xs),I1.laid (t':=s1.toks) (fun b u e=>y0b _ e) (y05 _) ?_,rfl,q _ _ (.mk' I1.fresh _)⟩
 exact ⟨z,us,0,r,y0m _ rfl⟩
def rSlLN (K:Frag):V→Option Int→Option Int→Hp→VK→Prop:=fun x lo hi H Q=>∃ a xs,x=.ref a∧SqL K H a xs∧∀ p H',New H p (.lst (cutL xs lo hi)) H'→Q (.ref p) H'
theorem zpu:SlR X (rSlLN X.K):=fun pins s σ H x v vl vu lo hi sl Q I rx hs pl pu h=>by
 obtain ⟨a,xs,e,hx,q⟩:=h
 exact zsl pins s σ H x v vl vu lo hi sl Q I rx hs pl pu ⟨a,xs,e,hx,fun p np=>q p _ (.mk' np _)⟩
def rCatN:R2:=fun x y H Q=>∃ l b xs zs,x=.ref l∧y=.ref b∧H l=some (.lst xs)∧H b=some (.lst zs)∧xs.length + zs.length ≤ sizeLine∧∀ p H',New H p (.lst (xs ++ zs)) H'→Q (.ref p) H'
theorem ze2:OpR X (binaryOp .Add) rCatN:=fun pins s σ H x y v u Q I rx ry h=>by
 obtain ⟨l,b,xs,zs,e1,e2,h1,h2,hz,q⟩:=h
 exact op_cat pins s σ H x y v u Q I rx ry ⟨l,b,xs,zs,e1,e2,h1,h2,hz,fun p np=>q p _ (.mk' np _)⟩
theorem zag:CallR X (.type "tuple") (fun xs H Q=>∃ p ys,xs=[.ref p]∧((SqL X.K H p ys∧∀ l H',New H l (.tup ys) H'→Q (.ref l) H')∨(SqT X.K H p ys∧Q (.ref p) H))):=fun pins s σ H xs us Q I r h=>by
 obtain ⟨p,ys,e,hq⟩:=h
 refine zgz pins s σ H xs us Q I r ⟨p,ys,e,?_⟩
 rcases hq with ⟨h1,q⟩ | h1
 ·exact .inl ⟨h1,fun l nl=>q l _ (.mk' nl _)⟩
 ·exact .inr h1
end
section
variable {tn:List Str} {cp:Z6} {g:TG} {tif:TT} {te:TE} {σ0:St} {Q:VK} {H1:Hp} {K:Frag} {a:Addr} {xs:List V}
def PMap (S:St→Prop) (f:V→V) (xs:List V) (H1:Hp) (i:Nat) (ys:List V) (σ:St) (H:Hp):Prop:=Same H1 H∧S σ∧ys=(xs.take i).map f
theorem zo3 (S:St→Prop) (f:V→V) (hn:xs.length ≤ 1000) (hS:SqL K H1 a xs) (h0:S (stB tn cp σ0))
  (hs:∀ D i σ H x,i < xs.length→x ∈ xs→xs[i]?=some x→Same H1 H→H1 D=none→H D=some (.lst ((xs.take i).map f))→S σ→g x σ H fun σ2 H2=>tif σ2 H2 fun c H3 =>
   if c=true then te σ2 H3 fun y H4=>CStep D xs.length i (PMap S f xs H1) σ2 y H4 else CSkip D xs.length i (PMap S f xs H1) σ2 H3)
  (hd:∀ D H,H1 D=none→Same H1 H→H D=some (.lst (xs.map f))→Q (.ref D) H):cBody tn cp g tif te σ0 Q (Itl K a) H1:=by
 refine zo7 (K:=K) (a:=a) (xs:=xs) (fun D i ys σ H=>PMap S f xs H1 i ys σ H) (zab hn) (fun D hD=>⟨zbh hD _,h0,rfl⟩) (fun D i ys σ H _ _ _ p=>p.1.seq hS) ?_ ?_
 ·rintro D i ys σ H x hD hi hx hH hl ⟨p1,p2,rfl⟩
  exact hs D i σ H x hi (y0a hx) hx p1 hD hH p2
 ·rintro D ys σ H hD hH hl ⟨p1,p2,rfl⟩
  rw [y0r (y05 _)] at hH
  exact hd D H hD p1 hH
theorem zf7 (S:St→Prop) (f:V→V) (hn:xs.length ≤ 1000) (hS:SqT K H1 a xs) (h0:S (stB tn cp σ0))
  (hs:∀ D i σ H x,i < xs.length→x ∈ xs→xs[i]?=some x→Same H1 H→H1 D=none→H D=some (.lst ((xs.take i).map f))→S σ→g x σ H fun σ2 H2=>tif σ2 H2 fun c H3 =>
   if c=true then te σ2 H3 fun y H4=>CStep D xs.length i (PMap S f xs H1) σ2 y H4 else CSkip D xs.length i (PMap S f xs H1) σ2 H3)
  (hd:∀ D H,H1 D=none→Same H1 H→H D=some (.lst (xs.map f))→Q (.ref D) H):cBody tn cp g tif te σ0 Q (Itt K a) H1:=by
 refine cb_tup (K:=K) (a:=a) (xs:=xs) (fun D i ys σ H=>PMap S f xs H1 i ys σ H) (zab hn) (fun D hD=>⟨zbh hD _,h0,rfl⟩) (fun D i ys σ H _ _ _ p=>p.1.seqT hS) ?_ ?_
 ·rintro D i ys σ H x hD hi hx hH hl ⟨p1,p2,rfl⟩
  exact hs D i σ H x hi (y0a hx) hx p1 hD hH p2
 ·rintro D ys σ H hD hH hl ⟨p1,p2,rfl⟩
  rw [y0r (y05 _)] at hH
  exact hd D H hD p1 hH
theorem zcr {S:St→Prop} {f:V→V} {D:Addr} {i:Nat} {x y:V} {σ2:St} {H4:Hp} (hn:xs.length ≤ 1000) (hx:xs[i]?=some x) (hD:H1 D=none) (h4:H4 D=some (.lst ((xs.take i).map f))) (g4:Same H1 H4) (s2:S σ2) (e:y=f x) :
  CStep D xs.length i (PMap S f xs H1) σ2 y H4:=by
 have hi:i < xs.length:=(y04.mp hx).1
 refine cstep (zab hn) hi h4 (by rw [y00,y0y];omega) ⟨g4.wr hD _,s2,?_⟩
 rw [y1e,hx,y15,e]
 rfl
end
end L2
namespace SS
open PySem PySem.Spec PyProof.Rows L2
def Thing (H:Hp) (y:V):Prop:=(∃ k,Kd H y k)∧∀ z,y=.str z→z.length ≤ 1000
theorem Thing.str {H:Hp} {z:Str} (h:z.length ≤ 1000):Thing H (.str z):=⟨⟨_,.str z⟩,fun z' e=>by cases e;exact h⟩
theorem Thing.tup {H:Hp} {a:Addr} {xs:List V} (e:H a=some (.tup xs)):Thing H (.ref a):=⟨⟨_,.tup e⟩,fun z' e=>by cases e⟩
def zmm (K:Frag):Sp:=fun vs H Q _=>∃ (a:Addr) (ns:List Int) (k:Int),vs=[.ref a,.int k]∧SqL K H a (ns.map V.int)∧0 ≤ k∧∀ c,Q (.int c) H
theorem zrb {α β:Type} (f:α→β) (xs:List α) (lo hi:Option Int):cutL (xs.map f) lo hi=(cutL xs lo hi).map f:=by
 unfold cutL
 rw [y00,List.map_take,List.map_drop]
end SS
namespace L2
section
variable {X:Cx} {k:Nat} {H:Hp} {a b:Addr} {xs ys:List V}
def rSlTN (K:Frag):V→Option Int→Option Int→Hp→VK→Prop:=fun x lo hi H Q=>∃ a xs,x=.ref a∧SqT K H a xs ∧
 ¬ (HT.sIx xs.length 0 lo=0∧HT.sIx xs.length xs.length hi=xs.length)∧∀ p H',New H p (.tup (cutL xs lo hi)) H'→Q (.ref p) H'
theorem zsk:SlR X (rSlTN X.K):=fun pins s σ H x v vl vu lo hi sl Q I rx hs pl pu h=>by
 obtain ⟨a,xs,e,hx,hw,q⟩:=h
 exact sl_tup pins s σ H x v vl vu lo hi sl Q I rx hs pl pu ⟨a,xs,e,hx,hw,fun p np=>q p _ (.mk' np _)⟩
end
section
variable {X:Cx} (K:Frag)
theorem za3 (h:X.K=K:=by rfl):IxR X (rIxL K):=h ▸ ztg
theorem zaj (h:X.K=K:=by rfl):IxR X (rIxT K):=h ▸ ix_tup
theorem zmo (h:X.K=K:=by rfl):SlR X (rSlLN K):=h ▸ zpu
theorem zpt (h:X.K=K:=by rfl):SlR X (rSlTN K):=h ▸ zsk
def rLen:List V→Hp→VK→Prop:=fun xs H Q=>∃ p ys,xs=[.ref p]∧(SqL K H p ys∨SqT K H p ys)∧Q (.int (List.length ys)) H
theorem zak (h:X.K=K:=by rfl):CallR X (.builtin "len") (rLen K):=h ▸ zii
def rAll:List V→Hp→VK→Prop:=fun xs H Q=>∃ (p:Addr) (bs:List Bool),xs=[.ref p]∧SqL K H p (bs.map V.bl)∧Q (.bl (bs.all id)) H
theorem zcs (hc:X.calm=true) (h:X.K=K:=by rfl):CallR X (.builtin "all") (rAll K):=h ▸ zjr hc
def rAny:List V→Hp→VK→Prop:=fun xs H Q=>∃ (p:Addr) (bs:List Bool),xs=[.ref p]∧SqL K H p (bs.map V.bl)∧Q (.bl (bs.any id)) H
theorem zik (hc:X.calm=true) (h:X.K=K:=by rfl):CallR X (.builtin "any") (rAny K):=h ▸ zjq hc
def rSum:List V→Hp→VK→Prop:=fun xs H Q=>∃ (p:Addr) (ns:List Int),xs=[.ref p]∧SqL K H p (ns.map V.int)∧Q (.int ns.sum) H
theorem zg0 (hc:X.calm=true) (h:X.K=K:=by rfl):CallR X (.builtin "sum") (rSum K):=h ▸ zig hc
theorem zaz {tg l:Expr} {tl:TE} (hl:PE X l tl) (h:X.K=K:=by rfl):PI X tg l (iList K tl):=h ▸ zsz hl
theorem za8 {tg l:Expr} {tl:TE} (hl:PE X l tl) (h:X.K=K:=by rfl):PI X tg l (iTup K tl):=h ▸ pi_tup hl
variable {o e:Expr} {es:List Expr} {to:TE} {t:TA} {name:Str} {apos cpos:Pos} {T id:String} {r:V→List V→Hp→VK→Prop}
theorem zck (pa:PlainAttrs T) (slot:Slot T name id) (hty:typeOf (.builtin id)=pure (.type "method_descriptor")) (hm:MtR X id r) (ho:PE X o to) (ha:PA X (e :: es) t) (h:X.K=K:=by rfl)
  (hbase:attributeBase o name X.env (eval o X.env)=eval o X.env:=by rfl)
  (hfew:((backTo cpos (starEach (e :: es) X.env)).all (fun x=>!x.1) && (backToKw cpos (keywordEach [] X.env)).all (fun x=>x.1.isSome)
   && decide ((e :: es).length + ([]:List Keyword).length + (if ([]:List Keyword).isEmpty then 0 else 1) < 30))=true:=by rfl)
  (hline:(apos.endLine == cpos.line)=true:=by rfl) (h1:notStar e=true:=by rfl) (h2:es.all notStar=true:=by rfl) :
  PE X (.Call (.Attribute o name apos) (e :: es) [] cpos) (tBM K T r to t):=h ▸ pe_bm pa slot hty hm ho ha hbase hfew hline (zbd h1) (zbw h2)
end
end L2
namespace SS
open PySem PySem.Spec PyProof.Rows L2
inductive Sy where
 | bare (w n m:Str)
 | neg (s:Sy)
 | two (w:Str) (s t:Sy)
 | qu (w n:Str) (s:Sy)
theorem Paired.at {α β:Type} {R:α→β→Prop}:∀ {xs:List α} {ys:List β} {i:Nat} {x:α},Paired R xs ys→xs[i]?=some x→∃ y,ys[i]?=some y∧R x y
 | _,_,_,_,.nil,h=>by simp at h
 | _,_,0,_,.cons h _,e=>by simp at e;subst e;exact ⟨_,rfl,h⟩
 | _,_,i + 1,_,.cons _ h,e=>by simp only [y1w] at e ⊢;exact Paired.at h e
theorem Paired.len {α β:Type} {R:α→β→Prop}:∀ {xs:List α} {ys:List β},Paired R xs ys→xs.length=ys.length
 | _,_,.nil=>rfl
 | _,_,.cons _ h=>by rw [y10,y10,Paired.len h]
end SS
namespace L2
theorem zez {X:Cx} (K:Frag) {es:List Expr} {k:Nat} {t:TGs} {n:Nat} {pos:Pos} (hc:X.calm=true) (h:PGs X es t) (hK:X.K=K:=by rfl)
  (hn:(assignEach es X.env).length=n:=by rfl) (hst:(assignEach es X.env).findIdx? (·.1)=none:=by rfl):PG X (.Tuple es k pos) (gTup K n t):=hK ▸ pg_tup hc h hn hst
section
variable {tn:List Str} {cp:Z6} {g:TG} {tif:TT} {te:TE} {σ0:St} {Q:VK} {H1:Hp} {K:Frag} {a:Addr} {xs:List V}
theorem ci_list (S:St→Prop) (f:Nat→V) (hn:xs.length ≤ 1000) (hS:SqL K H1 a xs) (h0:S (stB tn cp σ0))
  (hs:∀ D i σ H x,i < xs.length→xs[i]?=some x→Same H1 H→H1 D=none→H D=some (.lst ((List.range i).map f))→S σ→g x σ H fun σ2 H2=>tif σ2 H2 fun c H3 =>
   if c=true then te σ2 H3 fun v H4=>CStep D xs.length i (fun i ws σ H=>Same H1 H∧S σ∧ws=(List.range i).map f) σ2 v H4 else CSkip D xs.length i (fun i ws σ H=>Same H1 H∧S σ∧ws=(List.range i).map f) σ2 H3)
  (hd:∀ D H,H1 D=none→Same H1 H→H D=some (.lst ((List.range xs.length).map f))→Q (.ref D) H):cBody tn cp g tif te σ0 Q (Itl K a) H1:=by
 refine zo7 (K:=K) (a:=a) (xs:=xs) (fun D i ws σ H=>Same H1 H∧S σ∧ws=(List.range i).map f) (zab hn) (fun D hD=>⟨zbh hD _,h0,rfl⟩) (fun D i ys σ H _ _ _ p=>p.1.seq hS) ?_ ?_
 ·rintro D i ys σ H x hD hi hx hH hl ⟨p1,p2,rfl⟩
  exact hs D i σ H x hi hx p1 hD hH p2
 ·rintro D ys σ H hD hH hl ⟨p1,p2,rfl⟩
  exact hd D H hD p1 hH
end
end L2
namespace SS
open PySem PySem.Spec PyProof.Rows L2
def Exp (H:Hp):Nat→V→Prop
 | 0,v=>Thing H v
 | n + 1,v=>Thing H v∧∀ a xs,v=.ref a→H a=some (.tup xs)→xs.length ≤ 1000∧∀ x ∈ xs,Exp H n x
end SS
set_option maxHeartbeats 1000000
namespace SS
open PySem PySem.Spec PyProof.Rows L2
inductive Lit where
 | str (z:Str)
 | oth
 | tnil
 | tcons (x r:Lit)
 deriving DecidableEq
def Oth (H:Hp) (v:V):Prop:=∃ k,Kd H v k∧k ≠ "str"∧k ≠ "tuple"
def LitAt (H:Hp):Lit→V→Prop
 | .str z,v=>v=.str z∧z.length ≤ 1000
 | .oth,v=>Oth H v
 | .tnil,v=>∃ a,v=.ref a∧H a=some (.tup [])
 | .tcons x r,v=>∃ a y ys,v=.ref a∧H a=some (.tup (y :: ys))∧ys.length ≤ 100∧LitAt H x y∧Items H r ys
where Items (H:Hp):Lit→List V→Prop
 | .tcons x r,ys=>∃ z zs,ys=z :: zs∧LitAt H x z∧Items H r zs
 | .tnil,ys=>ys=[]
 | _,_=>False
abbrev Items:=LitAt.Items
theorem Oth.same {H H':Hp} {v:V} (g:Same H H') (h:Oth H v):Oth H' v:=let ⟨k,z,r⟩:=h;⟨k,z.same g,r⟩
mutual
theorem LitAt.same {H H':Hp} (g:Same H H'):∀ {l:Lit} {v:V},LitAt H l v→LitAt H' l v
 | .str z,_,h=>h
 | .oth,_,h=>Oth.same g h
 | .tnil,_,⟨a,e,h⟩=>⟨a,e,g _ _ h⟩
 | .tcons x r,_,⟨a,y,ys,e,h,hl,h1,h2⟩=>⟨a,y,ys,e,g _ _ h,hl,LitAt.same g h1,Items.same g h2⟩
theorem Items.same {H H':Hp} (g:Same H H'):∀ {l:Lit} {ys:List V},Items H l ys→Items H' l ys
 | .tcons x r,_,⟨z,zs,e,h1,h2⟩=>⟨z,zs,e,LitAt.same g h1,Items.same g h2⟩
 | .tnil,_,h=>h
 | .str _,_,h=>h
 | .oth,_,h=>h
end
theorem LitAt.thing {H:Hp}:∀ {l:Lit} {v:V},LitAt H l v→Thing H v
 | .str z,_,⟨e,h⟩=>by subst e;exact .str h
 | .oth,v,⟨k,h,h1,_⟩=>⟨⟨k,h⟩,fun z e=>by subst e;cases h;exact absurd rfl h1⟩
 | .tnil,_,⟨a,e,h⟩=>by subst e;exact .tup h
 | .tcons x r,_,⟨a,y,ys,e,h,_,_,_⟩=>by subst e;exact .tup h
mutual
theorem LitAt.exp {H:Hp}:∀ (n:Nat) {l:Lit} {v:V},LitAt H l v→Exp H n v
 | 0,_,_,h=>h.thing
 | n + 1,.str z,_,h=>⟨h.thing,fun a xs e _=>by rw [h.1] at e;cases e⟩
 | n + 1,.oth,v,h=>⟨h.thing,fun a xs e e'=>by
  subst e
  obtain ⟨k,hk,_,h2⟩:=h
  exact absurd (hk.inj (.tup e')) h2⟩
 | n + 1,.tnil,_,h=>⟨h.thing,fun a xs e e'=>by
  obtain ⟨a',e1,e2⟩:=h
  rw [e] at e1
  cases e1
  rw [e2] at e'
  cases e'
  exact ⟨y1k _,fun x hx=>nomatch hx⟩⟩
 | n + 1,.tcons x r,_,h=>⟨h.thing,fun a xs e e'=>by
  obtain ⟨a',y,ys,e1,e2,hl,h1,h2⟩:=h
  rw [e] at e1
  cases e1
  rw [e2] at e'
  cases e'
  refine ⟨by rw [y10];omega,fun x' hx=>?_⟩
  rcases y0f.mp hx with rfl | hx
  ·exact LitAt.exp n h1
  ·exact Items.exp n h2 x' hx⟩
theorem Items.exp {H:Hp}:∀ (n:Nat) {l:Lit} {ys:List V},Items H l ys→∀ y ∈ ys,Exp H n y
 | n,.tcons x r,_,⟨z,zs,e,h1,h2⟩,y,hy=>by
  subst e
  rcases y0f.mp hy with rfl | hy
  ·exact LitAt.exp n h1
  ·exact Items.exp n h2 y hy
 | n,.tnil,_,h,y,hy=>by rw [show _=[] from h] at hy;exact nomatch hy
 | n,.str _,_,h,y,hy=>False.elim h
 | n,.oth,_,h,y,hy=>False.elim h
end
end SS
namespace L2
variable {X:Cx}
section
variable {X:Cx} {k:Nat} {H:Hp} {a b:Addr} {xs ys:List V}
theorem eqV_int (a b:Int):eqV (.int a) (.int b)=decide (a=b):=by
 by_cases h:a=b
 ·subst h;simp [eqV]
 ·simp [eqV,h]
theorem zpd:∀ (xs ys:List Int),(xs.length == ys.length && (List.range xs.length).all fun j=>eqV ((xs.map V.int).getD j .non) ((ys.map V.int).getD j .non))=decide (xs=ys)
 | [],[]=>rfl
 | [],y :: ys=>by simp
 | x :: xs,[]=>by simp
 | x :: xs,y :: ys=>by
  have ih:=zpd xs ys
  have e:(List.range (x :: xs).length).all (fun j=>eqV (((x :: xs).map V.int).getD j .non) (((y :: ys).map V.int).getD j .non)) =
    (decide (x=y) && (List.range xs.length).all fun j=>eqV ((xs.map V.int).getD j .non) ((ys.map V.int).getD j .non)):=by
   rw [y10,y4c,List.all_cons,y4g]
   exact congrArg (· && _) (eqV_int x y)
  rw [e]
  have e2:((x :: xs).length == (y :: ys).length)=(xs.length == ys.length):=by simp
  rw [e2]
  by_cases hx:x=y
  ·subst hx
   rw [decide_eq_true rfl,y2k,ih]
   simp
  ·rw [decide_eq_false hx,y47,y3p]
   simp [hx]
theorem zh6 (xs:List Int):(xs.map V.int).all flatV=true:=by
 rw [y1n]
 intro x hx
 obtain ⟨z,_,rfl⟩:=y09.mp hx
 rfl
def rNeI (K:Frag):R2:=fun x y H Q=>∃ (a b:Addr) (xs ys:List Int),x=.ref a∧y=.ref b∧SqL K H a (xs.map V.int)∧SqL K H b (ys.map V.int)∧Q (.bl (!decide (xs=ys))) H
theorem op_neI (hu:X.A.units + 8 < cLine):OpR X (compareOp .NotEq) (rNeI X.K):=by
 intro pins s σ H x y v u Q I rx ry h
 obtain ⟨a,b,xs,ys,rfl,rfl,h1,h2,q⟩:=h
 cases (show v=Value.ref a from rx)
 cases (show u=Value.ref b from ry)
 obtain ⟨us,r1,p1,_⟩:=I.list h1
 obtain ⟨vs,r2,p2,_⟩:=I.list h2
 have l1:=r1.length
 have l2:=r2.length
 have hu':X.A.units < cLine:=by omega
 by_cases hl:us.length=vs.length
 ·have z:=SeqAt.RcNeAt.lists (A:=X.A) (s:=s) (e:=fun j=>eqV ((xs.map V.int).getD j .non) ((ys.map V.int).getD j .non)) p1.isList p2.isList (by rw [y06,y06];exact hl) hu' fun j h1 h2=>by
   rw [y06] at h1 h2
   obtain ⟨g1,q1⟩:=r1.at h1
   obtain ⟨g2,q2⟩:=r2.at h2
   have e1:(xs.map V.int).getD j .non=(xs.map V.int)[j]:=by rw [y03,y01 g1];rfl
   have e2:(ys.map V.int).getD j .non=(ys.map V.int)[j]:=by rw [y03,y01 g2];rfl
   rw [e1,e2]
   refine zr6 (by simpa using q1) (by simpa using q2) ?_ ?_
   ·exact y1n.mp (zh6 xs) _ (y0q g1)
   ·exact y1n.mp (zh6 ys) _ (y0q g2)
  have e:=zpd xs ys
  rw [y00] at l1 l2
  rw [show (xs.length == ys.length)=true by simp;omega,y2k] at e
  rw [y06,← l1,e] at z
  exact z _ _ _ _ ⟨.bl (!decide (xs=ys)),H,I,rfl,q⟩
 ·have z:=SeqAt.RcNeAt.lists_lengths (A:=X.A) (s:=s) p1.isList p2.isList (by rw [y06,y06];simpa using hl) hu'
  have e:decide (xs=ys)=false:=decide_eq_false fun h=>by rw [h,y00] at l1;rw [y00] at l2;omega
  rw [e] at q
  exact z _ _ _ _ ⟨.bl true,H,I,rfl,q⟩
variable (K:Frag)
theorem zs5 (hu:X.A.units + 8 < cLine) (h:X.K=K:=by rfl):OpR X (compareOp .NotEq) (rNeI K):=h ▸ op_neI hu
end
section
variable {tn:List Str} {cp:Z6} {g:TG} {tif:TT} {te:TE} {σ0:St} {Q:VK} {H1:Hp} {lo:Int} {n:Nat}
def PRng (S:St→Prop) (f:Nat→V) (H1:Hp) (i:Nat) (ys:List V) (σ:St) (H:Hp):Prop:=Same H1 H∧S σ∧ys=(List.range i).map f
theorem zo0 (S:St→Prop) (f:Nat→V) (hn:n ≤ 1000) (h0:S (stB tn cp σ0))
  (hs:∀ D i σ H,i < n→Same H1 H→H1 D=none→H D=some (.lst ((List.range i).map f))→S σ→g (.int (lo + i)) σ H fun σ2 H2=>tif σ2 H2 fun c H3 =>
   if c=true then te σ2 H3 fun v H4=>CStep D n i (PRng S f H1) σ2 v H4 else CSkip D n i (PRng S f H1) σ2 H3)
  (hd:∀ D H,H1 D=none→Same H1 H→H D=some (.lst ((List.range n).map f))→Q (.ref D) H):cBody tn cp g tif te σ0 Q (Itr lo n) H1:=by
 refine cb_by n (fun D=>PRng S f H1) (zab hn) (fun D hD=>⟨zbh hD _,h0,rfl⟩) (fun D i ys σ H _ hi _ _=>hi) (fun D ys σ H _ _ _=>y05 _) ?_ ?_
 ·rintro D i ys σ H x H' hD hi hH hl ⟨p1,p2,rfl⟩ ⟨rfl,rfl⟩
  exact hs D i σ _ hi p1 hD hH p2
 ·rintro D ys σ H hD hH hl ⟨p1,p2,rfl⟩
  exact hd D H hD p1 hH
theorem zjj {S:St→Prop} {f:Nat→V} {D:Addr} {i:Nat} {v:V} {σ2:St} {H4:Hp} (hn:n ≤ 1000) (hi:i < n) (hD:H1 D=none) (h4:H4 D=some (.lst ((List.range i).map f))) (g4:Same H1 H4) (s2:S σ2) (e:v=f i):CStep D n i (PRng S f H1) σ2 v H4:=by
 subst e
 refine cstep (zab hn) hi h4 (by simp) ⟨g4.wr hD _,s2,?_⟩
 rw [y2s,y15]
 rfl
end
def TupS (H H':Hp):Prop:=∀ b xs,H b=some (.tup xs)→H' b=some (.tup xs)
theorem Same.tups {H H':Hp} (g:Same H H'):TupS H H':=fun b xs e=>g b _ e
theorem TupS.refl (H:Hp):TupS H H:=fun _ _ e=>e
theorem TupS.trans {H H1 H2:Hp} (a:TupS H H1) (b:TupS H1 H2):TupS H H2:=fun c xs e=>b c xs (a c xs e)
theorem TupS.wr {H:Hp} {p:Addr} {xs:List V} (h:H p=some (.lst xs)) (o:HO):TupS H (upd H p o):=fun b ys e=>by rw [zal (zlr e h (by intro z;cases z))];exact e
end L2
namespace SM
open PySem PySem.Spec PyProof.Rows L2 SS
abbrev nV (n:Nat):V:=.int (n:Int)
def Line (H:Hp) (v:V) (l:List Nat):Prop:=∃ a,v=.ref a∧H a=some (.tup (l.map nV))
theorem Line.ts {H H':Hp} {v:V} {l:List Nat} (h:Line H v l) (g:TupS H H'):Line H' v l:=let ⟨a,e,z⟩:=h;⟨a,e,g _ _ z⟩
theorem Paired.at2 {α β:Type} {R:α→β→Prop}:∀ {xs:List α} {ys:List β} {i:Nat} {y:β},Paired R xs ys→ys[i]?=some y→∃ x,xs[i]?=some x∧R x y
 | _,_,_,_,.nil,h=>by simp at h
 | _,_,0,_,.cons h _,e=>by simp at e;subst e;exact ⟨_,rfl,h⟩
 | _,_,i + 1,_,.cons _ h,e=>by simp only [y1w] at e ⊢;exact Paired.at2 h e
theorem Paired.snoc {α β:Type} {R:α→β→Prop}:∀ {xs:List α} {ys:List β} {x:α} {y:β},Paired R xs ys→R x y→Paired R (xs ++ [x]) (ys ++ [y])
 | _,_,_,_,.nil,h=>.cons h .nil
 | _,_,_,_,.cons h t,z=>.cons h (Paired.snoc t z)
theorem zkk (l:List Nat):l.map nV=(l.map fun (n:Nat)=>(n:Int)).map V.int:=by rw [y0v];rfl
end SM
namespace L2
theorem DGet.b {H:Hp} {a:Addr} {kvs:List (Key × V)} {b:Bool} (e:H a=some (.dK kvs)):DGet H a (.bl b) (valV kvs (.inl (blI b))):=.inl ⟨kvs,_,.inl e,.inr ⟨b,rfl,rfl⟩,rfl⟩
theorem DPut.b {H:Hp} {a:Addr} {kvs:List (Key × V)} {b:Bool} {v:V} (e:H a=some (.dK kvs)) (hl:kvs.length < sizeLine):DPut H a (.bl b) v (upd H a (.dK (putK kvs (.inl (blI b)) v))):=.inl ⟨kvs,_,e,.inr ⟨b,rfl,rfl⟩,hl,rfl⟩
theorem DGet.n {H:Hp} {a:Addr} {kvs:List (Key × V)} {n:Int} (e:H a=some (.dK kvs)):DGet H a (.int n) (valV kvs (.inl n)):=DGet.k (k:=.inl n) e
theorem DPut.n {H:Hp} {a:Addr} {kvs:List (Key × V)} {n:Int} {v:V} (e:H a=some (.dK kvs)) (hl:kvs.length < sizeLine):DPut H a (.int n) v (upd H a (.dK (putK kvs (.inl n) v))):=DPut.k (k:=.inl n) e hl
def rInDc (neg:Bool):R2:=fun y x H Q=>∃ a o,x=.ref a∧DGet H a y o∧Q (.bl (if neg then !o.isSome else o.isSome)) H
section
variable {X:Cx} {o i value:Expr} {pos pos':Pos} {td ty tv:TE}
theorem zcx (hu:X.A.units + 8 < cLine):OpR X (compareOp .NotIn) (rInDc true):=by
 intro pins s σ H y x v u Q I ry rx h
 obtain ⟨a,o,rfl,g,q⟩:=h
 obtain rfl:u=Value.ref a:=rx
 exact d_notIn (by omega) I g ry fun s3 I3=>⟨.bl (!o.isSome),H,I3,rfl,q⟩
theorem zdl (hu:X.A.units + 8 < cLine) (ho:PE X o td) (hi:PE X i ty) (hs:NoSl i):PE X (.Subscript o i pos) (tDGet td ty):=zs1 (by omega) ho hi hs
theorem zcw (hu:X.A.units + 8 < cLine) (ho:PE X o td) (hi:PE X i ty) (hv:PE X value tv) (hs:swapsWith value (some (.Subscript o i pos')) pos.line X.env=pure false) :
  PS X (.Assign [.Subscript o i pos'] value pos) (sDPut td ty tv):=zsv (by omega) ho hi hv hs
def tDNewN:TE:=fun _ H Q=>∀ p H',New H p (.dK []) H'→Q (.ref p) H'
def tDNewTN:TE:=fun _ H Q=>∀ p H',New H p (.dT []) H'→Q (.ref p) H'
theorem zp8:PE X (.Dict [] [] pos) tDNewN:=fun pins s σ H Q I h=>zp9 pins s σ H Q I fun p np=>h p _ (.mk' np _)
theorem ze0:PE X (.Dict [] [] pos) tDNewTN:=fun pins s σ H Q I h=>zp7 pins s σ H Q I fun p np=>h p _ (.mk' np _)
def rLenD:List V→Hp→VK→Prop:=fun xs H Q=>∃ a kvs,xs=[V.ref a]∧H a=some (.dK kvs)∧Q (.int kvs.length) H
theorem zl3:CallR X (.builtin "len") rLenD:=zo9
end
section
variable {prog:Program} {w:World} {κ:Type} [DecidableEq κ] {knd:HeapKind prog w κ} {A:Around} {E:Z0} {s:Shared}
theorem zja (d:Addr) (hd:(d == sysModules)=false) :
  MeetsIn prog w (Builtin.«dict.__len__» ⟨[.ref d],[]⟩) (fun _ R s=>∃ xs,s.heap.DictOfH knd d xs∧R (.ok (.ret (.int xs.length s.toks))) { s with toks:=s.toks + 1 }) :=
 .of_wp fun A R s ⟨xs,hm,h⟩=>by
  obtain ⟨o,es,ep,ho,hc,hdat,he,_⟩:=hm
  show wpAny _ _ (dictSize d >>= _) _ _ s
  unfold dictSize
  refine wpAny_bind (wpAny_bind (wpAny_dictEntries ho hdat (wpAny_pure ?_)))
  show wpAny _ _ (Builtin.Dict.pendingCount d >>= _) _ _ s
  refine wpAny_bind (wpAny_pendingCount_other hd (wpAny_ret_mkInt ?_))
  have e:es.size=xs.length:=by rw [← y0x,he,y00]
  rw [Nat.add_zero,e]
  exact h
theorem zlu {d:Addr} {xs:List (κ × Addr × Value)} {Q:Z0} (hd:(d == sysModules)=false) (hm:s.heap.DictOfH knd d xs) (hfit:(xs.length:Int) < 2 ^ 63) (hT:s.TypeIs (.ref d) "dict")
  (h:Q (.int xs.length (s.toks + 1)) { s with toks:=s.toks + 1 + 1 }):wpAny (model prog w) A (call (.builtin "len") [.ref d]) Q E s:=by
 refine Calls.call_function_entry kind_len plain_len entry_len (args_len1 _) ?_
 unfold Builtin.«len»
 refine wpAny_bind (m:=oneArg "len" _) (wpAny_pure ?_)
 refine wpAny_bind (m:=callSpecial? (.ref d) (Str.ofString "__len__")) (wpAny_callSpecial?_slot (name:=Str.ofString "__len__") hT PySem.F.slot_dict_len (call_meetsIn PySem.F.slot_dict_len hT PySem.F.entry_dict_len (PySem.F.args_dict_len_1 _) (zja d hd) ⟨xs,hm,?_⟩))
 show wpAny _ _ _ _ _ { s with toks:=s.toks + 1 }
 refine wpAny_bind (wpAny_holding (wpAny_pure (wpAny_bind (wpAny_letGo ?_))))
 show wpAny _ _ (if ((xs.length:Nat):Int) < 0 then _ else _) _ _ _
 rw [if_neg (by omega)]
 show wpAny _ _ (if ((xs.length:Nat):Int) ≥ 2 ^ 63 then _ else _) _ _ _
 rw [if_neg (by omega)]
 exact wpAny_bind (wpAny_mkInt (wpAny_pure ⟨_,rfl,h⟩))
end
def rLenT:List V→Hp→VK→Prop:=fun xs H Q=>∃ a kvs,xs=[V.ref a]∧H a=some (.dT kvs)∧Q (.int kvs.length) H
theorem zo8 {X:Cx}:CallR X (.builtin "len") rLenT:=by
 infer_instance
 obtain ⟨a,kvs,rfl,ha,q⟩:=h
 obtain ⟨u,rfl,ru⟩:=vals1 r
 cases ru
 obtain ⟨z,hd,ys,rel,dd⟩:=dt_of I.hok ha
 have el:=Paired.length rel
 have hT:s.TypeIs (.ref a) "dict":=by obtain ⟨o,_,_,ho,hc,_⟩:=id dd;exact ⟨o,ho,hc.1⟩
 refine zlu hd dd (by rw [sizeLine_eq] at z;omega) hT ?_
 rw [← el]
 exact ⟨.int kvs.length,H,I.tok _,⟨_,rfl⟩,q⟩
def rMaxL (K:Frag):List V→Hp→VK→Prop:=fun xs H Q=>∃ (p:Addr) (ns:List Int),xs=[.ref p]∧SqL K H p (ns.map V.int)∧0 < ns.length∧∀ M,M ∈ ns→(∀ a ∈ ns,a ≤ M)→Q (.int M) H
theorem zl2 {X:Cx} (hc:X.calm=true):CallR X (.builtin "max") (rMaxL X.K):=by
 infer_instance
 obtain ⟨p,ns,rfl,hx,hne,q⟩:=h
 obtain ⟨u,rfl,rx⟩:=vals1 r
 cases (show u=Value.ref p from rx)
 obtain ⟨vs,rv,pl,_⟩:=I.list hx
 have hi:=zd0 rv
 obtain ⟨xs,e⟩:=hi.allInts.items
 have hl':s.heap.IsList p (intItems xs):=e ▸ pl.isList
 have hns:ns=xs.toList.map (·.1):=by
  rw [← nums_intItems,← e]
  exact (show numsOf vs.toArray.toList=ns from hi.numsOf).symm
 have hsz:0 < xs.size:=by rw [hns,y00,y0x] at hne;exact hne
 refine max_intList (I.ok.hd hc) hl' hsz fun v h' tk hv hk=>?_
 obtain ⟨t,rfl⟩:=intItems_at hv
 obtain ⟨h1,h2⟩:=argBest_gt (numAt xs) (xs.size - 1)
 refine ⟨.int _,H,I.kept hk,⟨_,rfl⟩,q _ ?_ fun a ha=>?_⟩
 ·rw [hns,numAt_eq];exact getD_mem (by rw [y00,y0x];omega)
 ·rw [hns] at ha
  obtain ⟨j,hj,rfl⟩:=mem_getD ha
  rw [y00,y0x] at hj
  rw [← numAt_eq];exact h2 j (by omega)
theorem zjo {X:Cx} (K:Frag) (hc:X.calm=true) (h:X.K=K:=by rfl):CallR X (.builtin "max") (rMaxL K):=h ▸ zl2 hc
def rIndex (K:Frag):V→List V→Hp→VK→Prop:=fun x vs H Q=>∃ (p:Addr) (ns:List Int) (k:Int),x=.ref p∧vs=[.int k]∧SqL K H p (ns.map V.int)∧k ∈ ns∧ns.length ≤ 1000∧Q (.int (ns.idxOf k:Nat)) H
theorem zqr {X:Cx}:MtR X "list.index" (rIndex X.K):=by
 intro pins s σ H x xs v us Q I rx rs h
 obtain ⟨p,ns,k,rfl,rfl,hx,hk,hz,q⟩:=h
 cases rx
 obtain ⟨u,rfl,t,rfl⟩:=vals1 rs
 obtain ⟨vs,rv,pl,_⟩:=I.list hx
 have hi:=zd0 rv
 obtain ⟨⟨cls,dd,data,sl⟩,ho,hc,n,hd⟩:=pl.isList
 simp only at hc hd
 subst hc hd
 have hlen:=hi.length
 have hj:ns.idxOf k < ns.length:=y2i.mpr hk
 refine call_meets PySem.F.slot_list_index ⟨_,ho,rfl⟩ PySem.F.entry_list_index (PySem.F.args_list_index_2 _ _)
  (SeqAt.list_indexAt p vs.toArray n dd sl (.int k t) (isInt k) (ns.idxOf k) (by simpa [hlen] using hj) (by omega) ?_ ?_) ⟨ho,fun y hy=>(eq_isInt k t hi y (by simpa using hy)).at _ _,?_⟩
 ·show isInt k vs[ns.idxOf k]=true
  rw [isInt_at k hi _ (by omega) hj]
  simpa using y36 hj
 ·intro j hjs hlt
  show isInt k vs[j]=false
  rw [isInt_at k hi j (by simpa using hjs) (by omega)]
  exact ne_of_lt_idxOf hlt _
 ·exact ⟨.int _,H,I.tok _,⟨_,rfl⟩,q⟩
theorem zn0 {X:Cx} (K:Frag) (h:X.K=K:=by rfl):MtR X "list.index" (rIndex K):=h ▸ zqr
def rCatTN (K:Frag):R2:=fun x y H Q=>∃ a b xs ys,x=.ref a∧y=.ref b∧SqT K H a xs∧SqT K H b ys∧xs ≠ []∧ys ≠ []∧xs.length + ys.length ≤ sizeLine∧∀ p H',New H p (.tup (xs ++ ys)) H'→Q (.ref p) H'
theorem zqh {X:Cx}:OpR X (binaryOp .Add) (rCatTN X.K):=fun pins s σ H x y v u Q I rx ry h=>by
 obtain ⟨a,b,xs,ys,e1,e2,ha,hb,hx,hy,hz,q⟩:=h
 exact znm pins s σ H x y v u Q I rx ry ⟨a,b,xs,ys,e1,e2,ha,hb,hx,hz,fun z=>absurd z hy,fun _ p np=>q p _ (.mk' np _)⟩
theorem znl {X:Cx} (K:Frag) (h:X.K=K:=by rfl):OpR X (binaryOp .Add) (rCatTN K):=h ▸ zqh
section
variable {tn:List Str} {cp:Z6} {g:TG} {tif:TT} {te:TE} {σ0:St} {Q:VK} {H1:Hp} {n:Nat}
def PGen (S:St→Prop) (G:Nat→V→Hp→Prop) (H1:Hp) (i:Nat) (ys:List V) (σ:St) (H:Hp):Prop:=Same H1 H∧S σ∧ys.length=i∧∀ j y,ys[j]?=some y→G j y H
theorem zdd {J:It} (S:St→Prop) (G:Nat→V→Hp→Prop) (hn:n ≤ 1000) (h0:S (stB tn cp σ0)) (hgo:∀ i H,i < n→Same H1 H→J.go i H) (hstop:∀ H,Same H1 H→J.stop n H)
  (hs:∀ D i ys σ H x H',i < n→Same H1 H→H1 D=none→H D=some (.lst ys)→ys.length=i→(∀ j y,ys[j]?=some y→G j y H)→S σ→J.yld i H x H'→g x σ H' fun σ2 H2=>tif σ2 H2 fun c H3 =>
   if c=true then te σ2 H3 fun v H4=>CStep D n i (PGen S G H1) σ2 v H4 else CSkip D n i (PGen S G H1) σ2 H3)
  (hd:∀ D ys H,H1 D=none→Same H1 H→H D=some (.lst ys)→ys.length=n→(∀ j y,ys[j]?=some y→G j y H)→Q (.ref D) H):cBody tn cp g tif te σ0 Q J H1:=by
 refine cb_by n (fun D=>PGen S G H1) (zab hn) (fun D hD=>⟨zbh hD _,h0,rfl,fun j y e=>by simp at e⟩) (fun D i ys σ H _ hi _ p=>hgo i H hi p.1) (fun D ys σ H _ _ p=>hstop H p.1) ?_ ?_
 ·rintro D i ys σ H x H' hD hi hH hl ⟨p1,p2,p3,p4⟩ hy
  exact hs D i ys σ H x H' hi p1 hD hH p3 p4 p2 hy
 ·rintro D ys σ H hD hH hl ⟨p1,p2,p3,p4⟩
  exact hd D ys H hD p1 hH p3 p4
theorem zbi {S:St→Prop} {G:Nat→V→Hp→Prop} {D:Addr} {i:Nat} {ys:List V} {v:V} {σ2:St} {H H4:Hp} (hG:∀ j y H H',TupS H H'→G j y H→G j y H') (hn:n ≤ 1000) (hi:i < n) (hD:H1 D=none) (h4:H4 D=some (.lst ys)) (hl:ys.length=i)
  (hy:∀ j y,ys[j]?=some y→G j y H) (ts:TupS H H4) (g4:Same H1 H4) (s2:S σ2) (e:G i v H4):CStep D n i (PGen S G H1) σ2 v H4:=by
 refine cstep (zab hn) hi h4 (by omega) ⟨g4.wr hD _,s2,by simp [hl],fun j y ej=>?_⟩
 by_cases h:j < ys.length
 ·rw [y0o h] at ej
  exact hG j y _ _ (ts.trans (TupS.wr h4 _)) (hy j y ej)
 ·rw [y0p (by omega)] at ej
  have e0:j - ys.length=0:=by
   cases hj:j - ys.length with
   | zero=>rfl
   | succ k=>rw [hj] at ej;simp at ej
  rw [e0] at ej
  simp at ej
  subst ej
  rw [show j=i by omega]
  exact hG i _ _ _ (TupS.wr h4 _) e
end
def tDisp1T (tk tv:TE):TE:=fun σ H Q=>∀ p H1,New H p (.dT []) H1→tk σ H1 fun y H2=>tv σ H2 fun z H3=>H3 p=some (.dT [])∧∃ b ks,y=.ref b∧H3 b=some (.tup (ks.map kV))∧Q (.ref p) (upd H3 p (.dT [(ks,z)]))
theorem znd {X:Cx} {k v:Expr} {tk tv:TE} {pos:Pos} (hu:X.A.units + 8 < cLine) (hk:PE X k tk) (hv:PE X v tv):PE X (.Dict [some k] [v] pos) (tDisp1T tk tv):=by
 intro pins s σ H Q I q
 have I1:=I.laid (a:=s.heap.objs.size) (o:=.dT []) (h':=s.heap.push { cls:=.type "dict",data:=.dict #[] }) (t':=s.toks) (fun _ _ q=>y0b _ q) (y05 _) (zky s.heap I.big)
 have e:(evalEachOpt [some k] X.env).zip ((evalEach [v] X.env).map fun v=>do let x ← v;standAt pos;pure x)=[(eval k X.env,do let x ← eval v X.env;standAt pos;pure x)].map fun p=>(some p.1,p.2):=rfl
 rw [arm_eval_Dict,e,dictDisplay_pairs _ (by simp) (by simp)]
 refine wpAny_bind (wpAny_standAt (wpAny_bind ?_))
 unfold subDict
 refine wpAny_bind (wpAny_alloc (wpAny_bind (wpAny_holding ?_)))
 rw [if_pos (by simp)]
 refine wpAny_bind (evalPairs_cons ?_)
 refine thn (hk pins _ σ _ _ I1 (q _ _ (.mk' I.fresh _))) fun kv s2 ⟨y,H2,I2,ry,q2⟩=>?_
 refine wpAny_bind (thn (hv pins s2 σ H2 _ I2 q2) fun vv s3 ⟨z,H3,I3,rz,ep,b,ks,ey,eb,q3⟩=>?_)
 subst ey
 obtain rfl:kv=Value.ref b:=ry
 refine wpAny_bind (wpAny_standAt (wpAny_pure (evalPairs_nil (wpAny_holding ?_))))
 rw [y34]
 obtain ⟨zz,hd,xs,rel,dd⟩:=dt_of I3.hok ep
 cases rel
 refine wpAny_bind (wpAny_bind ?_)
 show wpAny _ _ (dictSet s.heap.objs.size (Value.ref b) vv >>= _) _ _ _
 refine wpAny_bind (wpAny_dictSet_heap (knd:=tupleKind (mixKind X.prog X.w)) (hsz:=by rw [y2h];exact y1k _) (show X.A.units < cLine by omega) (zf3 I3.hok eb) dd fun h' dd' hs=>wpAny_pure ?_)
 dsimp only
 rw [y45]
 refine wpAny_pure (wpAny_pure (wpAny_pure (wpAny_pure ?_)))
 obtain ⟨o,es,ep',hq,h2,h3,h4,h4',h5⟩:=dd'
 refine ⟨.ref s.heap.objs.size,_,zdc I3 (by rw [ep];exact True.intro) hs ⟨o,hq⟩ ?_,rfl,q3⟩
 refine ⟨zab (by simp),hd,storedH [] ks b vv,?_,o,es,ep',hq,h2,h3,h4,h5⟩
 show Paired _ [(ks,z)] [(ks,b,vv)]
 refine .cons ⟨rfl,?_,rz⟩ .nil
 rw [zal (zlr eb ep (fun z=>nomatch z))]
 exact eb
def NeOk (X:Cx) (k:Nat) (H:Hp) (x y:V) (b:Bool):Prop:=∀ (pins:Z2) (σ:St) (s:Shared) (A:Around) (u v:Value),A.units + k < cLine→Inv X pins σ H s→RelV x u→RelV y v→SeqAt.RcNeAt A s u v b
theorem zny {X:Cx} {k:Nat} {H:Hp} {a b:Addr} {xs ys:List V} (hx:SqT X.K H a xs) (hy:SqT X.K H b ys) (e:Nat→Bool) (he:∀ j (h1:j < xs.length) (h2:j < ys.length),EqOk X k H xs[j] ys[j] (e j)) :
  NeOk X (k + 1) H (.ref a) (.ref b) (!((List.range (min xs.length ys.length)).all e && xs.length == ys.length)):=fun pins σ s A u v hu I rx ry=>by
 cases (show u=Value.ref a from rx)
 cases (show v=Value.ref b from ry)
 obtain ⟨us,r1,p1,_⟩:=I.tuple hx
 obtain ⟨vs,r2,p2,_⟩:=I.tuple hy
 have l1:=r1.length
 have l2:=r2.length
 have q:=SeqAt.RcNeAt.tuples (A:=A) (e:=e) p1 p2 (by omega) fun j h1 h2=>by
  rw [y06] at h1 h2
  obtain ⟨g1,q1⟩:=r1.at h1
  obtain ⟨g2,q2⟩:=r2.at h2
  exact he j g1 g2 pins σ s A.in1 _ _ (by show A.units + 1 + k < cLine;omega) I (by simpa using q1) (by simpa using q2)
 rw [y06,y06,← l1,← l2] at q
 exact q
def rNeM (X:Cx):R2:=fun x y H Q=>∃ c,NeOk X 8 H x y c∧Q (.bl c) H
theorem zkg {X:Cx} (hu:X.A.units + 8 < cLine):OpR X (compareOp .NotEq) (rNeM X):=by
 intro pins s σ H x y v u Q I rx ry h
 obtain ⟨c,r,q⟩:=h
 exact r pins σ s X.A v u hu I rx ry _ _ _ _ ⟨.bl c,H,I,rfl,q⟩
def rRepN:R2:=fun x y H Q=>∃ l k xs,x=.ref l∧y=.int k∧H l=some (.lst xs)∧-(2 ^ 63) ≤ k∧k < 2 ^ 63∧xs.length * k.toNat ≤ sizeLine∧∀ p H',New H p (.lst (List.replicate k.toNat xs).flatten) H'→Q (.ref p) H'
theorem zi1 {X:Cx}:OpR X (binaryOp .Mult) rRepN:=fun pins s σ H x y v u Q I rx ry h=>by
 obtain ⟨l,k,xs,e1,e2,h1,h2,h3,h4,q⟩:=h
 exact op_rep pins s σ H x y v u Q I rx ry ⟨l,k,xs,e1,e2,h1,h2,h3,h4,fun p np=>q p _ (.mk' np _)⟩
end L2
namespace SM
open PySem PySem.Spec PyProof.Rows L2 SS
theorem zbn {α β:Type} {R:α→β→Prop}:∀ {xs:List α} {ys:List β},xs.length=ys.length→(∀ (j:Nat) x y,xs[j]?=some x→ys[j]?=some y→R x y)→Paired R xs ys
 | [],[],_,_=>.nil
 | [],_ :: _,h,_=>by simp at h
 | _ :: _,[],h,_=>by simp at h
 | x :: xs,y :: ys,h,f=>.cons (f 0 x y rfl rfl) (zbn (by simpa using h) fun j a b e1 e2=>f (j + 1) a b (by simpa using e1) (by simpa using e2))
theorem zd6:∀ {a b:List Nat},(a.map fun (n:Nat)=>(n:Int))=(b.map fun (n:Nat)=>(n:Int))→a=b
 | [],[],_=>rfl
 | [],_ :: _,h=>nomatch h
 | _ :: _,[],h=>nomatch h
 | x :: a,y :: b,h=>by
  rw [y0u,y0u,List.cons.injEq] at h
  rw [zd6 h.2,show x=y by have:=h.1;omega]
theorem zku (k:Nat):∀ ns:List Nat,(ns.map fun (n:Nat)=>(n:Int)).idxOf (k:Int)=ns.idxOf k
 | []=>rfl
 | x :: ns=>by
  rw [y0u,y33,y33,zku k ns]
  by_cases h:x=k
  ·subst h;simp
  ·have h1:(x == k)=false:=by simp [h]
   have h2:((x:Int) == (k:Int))=false:=by simp;omega
   rw [h1,h2]
def zhn:Sp:=fun vs H Q _=>∃ (a:Addr) (bs:List Bool),vs=[.ref a]∧H a=some (.tup (bs.map V.bl))∧bs.length ≤ 100∧∀ D ns H',H D=none→Same H H'→H' D=some (.lst (ns.map nV))→Num bs ns→Q (.ref D) H'
def zhm:Sp:=fun vs H Q _=>∃ (a:Addr) (rs:List V) (ms:List (List Nat)),vs=[.ref a]∧H a=some (.lst rs)∧Paired (Line H) rs ms∧ms.length ≤ 100∧∀ D ns H',H D=none→Same H H'→H' D=some (.lst (ns.map nV))→Num ms ns→Q (.ref D) H'
def zc7:Sp:=fun vs H Q E=>zhn vs H Q E∨zhm vs H Q E
section
variable {α κ:Type} [DecidableEq α] [DecidableEq κ]
def tabF (key:α→κ):Nat→List α→List (κ × V)
 | _,[]=>[]
 | n,x :: r=>(key x,nV n) :: tabF key (n + 1) r
theorem zhf (key:α→κ):∀ (ds:List α) (n:Nat) (d:α),tabF key n (ds ++ [d])=tabF key n ds ++ [(key d,nV (n + ds.length))]
 | [],n,d=>rfl
 | x :: r,n,d=>by
  show (key x,nV n) :: tabF key (n + 1) (r ++ [d])=_
  rw [zhf key r]
  show _=(key x,nV n) :: (tabF key (n + 1) r ++ [(key d,nV (n + (r.length + 1)))])
  rw [show n + 1 + r.length=n + (r.length + 1) by omega]
theorem zb2 (key:α→κ):∀ (ds:List α) (n:Nat),(tabF key n ds).length=ds.length
 | [],_=>rfl
 | x :: r,n=>by show (tabF key (n + 1) r).length + 1=r.length + 1;rw [zb2 key r]
theorem zgc {key:α→κ} (inj:∀ a b,key a=key b→a=b) (x:α):∀ (ds:List α) (n:Nat),valV (tabF key n ds) (key x)=if x ∈ ds then some (nV (n + ds.idxOf x)) else none
 | [],n=>by simp [tabF,zpj]
 | y :: r,n=>by
  show valV ((key y,nV n) :: tabF key (n + 1) r) (key x)=_
  by_cases h:y=x
  ·subst h
   rw [zbf rfl,if_pos y0d]
   simp
  ·rw [zbg (fun e=>h (inj _ _ e)),zgc inj x r (n + 1)]
   have e:(x ∈ y :: r) ↔ x ∈ r:=by simp [y0f,Ne.symm h]
   by_cases hr:x ∈ r
   ·rw [if_pos hr,if_pos (e.mpr hr),y33,show (y == x)=false by simp [h],cond_false,show n + 1 + r.idxOf x=n + (r.idxOf x + 1) by omega]
   ·rw [if_neg hr,if_neg (fun z=>hr (e.mp z))]
theorem zcn {key:α→κ} (inj:∀ a b,key a=key b→a=b) {x:α} {ds:List α} (h:x ∈ ds):valV (tabF key 0 ds) (key x)=some (nV (nOf ds x)):=by
 rw [zgc inj x ds 0,if_pos h,Nat.zero_add];rfl
theorem zdf {key:α→κ} (inj:∀ a b,key a=key b→a=b) {x:α} {ds:List α} (h:¬ x ∈ ds):valV (tabF key 0 ds) (key x)=none:=by
 rw [zgc inj x ds 0,if_neg h]
theorem zed {key:α→κ} (inj:∀ a b,key a=key b→a=b) {x:α} {ds:List α} (h:¬ x ∈ ds):putK (tabF key 0 ds) (key x) (V.int ((tabF key 0 ds).length:Int))=tabF key 0 (ds ++ [x]):=by
 rw [zkb _ (zdf inj h),zhf,zb2,Nat.zero_add]
end
def keyB (b:Bool):Key:=.inl (blI b)
def keyL (l:List Nat):List Key:=l.map fun (n:Nat)=>(Sum.inl (n:Int):Key)
theorem zeh (a b:Bool) (e:keyB a=keyB b):a=b:=blI_inj (Sum.inl.inj e)
theorem zbo:∀ (a b:List Nat),keyL a=keyL b→a=b
 | [],[],_=>rfl
 | [],_ :: _,h=>nomatch h
 | _ :: _,[],h=>nomatch h
 | x :: a,y :: b,h=>by
  rw [keyL,keyL,y0u,y0u,List.cons.injEq] at h
  rw [zbo a b h.2]
  have e:(x:Int)=(y:Int):=Sum.inl.inj h.1
  rw [show x=y by omega]
theorem zd7 (l:List Nat):(keyL l).map kV=l.map nV:=by unfold keyL;rw [y0v];rfl
theorem TupS.wrT {H:Hp} {p:Addr} {kvs:List (List Key × V)} (h:H p=some (.dT kvs)) (o:HO):TupS H (upd H p o):=fun b ys e=>by rw [zal (zlr e h (by intro z;cases z))];exact e
section
variable {X:Cx} {H:Hp}
theorem zbt (n:Nat):((List.range n).all fun _=>true)=true:=by simp
theorem zsr {a b:Addr} {l:List Nat} {k:Nat} (ha:H a=some (.tup (l.map nV))) (hb:H b=some (.tup (l.map nV))):RcOk X (k + 1) H (.ref a) (.ref b) true:=by
 have r:=zdj (X:=X) (k:=k) (.of ha) (.of hb) (fun _=>true) fun j h1 h2=>by
  have e:(l.map nV)[j]=V.int (l[j]'(by simpa using h1):Nat):=by simp
  rw [e]
  have z:=zcq (X:=X) (k:=k) (H:=H) (x:=V.int ((l[j]'(by simpa using h1):Nat):Int)) (y:=V.int ((l[j]'(by simpa using h1):Nat):Int)) rfl rfl
  rw [show eqV (V.int ((l[j]'(by simpa using h1):Nat):Int)) (V.int ((l[j]'(by simpa using h1):Nat):Int))=true by simp [eqV]] at z
  exact z
 rw [zbt,show ((l.map nV).length == (l.map nV).length)=true by simp,y2k] at r
 exact r
theorem zpz {a b:Addr} {l:List Bool} {k:Nat} (ha:H a=some (.tup (l.map V.bl))) (hb:H b=some (.tup (l.map V.bl))):RcOk X (k + 1) H (.ref a) (.ref b) true:=by
 have r:=zdj (X:=X) (k:=k) (.of ha) (.of hb) (fun _=>true) fun j h1 h2=>by
  have e:(l.map V.bl)[j]=V.bl (l[j]'(by simpa using h1)):=by simp
  rw [e]
  have z:=zcq (X:=X) (k:=k) (H:=H) (x:=V.bl (l[j]'(by simpa using h1))) (y:=V.bl (l[j]'(by simpa using h1))) rfl rfl
  rw [show eqV (V.bl (l[j]'(by simpa using h1))) (V.bl (l[j]'(by simpa using h1)))=true by simp [eqV]] at z
  exact z
 rw [zbt,show ((l.map V.bl).length == (l.map V.bl).length)=true by simp,y2k] at r
 exact r
theorem zgu {a b:Addr} {k:Nat} (r:RcOk X k H (.ref a) (.ref b) true):EqOk X k H (.ref a) (.ref b) true:=by
 by_cases h:a=b
 ·subst h;exact zos
 ·exact .of_rc h r
theorem zpy {a b:Addr} {rs ts:List V} {ls:List (List Nat)} {k:Nat} (ha:H a=some (.tup rs)) (hb:H b=some (.tup ts)) (pa:Paired (Line H) rs ls) (pb:Paired (Line H) ts ls):RcOk X (k + 2) H (.ref a) (.ref b) true:=by
 have l1:=SS.Paired.len pa
 have l2:=SS.Paired.len pb
 have r:=zdj (X:=X) (k:=k + 1) (.of ha) (.of hb) (fun _=>true) fun j h1 h2=>by
  obtain ⟨x,ex,p,ep,hp⟩:=SS.Paired.at pa (y01 h1)
  obtain ⟨y,ey,q,eq,hq⟩:=SS.Paired.at pb (y01 h2)
  rw [ex] at ey
  cases ey
  rw [ep,eq]
  exact zgu (zsr hp hq)
 rw [zbt,show (rs.length == ts.length)=true by simp;omega,y2k] at r
 exact r
end
end SM
namespace L2
section
variable {κ:Type} [DecidableEq κ]
theorem zkq {kvs:List (κ × V)} {k:κ} (v:V) (h:valV kvs k=none):(putK kvs k v).map (·.1)=kvs.map (·.1) ++ [k]:=by rw [zkb v h,y15];rfl
end
def rCatTE:R2:=fun x y H Q=>∃ a b xs ys,x=.ref a∧y=.ref b∧H a=some (.tup xs)∧H b=some (.tup ys)∧xs.length + ys.length ≤ sizeLine∧∀ p H',Same H H'→H' p=some (.tup (xs ++ ys))→Q (.ref p) H'
theorem zqi {X:Cx}:OpR X (binaryOp .Add) rCatTE:=by
 intro pins s σ H x y v u Q I rx ry h
 obtain ⟨a,b,xs,ys,rfl,rfl,ha,hb,hz,q⟩:=h
 by_cases hx:xs=[]
 ·cases rx
  cases ry
  obtain ⟨its,r1,p1,_⟩:=I.tuple (.of ha)
  obtain ⟨its2,r2,p2,_⟩:=I.tuple (.of hb)
  have e1:its=[]:=r1.nil_iff.mpr hx
  obtain ⟨⟨cls,dd,data,sl⟩,ho,hc,n,hd⟩:=id p1
  obtain ⟨⟨cls2,dd2,data2,sl2⟩,ho2,hc2,n2,hd2⟩:=id p2
  simp only at hc hd hc2 hd2
  subst hc hd hc2 hd2
  exact concat_meets ⟨_,ho,rfl⟩ ⟨_,ho2,rfl⟩ noFill_tuple_add seq_tuple_add PySem.F.slot_tuple_add PySem.F.entry_tuple_add (PySem.F.args_tuple_add_2 _ _)
   (tuple_addW0 a b its.toArray its2.toArray n n2 dd dd2 sl sl2 (by simp [e1])) ⟨ho,ho2,⟨.ref b,H,I,rfl,q b H (Same.refl _) (by rw [hx];exact hb)⟩⟩
 ·refine znm pins s σ H _ _ v u Q I rx ry ⟨a,b,xs,ys,rfl,rfl,.of ha,.of hb,hx,hz,fun e=>?_,fun _ p np=>?_⟩
  ·exact q a H (Same.refl _) (by rw [e,y0s];exact ha)
  ·exact q p _ (zbh np _) zam
theorem zgw {pos pos':Pos} {v:Value} (l:List Value) (h:TriplesOk l):codeAmong pos' (l ++ [rawInt pos.line,rawInt pos.col,v])=match codeAmong pos' l with
  | some x=>some x
  | none=>if ((pos.line:Int) == (pos'.line:Int) && (pos.col:Int) == (pos'.col:Int))=true then some v else none:=by
 fun_induction TriplesOk l with
 | case1=>simp [codeAmong,rawInt]
 | case2 a t b u x rest ih =>
  simp only [y2z,codeAmong]
  split
  ·rfl
  ·exact ih h
 | case3 l h1 h2=>exact h.elim
def TabOk (H:Hp) (P:Addr) (qs:Z3):Prop:=∃ ps:Array Value,H P=some (.tbl qs ps)
theorem TabOk.same {H H':Hp} {P:Addr} {qs:Z3} (T:TabOk H P qs) (g:Same H H'):TabOk H' P qs:=let ⟨ps,h⟩:=T;⟨ps,g _ _ h⟩
def KCode (K:Frag) (c P:Addr):Prop:=∃ o vs file tf flags tg inF text tt,K.lookup c=some o∧o.cls=.type "code"∧o.data=.fields vs∧vs[11]?=some (.ref P)∧vs.getD 11 .none=.ref P∧vs.getD 18 .none=.str file tf ∧
 vs.getD 7 .none=.int flags tg∧vs.getD 9 .none=.bool inF∧vs.getD 10 .none=.int text tt∧c ≠ P
section
variable {X:Cx} {pins:Z2} {σ:St} {H:Hp} {s:Shared}
theorem fn_code {E:Z0} {c P:Addr} {qs:Z3} {pos:Pos} {line:Nat} {name qual:Str} {params:Arguments} {scope:Scope} {body:FuncBody} {Q:Z0} (I:Inv X pins σ H s) (hc:X.env.code=.ref c) (kc:KCode X.K c P)
  (T:TabOk H P qs) (hq:(pos,qual) ∈ qs) (hone:∀ p ∈ qs,p.1.line=pos.line→p.1.col=pos.col→p.2=qual)
  (h:∀ c' o H' s',Inv X pins σ H' s'→H' c'=some (.frz o (.own c'))→CodeObj o qual→Same H H'→Q (.ref c') s') :
  wpAny (model X.prog X.w) X.A (functionCode X.env pos line name qual params scope body) Q E s:=by
 obtain ⟨ps0,hP⟩:=T
 obtain ⟨more,hop,htr,hcs⟩:=I.hok P _ hP
 obtain ⟨oc,vs,file,tf,flags,tg,inF,text,tt,lk,hcl,hd,h11',h11,h18,h7,h9,h10,hne⟩:=kc
 have ho:s.heap.get? c=some oc:=I.kIn c oc lk
 generalize hps:ps0 ++ more=ps at hop htr hcs
 cases hf:codeAmong pos ps.toList with
 | some v =>
  obtain ⟨c',o,rfl,hc',co⟩:=hcs _ hq v hf
  unfold functionCode codeAt
  rw [hc,if_neg (show ¬ ((Value.ref c == Value.none)=true) from y0l)]
  refine wpAny_bind (wpAny_fieldsOf ho hd ?_)
  rw [h11]
  refine wpAny_bind (wpAny_fieldsOf hop rfl ?_)
  rw [hf]
  exact wpAny_pure (h c' o H s I hc' co fun _ _ e=>e)
 | none =>
  have ic:s.heap.IsCode c P ps:=⟨oc,vs,file,tf,flags,tg,inF,text,tt,_,ho,hd,h11,h18,h7,h9,h10,hop,rfl,htr,hne⟩
  refine wpAny_functionCodeX hc ic ⟨⟨oc,vs,ho,hcl,hd,h11'⟩,hop⟩ hf fun c' h' tk hx hge hlt hic hrec htab _=>?_
  obtain ⟨c₂,o',vs',t',e,hc',hd',hv'⟩:=hrec
  cases e
  have nPn:∀ b,H b=none→b ≠ P:=fun b e z=>by rw [z,hP] at e;cases e
  have hcn:H c'=none:=I.hok.fresh hge
  have nc:∀ b u,H b=some u→b ≠ c':=fun b u e z=>by rw [z,hcn] at e;cases e
  have nP:∀ b u,H b=some u→(∀ a b,u ≠ .tbl a b)→b ≠ P:=fun b u e n z=>by rw [z,hP] at e;cases e;exact n _ _ rfl
  have up:∀ b u,H b=some u→upd H c' (.frz o' (.own c')) b=some u:=fun b u e=>by rw [zal (nc b u e)];exact e
  have co:CodeObj o' qual:=⟨vs',t',hd',hv'⟩
  have I':Inv X pins σ (upd H c' (.frz o' (.own c'))) { s with heap:=h',toks:=tk }:=by
   refine I.un ⟨fun b o e n _ _=>hx b o (nPn b n) e,fun b o e n _ _=>⟨o.slots,hx b o (nPn b n) e⟩,fun b o e n _=>?_,fun b o e _=>?_,fun b xs e=>up b _ e,fun b o u e=>up b _ e,fun b qs ps e=>up b _ e⟩ fun b u e=>?_
   ·rw [zal (y0n (y0h (y0g e) hge))];exact n
   ·by_cases hb:b=P
    ·subst hb;exact ⟨_,htab.2⟩
    ·exact ⟨o,hx b o hb e⟩
   ·by_cases hb:b=c'
    ·subst hb
     rw [zam] at e;cases e
     exact ⟨hc',_,hc'⟩
    ·rw [zal hb] at e
     by_cases hbP:b=P
     ·subst hbP
      rw [hP] at e;cases e
      have hl:(ps ++ #[rawInt pos.line,rawInt pos.col,Value.ref c']).toList=ps.toList ++ [rawInt pos.line,rawInt pos.col,.ref c']:=by simp
      have e2:ps0 ++ (more ++ #[rawInt pos.line,rawInt pos.col,Value.ref c'])=ps ++ #[rawInt pos.line,rawInt pos.col,Value.ref c']:=by rw [← Array.append_assoc,hps]
      refine ⟨more ++ #[rawInt pos.line,rawInt pos.col,.ref c'],by rw [e2];exact htab.2,by rw [e2,hl];exact TriplesOk_snoc _ _ _ _ htr,fun p hp v e=>?_⟩
      rw [e2,hl,zgw _ htr] at e
      cases hv:codeAmong p.1 ps.toList with
      | some x =>
       rw [hv] at e
       cases e
       obtain ⟨c1,o1,e1,e2,e3⟩:=hcs p hp _ hv
       exact ⟨c1,o1,e1,up c1 _ e2,e3⟩
      | none =>
       rw [hv] at e
       simp only at e
       split at e
       ·rename_i hh
        cases e
        rw [y18] at hh
        have e1:pos.line=p.1.line:=by have:=hh.1;simp at this;omega
        have e2:pos.col=p.1.col:=by have:=hh.2;simp at this;omega
        exact ⟨c',o',rfl,zam,by rw [hone p hp e1.symm e2.symm];exact co⟩
       ·cases e
     ·refine (I.hok b u e).stay (fun c w hc q=>hx c w ?_ q) (fun c q=>up c _ q) (fun c _ _ _ _ q=>up c _ q) fun c xs q=>up c _ q
      rcases hc with rfl | hc
      ·exact hbP
      ·exact nP c _ hc fun _ _ z=>nomatch z
  exact h c' o' _ _ I' zam co up
def cloFd (name qual:Str) (params:Arguments) (body:FuncBody) (scope:Scope) (cl:Z4) (ct cd pm:Value):FuncData :=
 { name,qualname:=qual,params,body,scope,globals:=mainGlobals,closure:=cl,closureTuple:=ct,code:=cd,builtins:=builtinsNs,defaults:=.none,kwdefaults:=.none,annotations:=none,pyModule:=pm,doc:=.none }
def BltK (base:Heap) (mg:Z1):Prop:=∃ bm o,mg "__builtins__"=some (.ref bm)∧bm ≠ builtinsNs∧base.get? bm=some o∧o.cls=.type "module"∧o.dict=some builtinsNs∧o.data=.plain
def NoDoc:FuncBody→Prop
 | .stmts b=>docOf b=none
 | .expr _=>True
structure Made (X:Cx) (H H':Hp) (name qual:Str) (params:Arguments) (body:FuncBody) (scope:Scope) (f:Addr):Prop where
 old:Same H H'
 new:H f=none
 ex:∃ cl ct c' oc pm,(∀ x c,cl.lookup x=some c→X.env.cells.lookup x=some c)∧(∀ p ∈ scope.names,p.2=.free→∃ c,cl.lookup p.1=some c)∧H' c'=some (.frz oc (.own c'))∧CodeObj oc qual ∧
  H' f=some (.frz { cls:=.type "function",data:=.func (cloFd name qual params body scope cl ct (.ref c') pm) } (.own f))
theorem zn2 {E:Z0} {c P:Addr} {qs:Z3} {pos:Pos} {line:Nat} {name qual:Str} {params:Arguments} {scope:Scope} {body:FuncBody} {Q:Z0} (I:Inv X pins σ H s) (hc:X.env.code=.ref c) (kc:KCode X.K c P) (kb:BltK X.base X.mg)
  (hfr:∀ p ∈ scope.names,p.2=.free→X.env.kindOf p.1=some .cell∨X.env.kindOf p.1=some .free) (nd:NoDoc body)
  (T:TabOk H P qs) (hq:(pos,qual) ∈ qs) (hone:∀ p ∈ qs,p.1.line=pos.line→p.1.col=pos.col→p.2=qual)
  (h:∀ f H' s',Inv X pins σ H' s'→Made X H H' name qual params body scope f→Q (.ref f) s') :
  wpAny (model X.prog X.w) X.A (makeFunction name qual params body scope X.env [] [] [] pos line) Q E s:=by
 obtain ⟨cl,hcl,hcl1,hcl2⟩:=zf8 (scope:=scope) (env:=X.env) fun p hp hf=>I.ok.has p.1 (hfr p hp hf)
 obtain ⟨bm,ob,b1,b2,b3,b4,b5,b6⟩:=kb
 have tail:∀ (ct:Value) (s1:Shared),Inv X pins σ H s1→wpAny (model X.prog X.w) X.A (do
   let fd:FuncData:={ name,qualname:=qual,params,body,scope,globals:=X.env.globals,closure:=cl,closureTuple:=ct,code:=← functionCode X.env pos line name qual params scope body,builtins:=← builtinsFor X.env.globals X.env.builtins,defaults:=.none,kwdefaults:=.none,annotations:=none,pyModule:=(← nsGet X.env.globals "__name__").getD .none,doc:=← match body with | .stmts b=>(match docOf b with | some s=>mkText s | none=>pure .none) | .expr _=>pure .none }
   newObj (.type "function") (.func fd)) Q E s1:=by
  intro ct s1 I1
  refine wpAny_bind (fn_code I1 hc kc T hq hone fun c' oc H' s' I' e1 co up=>?_)
  have hg:s'.heap.Ns X.env.globals X.mg:=by rw [I'.ok.glob];exact I'.mod.glob.keeps I'.bk
  refine wpAny_bind (wpAny_builtinsFor hg b1 b2 (I'.bk bm ob b3) b4 b5 b6 ?_)
  refine wpAny_bind (wpAny_nsGet hg ?_)
  have fin:wpAny (model X.prog X.w) X.A (newObj (.type "function") (.func { name,qualname:=qual,params,body,scope,globals:=X.env.globals,closure:=cl,closureTuple:=ct,code:=.ref c',builtins:=builtinsNs,defaults:=.none,kwdefaults:=.none,annotations:=none,pyModule:=(X.mg "__name__").getD .none,doc:=.none })) Q E s':=by
   refine wpAny_newObj_type ?_ (by size_fits)
   rw [I'.ok.glob]
   have hfn:H' s'.heap.objs.size=none:=I'.fresh
   have hfn0:H s'.heap.objs.size=none:=by
    cases e:H s'.heap.objs.size with
    | none=>rfl
    | some u=>rw [up _ u e] at hfn;cases hfn
   have nf:∀ b u,H' b=some u→b ≠ s'.heap.objs.size:=fun b u e z=>by rw [z,hfn] at e;cases e
   have I2:=I'.laid (a:=s'.heap.objs.size) (o:=.frz { cls:=.type "function",data:=.func (cloFd name qual params body scope cl ct (.ref c') ((X.mg "__name__").getD .none)) } (.own s'.heap.objs.size)) (t':=s'.toks)
    (h':=s'.heap.push { cls:=.type "function",data:=.func (cloFd name qual params body scope cl ct (.ref c') ((X.mg "__name__").getD .none)) }) (fun b u e=>y0b _ e) (y05 _) ⟨y0m _ rfl,_,y0m _ rfl⟩
   refine h _ _ _ I2 ⟨fun b u e=>by rw [zal (nf b u (up b u e))];exact up b u e,hfn0,cl,ct,c',oc,_,hcl1,hcl2,by rw [zal (nf c' _ e1)];exact e1,co,zam⟩
  cases body with
  | expr e=>exact wpAny_bind (wpAny_pure fin)
  | stmts b =>
   have nd':docOf b=none:=nd
   refine wpAny_bind ?_
   show wpAny _ _ (match docOf b with | some s=>mkText s | none=>pure .none) _ _ _
   rw [nd']
   exact wpAny_pure fin
 rw [makeFunction_eq]
 simp only [List.isEmpty_nil,if_true,List.zip_nil_right,List.filterMap_nil]
 refine wpAny_bind (wpAny_pure (wpAny_bind (wpAny_pure (wpAny_bind (wpAny_pure ?_)))))
 unfold makeTail
 rw [hcl]
 refine wpAny_bind (wpAny_pure ?_)
 show wpAny _ _ (if cl.isEmpty=true then _ else _) _ _ _
 by_cases he:cl.isEmpty=true
 ·rw [if_pos he]
  exact wpAny_bind (wpAny_pure (tail .none s I))
 ·rw [if_neg he]
  refine wpAny_bind (wpAny_newTextTuple ?_)
  exact (tail _ _ (I.kept (t':=s.toks) fun b o e=>y0b _ e))
end
def fnO (fd:FuncData) (f:Addr):HO:=.frz { cls:=.type "function",data:=.func fd } (.own f)
def Frz (H H':Hp):Prop:=∀ b o u,H b=some (.frz o u)→H' b=some (.frz o u)
theorem Frz.refl (H:Hp):Frz H H:=fun _ _ _ e=>e
theorem Frz.trans {H H1 H2:Hp} (a:Frz H H1) (b:Frz H1 H2):Frz H H2:=fun c o u e=>b c o u (a c o u e)
theorem Same.frz {H H':Hp} (g:Same H H'):Frz H H':=fun b o u e=>g _ _ e
def CloH (P:Program) (w:World) (K:Frag) (mg:Z1) (base:Heap) (k:Nat) (H:Hp) (f:Addr) (n:Nat) (sp:Sp):Prop :=
 ∀ (A:Around) (outer:List Env) (s:Shared) (H':Hp) (us:List Value) (vs:List V) (Q:VK),Room k A→Env0 P w K mg base A outer s H'→Frz H H'→Vals vs us→vs.length=n→sp vs H' Q E0 →
  codeAny (model P w) A (.call (.ref f) ⟨us,[]⟩) (CR CX0 outer P w H' s Q E0) s
theorem CloH.mono {P:Program} {w:World} {K:Frag} {mg:Z1} {base:Heap} {k:Nat} {H H1:Hp} {f:Addr} {n:Nat} {sp:Sp} (c:CloH P w K mg base k H f n sp) (g:Frz H H1):CloH P w K mg base k H1 f n sp :=
 fun A outer s H' us vs Q hr e0 fz=>c A outer s H' us vs Q hr e0 (g.trans fz)
def tCallV (P:Program) (w:World) (K:Frag) (mg:Z1) (base:Heap) (k n:Nat) (sp:Sp) (i:Nat) (t:TA):TE:=fun σ H Q=>∃ f fd,σ[i]?=some (some (.ref f))∧H f=some (fnO fd f) ∧
 t σ H fun vs H1=>H1 f=some (fnO fd f)∧CloH P w K mg base k H1 f n sp∧vs.length=n∧sp vs H1 Q E0
theorem zqu (f:Addr) (fd:FuncData):PySem.W.keepIn [(f,{ cls:=.type "function",data:=.func fd })] (.ref f)=true:=by
 unfold PySem.W.keepIn
 simp [List.lookup]
theorem zqb {X:Cx} {x:Str} {i k n:Nat} {sp:Sp} {p pos:Pos} {e:Expr} {es:List Expr} {t:TA} (hN:X.N[i]?=some x) (hv:Vis X.env.scope x) (hr:Room k X.A) (ha:PA X (e :: es) t)
  (hd:(x == ("__debug__":Str))=false:=by decide) (hcd:(x == ("__classdict__":Str))=false:=by decide) (he:starEach (e :: es) X.env=(false,eval e X.env) :: starEach es X.env:=by rfl) (hpl:(backTo pos (starEach es X.env)).any (·.1)=false:=by rfl) :
  PE X (.Call (.Name x p) (e :: es) [] pos) (tCallV X.prog X.w X.K X.mg X.base k n sp i t):=by
 intro pins s σ H Q I h
 obtain ⟨f,fd,hs,hf,h⟩:=h
 refine wpAny_Call_Name_kw (thn (zro (pos:=p) hN hv hd hcd pins s σ H (fun v H'=>v=.ref f∧H'=H) I ⟨.ref f,hs,rfl,rfl⟩) fun u s1 ⟨v,H1,I1,r1,e1,e2⟩=>?_)
 subst e1 e2
 cases (show u=Value.ref f from r1)
 have at1:∀ {H2:Hp} {s2:Shared},Inv X pins σ H2 s2→H2 f=some (fnO fd f)→PySem.W.Frag.In [(f,{ cls:=.type "function",data:=.func fd })] s2.heap:=fun {H2 s2} I2 hf2 a o e=>by
  simp only [List.lookup] at e
  split at e
  ·rename_i q
   cases e
   rw [beq_iff_eq.mp q]
   exact (I2.hok f _ hf2).1
  ·cases e
 refine PySem.W.callWith_K (K:=[(f,{ cls:=.type "function",data:=.func fd })]) (h₀:=s1.heap) (at1 I1 hf) (zqu f fd) (thn (ha pos pins s1 σ H1 _ I1 h) fun us s2 ⟨vs,H2,I2,r,hf2,c,hl,q⟩=>⟨at1 I2 hf2,?_⟩) he hpl
 refine wpAny_call (codeAny_mono (c X.A X.stack s2 H2 us vs Q hr I2.env0 (Frz.refl _) r hl q) fun r s' hq=>?_)
 cases r with
 | error e=>exact False.elim hq
 | ok fl =>
  cases fl with
  | ret u=>exact I2.after hq
  | next=>exact False.elim hq
  | brk=>exact False.elim hq
  | cont=>exact False.elim hq
def tDef (X:Cx) (P:Addr) (qs:Z3) (name qual:Str) (params:Arguments) (body:FuncBody) (scope:Scope) (j:Nat):TS:=fun D σ H=>TabOk H P qs∧∀ f H',Made X H H' name qual params body scope f→D.nx (σ.set j (some (.ref f))) H'
def tLam (X:Cx) (P:Addr) (qs:Z3) (name qual:Str) (params:Arguments) (body:FuncBody) (scope:Scope):TE:=fun σ H Q=>TabOk H P qs∧∀ f H',Made X H H' name qual params body scope f→Q (.ref f) H'
section
variable {X:Cx} {c P:Addr} {qs:Z3} {pos:Pos} {name qual:Str} {params:Arguments} {scope:Scope}
theorem znb {body:Expr} (hc:X.env.code=.ref c) (kc:KCode X.K c P) (kb:BltK X.base X.mg) (hfr:∀ p ∈ scope.names,p.2=.free→X.env.kindOf p.1=some .cell∨X.env.kindOf p.1=some .free)
  (hq:(pos,qual) ∈ qs) (hone:∀ p ∈ qs,p.1.line=pos.line→p.1.col=pos.col→p.2=qual) (hd:params.defaults=[]) (hk:params.kw_defaults=[]) (hqual:X.env.qual ++ "<lambda>"=qual) :
  PE X (.Lambda params body scope pos) (tLam X P qs "<lambda>" qual params (.expr body) scope):=by
 intro pins s σ H Q I h
 obtain ⟨T,h⟩:=h
 rw [arm_eval_Lambda]
 have hdo:defaultsOf params X.env=([],[]):=by rw [defaultsOf_eq,hd,hk];rfl
 simp only [hdo]
 refine wpAny_bind (wpAny_pure (wpAny_bind (wpAny_holding (wpAny_pure ?_))))
 rw [hqual]
 exact zn2 I hc kc kb hfr trivial T hq hone fun f H' s' I' M=>⟨.ref f,H',I',rfl,h f H' M⟩
theorem zsw {j:Nat} {body:List Stmt} (hc:X.env.code=.ref c) (kc:KCode X.K c P) (kb:BltK X.base X.mg) (hfr:∀ p ∈ scope.names,p.2=.free→X.env.kindOf p.1=some .cell∨X.env.kindOf p.1=some .free) (nd:docOf body=none)
  (hq:(pos,qual) ∈ qs) (hone:∀ p ∈ qs,p.1.line=pos.line→p.1.col=pos.col→p.2=qual) (hd:params.defaults=[]) (hk:params.kw_defaults=[]) (ha:∀ e,annTrees params none e=[]) (hqual:qualnameIn X.env name name=qual)
  (hN:X.N.Nodup) (hj:X.N[j]?=some name) (hx:X.env.scope.names.lookup name=some .local):PS X (.FunctionDef name params body [] none [] scope none name pos) (tDef X P qs name qual params (.stmts body) scope j):=by
 intro pins s σ H D I h
 obtain ⟨T,h⟩:=h
 rw [exec_def]
 have hdo:defaultsOf params X.env=([],[]):=by rw [defaultsOf_eq,hd,hk];rfl
 simp only [hdo,ha,hqual]
 refine wpAny_bind (wpAny_standAt (wpAny_bind (wpAny_holding (wpAny_bind (wpAny_pure (wpAny_bind (wpAny_holding (wpAny_pure (wpAny_holding (wpAny_bind (wpAny_pure ?_)))))))))))
 refine zn2 I hc kc kb hfr nd T hq hone fun f H' s' I' M=>wpAny_bind (wpAny_standAt (wpAny_bind (wpAny_bindName ?_)))
 exact zcf I' hN hj (.inl hx) (v:=.ref f) rfl (fun s2 I2=>wpAny_pure ⟨_,H',I2,h f H' M⟩) (.inr hx)
end
def CellOf (X:Cx) (b:Addr):Prop:=∃ x,X.env.cells.lookup x=some b
def Adopted (X:Cx) (σ:St) (H Hq:Hp):Prop:=(∀ b,¬ CellOf X b→Hq b=H b)∧(∀ b,CellOf X b→H b=none)∧(∀ x y c,X.env.cells.lookup x=some c→X.env.cells.lookup y=some c→x=y)∧∀ x c,X.env.cells.lookup x=some c→∃ o v,Hq c=some (.frz o (.own c))∧o.data=.cell v ∧
 ∀ (i:Nat) y,X.N[i]?=some x→σ[i]?=some (some y)→(X.env.kindOf x=some .cell∨X.env.kindOf x=some .free)→∃ u,RelV y u∧v=some u
open Classical in
noncomputable def dropX (X:Cx) (H:Hp):Hp:=fun b=>if CellOf X b then none else H b
def tCallA (X:Cx) (sp:Sp) (t:TA):TE:=fun σ H Q=>t σ H fun vs H1=>∀ Hq,Adopted X σ H1 Hq→sp vs Hq (fun v H2=>Q v (dropX X H2)) E0
theorem zqd {X:Cx} {k:Nat} {f:Addr} {fd:FuncData} {ps:List Str} {sp:Sp} {x:Str} {p pos:Pos} {e:Expr} {es:List Expr} {t:TA} (F:FnOk X.prog X.w X.K X.mg X.base CX0 k f fd ps sp) (hr:Room k X.A) (hg:Gl X x) (hm:X.mg x=some (.ref f)) (hk:PySem.W.keepIn X.K (.ref f)=true) (hb:Binds X.K fd ps [])
  (hfn:∀ x,X.fn x=true) (ha:PA X (e :: es) t) (hdb:(x == ("__debug__":Str))=false:=by decide) (he:starEach (e :: es) X.env=(false,eval e X.env) :: starEach es X.env:=by rfl) (hpl:(backTo pos (starEach es X.env)).any (·.1)=false:=by rfl) :
  PE X (.Call (.Name x p) (e :: es) [] pos) (tCallA X sp t):=by
 classical
 intro pins s σ H Q I h
 refine wpAny_Call_Name_kw (zdz I hg hm ?_ hdb)
 refine PySem.W.callWith_K (h₀:=X.base) I.ok.mod.kin hk (thn (ha pos pins s σ H _ I h) fun us s1 ⟨vs,H1,I1,r,q⟩=>⟨I1.kIn,?_⟩) he hpl
 let Hq:Hp:=fun b=>if CellOf X b then (s1.heap.get? b).map fun o=>.frz o (.own b) else H1 b
 have q1:∀ b,¬ CellOf X b→Hq b=H1 b:=fun b n=>if_neg n
 have q2:∀ x c,X.env.cells.lookup x=some c→∃ o v,s1.heap.get? c=some o∧o.data=.cell v∧Hq c=some (.frz o (.own c)):=fun x c e=>by
  obtain ⟨v,o,ho,hd⟩:=I1.cell x c e
  exact ⟨o,v,ho,hd,by show (if CellOf X c then _ else _)=_;rw [if_pos ⟨x,e⟩,ho];rfl⟩
 have tr:∀ b u,H1 b=some u→¬ CellOf X b:=fun b u e ⟨x,z⟩=>by rw [I1.freeC x b z] at e;cases e
 have ad:Adopted X σ H1 Hq:=⟨q1,fun b ⟨x,z⟩=>I1.freeC x b z,I1.ok.inj,fun x c e=>by
  obtain ⟨o,v,ho,hd,hq⟩:=q2 x c e
  refine ⟨o,v,hq,hd,fun i y e1 e2 e3=>?_⟩
  obtain ⟨m,hn,hl⟩:=I1.loc
  obtain ⟨u,ru,l⟩:=hl i x y e1 e2 (by rcases e3 with z | z;exact .inr (.inl z);exact .inr (.inr z))
  rcases l with ⟨z,_⟩ | ⟨_,c',hc',o',ho',hd'⟩
  ·rcases e3 with y' | y' <;> (rw [z] at y';cases y')
  ·rw [e] at hc';cases hc'
   rw [ho] at ho';cases ho'
   rw [hd] at hd';cases hd'
   exact ⟨u,ru,rfl⟩⟩
 have low:∀ b,CellOf X b→X.s₀.heap.objs.size ≤ b:=fun b ⟨x,e⟩=>I1.ok.cab x b (hfn x) e
 have nfr:∀ b ∈ frs X.stack,¬ CellOf X b:=fun b hb ⟨x,e⟩=>by
  rcases y0f.mp (I1.stkSub b hb) with z | z
  ·exact I1.cne x b e z
  ·obtain ⟨_,o,ho,_⟩:=I1.ok.funs.mem z
   exact absurd (y0h (y0g ho) (low b ⟨x,e⟩)) (y1a _)
 have up:∀ b u,H1 b=some u→Hq b=some u:=fun b u e=>by rw [q1 b (tr b u e)];exact e
 have hokq:HOk X.prog X.w Hq s1.heap:=fun b u e=>by
  by_cases hc:CellOf X b
  ·obtain ⟨x,ex⟩:=hc
   obtain ⟨o,v,ho,hd,hq⟩:=q2 x b ex
   rw [hq] at e;cases e
   exact ⟨ho,o,ho⟩
  ·rw [q1 b hc] at e
   exact (I1.hok b u e).stay (fun _ _ _ z=>z) (fun c z=>up c _ z) (fun c _ _ _ _ z=>up c _ z) fun c xs z=>up c _ z
 have e0:=I1.env0
 have e0q:Env0 X.prog X.w X.K X.mg X.base X.A X.stack s1 Hq:=⟨e0.frames,e0.mod,fun b o e=>⟨(e0.bs b o e).1,by
  rw [q1 b fun hc=>absurd (y0h (y0g e) (y13 I1.ok.bsz (low b hc))) (y1a _)];exact (e0.bs b o e).2⟩,e0.bsz,e0.funs,fun b hb=>by rw [q1 b (nfr b hb)];exact e0.frf b hb,hokq,e0.bare⟩
 have hl:us.length=ps.length:=by rw [← r.length];exact F.len _ _ _ _ (q Hq ad)
 refine wpAny_call (codeAny_mono (F.run X.A X.stack s1 Hq ⟨us,[]⟩ us vs _ E0 hr e0q (by have:=hb s1 us I1.kIn (by rw [y0s];exact hl);rw [y0s] at this;exact this) r (q Hq ad)) fun r s' hq=>?_)
 cases r with
 | error e=>exact False.elim hq
 | ok fl =>
  cases fl with
  | next=>exact False.elim hq
  | brk=>exact False.elim hq
  | cont=>exact False.elim hq
  | ret u =>
   obtain ⟨v,H2,os,bare,un,hok2,rv,qq⟩:=hq
   have c2:∀ x c,X.env.cells.lookup x=some c→∃ o,s1.heap.get? c=some o∧H2 c=some (.frz o (.own c))∧s'.heap.get? c=some o:=fun x c e=>by
    obtain ⟨o,v,ho,hd,hq⟩:=q2 x c e
    have z:=un.frzs c o _ hq
    exact ⟨o,ho,z,(hok2 c _ z).1⟩
   have d1:∀ b,¬ CellOf X b→dropX X H2 b=H2 b:=fun b n=>if_neg n
   have nmC:∀ b o u q,CodeObj o q→H2 b=some (.frz o u)→¬ CellOf X b:=fun b o u q ⟨vs,t,hv,_⟩ e ⟨x,z⟩=>by
    obtain ⟨o',ho',z2,_⟩:=c2 x b z
    rw [z2] at e;cases e
    obtain ⟨v,o3,ho,hd⟩:=I1.cell x b z
    rw [ho'] at ho;cases ho
    rw [hv] at hd;cases hd
   have nm:∀ b u,H2 b=some u→(∀ o a,u ≠ .frz o a)→¬ CellOf X b:=fun b u e n ⟨x,z⟩=>by
    obtain ⟨o,_,z2,_⟩:=c2 x b z
    rw [z2] at e;cases e
    exact n _ _ rfl
   refine I1.after ⟨v,dropX X H2,os,bare,⟨fun b o e n hf hx=>?_,fun b o e n hf hx=>?_,fun b o e n hx=>?_,fun b o e hx=>?_,fun b xs e=>?_,fun b o a e=>?_,fun b qs ps e=>?_⟩,fun b u e=>?_,rv,qq⟩
   ·by_cases hc:CellOf X b
    ·obtain ⟨x,ex⟩:=hc
     obtain ⟨o',ho',_,z⟩:=c2 x b ex
     rw [e] at ho';cases ho'
     exact z
    ·exact un.keep b o e (by rw [q1 b hc];exact n) hf hx
   ·exact un.slot b o e (by rw [q1 b (nfr b hf)];exact n) hf hx
   ·by_cases hc:CellOf X b
    ·exact if_pos hc
    ·rw [d1 b hc];exact un.free b o e (by rw [q1 b hc];exact n) hx
   ·exact un.there b o e hx
   ·rw [d1 b (tr b _ e)];exact un.tups b xs (up b _ e)
   ·rw [d1 b (tr b _ e)];exact un.frzs b o a (up b _ e)
   ·rw [d1 b (tr b _ e)];exact un.tbls b qs ps (up b _ e)
   ·have hc:¬ CellOf X b:=fun hc=>by
     have:dropX X H2 b=none:=if_pos hc
     rw [this] at e;cases e
    rw [d1 b hc] at e
    exact (hok2 b u e).stay (fun _ _ _ z=>z) (fun c z=>by rw [d1 c (nm c _ z fun _ _ y=>nomatch y)];exact z) (fun c o a q co z=>by rw [d1 c (nmC c o a q co z)];exact z) fun c xs z=>by rw [d1 c (nm c _ z fun _ _ y=>nomatch y)];exact z
theorem zdy {α β:Type} {R:α→β→Prop}:∀ {xs:List α} {ys:List β},Paired R xs ys→xs.length=ys.length
 | _,_,.nil=>rfl
 | _,_,.cons _ t=>by rw [y10,y10,zdy t]
theorem zjn {α β:Type} {R:α→β→Prop}:∀ {xs:List α} {ys:List β} {i:Nat} {x:α} {y:β},Paired R xs ys→xs[i]?=some x→ys[i]?=some y→R x y
 | _,_,_,_,_,.nil,e,_=>by simp at e
 | _,_,0,_,_,.cons r _,e1,e2=>by simp at e1 e2;subst e1 e2;exact r
 | _,_,i + 1,_,_,.cons _ t,e1,e2=>zjn (i:=i) t (by simpa using e1) (by simpa using e2)
theorem zjt:∀ {ps:List Str} {us:List Value},ps.Nodup→((ps.zip us).map (·.1)).Nodup
 | [],_,_=>by simp
 | _ :: _,[],_=>by simp
 | p :: ps,u :: us,h=>by
  rw [List.zip_cons_cons,y0u]
  refine y1h.mpr ⟨fun hm=>?_,zjt (y1h.mp h).2⟩
  obtain ⟨q,hq,e⟩:=y09.mp hm
  have e':q.1=p:=e
  exact (y1h.mp h).1 (e' ▸ (y2n (show (q.1,q.2) ∈ ps.zip us from hq)).1)
theorem zkl {x:Str} {u:Value}:∀ {l:List (Str × Value)},(l.map (·.1)).Nodup→(x,u) ∈ l→l.lookup x=some u
 | [],_,h=>by simp at h
 | (y,v) :: l,nd,h=>by
  rw [y0u] at nd
  rw [y19]
  rcases y0f.mp h with e | h
  ·cases e;simp
  ·have:(x == y)=false:=by
    rw [beq_eq_false_iff_ne]
    intro z
    exact (y1h.mp nd).1 (z ▸ y09.mpr ⟨_,h,rfl⟩)
   rw [this]
   exact zkl (y1h.mp nd).2 h
theorem zpe {ps:List Str} {us:List Value} {i:Nat} {x:Str} {u:Value} (nd:ps.Nodup) (h1:ps[i]?=some x) (h2:us[i]?=some u):(ps.zip us).reverse.lookup x=some u:=by
 refine zkl ?_ (List.mem_reverse.mpr (y0a (i:=i) (List.getElem?_zip_eq_some.mpr ⟨h1,h2⟩)))
 rw [List.map_reverse]
 exact (List.reverse_perm _).nodup_iff.mpr (zjt nd)
def envL (qual:Str) (scope:Scope) (cl:Z4) (L f:Addr) (cd:Value):Env :=
 { scope:=scope,locals:=L,globals:=mainGlobals,cells:=cl,qual:=qual ++ ".<locals>.",func:=some f,code:=cd,frame:=some L,builtins:=builtinsNs }
def InCl (cl:Z4) (b:Addr):Prop:=∃ x,cl.lookup x=some b
open Classical in
noncomputable def dropL (cl:Z4) (H:Hp):Hp:=fun b=>if InCl cl b then none else H b
open Classical in
noncomputable def mixL (cl:Z4) (H H2:Hp):Hp:=fun b=>if InCl cl b then H b else H2 b
noncomputable def cxL (P:Program) (w:World) (K:Frag) (mg:Z1) (base:Heap) (N:List Str) (qual:Str) (scope:Scope) (cl:Z4) (f:Addr) (cd:Value) (A:Around) (outer:List Env) (s:Shared) (H:Hp):Cx where
 prog:=P
 w:=w
 K:=K
 mg:=mg
 base:=base
 A:=A.deeper (envL qual scope cl s.heap.objs.size f cd)
 N:=N
 s₀:=s
 H₀:=dropL cl H
 env:=envL qual scope cl s.heap.objs.size f cd
 outer:=outer
 stack:=envL qual scope cl s.heap.objs.size f cd :: outer
 ex:=[]
 calm:=true
 fn:=fun _=>false
 pn:=[]
 xe:=fun _ _=>False
structure CloScope (own ps cap:List Str) (sc:Scope):Prop where
 kind:sc.kind=.function
 co:sc.isCoroutine=false
 gen:sc.isGenerator=false
 nocell:∀ y ∈ sc.names,y.2 ≠ .cell
 pre:own.take ps.length=ps
 nd:ps.Nodup
 par:∀ x ∈ ps,sc.names.lookup x=some .local
 cap:∀ x ∈ cap,sc.names.lookup x=some .free
def Caps (H:Hp) (cl:Z4) (cap:List Str) (cv:List V):Prop:=Paired (fun x v=>∃ c o u,cl.lookup x=some c∧H c=some (.frz o (.own c))∧o.data=.cell (some u)∧RelV v u) cap cv
def stL (own:List Str) (vs cv:List V):St:=vs.map some ++ List.replicate (own.length - vs.length) none ++ cv.map some
section
variable {P:Program} {w:World} {K:Frag} {mg:Z1} {base:Heap} {A:Around} {outer:List Env} {s:Shared} {H:Hp} {own ps cap:List Str} {qual:Str} {scope:Scope} {cl:Z4} {f:Addr} {cd:Value} {vs cv:List V} {us:List Value}
theorem zbc {H:Hp} (hcl:∀ x c,cl.lookup x=some c→∃ o v,H c=some (.frz o (.own c))∧o.data=.cell v) {b:Addr} {u:HO} (e:H b=some u) (n:∀ o a,u ≠ .frz o a):¬ InCl cl b:=fun ⟨x,z⟩=>by
 obtain ⟨o,v,z2,_⟩:=hcl x b z
 rw [z2] at e;cases e
 exact n _ _ rfl
theorem zh9 {H:Hp} (hcl:∀ x c,cl.lookup x=some c→∃ o v,H c=some (.frz o (.own c))∧o.data=.cell v) {b:Addr} {o:Obj} {a:HO} {q:Str} (co:CodeObj o q) (e:H b=some (.frz o a)):¬ InCl cl b:=fun ⟨x,z⟩=>by
 obtain ⟨o,v,z2,z3⟩:=hcl x b z
 rw [z2] at e;cases e
 obtain ⟨vs,t,hv,_⟩:=co
 rw [hv] at z3;cases z3
theorem zog {h1:Heap} {tk:Nat} (S:CloScope own ps cap scope) (hd:A.handled=none) (e0:Env0 P w K mg base A outer s H) (hl:vs.length=ps.length) (hlo:ps.length ≤ own.length) (r:Vals vs us)
  (hcl:∀ x c,cl.lookup x=some c→∃ o v,H c=some (.frz o (.own c))∧o.data=.cell v) (hfr:∀ p ∈ scope.names,p.2=.free→∃ c,cl.lookup p.1=some c) (inj:∀ x y c,cl.lookup x=some c→cl.lookup y=some c→x=y) (hcap:Caps H cl cap cv)
  (hns:h1.Ns s.heap.objs.size (fun x=>(ps.zip us).reverse.lookup x)) (hk:∀ b o,s.heap.get? b=some o→h1.get? b=some o) :
  Inv (cxL P w K mg base (own ++ cap) qual scope cl f cd A outer s H) [] (stL own vs cv) (dropL cl H) { s with heap:=h1,toks:=tk }:=by
 classical
 have d1:∀ b,¬ InCl cl b→dropL cl H b=H b:=fun b n=>if_neg n
 have dn:∀ b,H b=none→dropL cl H b=none:=fun b e=>by
  by_cases hc:InCl cl b
  ·exact if_pos hc
  ·rw [d1 b hc];exact e
 have noA:∀ b:Addr,b ∉ (cxL P w K mg base (own ++ cap) qual scope cl f cd A outer s H).ex:=fun b z=>absurd (show b ∈ ([]:List Addr) from z) (by simp)
 have at':∀ x c,cl.lookup x=some c→∃ o v,s.heap.get? c=some o∧o.data=.cell v:=fun x c e=>by
  obtain ⟨o,v,z,zd⟩:=hcl x c e
  exact ⟨o,v,(e0.hok c _ z).1,zd⟩
 have hok0:HOk P w (dropL cl H) s.heap:=fun b u e=>by
  have hc:¬ InCl cl b:=fun hc=>by
   have:dropL cl H b=none:=if_pos hc
   rw [this] at e;cases e
  rw [d1 b hc] at e
  exact (e0.hok b u e).stay (fun _ _ _ z=>z) (fun c z=>by rw [d1 c (zbc hcl z fun _ _ y=>nomatch y)];exact z) (fun c o a q co z=>by rw [d1 c (zh9 hcl co z)];exact z) fun c xs z=>by rw [d1 c (zbc hcl z fun _ _ y=>nomatch y)];exact z
 refine ⟨⟨e0.mod,S.kind,rfl,rfl,y05 _,inj,fun x hx=>?_,fun x c hx=>(by cases hx),fun _=>hd,Around.frames_deeper e0.frames,.inr ⟨rfl,rfl⟩,fun b z=>absurd z (noA b),fun b o e=>⟨(e0.bs b o e).1,dn b (e0.bs b o e).2⟩,e0.bsz,fun b _ _=>noA b,fun b z=>absurd z (noA b),e0.funs,fun b hb=>dn b (e0.frf b hb)⟩,
  rfl,e0.bare,Un.kept hk,⟨_,hns,fun i x v e1 e2 e3=>?_⟩,fun x c e=>?_,hok0.fresh (y05 _),fun x c e=>if_pos ⟨x,e⟩,fun p hp=>absurd (show p ∈ ([]:Z2) from hp) (by simp),hok0.kept hk,?_⟩
 ·have hx:scope.names.lookup x=some .cell∨scope.names.lookup x=some .free:=hx
  rcases hx with z | z
  ·exact absurd rfl (S.nocell _ (mem_of_lookup' z))
  ·exact hfr (x,.free) (mem_of_lookup' z) rfl
 ·have e1':(own ++ cap)[i]?=some x:=e1
  have e2':(vs.map some ++ List.replicate (own.length - vs.length) none ++ cv.map some)[i]?=some (some v):=e2
  have lo:(vs.map some ++ List.replicate (own.length - vs.length) (none:Option V)).length=own.length:=by rw [y0c,y00,y23];omega
  by_cases hi:i < own.length
  ·rw [y0o (by omega)] at e2'
   by_cases hv:i < vs.length
   ·rw [y0o (by simpa using hv),y02] at e2'
    rw [y0o hi] at e1'
    have ha:vs[i]?=some v:=by
     cases q:vs[i]? with
     | none=>rw [q] at e2';cases e2'
     | some z=>rw [q] at e2';exact congrArg some (Option.some.inj (Option.some.inj e2'))
    obtain ⟨u,hu,ru⟩:=r.get ha
    have hp:ps[i]?=some x:=by rw [← S.pre,y3c (by omega)];exact e1'
    refine ⟨u,ru,.inl ⟨S.par x (y0a hp),?_⟩⟩
    exact zpe S.nd hp hu
   ·rw [y0p (by simpa using y1c hv),y2t] at e2'
    split at e2' <;> cases e2'
  ·rw [y0p (by omega),lo,y02] at e2'
   rw [y0p (by omega)] at e1'
   have ha:cv[i - own.length]?=some v:=by
    cases q:cv[i - own.length]? with
    | none=>rw [q] at e2';cases e2'
    | some z=>rw [q] at e2';exact congrArg some (Option.some.inj (Option.some.inj e2'))
   obtain ⟨c,o,u,hc,hz,hd',ru⟩:=zjn hcap e1' ha
   exact ⟨u,ru,.inr ⟨.inr (S.cap x (y0a e1')),c,hc,o,hk c o (e0.hok c _ hz).1,hd'⟩⟩
 ·obtain ⟨o,v,ho,hd'⟩:=at' x c e
  exact ⟨v,o,hk c o ho,hd'⟩
 ·have:=zdy hcap
  show (vs.map some ++ List.replicate (own.length - vs.length) none ++ cv.map some).length=(own ++ cap).length
  rw [y0c,y0c,y00,y23,y00,y0c]
  omega
theorem zjm {N:List Str} {pins:Z2} {σ':St} {H2:Hp} {s':Shared} {v:V} {u:Value} {Q:VK} (e0:Env0 P w K mg base A outer s H) (hcl:∀ x c,cl.lookup x=some c→∃ o v,H c=some (.frz o (.own c))∧o.data=.cell v)
  (J:Inv (cxL P w K mg base N qual scope cl f cd A outer s H) pins σ' H2 s') (rv:RelV v u) (q:(∀ b,InCl cl b→H2 b=none)→Q v (mixL cl H H2)):CE outer P w H s Q u s':=by
 classical
 have d1:∀ b,¬ InCl cl b→dropL cl H b=H b:=fun b n=>if_neg n
 have m1:∀ b,¬ InCl cl b→mixL cl H H2 b=H2 b:=fun b n=>if_neg n
 have nc:∀ b,H b=none→¬ InCl cl b:=fun b e ⟨x,z⟩=>by
  obtain ⟨o,v,z2,_⟩:=hcl x b z
  rw [z2] at e;cases e
 have un:Un (frs outer) [] (dropL cl H) H2 s.heap s'.heap:=J.base
 have cellK:∀ x c,cl.lookup x=some c→∃ o,H c=some (.frz o (.own c))∧s'.heap.get? c=some o∧H2 c=none:=fun x c e=>by
  obtain ⟨o,v,z,_⟩:=hcl x c e
  have ho:=(e0.hok c _ z).1
  have dz:dropL cl H c=none:=if_pos ⟨x,e⟩
  have nf:c ∉ frs outer:=fun hb=>by rw [e0.frf c hb] at z;cases z
  exact ⟨o,z,un.keep c o ho dz nf (by simp),un.free c o ho dz (by simp)⟩
 have nm:∀ b u,H2 b=some u→¬ InCl cl b:=fun b u e ⟨x,z⟩=>by
  obtain ⟨_,_,_,z2⟩:=cellK x b z
  rw [z2] at e;cases e
 ac_rfl
 ·have hc:=zbc hcl e fun _ _ y=>nomatch y
  rw [m1 b hc];exact un.tups b xs (by rw [d1 b hc];exact e)
 ·by_cases hc:InCl cl b
  ·show (if InCl cl b then H b else H2 b)=_
   rw [if_pos hc];exact e
  ·rw [m1 b hc];exact un.frzs b o a (by rw [d1 b hc];exact e)
 ·have hc:=zbc hcl e fun _ _ y=>nomatch y
  rw [m1 b hc];exact un.tbls b qs ps (by rw [d1 b hc];exact e)
 ·by_cases hc:InCl cl b
  ·have e':H b=some u:=by rw [← e];exact (if_pos hc).symm
   obtain ⟨x,z⟩:=hc
   obtain ⟨o,z1,z2,_⟩:=cellK x b z
   rw [z1] at e';cases e'
   exact ⟨z2,o,z2⟩
  ·rw [m1 b hc] at e
   exact (J.hok b u e).stay (fun _ _ _ z=>z) (fun c z=>by rw [m1 c (nm c _ z)];exact z) (fun c _ _ _ _ z=>by rw [m1 c (nm c _ z)];exact z) fun c xs z=>by rw [m1 c (nm c _ z)];exact z
end
section
variable {prog:Program} {w:World} {A:Around} {R:Result→Shared→Prop} {s:Shared}
theorem zgv {e:Expr} {env:Env} (h:wpAny (model prog w) (A.deeper env) (eval e env) (fun v s'=>R (.ok (.ret v)) s') (fun e s'=>wpAny (model prog w) (A.deeper env) (leaving env e) (fun _ s''=>R (.error e) s'') (fun e' s''=>R (.error e') s'') s') s) :
  codeAny (model prog w) A (.expr e env) R s:=by
 refine codeAny_of_tree ?_
 show wpAny _ (A.deeper env) (do point;ret (← (eval e env).onRaise (leaving env))) _ _ s
 exact wpAny_bind (wpAny_point (wpAny_bind (wpAny_onRaise (wpAny_mono h (fun v s' h'=>wpAny_pure h') fun _ _ h'=>h'))))
theorem zdr {a:Addr} {args:Args} {o:Obj} {fd:FuncData} {body:Expr} (hroom:A.depth < recursionLimit) (ho:s.heap.get? a=some o) (hd':o.data=.func fd) (hco:fd.scope.isCoroutine=false) (hgen:fd.scope.isGenerator=false) (hbody:fd.body=.expr body) (hcd:s.heap.CodeRec fd.code fd.qualname)
  (h:wpAny (model prog w) A.in1 (bindArgs fd args) (fun binds s₁ =>
   wpAny (model prog w) A.in1 (newFunctionEnv fd.scope fd.globals fd.closure binds (fd.qualname ++ ".<locals>.") (some a) fd.code none fd.builtins)
    (fun env s₂=>s₂.heap.NoLimit∧codeAny (model prog w) A (.expr body env) R s₂) (fun e s'=>R (.error e) s') s₁) (fun e s'=>R (.error e) s') s) :
  codeAny (model prog w) A (.call (.ref a) args) R s:=by
 refine codeAny_of_tree ?_
 show wpAny _ A.in1 (callAny (.ref a) args) _ _ s
 simp only [callAny]
 refine wpAny_bind (wpAny_load ho ?_)
 obtain ⟨c,oc,vs,tq,hc,hoc,hdc,hq⟩:=hcd
 simp only [hd',callFunction,hco,hgen,hbody,hc]
 rw [hc] at h
 refine wpAny_bind (m:=field (.ref c) 1) (wpAny_field hoc hdc hq (wpAny_bind (wpAny_pure ?_)))
 exact wpAny_bind (wpAny_mono h (fun binds s₁ h₁=>wpAny_bind (wpAny_mono h₁ (fun env s₂ h₂=>wpAny_bind (wpAny_enterFrame h₂.1 hroom
  (wpAny_pure (And.intro rfl h₂.2)))) fun _ _ h'=>h')) fun _ _ h'=>h')
end
section
variable {P:Program} {w:World} {K:Frag} {mg:Z1} {base:Heap} {H:Hp} {own ps cap:List Str} {name qual:Str} {params:Arguments} {scope:Scope} {cl:Z4} {f c':Addr} {oc:Obj} {ct pm:Value} {cv:List V} {k:Nat} {sp:Sp}
theorem Caps.frz {H H':Hp} (g:Frz H H'):∀ {cap:List Str} {cv:List V},Caps H cl cap cv→Caps H' cl cap cv
 | _,_,.nil=>.nil
 | _,_,.cons ⟨c,o,u,e1,e2,e3⟩ t=>.cons ⟨c,o,u,e1,g _ _ _ e2,e3⟩ (Caps.frz g t)
theorem zrf {body:Expr} (S:CloScope own ps cap scope) (hlo:ps.length ≤ own.length) (hf:H f=some (fnO (cloFd name qual params (.expr body) scope cl ct (.ref c') pm) f)) (hcode:H c'=some (.frz oc (.own c'))) (co:CodeObj oc qual)
  (hcl:∀ x c,cl.lookup x=some c→∃ o v,H c=some (.frz o (.own c))∧o.data=.cell v) (hfr:∀ p ∈ scope.names,p.2=.free→∃ c,cl.lookup p.1=some c) (inj:∀ x y c,cl.lookup x=some c→cl.lookup y=some c→x=y) (hcap:Caps H cl cap cv)
  (hbind:∀ us:List Value,us.length=ps.length→bindArgs (cloFd name qual params (.expr body) scope cl ct (.ref c') pm) ⟨us,[]⟩=pure (ps.zip us))
  (hbody:∀ (A:Around) (outer:List Env) (s:Shared) (H':Hp) (vs:List V) (Q:VK),Room k (A.deeper (envL qual scope cl s.heap.objs.size f (.ref c')))→Frz H H'→vs.length=ps.length→sp vs H' Q E0 →
   ∃ t,PE (cxL P w K mg base (own ++ cap) qual scope cl f (.ref c') A outer s H') body t∧t (stL own vs cv) (dropL cl H') (fun v H2=>(∀ b,InCl cl b→H2 b=none)→Q v (mixL cl H' H2))):CloH P w K mg base (k + 1) H f ps.length sp:=by
 intro A outer s H' us vs Q hr e0 fz r hl hsp
 have KX:K.In s.heap:=e0.mod.kin.keeps fun b o e=>(e0.bs b o e).1
 have lim:s.heap.NoLimit:=e0.mod.nolimit.keeps fun b o e=>(e0.bs b o e).1
 have ho:=(e0.hok f _ (fz _ _ _ hf)).1
 have hoc:=(e0.hok c' _ (fz _ _ _ hcode)).1
 obtain ⟨ws,t',cd1,cd2⟩:=co
 have hlu:us.length=ps.length:=by rw [← r.length];exact hl
 have hcl':∀ x c,cl.lookup x=some c→∃ o v,H' c=some (.frz o (.own c))∧o.data=.cell v:=fun x c e=>let ⟨o,v,z,d⟩:=hcl x c e;⟨o,v,fz _ _ _ z,d⟩
 refine zdr hr.depth ho rfl S.co S.gen rfl ⟨c',oc,ws,t',rfl,hoc,cd1,cd2⟩ ?_
 rw [hbind us hlu]
 refine wpAny_pure (wpAny_newFunctionEnv S.nocell (fun y hy=>S.par y.1 (y2n (show (y.1,y.2) ∈ ps.zip us from hy)).1) (fun h1 hns hsb=>?_) S.kind)
 have hk:∀ b o,s.heap.get? b=some o→h1.get? b=some o:=fun b o e=>hsb.extBut b o (y0n (y0g e)) (y0b _ e)
 refine ⟨lim.keeps hk,zgv ?_⟩
 obtain ⟨t,ht,hq⟩:=hbody A outer s H' vs Q (hr.deeper _) fz hl hsp
 have I:=zog (qual:=qual) (f:=f) (cd:=.ref c') (tk:=s.toks + (ps.zip us).length) S hr.hd e0 hl hlo r hcl' hfr inj (hcap.frz fz) hns hk
 exact wpAny_mono (ht [] _ _ _ _ I hq) (fun u s' ⟨v,H2,J,rv,q⟩=>zjm e0 hcl' J rv q) fun _ _ z=>z.elim
theorem zo5 {body:List Stmt} (S:CloScope own ps cap scope) (hlo:ps.length ≤ own.length) (hf:H f=some (fnO (cloFd name qual params (.stmts body) scope cl ct (.ref c') pm) f)) (hcode:H c'=some (.frz oc (.own c'))) (co:CodeObj oc qual)
  (hcl:∀ x c,cl.lookup x=some c→∃ o v,H c=some (.frz o (.own c))∧o.data=.cell v) (hfr:∀ p ∈ scope.names,p.2=.free→∃ c,cl.lookup p.1=some c) (inj:∀ x y c,cl.lookup x=some c→cl.lookup y=some c→x=y) (hcap:Caps H cl cap cv)
  (hbind:∀ us:List Value,us.length=ps.length→bindArgs (cloFd name qual params (.stmts body) scope cl ct (.ref c') pm) ⟨us,[]⟩=pure (ps.zip us))
  (hbody:∀ (A:Around) (outer:List Env) (s:Shared) (H':Hp) (vs:List V) (Q:VK),Room k (A.deeper (envL qual scope cl s.heap.objs.size f (.ref c')))→Frz H H'→vs.length=ps.length→sp vs H' Q E0 →
   ∃ t,PSs (cxL P w K mg base (own ++ cap) qual scope cl f (.ref c') A outer s H') body t∧t { nx:=fun _ H2=>(∀ b,InCl cl b→H2 b=none)→Q .non (mixL cl H' H2),rt:=fun v H2=>(∀ b,InCl cl b→H2 b=none)→Q v (mixL cl H' H2) } (stL own vs cv) (dropL cl H')):CloH P w K mg base (k + 1) H f ps.length sp:=by
 intro A outer s H' us vs Q hr e0 fz r hl hsp
 have KX:K.In s.heap:=e0.mod.kin.keeps fun b o e=>(e0.bs b o e).1
 have lim:s.heap.NoLimit:=e0.mod.nolimit.keeps fun b o e=>(e0.bs b o e).1
 have ho:=(e0.hok f _ (fz _ _ _ hf)).1
 have hoc:=(e0.hok c' _ (fz _ _ _ hcode)).1
 obtain ⟨ws,t',cd1,cd2⟩:=co
 have hlu:us.length=ps.length:=by rw [← r.length];exact hl
 have hcl':∀ x c,cl.lookup x=some c→∃ o v,H' c=some (.frz o (.own c))∧o.data=.cell v:=fun x c e=>let ⟨o,v,z,d⟩:=hcl x c e;⟨o,v,fz _ _ _ z,d⟩
 refine codeAny_call_function hr.depth ho rfl S.co S.gen rfl ⟨c',oc,ws,t',rfl,hoc,cd1,cd2⟩ ?_
 rw [hbind us hlu]
 refine wpAny_pure (wpAny_newFunctionEnv S.nocell (fun y hy=>S.par y.1 (y2n (show (y.1,y.2) ∈ ps.zip us from hy)).1) (fun h1 hns hsb=>?_) S.kind)
 have hk:∀ b o,s.heap.get? b=some o→h1.get? b=some o:=fun b o e=>hsb.extBut b o (y0n (y0g e)) (y0b _ e)
 refine ⟨lim.keeps hk,codeAny_func ?_⟩
 obtain ⟨t,ht,hq⟩:=hbody A outer s H' vs Q (hr.deeper _) fz hl hsp
 have I:=zog (qual:=qual) (f:=f) (cd:=.ref c') (tk:=s.toks + (ps.zip us).length) S hr.hd e0 hl hlo r hcl' hfr inj (hcap.frz fz) hns hk
 refine wpAny_mono (ht [] _ _ _ _ I hq) (fun fl s' hs=>?_) fun _ _ z=>z.elim
 cases fl with
 | ret u =>
  obtain ⟨v,σ',H2,J,rv,q⟩:=hs
  exact zjm e0 hcl' J rv q
 | next =>
  obtain ⟨σ',H2,J,q⟩:=hs
  exact zjm (v:=V.non) (u:=Value.none) e0 hcl' J rfl q
 | brk =>
  obtain ⟨_,_,_,q⟩:=hs
  exact False.elim q
 | cont =>
  obtain ⟨_,_,_,q⟩:=hs
  exact False.elim q
end
structure FunC (K:Frag) (x:Str) (st:Stmt) (f:Addr) (fd:FuncData) (c:Addr):Prop where
 ex:∃ (oc:Value) (od:Option Addr) (kV doc pm:Value) (an:Option Addr) (ct:Value) (osl:Z8),
  fd=PySem.W.fnOf x x (defArgs st) (defBody st) (defScope st) .none kV doc pm an (.ref c) ct∧K.lookup f=some ⟨oc,od,.func fd,osl⟩∧PySem.W.codeIn K (.ref c) x=true
 kp:PySem.W.keepIn K (.ref f)=true
structure DfnC (K:Frag) (mg:Z1) (x:Str) (st:Stmt) (ps:List Str) (c P:Addr):Prop where
 ex:∃ f fd,FunC K x st f fd c∧Binds K fd ps []∧mg x=some (.ref f)
 code:KCode K c P
theorem kcode_mk {K:Frag} {c P:Addr} {od:Option Addr} {vs:Array Value} {sl:Z8} {file:Str} {tf tg tt:Tok} {flags text:Int} {inF:Bool} (l:K.lookup c=some ⟨.type "code",od,.fields vs,sl⟩)
  (e11:vs[11]?=some (.ref P)) (e18:vs[18]?=some (.str file tf)) (e7:vs[7]?=some (.int flags tg)) (e9:vs[9]?=some (.bool inF)) (e10:vs[10]?=some (.int text tt)) (ne:c ≠ P):KCode K c P:=by
 have g:∀ {i:Nat} {v:Value},vs[i]?=some v→vs.getD i .none=v:=fun {i v} e=>by rw [y28,e];rfl
 exact ⟨_,vs,file,tf,flags,tg,inF,text,tt,l,rfl,rfl,e11,g e11,g e18,g e7,g e9,g e10,ne⟩
theorem dfnc_mk {K:Frag} {h:Heap} {mg:Z1} {x:Str} {st:Stmt} {ps:List Str} {f c P:Addr} {oc:Value} {od an:Option Addr} {osl:Z8} {kV doc pm ct:Value} (X:K.In h) (G:h.Ns mainGlobals mg)
  (a:PySem.W.nsIn K mainGlobals x=some (some (.ref f))) (l:K.lookup f=some ⟨oc,od,.func (PySem.W.fnOf x x (defArgs st) (defBody st) (defScope st) .none kV doc pm an (.ref c) ct),osl⟩)
  (cd:PySem.W.codeIn K (.ref c) x=true) (k:PySem.W.keepIn K (.ref f)=true) (kc:KCode K c P)
  (hb:∀ (kV doc pm:Value) (an:Option Addr) (cdv ct:Value) (us:List Value),us.length=ps.length→bindArgs (PySem.W.fnOf x x (defArgs st) (defBody st) (defScope st) .none kV doc pm an cdv ct) ⟨us,[]⟩=pure (ps.zip us)):DfnC K mg x st ps c P :=
 ⟨⟨f,_,⟨⟨oc,od,kV,doc,pm,an,ct,osl,rfl,l,cd⟩,k⟩,(zkw l cd k).binds hb,PySem.W.mg_of X G a⟩,kc⟩
section
variable {P:Program} {w:World} {K:Frag} {mg:Z1} {base:Heap}
theorem DfnC.cal {x:Str} {st:Stmt} {N ps:List Str} {k:Nat} {sp:Sp} {c Pt:Addr} (d:DfnC K mg x st ps c Pt) (S:FnScope N ps (defScope st)) (len:∀ vs H Q E,sp vs H Q E→vs.length=ps.length)
  (hbody:∀ (f:Addr) (A:Around) (outer:List Env) (s:Shared) (H:Hp) (vs:List V) (Q:VK) (E:XK),Room k (A.deeper (envOfC x (defScope st) s.heap.objs.size f (.ref c)))→sp vs H Q E →
   ∃ t,PSs (cxOf CX0 P w K mg base N x (defScope st) f (.ref c) A outer s H E).nox (defBody st) t∧t { nx:=fun _ H'=>Q .non H',rt:=Q } (start N vs) H):Cal P w K mg base (k + 1) x ps sp:=by
 obtain ⟨f,fd,F,b,m⟩:=d.ex
 obtain ⟨oc,od,kV,doc,pm,an,ct,osl,rfl,lk,hcd⟩:=F.ex
 refine ⟨f,_,zq5 lk hcd S len fun A outer s H vs Q E hr hsp=>?_,b,F.kp,m⟩
 obtain ⟨t,h,q⟩:=hbody f A outer s H vs Q E hr hsp
 exact ⟨t,h.nox,q⟩
end
def TabFor (q:Program) (K:Frag) (mg:Z1) (b:Addr):Prop:=∃ d ∈ recsOf q,∃ f oc od fd osl c,mg d.name=some (.ref f)∧K.lookup f=some ⟨oc,od,.func fd,osl⟩∧fd.code=.ref c∧KCode K c b
theorem DfnC.tab {q:Program} {K:Frag} {mg:Z1} {x:Str} {st:Stmt} {ps:List Str} {c b:Addr} (d:DfnC K mg x st ps c b) (hx:((recsOf q).any fun r=>r.name == x)=true):TabFor q K mg b:=by
 obtain ⟨r,hr,e⟩:=y24.mp hx
 obtain ⟨f,fd,F,_,m⟩:=d.ex
 obtain ⟨oc,od,kV,doc,pm,an,ct,osl,rfl,lk,hcd⟩:=F.ex
 exact ⟨r,hr,f,oc,od,_,osl,c,by rw [beq_iff_eq.mp e];exact m,lk,rfl,d.code⟩
def TabsOf (q:Program) (mg:Z1) (h:Heap):Prop:=∀ d ∈ recsOf q,∃ a o fd c P,mg d.name=some (.ref a)∧h.get? a=some o∧o.data=.func fd∧fd.code=.ref c∧h.IsCode c P #[]∧h.TableAt c P #[]
theorem TabFor.at {q:Program} {K:Frag} {mg:Z1} {h:Heap} {b:Addr} (t:TabFor q K mg b) (X:K.In h) (T:TabsOf q mg h):∃ c,h.TableAt c b #[]:=by
 obtain ⟨d,hd,f,oc,od,fd,osl,c,m,lk,ec,kc⟩:=t
 obtain ⟨a,o,fd',c',P',m',ho,hf,hc,_,ta⟩:=T d hd
 rw [m] at m';cases m'
 rw [X f _ lk] at ho;cases ho
 cases hf
 rw [ec] at hc;cases hc
 obtain ⟨o,vs,_,_,_,_,_,_,_,lk',_,hd',h11,_⟩:=kc
 obtain ⟨⟨o2,vs2,e1,e2,e3,e4⟩,e5⟩:=id ta
 rw [X c o lk'] at e1;cases e1
 rw [hd'] at e3;cases e3
 rw [h11] at e4;cases e4
 exact ⟨c,ta⟩
def OnlyT (ts:List (Addr × List (Pos × Str))) (H:Hp):Prop:=(∀ b,H b=none∨(∃ o xs,H b=some (.frz o (.lst xs)))∨∃ qs,ts.lookup b=some qs∧H b=some (.tbl qs #[]))∧∀ b qs,ts.lookup b=some qs→H b=some (.tbl qs #[])
theorem OnlyT.tab {ts:List (Addr × List (Pos × Str))} {H:Hp} (h:OnlyT ts H) {b:Addr} {qs:Z3} (e:ts.lookup b=some qs):TabOk H b qs:=⟨#[],h.2 b qs e⟩
theorem zn8 {P:Program} {w:World} {K:Frag} {mg mb:Z1} {CX:CXT} {k:Nat} {fa a:Addr} {fd:FuncData} {x:Str} {sp:Sp} {s₁:Shared} {vs:List Value} {ns:List Int} {ts:List (Addr × List (Pos × Str))}
  (KX:K.In s₁.heap) (hns:s₁.heap.Ns mainGlobals mg) (hb:s₁.heap.Ns builtinsNs mb) (hbb:∀ x:Str,x ≠ "__name__"→mb x=bootBuiltins x) (hlim:s₁.heap.NoLimit) (hg:s₁.gens=#[])
  (ha:s₁.heap.get? a=some { cls:=.type "list",data:=.seq vs.toArray }) (hi:IntsAre vs ns) (hl:ns.length ≤ sizeLine) (hr:Room k callerA)
  (hbm:BltK s₁.heap mg) (hts:∀ b qs,ts.lookup b=some qs→∃ c,s₁.heap.TableAt c b #[]) (hKt:∀ b qs,ts.lookup b=some qs→K.lookup b=none)
  (F:∀ base:Heap,K.In base→base.Ns mainGlobals mg→BltK base mg→FnOk P w K mg base CX k fa fd [x] sp) (hbind:∀ (s:Shared) (u:Value),BindsTo s fd ⟨[u],[]⟩ [(x,u)])
  (hsp:∀ H:Hp,OnlyT ts H→SqL K H a (ns.map V.int)→sp [.ref a] H (fun v _=>v=.bl true) fun _ _ _=>False)
  (hCX:∀ H e s',CX [] H s₁ (fun _ _ _=>False) e s'→False) :
  codeAny (model P w) callerA (.call (.ref fa) ⟨[.ref a],[]⟩) (fun r s'=>r=.ok (.ret (.bool true))∧OldK s₁.heap s'.heap∧s'.os=s₁.os∧AllBare s'.gens) s₁:=by
 have rv:=zha hi
 have lenV:=hi.length
 have core:∀ H:Hp,OnlyT ts H→SqL K H a (ns.map V.int)→HOk P w H s₁.heap→(∀ b,H b ≠ none→b=a∨∃ qs,ts.lookup b=some qs)→(H a ≠ none→K.lookup a=none) →
   codeAny (model P w) callerA (.call (.ref fa) ⟨[.ref a],[]⟩) (fun r s'=>r=.ok (.ret (.bool true))∧OldK s₁.heap s'.heap∧s'.os=s₁.os∧AllBare s'.gens) s₁:=by
  intro H hO hS hok hA hK
  have base_of:∀ {b:Addr} {o:Obj},s₁.heap.get? b=some o→H b=none→(hidT s₁.heap H).get? b=some o:=fun e n=>zqz e n
  have noT:∀ {b:Addr} {o:Obj},s₁.heap.get? b=some o→(∀ q n,o.data ≠ .seq q n)→(∀ ps,o.data ≠ .fields ps∨o.cls ≠ .none)→H b=none:=fun {b o} e n1 n2=>by
   cases q:H b with
   | none=>rfl
   | some u =>
    rcases hA b (by rw [q];simp) with e' | ⟨qs,e'⟩
    ·subst e'
     rw [ha] at e;cases e
     exact absurd rfl (n1 _ _)
    ·obtain ⟨c,_,e5⟩:=hts b qs e'
     rw [e5] at e;cases e
     rcases n2 #[] with z | z
     ·exact absurd rfl z
     ·exact absurd rfl z
  have noA:∀ {b:Addr} {o:Obj} {es:Array DictEntry} {ep:Nat},s₁.heap.get? b=some o→o.data=.dict es ep→H b=none:=fun {b o es ep} e d=>noT e (fun q n z=>by rw [d] at z;cases z) fun ps=>.inl fun z=>by rw [d] at z;cases z
  have nsK:∀ {b:Addr} {m:Z1},s₁.heap.Ns b m→(hidT s₁.heap H).Ns b m:=fun {b m} ⟨o,es,ep,e,d,r⟩=>⟨o,es,ep,base_of e (noA e d),d,r⟩
  have hKb:K.In (hidT s₁.heap H):=fun b o e=>base_of (KX b o e) (by
   cases q:H b with
   | none=>rfl
   | some u =>
    rcases hA b (by rw [q];simp) with e' | ⟨qs,e'⟩
    ·subst e'
     rw [hK (by rw [q];simp)] at e;cases e
    ·rw [hKt b qs e'] at e;cases e)
  have hBb:BltK (hidT s₁.heap H) mg:=by
   obtain ⟨bm,o,b1,b2,b3,b4,b5,b6⟩:=hbm
   exact ⟨bm,o,b1,b2,base_of b3 (noT b3 (fun q n z=>by rw [b6] at z;cases z) fun ps=>.inl fun z=>by rw [b6] at z;cases z),b4,b5,b6⟩
  have hM:Mod K mg (hidT s₁.heap H):=⟨hKb,nsK hns,⟨mb,nsK hb,hbb⟩,let ⟨mc,h1,h2⟩:=hlim;⟨mc,nsK h1,h2⟩⟩
  have e0:Env0 P w K mg (hidT s₁.heap H) callerA [] s₁ H:=⟨rfl,hM,fun b o e=>zs9 e,y3m (zoi _ _),trivial,fun b hb=>absurd (show b ∈ ([]:List Addr) from hb) (by simp),hok,.of_eq hg⟩
  refine codeAny_mono ((F _ hKb (nsK hns) hBb).run callerA [] s₁ H ⟨[.ref a],[]⟩ [.ref a] [.ref a] _ _ hr e0 (hbind s₁ (.ref a)) (.cons rfl .nil) (hsp H hO hS)) fun r s' h=>?_
  cases r with
  | error e=>exact (hCX H e s' h).elim
  | ok fl =>
   cases fl with
   | next=>exact False.elim h
   | brk=>exact False.elim h
   | cont=>exact False.elim h
   | ret u =>
    obtain ⟨v,H',os,bare,un,hok',r',q⟩:=h
    have q':v=.bl true:=q
    subst q'
    obtain rfl:u=Value.bool true:=r'
    have was:∀ b o,s₁.heap.get? b=some o→asItWas s₁.heap s'.heap b o:=fun b o e=>by
     rcases hO.1 b with z | ⟨ob,xs,z⟩ | ⟨qs,l,z⟩
     ·exact .inl (un.keep b o e z (by intro z;exact absurd (show b ∈ ([]:List Addr) from z) (by simp)) (by simp))
     ·have z2:=un.frzs b ob _ z
      obtain ⟨e1,_⟩:=hok b _ z
      obtain ⟨e2,_⟩:=hok' b _ z2
      rw [e] at e1;cases e1
      exact .inl e2
     ·have z2:=un.tbls b qs _ z
      obtain ⟨more,e2,_⟩:=hok' b _ z2
      obtain ⟨c,ta⟩:=hts b qs l
      have e5:=ta.2
      rw [e5] at e;cases e
      exact .inr (.inl ⟨ta.isCodeTable,rfl,#[],more,rfl,e2⟩)
    exact ⟨rfl,⟨was,fun b o e=>un.there b o e (by simp)⟩,os,bare⟩
 have neA:∀ qs,ts.lookup a=some qs→False:=fun qs e=>by
  obtain ⟨c,_,e5⟩:=hts a qs e
  rw [e5] at ha;cases ha
 have tabOk:∀ (H:Hp) b qs,ts.lookup b=some qs→ObjOk P w H s₁.heap b (.tbl qs #[]):=fun H b qs e=>by
  obtain ⟨c,_,e5⟩:=hts b qs e
  exact ⟨#[],by simpa using e5,trivial,fun p hp v z=>by simp [codeAmong] at z⟩
 let HT:Hp:=fun b=>(ts.lookup b).map fun qs=>.tbl qs #[]
 have hT1:∀ b qs,ts.lookup b=some qs→HT b=some (.tbl qs #[]):=fun b qs e=>by show (ts.lookup b).map _=_;rw [e];rfl
 have hT2:∀ b,ts.lookup b=none→HT b=none:=fun b e=>by show (ts.lookup b).map _=_;rw [e];rfl
 cases hk:K.lookup a with
 | some o =>
  have e:=KX a o hk
  rw [ha] at e
  cases e
  refine core HT ⟨fun b=>?_,hT1⟩ (.inr ⟨_,vs.toArray,_,hk,rfl,rfl,rfl,by rw [y06,lenV];exact hl,by simpa using rv⟩) (fun b u z=>?_) (fun b z=>?_) fun z=>?_
  ·cases e:ts.lookup b with
   | none=>exact .inl (hT2 b e)
   | some qs=>exact .inr (.inr ⟨qs,rfl,hT1 b qs e⟩)
  ·cases e:ts.lookup b with
   | none=>rw [hT2 b e] at z;cases z
   | some qs=>rw [hT1 b qs e] at z;cases z;exact tabOk _ b qs e
  ·cases e:ts.lookup b with
   | none=>exact absurd (hT2 b e) z
   | some qs=>exact .inr ⟨qs,rfl⟩
  ·cases e:ts.lookup a with
   | none=>exact absurd (hT2 a e) z
   | some qs=>exact (neA qs e).elim
 | none =>
  let H1:Hp:=fun b=>if b=a then some (.frz { cls:=.type "list",data:=.seq vs.toArray } (.lst (ns.map V.int))) else HT b
  have h1a:H1 a=some (.frz { cls:=.type "list",data:=.seq vs.toArray } (.lst (ns.map V.int))):=if_pos rfl
  have h1b:∀ b,b ≠ a→H1 b=HT b:=fun b e=>if_neg e
  refine core H1 ⟨fun b=>?_,fun b qs e=>?_⟩ (.inl (.inr ⟨{ cls:=.type "list",data:=.seq vs.toArray },h1a⟩)) (fun b u z=>?_) (fun b z=>?_) fun _=>hk
  ·by_cases hb:b=a
   ·subst hb;exact .inr (.inl ⟨_,_,h1a⟩)
   ·rw [h1b b hb]
    cases e:ts.lookup b with
    | none=>exact .inl (hT2 b e)
    | some qs=>exact .inr (.inr ⟨qs,rfl,hT1 b qs e⟩)
  ·rw [h1b b fun z=>neA qs (z ▸ e)];exact hT1 b qs e
  ·by_cases hb:b=a
   ·subst hb
    rw [h1a] at z;cases z
    exact ⟨ha,by rw [y00];exact hl,vs,_,rv,ha⟩
   ·rw [h1b b hb] at z
    cases e:ts.lookup b with
    | none=>rw [hT2 b e] at z;cases z
    | some qs=>rw [hT1 b qs e] at z;cases z;exact tabOk _ b qs e
  ·by_cases hb:b=a
   ·exact .inl hb
   ·rw [h1b b hb] at z
    cases e:ts.lookup b with
    | none=>exact absurd (hT2 b e) z
    | some qs=>exact .inr ⟨qs,rfl⟩
theorem walk_ofT {l:PySem.W.OpenLaw} {n k:Nat} {q:Program} {loose:List Str} {XP:(Str→Option Value)→Heap→Prop} {YP:World→Heap→Prop} {d:DefRec} {K:Params→Frag} {CX:CXT} {sp:Frag→List (Addr × List (Pos × Str))→Sp} {x:Str}
  (hn:l.most=some n) (hn2:n ≤ sizeLine) (hdf:d.params.defaults=[]) (hr:Room k callerA)
  (hY:∀ (w:World) (h:Heap),YP w h→(K w.params).In h)
  (F:∀ (w:World) (mg:Z1) (fa:Addr) (h:Heap),(K w.params).In h→h.Ns mainGlobals mg→mg d.name=some (.ref fa) →
   ∃ (fd:FuncData) (ts:List (Addr × List (Pos × Str))),(∀ (s:Shared) (u:Value),BindsTo s fd ⟨[u],[]⟩ [(x,u)])∧(∀ b qs,ts.lookup b=some qs→TabFor q (K w.params) mg b∧(K w.params).lookup b=none) ∧
    ∀ base:Heap,(K w.params).In base→base.Ns mainGlobals mg→BltK base mg→FnOk l.prog w (K w.params) mg base CX k fa fd [x] (sp (K w.params) ts))
  (hsp:∀ (K:Frag) (ts:List (Addr × List (Pos × Str))) (H:Hp) (a:Addr) (ns:List Int),ns.length ≤ n→OnlyT ts H→SqL K H a (ns.map V.int)→sp K ts [.ref a] H (fun v _=>v=.bl true) fun _ _ _=>False)
  (hCX:∀ (H:Hp) (s:Shared) (e:Value) (s':Shared),CX [] H s (fun _ _ _=>False) e s'→False) :
  PySem.W.WalkO q loose XP YP l.row.toRowW d [] (fun f vs=>PySem.call f vs):=by
 refine Att.attach_call hn hdf fun w s₀ s₁ mg mb fa o pm cd doc a vs ns G Y ho hd hcd hmg hobj hints hlen hg=>?_
 have KX:=hY w _ Y
 obtain ⟨fd,ts,hb,ht,hF⟩:=F w mg fa _ KX G.T.g hmg
 exact zn8 KX G.T.g G.T.b G.T.builtins G.T.nolimit hg hobj hints (y13 hlen hn2) hr G.T.bmain (fun b qs e=>(ht b qs e).1.at KX G.T.tab) (fun b qs e=>(ht b qs e).2) hF hb (fun H hO hS=>hsp (K w.params) ts H a ns hlen hO hS) fun H e s'=>hCX H s₁ e s'
theorem zrz:∀ {ts:List (Addr × List (Pos × Str))} {b:Addr} {qs:Z3},ts.lookup b=some qs→(b,qs) ∈ ts
 | [],_,_,e=>by simp at e
 | (a,q) :: ts,b,qs,e=>by
  rw [y19] at e
  split at e
  ·rename_i z
   cases e
   rw [show b=a from beq_iff_eq.mp z];exact y0d
  ·exact y08 _ (zrz e)
theorem ts_all {ts:List (Addr × List (Pos × Str))} {R:Addr→Prop} (h:∀ p ∈ ts,R p.1):∀ b qs,ts.lookup b=some qs→R b:=fun b qs e=>h (b,qs) (zrz e)
theorem zhv {X:Cx} {n k:Nat} {x:Str} {ps:List Str} {sp:Sp} {p pos:Pos} {e:Expr} {es:List Expr} {t:TA} (C:Cal X.prog X.w X.K X.mg X.base n x ps sp) (hr:Room k X.A) (hle:n ≤ k) (hg:Gl X x) (hfn:∀ x,X.fn x=true) (ha:PA X (e :: es) t) (hdb:(x == ("__debug__":Str))=false:=by decide)
  (h1:notStar e=true:=by rfl) (h2:es.all notStar=true:=by rfl):PE X (.Call (.Name x p) (e :: es) [] pos) (tCallA X sp t):=by
 obtain ⟨f,fd,F,b,kp,m⟩:=C.ex
 exact zqd F (hr.mono hle) hg m kp b hfn ha hdb (zbd h1) (zbw h2)
theorem znf {X:Cx} {x:Str} (i k n:Nat) (sp:Sp) {m:Nat} {p pos:Pos} {e:Expr} {es:List Expr} {t:TA} (hr:Room m X.A) (hle:k ≤ m) (ha:PA X (e :: es) t) (hN:X.N[i]?=some x:=by rfl) (hv:Vis X.env.scope x:=by first | exact Or.inl rfl | exact Or.inr (Or.inl rfl) | exact Or.inr (Or.inr rfl))
  (hd:(x == ("__debug__":Str))=false:=by decide) (hcd:(x == ("__classdict__":Str))=false:=by decide) (h1:notStar e=true:=by rfl) (h2:es.all notStar=true:=by rfl) :
  PE X (.Call (.Name x p) (e :: es) [] pos) (tCallV X.prog X.w X.K X.mg X.base k n sp i t):=zqb hN hv (hr.mono hle) ha hd hcd (zbd h1) (zbw h2)
def freeOk (env:Env) (sc:Scope):Bool:=sc.names.all fun p=>p.2 != .free || (env.kindOf p.1 == some .cell || env.kindOf p.1 == some .free)
theorem freeOk.of {env:Env} {sc:Scope} (h:freeOk env sc=true):∀ p ∈ sc.names,p.2=.free→env.kindOf p.1=some .cell∨env.kindOf p.1=some .free:=fun p hp e=>by
 have q:=y1n.mp h p hp
 rw [e] at q
 simpa using q
def oneOk (qs:Z3) (pos:Pos) (qual:Str):Bool:=qs.any (fun p=>p.1.line == pos.line && p.1.col == pos.col && p.1.endLine == pos.endLine && p.1.endCol == pos.endCol && p.2 == qual) && qs.all fun p=>p.1.line != pos.line || p.1.col != pos.col || p.2 == qual
theorem oneOk.one {qs:Z3} {pos:Pos} {qual:Str} (h:oneOk qs pos qual=true):∀ p ∈ qs,p.1.line=pos.line→p.1.col=pos.col→p.2=qual:=fun p hp e1 e2=>by
 have q:=y1n.mp (y18 _ _ ▸ h:_∧_).2 p hp
 rw [e1,e2] at q
 simpa using q
theorem oneOk.mem {qs:Z3} {pos:Pos} {qual:Str} (h:oneOk qs pos qual=true):(pos,qual) ∈ qs:=by
 obtain ⟨p,hp,e⟩:=y24.mp (y18 _ _ ▸ h:_∧_).1
 simp only [y18,beq_iff_eq] at e
 obtain ⟨⟨⟨⟨e1,e2⟩,e3⟩,e4⟩,e5⟩:=e
 have:p=(pos,qual):=by
  obtain ⟨⟨a,b,c,d⟩,z⟩:=p
  obtain ⟨a',b',c',d'⟩:=pos
  simp only at e1 e2 e3 e4 e5
  subst e1 e2 e3 e4 e5
  rfl
 rw [← this];exact hp
section
variable {X:Cx} {c P:Addr} {qs:Z3} {pos:Pos} {params:Arguments} {scope:Scope}
theorem zrq (qual:Str) {body:Expr} (hc:X.env.code=.ref c) (kc:KCode X.K c P) (kb:BltK X.base X.mg) (hfr:freeOk X.env scope=true) (hq:oneOk qs pos qual=true) (hd:params.defaults=[]:=by rfl) (hk:params.kw_defaults=[]:=by rfl) (hqual:X.env.qual ++ "<lambda>"=qual:=by rfl) :
  PE X (.Lambda params body scope pos) (tLam X P qs "<lambda>" qual params (.expr body) scope):=znb hc kc kb (freeOk.of hfr) (oneOk.mem hq) (oneOk.one hq) hd hk hqual
theorem zm1 (qual:Str) {name:Str} {j:Nat} {body:List Stmt} (hc:X.env.code=.ref c) (kc:KCode X.K c P) (kb:BltK X.base X.mg) (hfr:freeOk X.env scope=true) (hq:oneOk qs pos qual=true) (hN:X.N.Nodup) (hj:X.N[j]?=some name) (hx:X.env.scope.names.lookup name=some .local) (nd:docOf body=none:=by rfl)
  (hd:params.defaults=[]:=by rfl) (hk:params.kw_defaults=[]:=by rfl) (ha:∀ e,annTrees params none e=[]:=by intro e;rfl) (hqual:qualnameIn X.env name name=qual:=by rfl) :
  PS X (.FunctionDef name params body [] none [] scope none name pos) (tDef X P qs name qual params (.stmts body) scope j):=zsw hc kc kb (freeOk.of hfr) nd (oneOk.mem hq) (oneOk.one hq) hd hk ha hqual hN hj hx
end
open Classical
theorem Adopted.same {X:Cx} {σ:St} {H1 Hq H2:Hp} (ad:Adopted X σ H1 Hq) (g:Same Hq H2):Same H1 (dropX X H2):=fun b u e=>by
 have hc:¬ CellOf X b:=fun hc=>by rw [ad.2.1 b hc] at e;cases e
 show (if CellOf X b then none else H2 b)=some u
 rw [if_neg hc]
 exact g b u (by rw [ad.1 b hc];exact e)
theorem Adopted.up {X:Cx} {σ:St} {H1 Hq:Hp} (ad:Adopted X σ H1 Hq):Same H1 Hq:=fun b u e=>by
 have hc:¬ CellOf X b:=fun hc=>by rw [ad.2.1 b hc] at e;cases e
 rw [ad.1 b hc];exact e
theorem Adopted.keep {X:Cx} {σ:St} {H1 Hq H2:Hp} (ad:Adopted X σ H1 Hq) (g:Same Hq H2) {b:Addr} {u:HO} (e:H2 b=some u) (n:∀ o a,u ≠ .frz o a):dropX X H2 b=some u:=by
 have hc:¬ CellOf X b:=fun ⟨x,z⟩=>by
  obtain ⟨o,v,h1,_⟩:=ad.2.2.2 x b z
  rw [g _ _ h1] at e;cases e
  exact n _ _ rfl
 show (if CellOf X b then none else H2 b)=some u
 rw [if_neg hc];exact e
def SameN (H H':Hp):Prop:=∀ b u,H b=some u→(∀ o a,u ≠ .frz o a)→H' b=some u
section
variable {cl:Z4} {H:Hp}
def ClOk (cl:Z4) (H:Hp):Prop:=∀ x c,cl.lookup x=some c→∃ o v,H c=some (.frz o (.own c))∧o.data=.cell v
theorem ClOk.n (hcl:ClOk cl H):SameN H (dropL cl H):=fun b u e n=>by
 show (if InCl cl b then none else H b)=some u
 rw [if_neg (zbc hcl e n)];exact e
theorem zdo {H2:Hp} (g:Same (dropL cl H) H2):Same H (mixL cl H H2):=fun b u e=>by
 show (if InCl cl b then H b else H2 b)=some u
 by_cases hc:InCl cl b
 ·rw [if_pos hc];exact e
 ·rw [if_neg hc]
  exact g b u (by show (if InCl cl b then none else H b)=some u;rw [if_neg hc];exact e)
theorem zkj {H2:Hp} (g:∀ b,InCl cl b→H2 b=none):Same H2 (mixL cl H H2):=fun b u e=>by
 show (if InCl cl b then H b else H2 b)=some u
 rw [if_neg fun hc=>by rw [g b hc] at e;cases e];exact e
end
def CapAt (X:Cx) (σ:St) (cap:List Str) (cv:List V):Prop:=Paired (fun x v=>∃ i:Nat,X.N[i]?=some x∧σ[i]?=some (some v)∧(X.env.kindOf x=some .cell∨X.env.kindOf x=some .free)) cap cv
theorem zgy {X:Cx} {σ:St} {H1 Hq:Hp} (ad:Adopted X σ H1 Hq) {cl:Z4} (h1:∀ x c,cl.lookup x=some c→X.env.cells.lookup x=some c):∀ {cap:List Str} {cv:List V},(∀ x ∈ cap,∃ c,cl.lookup x=some c)→CapAt X σ cap cv→Caps Hq cl cap cv
 | _,_,_,.nil=>.nil
 | x :: _,_ :: _,hc,.cons ⟨i,e1,e2,e3⟩ t=>by
  obtain ⟨c,lc⟩:=hc x y0d
  obtain ⟨o,v,z1,z2,z3⟩:=ad.2.2.2 x c (h1 x c lc)
  obtain ⟨u,ru,rfl⟩:=z3 i _ e1 e2 e3
  exact .cons ⟨c,o,u,lc,z1,z2,ru⟩ (zgy ad h1 (fun y hy=>hc y (y08 _ hy)) t)
section
variable {X:Cx} {H H1 H1' Hq:Hp} {σ:St} {name qual:Str} {params:Arguments} {scope:Scope} {f:Addr} {own ps cap:List Str} {cv:List V} {k:Nat} {sp:Sp}
theorem Made.fn {body:FuncBody} (M:Made X H H1 name qual params body scope f):∃ fd,H1 f=some (fnO fd f):=by
 obtain ⟨cl,ct,c',oc,pm,_,_,_,_,h⟩:=M.ex
 exact ⟨_,h⟩
theorem zgs {cl:Z4} {H':Hp} (ad:Adopted X σ H1' Hq) (l1:∀ x c,cl.lookup x=some c→X.env.cells.lookup x=some c) (fz:Frz Hq H'):Frz H1' (dropL cl H'):=fun b o u e=>by
 have nc:¬ InCl cl b:=fun ⟨x,z⟩=>by rw [ad.2.1 b ⟨x,l1 x b z⟩] at e;cases e
 show (if InCl cl b then none else H' b)=_
 rw [if_neg nc]
 exact fz _ _ _ (ad.up _ _ e)
theorem Made.clo_e {body:Expr} (M:Made X H H1 name qual params (.expr body) scope f) (g:Same H1 H1') (ad:Adopted X σ H1' Hq) (S:CloScope own ps cap scope) (hlo:ps.length ≤ own.length) (hcap:CapAt X σ cap cv)
  (hbind:∀ (cl:Z4) (ct cd pm:Value) (us:List Value),us.length=ps.length→bindArgs (cloFd name qual params (.expr body) scope cl ct cd pm) ⟨us,[]⟩=pure (ps.zip us))
  (hbody:∀ (cl:Z4) (c':Addr) (A:Around) (outer:List Env) (s:Shared) (H':Hp) (vs:List V) (Q:VK),Room k (A.deeper (envL qual scope cl s.heap.objs.size f (.ref c')))→ClOk cl H'→Frz Hq H'→Frz H1' (dropL cl H')→vs.length=ps.length→sp vs H' Q E0 →
   ∃ t,PE (cxL X.prog X.w X.K X.mg X.base (own ++ cap) qual scope cl f (.ref c') A outer s H') body t∧t (stL own vs cv) (dropL cl H') (fun v H2=>(∀ b,InCl cl b→H2 b=none)→Q v (mixL cl H' H2))):CloH X.prog X.w X.K X.mg X.base (k + 1) Hq f ps.length sp:=by
 obtain ⟨cl,ct,c',oc,pm,l1,l2,l3,l4,l5⟩:=M.ex
 have hcl:ClOk cl Hq:=fun x c e=>let ⟨o,v,z1,z2,_⟩:=ad.2.2.2 x c (l1 x c e);⟨o,v,z1,z2⟩
 have up:=ad.up
 refine zrf S hlo (up _ _ (g _ _ l5)) (up _ _ (g _ _ l3)) l4 hcl l2 (fun x y c e1 e2=>ad.2.2.1 x y c (l1 x c e1) (l1 y c e2)) (zgy ad l1 (fun x hx=>l2 (x,.free) (mem_of_lookup' (S.cap x hx)) rfl) hcap) (hbind cl ct _ pm) fun A outer s H' vs Q hr fz hl hsp=>?_
 exact hbody cl c' A outer s H' vs Q hr (fun x c e=>let ⟨o,v,z,d⟩:=hcl x c e;⟨o,v,fz _ _ _ z,d⟩) fz (zgs ad l1 fz) hl hsp
theorem Made.clo_s {body:List Stmt} (M:Made X H H1 name qual params (.stmts body) scope f) (g:Same H1 H1') (ad:Adopted X σ H1' Hq) (S:CloScope own ps cap scope) (hlo:ps.length ≤ own.length) (hcap:CapAt X σ cap cv)
  (hbind:∀ (cl:Z4) (ct cd pm:Value) (us:List Value),us.length=ps.length→bindArgs (cloFd name qual params (.stmts body) scope cl ct cd pm) ⟨us,[]⟩=pure (ps.zip us))
  (hbody:∀ (cl:Z4) (c':Addr) (A:Around) (outer:List Env) (s:Shared) (H':Hp) (vs:List V) (Q:VK),Room k (A.deeper (envL qual scope cl s.heap.objs.size f (.ref c')))→ClOk cl H'→Frz Hq H'→Frz H1' (dropL cl H')→vs.length=ps.length→sp vs H' Q E0 →
   ∃ t,PSs (cxL X.prog X.w X.K X.mg X.base (own ++ cap) qual scope cl f (.ref c') A outer s H') body t∧t { nx:=fun _ H2=>(∀ b,InCl cl b→H2 b=none)→Q .non (mixL cl H' H2),rt:=fun v H2=>(∀ b,InCl cl b→H2 b=none)→Q v (mixL cl H' H2) } (stL own vs cv) (dropL cl H')):CloH X.prog X.w X.K X.mg X.base (k + 1) Hq f ps.length sp:=by
 obtain ⟨cl,ct,c',oc,pm,l1,l2,l3,l4,l5⟩:=M.ex
 have hcl:ClOk cl Hq:=fun x c e=>let ⟨o,v,z1,z2,_⟩:=ad.2.2.2 x c (l1 x c e);⟨o,v,z1,z2⟩
 have up:=ad.up
 refine zo5 S hlo (up _ _ (g _ _ l5)) (up _ _ (g _ _ l3)) l4 hcl l2 (fun x y c e1 e2=>ad.2.2.1 x y c (l1 x c e1) (l1 y c e2)) (zgy ad l1 (fun x hx=>l2 (x,.free) (mem_of_lookup' (S.cap x hx)) rfl) hcap) (hbind cl ct _ pm) fun A outer s H' vs Q hr fz hl hsp=>?_
 exact hbody cl c' A outer s H' vs Q hr (fun x c e=>let ⟨o,v,z,d⟩:=hcl x c e;⟨o,v,fz _ _ _ z,d⟩) fz (zgs ad l1 fz) hl hsp
end
end L2
namespace SM
open PySem PySem.Spec PyProof.Rows L2 SS
theorem SameN.tups {H H':Hp} (g:SameN H H'):TupS H H':=fun b xs e=>g b _ e fun _ _ z=>nomatch z
theorem rd_se {t:TE} {Q:VK} {H:Hp} {σ:L2.St} (σ':L2.St) (e:σ=σ') (h:t σ' H Q):t σ H Q:=by rw [e];exact h
theorem zff {cl:Z4} {H H2:Hp} {D:Addr} {u:HO} (h:dropL cl H D=none) (e:H2 D=some u) (n:∀ b,InCl cl b→H2 b=none):H D=none:=by
 classical
 have nc:¬ InCl cl D:=fun z=>by rw [n D z] at e;cases e
 unfold dropL at h
 rw [if_neg nc] at h;exact h
def zge (R:Hp→Prop) (J:List Nat→Prop) (Nx:List Nat→List Nat→Prop):Sp:=fun vs H Q _=>∃ (b:Addr) (ns:List Nat),vs=[.ref b]∧R H∧H b=some (.lst (ns.map nV))∧J ns ∧
 ∀ D fs H',H D=none→Same H H'→H' D=some (.lst (fs.map nV))→Nx ns fs→Q (.ref D) H'
def zml (K:Frag) (ts:List (Addr × List (Pos × Str))):Sp:=fun vs H Q _=>∃ (a:Addr) (ns:List Int),vs=[.ref a]∧SqL K H a (ns.map V.int)∧ns.length ≤ 63∧OnlyT ts H∧∀ H',Q (.bl true) H'
def Tab (H:Hp) (v:V) (t:List (List Nat)):Prop:=∃ a rs,v=.ref a∧H a=some (.tup rs)∧Paired (Line H) rs t
def RepT (H:Hp) (a:Addr) (m:Tm):Prop:=∃ (b c:Addr) (ts:List V),H a=some (.tup [nV m.w,.ref b,.ref c])∧H b=some (.tup ts)∧Paired (Tab H) ts m.ways∧H c=some (.tup (m.ends.map V.bl))
theorem Tab.ts {H H':Hp} {v:V} {t:List (List Nat)} (h:Tab H v t) (g:TupS H H'):Tab H' v t:=let ⟨a,rs,e,z,p⟩:=h;⟨a,rs,e,g _ _ z,L2.Paired.mapP p fun _ _ z=>z.ts g⟩
theorem RepT.ts {H H':Hp} {a:Addr} {m:Tm} (h:RepT H a m) (g:TupS H H'):RepT H' a m:=by
 obtain ⟨b,c,rs,h1,h2,h3,h4⟩:=h
 exact ⟨b,c,rs,g _ _ h1,g _ _ h2,L2.Paired.mapP h3 fun _ _ z=>z.ts g,g _ _ h4⟩
theorem RepT.same {H H':Hp} {a:Addr} {m:Tm} (h:RepT H a m) (g:Same H H'):RepT H' a m:=h.ts g.tups
theorem RepT.row {H:Hp} {m:Tm} {ts:List V} (pr:Paired (Tab H) ts m.ways) (ok:m.Ok) {l a b:Nat} (hl:l < 2 ^ m.w) (ha:a < m.n) (hb:b < m.n) :
  ∃ (p q:Addr) (rs:List V) (ln:List Nat),ts[l]?=some (.ref p)∧H p=some (.tup rs)∧rs[a]?=some (.ref q)∧H q=some (.tup (ln.map nV))∧(ln.map nV)[b]?=some (nV (m.go l a b)):=by
 obtain ⟨t,r,e1,e2,e3,_⟩:=ok.at hl ha hb
 obtain ⟨v,ev,p,rs,rfl,ep,pp⟩:=Paired.at2 pr e1
 obtain ⟨v,ev2,q,rfl,eq⟩:=Paired.at2 pp e2
 exact ⟨p,q,rs,r,ev,ep,ev2,eq,by rw [y02,e3];rfl⟩
def zj4:Sp:=fun vs H Q _=>∃ (x:Int) (n wd:Nat),vs=[.int x,nV n,nV wd]∧wd ≤ 3∧1 ≤ n∧n ≤ 30∧∀ p m H',Same H H'→RepT H' p m→m.Ok→m.w=wd→m.ends.length=n→Q (.ref p) H'
end SM
namespace L2
theorem zb9 {X:Cx} {x:Str} (P:Program) (w:World) (K:Frag) (mg:Z1) (base:Heap) (i k n:Nat) (sp:Sp) {m:Nat} {p pos:Pos} {e:Expr} {es:List Expr} {t:TA} (hr:Room m X.A) (hle:k ≤ m) (ha:PA X (e :: es) t) (e1:X.prog=P:=by rfl) (e2:X.w=w:=by rfl) (e3:X.K=K:=by rfl) (e4:X.mg=mg:=by rfl) (e5:X.base=base:=by rfl)
  (hN:X.N[i]?=some x:=by rfl) (hv:Vis X.env.scope x:=by first | exact Or.inl rfl | exact Or.inr (Or.inl rfl) | exact Or.inr (Or.inr rfl))
  (hd:(x == ("__debug__":Str))=false:=by decide) (hcd:(x == ("__classdict__":Str))=false:=by decide) (h1:notStar e=true:=by rfl) (h2:es.all notStar=true:=by rfl) :
  PE X (.Call (.Name x p) (e :: es) [] pos) (tCallV P w K mg base k n sp i t):=by
 subst e1 e2 e3 e4 e5
 exact znf i k n sp hr hle ha hN hv hd hcd h1 h2
def without (h:Heap):List Addr→Heap
 | []=>h
 | b :: L=>without (h.update b fun _=>{ cls:=.none,data:=.freed }) L
theorem zly (h:Heap) (a:Addr):(h.update a fun _=>{ cls:=.none,data:=.freed }).get? a=none:=by
 obtain ⟨objs,l⟩:=h
 show (match (objs.modify a fun _=>({ cls:=.none,data:=.freed }:Obj))[a]? with
  | some ⟨_,_,.freed,_⟩=>none
  | o=>o)=none
 by_cases h:a < objs.size
 ·rw [y14 (by simpa using h),Array.getElem_modify]
  simp
 ·rw [y3h (by simpa using h)]
theorem zc5 (b:Addr):∀ (L:List Addr) (h:Heap),(without h L).get? b=if b ∈ L then none else h.get? b
 | [],h=>by simp [without]
 | c :: L,h=>by
  rw [without,zc5 b L]
  by_cases hb:b ∈ L
  ·rw [if_pos hb,if_pos (y08 _ hb)]
  ·rw [if_neg hb]
   by_cases hc:b=c
   ·subst hc;rw [if_pos y0d,zly]
   ·rw [if_neg (by simp [hc,hb]),y29 _ _ (Ne.symm hc)]
theorem zbj {b:Addr} {L:List Addr} {h:Heap} (hb:b ∈ L):(without h L).get? b=none:=by rw [zc5,if_pos hb]
theorem zbs {b:Addr} {L:List Addr} {h:Heap} (hb:b ∉ L):(without h L).get? b=h.get? b:=by rw [zc5,if_neg hb]
theorem zce (h:Heap) (L:List Addr):(without h L).StaysIn h:=fun b o e=>by
 by_cases hb:b ∈ L
 ·rw [zbj hb] at e;cases e
 ·rw [zbs hb] at e;exact e
theorem zcj {h base base':Heap}:∀ {l:List Env},h.FunFrames base l→(∀ b ∈ frs l,base'.get? b=none)→h.FunFrames base' l
 | [],_,_=>trivial
 | env :: rest,⟨hk,⟨L,o,hf,hn,ho,hd⟩,hr⟩,k=>by
  have e:frs (env :: rest)=L :: frs rest:=by show List.filterMap _ (env :: rest)=_;rw [y1s,hf];rfl
  rw [e] at k
  exact ⟨hk,⟨L,o,hf,k L y0d,ho,hd⟩,zcj hr fun b hb=>k b (y08 _ hb)⟩
def Flown (h0:Heap) (H:Hp) (h:Heap) (a:Addr) (cls:Value):Prop :=
 ∃ (oe:Obj) (vs:Array Value) (T:Addr) (oT:Obj) (ts:Array Value),h.get? a=some oe∧oe.cls=cls∧oe.data=.fields vs∧vs[1]?=some (.ref T)∧T ≠ a∧h.get? T=some oT∧oT.data=.fields ts∧ts[3]?=some .none ∧
  h0.get? a=none∧h0.get? T=none∧H a=none∧H T=none
def CXE (P:Program) (w:World):CXT:=fun outer H s E e s'=>∃ (a:Addr) (cls:Value) (H':Hp),e=.ref a∧s'.os=s.os∧AllBare s'.gens∧Un (frs outer) [] H H' s.heap s'.heap∧HOk P w H' s'.heap∧Flown s.heap H' s'.heap a cls∧E cls (some a) H'
theorem zch {P:Program} {w:World} {H:Hp} {h:Heap} {a:Addr} {o:HO} (x:ObjOk P w H h a o):∃ ob,h.get? a=some ob:=by
 induction o with
 | lst xs=>obtain ⟨_,_,_,_,e⟩:=x;exact ⟨_,e⟩
 | tup xs=>obtain ⟨_,_,_,ob,e,_⟩:=x;exact ⟨_,e⟩
 | dK kvs=>obtain ⟨_,_,_,_,ob,_,_,e,_⟩:=x;exact ⟨_,e⟩
 | dT kvs=>obtain ⟨_,_,_,_,ob,_,_,e,_⟩:=x;exact ⟨_,e⟩
 | set S n=>obtain ⟨ob,_,_,_,e,_⟩:=x;exact ⟨_,e⟩
 | ins C dx fs=>obtain ⟨_,_,_,e,_⟩:=x;exact ⟨_,e⟩
 | own _=>exact x
 | xd fs=>obtain ⟨_,⟨ob,es,ep,e,_⟩,_⟩:=x;exact ⟨_,e⟩
 | rng lo hi=>obtain ⟨_,_,_,e⟩:=x;exact ⟨_,e⟩
 | frz ob u=>exact ⟨_,x.1⟩
 | tbl qs ps=>obtain ⟨_,e,_⟩:=x;exact ⟨_,e⟩
 | met f y=>exact ⟨_,x⟩
 | ext φ=>exact x.2.1
section
variable {X:Cx} {pins:Z2} {σ:St} {H:Hp} {s:Shared} {Ex:Z0}
theorem zkm {a:Addr} {cls:Value} {E:XK} {h'':Heap} {L:List Addr} (I:Inv X pins σ H s) (hx:X.ex=[]) (hL:∀ b ∈ L,X.s₀.heap.get? b=none∧H b=none)
  (l1:(without s.heap (frs X.stack ++ L)).StaysIn h'') (l2:h''.FunFrames (without s.heap (frs X.stack ++ L)) X.stack) (l3:h''.Traced (without s.heap (frs X.stack ++ L)) a cls)
  (l4:∀ b o,s.heap.get? b=some o→(∀ vs,o.data ≠ .fields vs)→∃ sl,h''.get? b=some { o with slots:=sl }) (ha:a ∈ L) (q:E cls (some a) H) :
  CXE X.prog X.w X.outer X.H₀ X.s₀ E (.ref a) { s with heap:=h'' }:=by
 obtain ⟨oe,vs',T,oT,ts,t1,t2,t3,t4,t5,t6,t7,t8,t9⟩:=l3
 have hTf:T ∉ frs X.stack:=fun z=>by
  obtain ⟨_,o,e1,e2⟩:=l2.mem z
  rw [t7] at e1;cases e1
  exact e2 _ t8
 have nx:∀ b,b ∉ X.ex:=fun b z=>by rw [hx] at z;cases z
 have st:∀ b o,b ∉ frs X.stack→b ∉ L→s.heap.get? b=some o→h''.get? b=some o:=fun b o h1 h2 e=>l1 b o (by rw [zbs (fun z=>(y0i.mp z).elim h1 h2)];exact e)
 have out:∀ b o,X.s₀.heap.get? b=some o→b ∉ frs X.outer→b ∉ frs X.stack:=fun b o e h z=>by
  rcases y0f.mp (I.stkSub b z) with w | w
  ·exact y0n (y0h (y0g e) I.ok.above) w
  ·exact h w
 have nL:∀ b o,X.s₀.heap.get? b=some o→b ∉ L:=fun b o e z=>by rw [(hL b z).1] at e;cases e
 have T0:X.s₀.heap.get? T=none:=by
  cases e:X.s₀.heap.get? T with
  | none=>rfl
  | some o =>
   obtain ⟨o',e'⟩:=I.base.there T o e (nx T)
   rw [zbs (fun z=>(y0i.mp z).elim hTf (nL T o e))] at t5
   rw [t5] at e';cases e'
 have HT:H T=none:=by
  cases e:H T with
  | none=>rfl
  | some o =>
   obtain ⟨o',e'⟩:=zch (I.hok T o e)
   by_cases hTL:T ∈ L
   ·rw [(hL T hTL).2] at e;cases e
   ·rw [zbs (fun z=>(y0i.mp z).elim hTf hTL)] at t5
    rw [t5] at e';cases e'
 refine ⟨a,cls,H,rfl,I.os,I.bare,⟨fun b o e n hb _=>?_,fun b o e n hb _=>?_,fun b o e n _=>I.base.free b o e n (nx b),fun b o e _=>?_,I.base.tups,I.base.frzs,I.base.tbls⟩,fun b o e=>?_,⟨oe,vs',T,oT,ts,t1,t2,t3,t4,t6,t7,t8,t9,(hL a ha).1,T0,(hL a ha).2,HT⟩,q⟩
 ·exact st b o (out b o e hb) (nL b o e) (I.base.keep b o e n hb (nx b))
 ·obtain ⟨sl,e1⟩:=I.base.slot b o e n hb (nx b)
  obtain ⟨_,o',e2,nf⟩:=I.ok.funs.mem hb
  rw [e] at e2;cases e2
  obtain ⟨sl',e3⟩:=l4 b _ e1 nf
  exact ⟨sl',e3⟩
 ·obtain ⟨o',e1⟩:=I.base.there b o e (nx b)
  by_cases hb:b ∈ frs X.stack
  ·obtain ⟨_,o2,e2,_⟩:=l2.mem hb
   exact ⟨o2,e2⟩
  ·exact ⟨o',st b o' hb (nL b o e) e1⟩
 ·refine (I.hok b o e).stay (fun c u hc ec=>st c u (fun z=>?_) (fun z=>?_) ec) (fun _ z=>z) (fun _ _ _ _ _ z=>z) fun _ _ z=>z
  ·have:=I.stkFree c z
   rcases hc with rfl | hc
   ·rw [this] at e;cases e
   ·rw [this] at hc;cases hc
  ·have:=(hL c z).2
   rcases hc with rfl | hc
   ·rw [this] at e;cases e
   ·rw [this] at hc;cases hc
theorem zjc {h':Heap} {a:Addr} {cls:Value} {vs:List Value} {E:XK} (I:Inv X pins σ H s) (hx:X.ex=[]) (hs:X.stack=X.env :: X.outer) (hf:X.env.frame=some X.env.locals) (M:Heap.MadeExcOf s.heap h' a cls vs) (q:E cls (some a) H) :
  wpAny (model X.prog X.w) X.A (leaving X.env (.ref a)) (fun _ s''=>CXE X.prog X.w X.outer X.H₀ X.s₀ E (.ref a) s'') Ex { s with heap:=h' }:=by
 obtain ⟨t,he,_,_⟩:=M.there
 have I':Inv X pins σ H { s with heap:=h',toks:=s.toks }:=I.kept M.keeps
 have Ha:H a=none:=by
  cases e:H a with
  | none=>rfl
  | some o =>
   obtain ⟨o',e'⟩:=zch (I.hok a o e)
   rw [M.new] at e';cases e'
 have s0:X.s₀.heap.get? a=none:=by
  cases e:X.s₀.heap.get? a with
  | none=>rfl
  | some o =>
   obtain ⟨o',e'⟩:=I.base.there a o e (fun z=>by rw [hx] at z;cases z)
   rw [M.new] at e';cases e'
 refine wpAny_leaving_first (base:=without h' (frs X.stack ++ [a])) (outer:=X.outer) (L:=X.env.locals) (by rw [← hs];exact I.ok.frames) (by rw [← hs];exact zcj I'.stack fun b hb=>zbj (y1x _ hb)) hf he (zce _ _)
  (zbj (y11 _ (y07.mpr rfl))) rfl rfl fun h'' ⟨l1,l2,l3,l4⟩=>?_
 rw [← hs] at l2
 exact zkm (L:=[a]) I' hx (fun b hb=>by rw [y07.mp hb];exact ⟨s0,Ha⟩) l1 l2 l3 l4 (y07.mpr rfl) q
theorem zlv {s':Shared} {e:Value} {E E':XK} (I:Inv X pins σ H s) (hx:X.ex=[]) (hs:X.stack=X.env :: X.outer) (hf:X.env.frame=some X.env.locals) (c:CXE X.prog X.w X.stack H s E' e s') (q:∀ a cls H',E' cls (some a) H'→E cls (some a) H') :
  wpAny (model X.prog X.w) X.A (leaving X.env e) (fun _ s''=>CXE X.prog X.w X.outer X.H₀ X.s₀ E e s'') Ex s':=by
 obtain ⟨a,cls,H',rfl,os,bare,un,hok,⟨oe,vs,T,oT,ts,t1,t2,t3,t4,t6,t7,t8,t9,n1,n2,h1,h2⟩,ee⟩:=c
 have I':Inv X pins σ H' s':=I.call' os un hok bare fun b z=>nomatch z
 have s0:∀ b,s.heap.get? b=none→X.s₀.heap.get? b=none:=fun b z=>by
  cases e:X.s₀.heap.get? b with
  | none=>rfl
  | some o =>
   obtain ⟨o',e'⟩:=I.base.there b o e (fun z=>by rw [hx] at z;cases z)
   rw [z] at e';cases e'
 refine wpAny_leaving_next (base:=without s'.heap (frs X.stack ++ [a,T])) (outer:=X.outer) (L:=X.env.locals) (cls:=cls) (by rw [← hs];exact I.ok.frames) (by rw [← hs];exact zcj I'.stack fun b hb=>zbj (y1x _ hb)) hf
  ⟨oe,vs,T,oT,ts,t1,t2,t3,t4,zbj (y11 _ (by simp)),t6,t7,t8,t9⟩ (zce _ _) (zbj (y11 _ (by simp))) fun h'' ⟨l1,l2,l3,l4⟩=>?_
 rw [← hs] at l2
 exact zkm (L:=[a,T]) I' hx (fun b hb=>by
  simp only [y0f,y1y,or_false] at hb
  rcases hb with rfl | rfl
  ·exact ⟨s0 _ n1,h1⟩
  ·exact ⟨s0 _ n2,h2⟩) l1 l2 l3 l4 (by simp) (q _ _ _ ee)
theorem zn3 {h':Heap} {a:Addr} {cls:Value} {vs:List Value} (I:Inv X pins σ H s) (M:Heap.MadeExcOf s.heap h' a cls vs):H a=none:=by
 cases e:H a with
 | none=>rfl
 | some o =>
  obtain ⟨o',e'⟩:=zch (I.hok a o e)
  rw [M.new] at e';cases e'
end
structure Rs (X:Cx) (E:XK):Prop where
 ex:X.ex=[]
 st:X.stack=X.env :: X.outer
 fr:X.env.frame=some X.env.locals
 xe:∀ e s',wpAny (model X.prog X.w) X.A (leaving X.env e) (fun _ s''=>CXE X.prog X.w X.outer X.H₀ X.s₀ E e s'') (fun e' s''=>CXE X.prog X.w X.outer X.H₀ X.s₀ E e' s'') s'→X.xe e s'
def tRaise (E:XK) (cls:Value) (t:TA):TS:=fun D σ H=>t σ H fun vs H1=>vs.length ≤ sizeLine∧∀ a,H1 a=none→E cls (some a) H1
theorem zp1 {X:Cx} {E:XK} {x:Str} {C:Addr} {B newId initId:String} {bm:List Value} {np cpos pos:Pos} {e₀:Expr} {rest:List Expr} {t:TA} (R:Rs X E) (hc:X.calm=true) (hg:Gl X x) (O:OwnCls x C bm newId X.mg X.base) (FB:ExcBaseFacts B newId initId bm) (ha:PA X (e₀ :: rest) t)
  (he:starEach (e₀ :: rest) X.env=(false,eval e₀ X.env) :: starEach rest X.env:=by rfl) (hp:(backTo cpos (starEach rest X.env)).any (·.1)=false:=by rfl) (hd:(x == ("__debug__":Str))=false:=by decide) :
  PS X (.Raise (some (.Call (.Name x np) (e₀ :: rest) [] cpos)) none pos) (tRaise E (.ref C) t):=by
 intro pins s σ H D I h
 obtain ⟨tl,N,nm,q,bs,hdct,sn,sub,ab,col,dd,k0,k1,k2,k3,k5,mN,hC,hN,hni,T⟩:=O.obj
 refine wpAny_Raise_call_subT (C:=C) (nm:=nm) (q:=q) (N:=N) (bs:=bs) (bm:=tl) (hdct:=hdct) (sn:=sn) (sub:=sub) (ab:=ab) (col:=col) (dd:=dd) (k0:=k0) (k1:=k1) (k2:=k2) (k3:=k3) (k5:=k5)
  FB (mN:=mN) (T.hasType FB.hasBase) (I.ok.hd hc) (by rw [he];show (false || (backTo cpos (starEach rest X.env)).any (·.1))=false;rw [hp];rfl) hni ?_
 refine thn (znc (v:=.ref C) (pos:=np) hg O.bound rfl hd pins s σ H (fun v H'=>v=.ref C∧H'=H) I ⟨rfl,rfl⟩) fun u s1 ⟨v,H1,I1,r1,e1,e2⟩=>?_
 subst e1 e2
 refine ⟨r1,?_⟩
 have hh:=ha cpos pins s1 σ H1 _ I1 h
 rw [he] at hh ⊢
 refine Calls.evalArgs_plain (thn hh fun us s2 ⟨vs,H2,I2,r2,z,q⟩=>⟨rfl,by rw [← r2.length];exact z,I2.bk _ _ hC,hN.keeps I2.bk,T.keeps I2.bk,fun h' a M=>R.xe _ _ (zjc I2 R.ex R.st R.fr M (q a (zn3 I2 M)))⟩)
theorem Fun.okE {P:Program} {w:World} {K:Frag} {mg:Z1} {base:Heap} {x qual:Str} {st:Stmt} {f:Addr} {fd:FuncData} {N ps:List Str} {k:Nat} {sp:Sp} (F:Fun K x qual st f fd) (S:FnScope N ps (defScope st)) (len:∀ vs H Q E,sp vs H Q E→vs.length=ps.length)
  (hbody:∀ (cdv:Value) (A:Around) (outer:List Env) (s:Shared) (H:Hp) (vs:List V) (Q:VK) (E:XK),Room k (A.deeper (envOfC qual (defScope st) s.heap.objs.size f cdv))→sp vs H Q E→Rs (cxOf (CXE P w) P w K mg base N qual (defScope st) f cdv A outer s H E) E →
   ∃ t,PSs (cxOf (CXE P w) P w K mg base N qual (defScope st) f cdv A outer s H E) (defBody st) t∧t { nx:=fun _ H'=>Q .non H',rt:=Q } (start N vs) H):FnOk P w K mg base (CXE P w) (k + 1) f fd ps sp:=by
 obtain ⟨oc,od,kV,doc,pm,an,cdv,ct,osl,rfl,lk,hcd⟩:=F.ex
 exact zq5 lk hcd S len fun A outer s H vs Q E hr hsp=>hbody cdv A outer s H vs Q E hr hsp ⟨rfl,rfl,rfl,fun _ _ h=>h⟩
open PySem PySem.Spec PyProof.Rows PySem.Calls
section
variable {X:Cx} {pins:Z2} {σ:St} {H:Hp} {s:Shared}
theorem Inv.names {h':Heap} {j:Nat} {n:Str} {m m':Z1} (I:Inv X pins σ H s) (hN:X.N.Nodup) (hj:X.N[j]?=some n) (hn:s.heap.Ns X.env.locals m)
  (hl:∀ (i:Nat) (x:Str) (v:V),X.N[i]?=some x→σ[i]?=some (some v)→Vis X.env.scope x→∃ u,RelV v u∧Look X.env s.heap m x u) (hn':h'.Ns X.env.locals m') (hm:∀ x,x ≠ n→m' x=m x) (hs:Heap.SameBut X.env.locals s.heap h') :
  Inv X pins (σ.set j none) H { s with heap:=h' }:=by
 have low:∀ b o,X.s₀.heap.get? b=some o→b ≠ X.env.locals:=fun b o e=>y0n (y0h (y0g e) I.ok.above)
 refine ⟨I.ok,I.os,I.bare,⟨fun b o e k hb hx=>(hs.2 b (low b o e)).trans (I.base.keep b o e k hb hx),fun b o e k hb hx=>?_,I.base.free,fun b o e hx=>?_,I.base.tups,I.base.frzs,I.base.tbls⟩,⟨m',hn',fun i y v e1 e2 e3=>?_⟩,fun y c e=>?_,I.free,I.freeC,fun p hp=>?_,fun b ob e=>?_,by simpa using I.len⟩
 ·obtain ⟨sl,e1⟩:=I.base.slot b o e k hb hx
  exact ⟨sl,(hs.2 b (low b o e)).trans e1⟩
 ·obtain ⟨o',e1⟩:=I.base.there b o e hx
  exact ⟨o',(hs.2 b (low b o e)).trans e1⟩
 ·by_cases hij:i=j
  ·subst hij
   rw [y2u (by rw [I.len];exact (y04.mp hj).1)] at e2
   cases e2
  ·rw [y3o (Ne.symm hij)] at e2
   obtain ⟨u',r',q⟩:=hl i y v e1 e2 e3
   refine ⟨u',r',?_⟩
   rcases q with ⟨k,e⟩ | ⟨k,c,e,z⟩
   ·exact .inl ⟨k,by rw [hm y fun z=>hij (zgn hN e1 (z ▸ hj))];exact e⟩
   ·exact .inr ⟨k,c,e,z.sameBut hs (I.cne y c e)⟩
 ·obtain ⟨w',z⟩:=I.cell y c e
  exact ⟨w',z.sameBut hs (I.cne y c e)⟩
 ·obtain ⟨e,k,ne,nf,d⟩:=I.pin p hp
  exact ⟨(hs.2 p.1 ne).trans e,k,ne,nf,d⟩
 ·refine (I.hok b ob e).stay (fun c w' hc q=>(hs.2 c ?_).trans q) (fun _ q=>q) (fun _ _ _ _ _ q=>q) fun _ _ q=>q
  rintro rfl
  rcases hc with rfl | hc
  ·rw [I.free] at e;cases e
  ·rw [I.free] at hc;cases hc
theorem zme {M:Model} {A:Around} {E:Z0} {j:Nat} {n:Str} {v:V} {Q:Unit→Shared→Prop} (I:Inv X pins σ H s) (hN:X.N.Nodup) (hj:X.N[j]?=some n) (hk:X.env.scope.names.lookup n=some .local) (hv:σ[j]?=some (some v))
  (h:∀ s',Inv X pins (σ.set j none) H s'→Q () s'):wpAny M A (unbindName X.env n) Q E s:=by
 obtain ⟨m,hn,hl⟩:=id I.loc
 obtain ⟨u,r,lk⟩:=hl j n v hj hv (.inl hk)
 have hmn:m n=some u:=by
  rcases lk with ⟨_,e⟩ | ⟨k,_⟩
  ·exact e
  ·rcases k with k | k <;> (have:X.env.kindOf n=some .local:=hk;rw [this] at k;cases k)
 exact wpAny_unbindName_local hk hn hmn (by rw [I.ok.kind];rfl) fun h' u' hn' hs=>h _ (I.names hN hj hn hl hn' (fun x hx=>if_neg hx) hs)
def Cx.held (X:Cx) (a:Addr):Cx:={ X with A:=X.A.mark (some (.ref a)),calm:=false,xe:=fun _ _=>False }
theorem Cx.Ok.held {a:Addr} (ok:X.Ok):(X.held a).Ok:=⟨ok.mod,ok.kind,ok.glob,ok.blt,ok.above,ok.inj,ok.has,ok.cab,(fun h=>nomatch h),ok.frames,ok.stk,ok.exf,ok.bs,ok.bsz,ok.noex,ok.exfs,ok.funs,ok.frf⟩
theorem Inv.held {a:Addr} (I:Inv X pins σ H s):Inv (X.held a) pins σ H s:=⟨I.ok.held,I.os,I.bare,I.base,I.loc,I.cell,I.free,I.freeC,I.pin,I.hok,I.len⟩
theorem Inv.unheld {a:Addr} (ok:X.Ok) (I:Inv (X.held a) pins σ H s):Inv X pins σ H s:=⟨ok,I.os,I.bare,I.base,I.loc,I.cell,I.free,I.freeC,I.pin,I.hok,I.len⟩
theorem Inv.adopt {a:Addr} {o:HO} {vs:Array Value} {oe:Obj} (I:Inv X pins σ H s) (ha:H a=none) (h0:X.s₀.heap.get? a=none) (he:s.heap.get? a=some oe) (hd:oe.data=.fields vs) (hp:∀ p ∈ X.pn ++ pins,p.1 ≠ a) (new:ObjOk X.prog X.w (upd H a o) s.heap a o) :
  Inv X pins σ (upd H a o) s:=by
 have nL:X.env.locals ≠ a:=fun z=>by
  obtain ⟨m,⟨ob,es,ep,e,dd,_⟩,_⟩:=I.loc
  rw [z,he] at e;cases e
  rw [hd] at dd;cases dd
 have nC:∀ x c,X.env.cells.lookup x=some c→c ≠ a:=fun x c e z=>by
  obtain ⟨v,ob,e1,dd⟩:=I.cell x c e
  rw [z,he] at e1;cases e1
  rw [hd] at dd;cases dd
 have up:∀ b u,H b=some u→upd H a o b=some u:=fun b u e=>by rw [zal (fun z=>by rw [z,ha] at e;cases e)];exact e
 refine ⟨I.ok,I.os,I.bare,⟨I.base.keep,I.base.slot,fun b ob e k hx=>?_,I.base.there,fun b xs e=>up _ _ (I.base.tups b xs e),fun b ob u e=>up _ _ (I.base.frzs b ob u e),fun b qs ps e=>up _ _ (I.base.tbls b qs ps e)⟩,I.loc,I.cell,by rw [zal nL];exact I.free,fun x c e=>by rw [zal (nC x c e)];exact I.freeC x c e,fun p hpp=>?_,fun b u e=>?_,I.len⟩
 ·rw [zal (fun z=>by rw [z,h0] at e;cases e)]
  exact I.base.free b ob e k hx
 ·obtain ⟨e,k,r⟩:=I.pin p hpp
  exact ⟨e,by rw [zal (hp p hpp)];exact k,r⟩
 ·by_cases hb:b=a
  ·subst hb;rw [zam] at e;cases e;exact new
  ·rw [zal hb] at e
   exact (I.hok b u e).stay (fun _ _ _ q=>q) (fun c q=>up c _ q) (fun c _ _ _ _ q=>up c _ q) fun c xs q=>up c _ q
theorem Inv.touch {h':Heap} {L:List Addr} {t':Nat} (I:Inv X pins σ H s) (k:∀ b o,b ∉ frs X.stack→b ∉ L→s.heap.get? b=some o→h'.get? b=some o) (sl:∀ b o,b ∈ frs X.stack→s.heap.get? b=some o→∃ sl,h'.get? b=some { o with slots:=sl })
  (hL:∀ b ∈ L,∃ φ,H b=some (.ext φ)∧φ h'∧∃ o,h'.get? b=some o):Inv X pins σ H { s with heap:=h',toks:=t' }:=by
 have fr:∀ b ∈ frs X.stack,H b=none:=I.stkFree
 refine I.call' (ch:=[]) rfl ⟨fun b o e n hb _=>k b o hb (fun z=>?_) e,fun b o e n hb _=>sl b o hb e,fun _ _ _ n _=>n,fun b o e _=>?_,fun _ _ e=>e,fun _ _ _ e=>e,fun _ _ _ e=>e⟩ (fun b u e=>?_) I.bare fun b z=>nomatch z
 ·obtain ⟨φ,e',_⟩:=hL b z
  rw [n] at e';cases e'
 ·by_cases hb:b ∈ frs X.stack
  ·obtain ⟨q,e'⟩:=sl b o hb e
   exact ⟨_,e'⟩
  ·by_cases hl:b ∈ L
   ·obtain ⟨_,_,_,o',e'⟩:=hL b hl
    exact ⟨o',e'⟩
   ·exact ⟨o,k b o hb hl e⟩
 ·by_cases hl:b ∈ L
  ·obtain ⟨φ,e',p,o',e''⟩:=hL b hl
   rw [e] at e';cases e'
   exact ⟨p,⟨o',e''⟩,(I.hok b _ e).2.2⟩
  ·refine (I.hok b u e).stay (fun c w hc ec=>k c w (fun z=>?_) (fun z=>?_) ec) (fun _ z=>z) (fun _ _ _ _ _ z=>z) fun _ _ z=>z
   ·have:=fr c z
    rcases hc with rfl | hc
    ·rw [this] at e;cases e
    ·rw [this] at hc;cases hc
   ·rcases hc with rfl | hc
    ·exact hl z
    ·obtain ⟨φ,e',_⟩:=hL c z
     rw [hc] at e';cases e'
def ExcIs (a:Addr) (cls:Value) (h:Heap):Prop:=∃ (o:Obj) (vs:Array Value),h.get? a=some o∧o.cls=cls∧o.data=.fields vs
def TbIs (T:Addr) (h:Heap):Prop:=∃ (o:Obj) (vs:Array Value),h.get? T=some o∧o.data=.fields vs
def excO (a:Addr) (cls:Value):HO:=.ext (ExcIs a cls)
def tbO (T:Addr):HO:=.ext (TbIs T)
theorem exc_ok {P:Program} {w:World} {h:Heap} {H:Hp} {a:Addr} {cls:Value} (x:ExcIs a cls h):ObjOk P w H h a (excO a cls) :=
 ⟨x,let ⟨o,_,e,_⟩:=x;⟨o,e⟩,fun h1 h2 ⟨o,vs,e,r⟩ k=>⟨o,vs,k o e,r⟩⟩
theorem tb_ok {P:Program} {w:World} {h:Heap} {H:Hp} {T:Addr} (x:TbIs T h):ObjOk P w H h T (tbO T) :=
 ⟨x,let ⟨o,_,e,_⟩:=x;⟨o,e⟩,fun h1 h2 ⟨o,vs,e,r⟩ k=>⟨o,vs,k o e,r⟩⟩
end
section
variable {prog:Program} {w:World} {A:Around} {E:Z0} {s:Shared} {env:Env}
theorem zqp {base:Heap} {outer:List Env} {L e T:Addr} {oe oT:Obj} {vs ts:Array Value} {Q:Unit→Shared→Prop} (hfr:A.frames=some (env :: outer)) (hl:s.heap.FunFrames base (env :: outer)) (hf:env.frame=some L) (he:s.heap.get? e=some oe) (hd:oe.data=.fields vs) (h1:vs[1]?=some (.ref T))
  (hTe:T ≠ e) (hT:s.heap.get? T=some oT) (hdT:oT.data=.fields ts) (h3:ts[3]?=some .none)
  (h:∀ h',(∀ b o,b ∉ frs (env :: outer)→b ≠ e→b ≠ T→s.heap.get? b=some o→h'.get? b=some o)→(∀ b o,b ∈ frs (env :: outer)→s.heap.get? b=some o→∃ sl,h'.get? b=some { o with slots:=sl })→TbIs T h' →
   (∃ (oe':Obj) (vs':Array Value) (T2:Addr) (oT2:Obj) (ts2:Array Value),h'.get? e=some oe'∧oe'.cls=oe.cls∧oe'.data=.fields vs'∧vs'[1]?=some (.ref T2)∧T2 ≠ e∧h'.get? T2=some oT2∧oT2.data=.fields ts2∧ts2[3]?=some .none∧s.heap.get? T2=none)→Q () { s with heap:=h' }) :
  wpAny (model prog w) A (noteFrame (.ref e) env) (fun _ s'=>wpAny (model prog w) A (setFlight (.ref e) none) Q E s') E s:=by
 unfold noteFrame
 simp only [hf]
 refine wpAny_bind (wpAny_field he hd h1 ?_)
 rw [if_pos (show (Value.ref T != Value.none)=true from by simp)]
 refine wpAny_bind (wpAny_field hT hdT h3 ?_)
 rw [if_neg (show ¬ ((Value.none == rawInt L)=true) from by simp [rawInt])]
 refine wpAny_bind (wpAny_setField hT hdT (y2a.mp h3).1 ?_)
 have other:∀ b,b ≠ T→(s.heap.update T (Obj.mapFields (·.setIfInBounds 3 Value.none))).get? b=s.heap.get? b:=fun b hb=>y29 _ _ (Ne.symm hb)
 have hdT':=Obj.data_mapFields hdT (·.setIfInBounds 3 Value.none)
 have hT':=y2d (Obj.mapFields (·.setIfInBounds 3 Value.none)) hT (Obj.isFreed_of_fields hdT')
 generalize s.heap.update T (Obj.mapFields (·.setIfInBounds 3 Value.none))=h2 at other hT'
 have nr:∀ b o,s.heap.get? b=some o→(∀ vs,o.data ≠ .fields vs)→b ≠ T:=fun b o hb hnf q=>by
  rw [q,hT] at hb;injection hb with hb;subst hb;exact hnf ts hdT
 have hl2:h2.FunFrames base (env :: outer):=hl.of_keeps fun b o hb hnf=>⟨o,(other b (nr b o hb hnf)).trans hb,rfl⟩
 have fT:T ∉ frs (env :: outer):=fun z=>by
  obtain ⟨_,o,e1,e2⟩:=hl.mem z
  rw [hT] at e1;cases e1;exact e2 _ hdT
 have fe:e ∉ frs (env :: outer):=fun z=>by
  obtain ⟨_,o,e1,e2⟩:=hl.mem z
  rw [he] at e1;cases e1;exact e2 _ hd
 refine wpAny_newEntry (base:=without h2 (frs (env :: outer) ++ [e])) hfr (zcj hl2 fun b hb=>zbj (y1x _ hb)) hf ((other e (Ne.symm hTe)).trans he) (zce _ _) (zbj (y11 _ (y07.mpr rfl))) hd (y2a.mp h1).1
  fun h' ⟨x1,x2,x3,x4⟩=>?_
 have st:∀ b o,b ∉ frs (env :: outer)→b ≠ e→h2.get? b=some o→h'.get? b=some o:=fun b o n1 n2 q=>x1 b o (by rw [zbs (fun z=>(y0i.mp z).elim n1 fun z=>n2 (y07.mp z))];exact q)
 obtain ⟨oe',vs',T2,oT2,ts2,t1,t2,t3,t4,t5,t6,t7,t8,t9⟩:=x3
 have f2:T2 ∉ frs (env :: outer):=fun z=>by
  obtain ⟨_,o,e1,e2⟩:=x2.mem z
  rw [t7] at e1;cases e1;exact e2 _ t8
 have n2:h2.get? T2=none:=by rw [zbs (fun z=>(y0i.mp z).elim f2 fun z=>t6 (y07.mp z))] at t5;exact t5
 have n2T:T2 ≠ T:=fun z=>by rw [z,hT'] at n2;cases n2
 refine h h' (fun b o b1 b2 b3 q=>st b o b1 b2 ((other b b3).trans q)) (fun b o hb q=>?_) ⟨_,_,st T _ fT hTe hT',hdT'⟩ ⟨oe',vs',T2,oT2,ts2,t1,t2,t3,t4,t6,t7,t8,t9,by rw [← other T2 n2T];exact n2⟩
 obtain ⟨_,o',e1,e2⟩:=hl.mem hb
 rw [q] at e1;cases e1
 exact x4 b o ((other b (nr b o q e2)).trans q) e2
end
section
variable {X:Cx} {pins:Z2} {σ:St} {H:Hp} {s:Shared} {k:Nat} {fa:Addr} {fd:FuncData} {ps:List Str} {sp:Sp}
theorem ex_call {Ec:XK} {Q:VK} {Xe:Z0} {x:Str} {e:Expr} {es:List Expr} {t:TA} {p pos:Pos} (F:FnOk X.prog X.w X.K X.mg X.base (CXE X.prog X.w) k fa fd ps sp) (hr:Room k X.A) (hg:Gl X x) (hm:X.mg x=some (.ref fa)) (hk:PySem.W.keepIn X.K (.ref fa)=true) (hb:Binds X.K fd ps [])
  (ha:PA X.nox (e :: es) t) (I:Inv X pins σ H s) (h:t σ H fun vs H1=>sp vs H1 Q Ec) (hx:∀ H1 s1 e s',Inv X pins σ H1 s1→CXE X.prog X.w X.stack H1 s1 Ec e s'→Xe e s')
  (hdb:(x == ("__debug__":Str))=false:=by decide) (he:starEach (e :: es) X.env=(false,eval e X.env) :: starEach es X.env:=by rfl) (hpl:(backTo pos (starEach es X.env)).any (·.1)=false:=by rfl) :
  wpAny (model X.prog X.w) X.A (eval (.Call (.Name x p) (e :: es) [] pos) X.env) (EP X pins σ Q) Xe s:=by
 refine wpAny_Call_Name_kw (zdz I hg hm ?_ hdb)
 refine PySem.W.callWith_K (h₀:=X.base) I.ok.mod.kin hk (wpAny_mono (ha pos pins s σ H _ (I.wish _) h) (fun us s1 ⟨vs,H1,I1,r,q⟩=>⟨I1.unwish.kIn,?_⟩) fun _ _ z=>False.elim z) he hpl
 have I1':=I1.unwish
 have hl:us.length=ps.length:=by rw [← r.length];exact F.len _ _ _ _ q
 refine wpAny_call (codeAny_mono (F.run X.A X.stack s1 H1 ⟨us,[]⟩ us vs Q Ec hr I1'.env0 (by have:=hb s1 us I1'.kIn (by rw [y0s];exact hl);rw [y0s] at this;exact this) r q) fun r s' hq=>?_)
 cases r with
 | error e=>exact hx H1 s1 e s' I1' hq
 | ok fl =>
  cases fl with
  | ret u=>exact I1'.after hq
  | next=>exact False.elim hq
  | brk=>exact False.elim hq
  | cont=>exact False.elim hq
theorem zoq {M:Model} {A:Around} {E:Z0} {a T:Addr} {oe oT:Obj} {vs ts:Array Value} {Q:Unit→Shared→Prop} (I:Inv X pins σ H s) (he:s.heap.get? a=some oe) (hd:oe.data=.fields vs) (h1:vs[1]?=some (.ref T)) (hT:s.heap.get? T=some oT) (hdT:oT.data=.fields ts) (h3:3 < ts.size)
  (tr:H T=some (tbO T)) (h:∀ h',Inv X pins σ H { s with heap:=h' }→Q () { s with heap:=h' }):wpAny M A (setFlight (.ref a) none) Q E s:=by
 unfold setFlight
 refine wpAny_bind (wpAny_field he hd h1 ?_)
 rw [if_pos (show (Value.ref T != Value.none)=true from by simp)]
 refine wpAny_setField hT hdT h3 ?_
 have other:∀ b,b ≠ T→(s.heap.update T (Obj.mapFields (·.setIfInBounds 3 ((none:Option Addr).elim Value.none fun f=>rawInt f)))).get? b=s.heap.get? b:=fun b hb=>y29 _ _ (Ne.symm hb)
 have hdT':=Obj.data_mapFields hdT (·.setIfInBounds 3 ((none:Option Addr).elim Value.none fun f=>rawInt f))
 have hT':=y2d (Obj.mapFields (·.setIfInBounds 3 ((none:Option Addr).elim Value.none fun f=>rawInt f))) hT (Obj.isFreed_of_fields hdT')
 refine h _ (I.touch (L:=[T]) (t':=s.toks) (fun b o _ n q=>(other b (fun z=>n (y07.mpr z))).trans q) (fun b o hb q=>⟨o.slots,(other b (fun z=>?_)).trans q⟩) fun b hb=>?_)
 ·have:=I.stkFree b hb
  rw [z,tr] at this;cases this
 ·rw [y07.mp hb]
  exact ⟨_,tr,⟨_,_,hT',hdT'⟩,_,hT'⟩
end
end L2
namespace SM
open PySem PySem.Spec PyProof.Rows L2 SS
def zes:Sp:=fun vs H Q _=>∃ (a b:Addr) (rs:List V) (ls fs:List (List Nat)),vs=[.ref a,.ref b]∧H a=some (.lst rs)∧Paired (Line H) rs ls∧ls.length ≤ 16∧H b=some (.dT (tabF keyL 0 fs))∧(∀ l ∈ ls,l ∈ fs)∧∀ p H',Same H H'→H' p=some (.tup ((ls.map (nOf fs)).map nV))→Q (.ref p) H'
end SM
namespace L2
open PySem PySem.Spec PyProof.Rows PySem.W
structure KExc (K:Frag) (C:Addr):Prop where
 ga:findIn K (.ref C) "__getattribute__"=some (some (.builtin "BaseException.__getattribute__"))
 gn:findIn K (.ref C) "__getattr__"=some none
 cl:findIn K (.ref C) "__class__"=some (some (.builtin "object.__class__"))
 mb:mroIn K C (.type "BaseException")=some true
 mo:mroIn K C (.type "object")=some true
 ic:hasDictIn K C=true
section
variable {prog:Program} {w:World} {A:Around} {E:Z0} {K:Frag} {h:Heap} {g:Array GenState} {d:Drawn} {t:Nat} {os:OsState} {a C:Addr} {o:Obj}
theorem zj0 {M:Model} {base:Value} {r:Bool} {Q:Bool→Shared→Prop} (X:K.In h) (e:mroIn K C base=some r) (hq:Q r ⟨h,g,d,t,os⟩):wpAny M A (isSubtype (.ref C) base) Q E ⟨h,g,d,t,os⟩:=looks_mroIn X e A Q E _ (fun _ _ e=>e) hq
theorem zjg {M:Model} {v:Value} {n:Str} {r:Option Value} {Q:Z9} (X:K.In h) (e:findIn K v n=some r) (hq:Q r ⟨h,g,d,t,os⟩):wpAny M A (typeLookup v n) Q E ⟨h,g,d,t,os⟩:=looks_findIn X e A Q E _ (fun _ _ e=>e) hq
theorem zgx {R:Result→Shared→Prop} (X:K.In h) (k:KExc K C) (hx:h.get? a=some o) (hc:o.cls=.ref C) (hq:R (.ok (.ret (.ref C))) ⟨h,g,d,t,os⟩) :
  codeAny (model prog w) A (.call (.builtin "getset_descriptor.__get__") ⟨[.builtin "object.__class__",.ref a,.ref C],[]⟩) R ⟨h,g,d,t,os⟩:=by
 have hT5:(⟨h,g,d,t,os⟩:Shared).TypeIs (.builtin "object.__class__") "getset_descriptor":=F.typeOf_object_class
 have mo:mroIn K C (.type (".".intercalate ("object.__class__".cutAt '.').dropLast))=some true:=by rw [F.owner_object_class];exact k.mo
 refine codeAny_call_builtin F.slot_gs_get.plain F.entry_gs_get (F.slot_gs_get.check _ _ _ _ _ _ _ _ hT5 (F.args_gs_get _ _ _) ?_)
 repeat (any_goals (first | assumption | (with_reducible refine wpAny_loadPart_at hx ?_;rw [hc]) | (with_reducible refine zj0 X mo ?_) | wp_step))
 refine ⟨Code.quiet_builtin _ (by decide +kernel),codeAny_builtin F.entry_object_class ?_⟩
 repeat (any_goals (first | assumption | (with_reducible refine wpAny_loadPart_at hx ?_;rw [hc]) | wp_step))
theorem zif {M:Model} {nameV:Value} {Q:Unit→Shared→Prop} (X:K.In h) (k:KExc K C) (hx:h.get? a=some o) (hc:o.cls=.ref C) (hq:Q () ⟨h,g,d,t,os⟩):wpAny M A (checkBuiltinCall "BaseException.__getattribute__" ⟨[.ref a,nameV],[]⟩) Q E ⟨h,g,d,t,os⟩:=by
 have hk:builtinKind "BaseException.__getattribute__"=some .slot:=by decide +kernel
 have hsplit:splitId "BaseException.__getattribute__"=some ("BaseException","__getattribute__"):=by decide +kernel
 have mb:=k.mb
 have ha:=F.args_bexc_ga (.ref a) nameV
 simp only [checkBuiltinCall,hk,hsplit]
 refine wpAny_bind ?_
 unfold isInstance
 repeat (first | (with_reducible refine wpAny_loadPart_at hx ?_;rw [hc]) | (with_reducible refine zj0 X mb ?_) | wp_step)
 exact hq
theorem zfh {tk:Tok} {Q:Fin→Shared→Prop} (X:K.In h) (k:KExc K C) (hx:h.get? a=some o) (hc:o.cls=.ref C) (hq:Q (.done (.ret (.ref C))) ⟨h,g,d,t,os⟩) :
  wpAny (model prog w) A (Builtin.«object.__getattribute__» ⟨[.ref a,.str "__class__" tk],[]⟩) Q E ⟨h,g,d,t,os⟩:=by
 have hT5:(⟨h,g,d,t,os⟩:Shared).TypeIs (.builtin "object.__class__") "getset_descriptor":=F.typeOf_object_class
 have cl:=k.cl
 have f5:=F.typeOf_object_class
 have f6:=F.slot_gs_get.lookup
 have f7:=F.slot_gs_set.lookup
 repeat (any_goals (first | assumption | (with_reducible refine wpAny_loadPart_at hx ?_;rw [hc]) | (with_reducible refine zjg X cl ?_) | wp_step))
 refine zgx X k hx hc ?_
 repeat (any_goals (first | assumption | wp_step))
theorem zie {tk:Tok} {Q:Z0} (FB:ExcAttrFacts "ValueError") (X:K.In h) (k:KExc K C) (hx:h.get? a=some o) (hc:o.cls=.ref C) (hq:Q (.ref C) ⟨h,g,d,t,os⟩):wpAny (model prog w) A (getAttrBy (.ref a) (.str "__class__" tk) false) Q E ⟨h,g,d,t,os⟩:=by
 have f3:=FB.ga.bind (.ref a)
 have hx2:(Value.builtin "BaseException.__getattribute__" == Value.builtin "object.__getattribute__")=false:=by decide +kernel
 have ga:=k.ga
 have gn:=k.gn
 repeat (any_goals (first | assumption | (with_reducible refine wpAny_loadPart_at hx ?_;rw [hc]) | (with_reducible refine zjg X ga ?_) | (with_reducible refine zjg X gn ?_) | wp_step))
 refine codeAny_call_builtin FB.ga.plain F.entry_bexc_ga (zif X k hx hc (zfh X k hx hc ?_))
 repeat (any_goals (first | assumption | wp_step))
theorem zfs {Q:Z9} (FB:ExcAttrFacts "ValueError") (X:K.In h) (k:KExc K C) (hx:h.get? a=some o) (hc:o.cls=.ref C) (hq:Q (some (.ref C)) ⟨h,g,d,t + 1,os⟩):wpAny (model prog w) A (getAttr? (.ref a) "__class__") Q E ⟨h,g,d,t,os⟩:=by
 unfold getAttr? getAttrBy?
 repeat (any_goals (first | assumption | with_reducible apply zie FB X k hx hc | wp_step))
end
theorem zkp {K:Frag} {a C:Addr} (k:KExc K C):KitX K (.ref a) (.ref C) (fun h=>∃ o,h.get? a=some o∧o.cls=.ref C) where
 ty:=fun M h _ ⟨o,e,c⟩=>by
  intro A Q E s kk q
  obtain ⟨hp,g,d,t,os⟩:=s
  have e':=kk _ _ e
  repeat (first | (with_reducible refine wpAny_loadPart_at e' ?_;rw [c]) | wp_step)
  exact q
 it:=fun _ _ X _=>by
  obtain ⟨cd,hcD,_⟩:=any_some k.ic
  unfold clsIn at hcD
  split at hcD
  ·rename_i c' d' cd' sl' ho
   intro A' Q' E' s' kk q
   unfold isType loadHead
   exact wpAny_bind (wpAny_loadPart (kk _ _ (X _ _ ho)) (wpAny_pure q))
  ·cases hcD
 ne:=fun h tp dd its n sl X htp=>by
  obtain ⟨cd,hcD,_⟩:=any_some k.ic
  refine Bool.eq_false_iff.mpr fun q=>?_
  have e:C=tp:=Value.ref.inj (beq_iff_eq.mp q)
  subst e
  unfold clsIn at hcD
  split at hcD
  ·rename_i c' d' cd' sl' ho
   have z:=(X _ _ ho).symm.trans htp
   cases z
  ·cases hcD
 ca:=fun {_ _ _ _ _ s} X p q=>by
  obtain ⟨hp,g,d,t,os⟩:=s
  obtain ⟨o,e,c⟩:=p
  exact zfs F.excAttr_ValueError X k e c q
def rIsX (K:Frag):List V→Hp→VK→Prop:=fun xs H Q=>∃ a C S b,xs=[.ref a,.ref S]∧H a=some (excO a (.ref C))∧KExc K C∧kitOne K (.ref C) (.ref S)=some b∧Q (.bl b) H
def rIsXT (K:Frag):List V→Hp→VK→Prop:=fun xs H Q=>∃ a C T b,xs=[.ref a,.ty T]∧H a=some (excO a (.ref C))∧KExc K C∧kitOne K (.ref C) (.type T)=some b∧Q (.bl b) H
theorem zr5 {X:Cx} {pins:Z2} {σ:St} {H:Hp} {s:Shared} {a:Addr} {cls:Value} (I:Inv X pins σ H s) (e:H a=some (excO a cls)):∃ o,s.heap.get? a=some o∧o.cls=cls :=
 let ⟨⟨o,_,h1,h2,_⟩,_,_⟩:=(show ObjOk X.prog X.w H s.heap a (excO a cls) from I.hok a _ e)
 ⟨o,h1,h2⟩
theorem zrg {X:Cx}:CallR X (.builtin "isinstance") (rIsX X.K):=by
 infer_instance
 obtain ⟨a,C,S,b,rfl,ea,k,e,q⟩:=h
 obtain ⟨u,w',rfl,rx,ry⟩:=vals2 r
 cases (show w'=Value.ref S from ry)
 cases (show u=Value.ref a from rx)
 exact kia_one (zkp k) I.kIn (zr5 I ea) e (fun z=>nomatch z) fun tk=>⟨.bl b,H,I.tok _,rfl,q⟩
theorem zpa {X:Cx}:CallR X (.builtin "isinstance") (rIsXT X.K):=by
 infer_instance
 obtain ⟨a,C,T,b,rfl,ea,k,e,q⟩:=h
 obtain ⟨u,w',rfl,rx,ry⟩:=vals2 r
 cases (show w'=Value.type T from ry)
 cases (show u=Value.ref a from rx)
 exact kia_one (zkp k) I.kIn (zr5 I ea) e (fun z=>nomatch z) fun tk=>⟨.bl b,H,I.tok _,rfl,q⟩
open PySem PySem.Spec PyProof.Rows PySem.W PySem.Calls
section
variable {M:Model} {A:Around} {E:Z0} {K:Frag} {h:Heap} {g:Array GenState} {d:Drawn} {t:Nat} {os:OsState}
theorem zsg {v c:Value} {Q:Z0} (X:K.In h) (e:typeIn K v=some c) (hq:Q c ⟨h,g,d,t,os⟩):wpAny M A (typeOf v) Q E ⟨h,g,d,t,os⟩:=looks_typeIn X e A Q E _ (fun _ _ e=>e) hq
structure KSup (K:Frag) (S:Addr):Prop where
 ty:typeIn K (.ref S)=some (.type "type")
 mb:mroIn K S (.type "BaseException")=some true
 ic:hasDictIn K S=true
theorem zh8 {e C S:Addr} {oe:Obj} {Q:Bool→Shared→Prop} (X:K.In h) (k:KSup K S) (he:h.get? e=some oe) (hcls:oe.cls=.ref C) (ms:mroIn K C (.ref S)=some true) (hq:Q true ⟨h,g,d,t,os⟩):wpAny M A (excMatches (.ref e) (.ref S)) Q E ⟨h,g,d,t,os⟩:=by
 have ty:=k.ty
 have mb:=k.mb
 have f:=tc_notTuple
 obtain ⟨cd,hcd,_⟩:=any_some k.ic
 unfold clsIn at hcd
 split at hcd
 ·rename_i c' d' cd' sl' ho
  have hS:=X _ _ ho
  unfold excMatches
  repeat (first | (with_reducible refine wpAny_loadPart_at he ?_;rw [hcls]) | (with_reducible refine zsg X ty ?_) | with_reducible refine wpAny_loadPart_at hS ?_ | (with_reducible refine zj0 X mb ?_) | (with_reducible refine zj0 X ms ?_) | wp_step)
  exact hq
 ·cases hcd
end
section
variable {prog:Program} {w:World} {A:Around} {E:Z0} {s:Shared} {env:Env}
theorem zol {K:Frag} {a C S:Addr} {t:Expr} {n:Str} {b₀:Stmt} {suite:List Stmt} {pos:Pos} {rest:List ExceptHandler} {Q:Flow→Shared→Prop} (k:KSup K S) (ms:mroIn K C (.ref S)=some true)
  (h:wpAny (model prog w) (A.mark (some (.ref a))) (eval t env) (fun c s₁=>c=.ref S∧K.In s₁.heap∧(∃ oe,s₁.heap.get? a=some oe∧oe.cls=.ref C) ∧
   wpAny (model prog w) (A.mark (some (.ref a))) (setFlight (.ref a) none) (fun _ s₂=>wpAny (model prog w) (A.mark (some (.ref a))) (storeName env n (.ref a)) (fun _ s₃=>wpAny (model prog w) (A.mark (some (.ref a))) (execs (b₀ :: suite) env)
    (fun f s₄=>wpAny (model prog w) A (do bindName env n .none;unbindBehindTheSuite env n pos) (fun _ s₅=>Q f s₅) E s₄) (fun _ _=>False) s₃) (fun _ _=>False) s₂) (fun _ _=>False) s₁) (fun _ _=>False) s) :
  wpAny (model prog w) A (handleBy (.ref a) env (.ExceptHandler (some t) (some n) (b₀ :: suite) pos :: rest)) Q E s:=by
 refine wpAny_handleBy_cons (codeAny_handlers_test (wpAny_mono h (fun c s₁ h₁=>?_) fun _ _ y=>False.elim y)) (by intro q;cases q)
 obtain ⟨rfl,KI,⟨oe,he,hcls⟩,hk⟩:=h₁
 obtain ⟨hh,g,d,tk,os⟩:=s₁
 refine zh8 KI k he hcls ms (codeAny_handlers_suite_as ?_)
 exact wpAny_mono hk (fun _ s₂ h₂=>wpAny_mono h₂ (fun _ s₃ h₃=>wpAny_mono h₃ (fun _ _ y=>y) fun _ _ y=>False.elim y) fun _ _ y=>False.elim y) fun _ _ y=>False.elim y
end
section
variable {X:Cx} {pins:Z2} {σ:St} {H:Hp} {s:Shared} {k:Nat} {fa:Addr} {fd:FuncData} {ps:List Str} {sp:Sp}
def tTry (K:Frag) (S:Addr) (sp:Sp) (i j:Nat) (t:TA) (ts:TS):TS:=fun D σ H=>t σ H fun vs H1=>sp vs H1 (fun v H2=>D.nx (σ.set i (some v)) H2) fun cls oa H2=>∀ a,oa=some a→∃ C,cls=.ref C∧mroIn K C (.ref S)=some true ∧
 ∀ H3,Same H2 H3→H3 a=some (excO a cls)→ts { nx:=fun σ' H'=>(∃ v,σ'[j]?=some (some v))∧D.nx (σ'.set j none) H',rt:=fun _ _=>False } (σ.set j (some (.ref a))) H3
theorem ps_try {x f c n:Str} {i j:Nat} {S:Addr} {e:Expr} {es:List Expr} {t:TA} {ts:TS} {px np cpos apos cp hpos pos:Pos} {b₀:Stmt} {suite:List Stmt} (F:FnOk X.prog X.w X.K X.mg X.base (CXE X.prog X.w) k fa fd ps sp) (hr:Room k X.A) (hg:Gl X f) (hm:X.mg f=some (.ref fa))
  (hkp:PySem.W.keepIn X.K (.ref fa)=true) (hb:Binds X.K fd ps []) (ha:PA X.nox (e :: es) t) (hgS:Gl X c) (hmS:X.mg c=some (.ref S)) (kS:KSup X.K S)
  (hx:X.ex=[]) (hst:X.stack=X.env :: X.outer) (hfr:X.env.frame=some X.env.locals) (hN:X.N.Nodup) (hi:X.N[i]?=some x) (hxl:Loc X.env.scope x) (hj:X.N[j]?=some n) (hnl:X.env.scope.names.lookup n=some .local) (hsu:∀ a,PSs (X.held a) (b₀ :: suite) ts)
  (hs:swapsWith (.Call (.Name f np) (e :: es) [] cpos) (some (.Name x px)) apos.line X.env=pure false:=by rfl) (hf:X.fn x=true∨X.env.scope.names.lookup x=some .local:=by first | exact .inl rfl | exact .inr rfl | assumption) (hdb:(f == ("__debug__":Str))=false:=by decide)
  (hdc:(c == ("__debug__":Str))=false:=by decide) (he:starEach (e :: es) X.env=(false,eval e X.env) :: starEach es X.env:=by rfl) (hpl:(backTo cpos (starEach es X.env)).any (·.1)=false:=by rfl) :
  PS X (.Try [.Assign [.Name x px] (.Call (.Name f np) (e :: es) [] cpos) apos] [.ExceptHandler (some (.Name c cp)) (some n) (b₀ :: suite) hpos] [] [] pos) (tTry X.K S sp i j t ts):=by
 intro pins s σ H D I h
 refine wpAny_Try_except (wpAny_execs_cons (wpAny_Assign_Name (wpAny_mono (ex_call F hr hg hm hkp hb ha I h (Xe:=_) (fun H1 s1 ev s' I1 cx=>?_) hdb he hpl) (fun v s1 ⟨y,H1,I1,r1,q1⟩=>?_) fun _ _ z=>z) hs))
 ·-- an exception
  obtain ⟨a,cls,H2,rfl,os,bare,un,hok,⟨oe,vs,T,oT,tts,t1,t2,t3,t4,t6,t7,t8,t9,n1,n2,h1,h2⟩,ee⟩:=cx
  obtain ⟨C,rfl,ms,ht⟩:=ee a rfl
  have I2:Inv X pins σ H2 s':=I1.call' (ch:=[]) os un hok bare fun b z=>nomatch z
  have nex:∀ b,b ∉ X.ex:=fun b z=>by rw [hx] at z;cases z
  have s0:∀ b,s1.heap.get? b=none→X.s₀.heap.get? b=none:=fun b z=>by
   cases q:X.s₀.heap.get? b with
   | none=>rfl
   | some o =>
    obtain ⟨o',e'⟩:=I1.base.there b o q (nex b)
    rw [z] at e';cases e'
  have pn:∀ b,s1.heap.get? b=none→∀ p ∈ X.pn ++ pins,p.1 ≠ b:=fun b z p hp q=>by
   have:=(I1.pin p hp).1
   rw [q,z] at this;cases this
  have I3:=I2.adopt (o:=excO a (.ref C)) h1 (s0 a n1) t1 t3 (pn a n1) (exc_ok ⟨oe,vs,t1,t2,t3⟩)
  have h2':upd H2 a (excO a (.ref C)) T=none:=by rw [zal t6];exact h2
  have I4:=I3.adopt (o:=tbO T) h2' (s0 T n2) t7 t8 (pn T n2) (tb_ok ⟨oT,tts,t7,t8⟩)
  refine zqp (base:=X.base) (outer:=X.outer) (L:=X.env.locals) (T:=T) (by rw [← hst];exact I.ok.frames) (by rw [← hst];exact I2.stack) hfr t1 t3 t4 t6 t7 t8 t9 fun h'' kk sl tb ⟨oe',vs',T2,oT2,ts2,u1,u2,u3,u4,u5,u6,u7,u8,u9⟩=>?_
  rw [← hst] at kk sl
  have ea4:upd (upd H2 a (excO a (.ref C))) T (tbO T) a=some (excO a (.ref C)):=by rw [zal (Ne.symm t6),zam]
  have I5:=I4.touch (L:=[a,T]) (t':=s'.toks) (h':=h'') (fun b o b1 b2 q=>kk b o b1 (fun z=>b2 (by simp [z])) (fun z=>b2 (by simp [z])) q) sl fun b hb=>by
   simp only [y0f,y1y,or_false] at hb
   rcases hb with rfl | rfl
   ·exact ⟨_,ea4,⟨oe',vs',u1,u2.trans t2,u3⟩,_,u1⟩
   ·obtain ⟨o,w,e1,e2⟩:=id tb
    exact ⟨_,zam,tb,o,e1⟩
  have T2n:s1.heap.get? T2=none:=by
   cases q:s1.heap.get? T2 with
   | none=>rfl
   | some o =>
    obtain ⟨o',e'⟩:=un.there T2 o q (fun z=>nomatch z)
    rw [u9] at e';cases e'
  have T2T:T2 ≠ T:=fun z=>by rw [z,t7] at u9;cases u9
  have HT2:upd (upd H2 a (excO a (.ref C))) T (tbO T) T2=none:=by
   rw [zal T2T,zal u5]
   cases q:H2 T2 with
   | none=>rfl
   | some o =>
    obtain ⟨o',e'⟩:=zch (hok T2 o q)
    rw [u9] at e';cases e'
  have I6:=I5.adopt (o:=tbO T2) HT2 (s0 T2 T2n) u6 u7 (pn T2 T2n) (tb_ok ⟨oT2,ts2,u6,u7⟩)
  generalize eH:upd (upd (upd H2 a (excO a (.ref C))) T (tbO T)) T2 (tbO T2)=H3 at I6
  have g3:Same H2 H3:=by rw [← eH];exact (zbh h1 _).trans ((zbh h2' _).trans (zbh HT2 _))
  have ea3:H3 a=some (excO a (.ref C)):=by rw [← eH,zal (Ne.symm u5)];exact ea4
  have eT3:H3 T2=some (tbO T2):=by rw [← eH];exact zam
  refine zol kS ms (zdz (X:=X.held a) (I6.held (a:=a)) hgS hmS ⟨rfl,I6.kIn,⟨oe',u1,u2.trans t2⟩,?_⟩ hdc)
  refine zoq I6 u1 u3 u4 u6 u7 (y2a.mp u8).1 eT3 fun h7 I7=>?_
  refine zcf (v:=V.ref a) I7 hN hj (.inl hnl) rfl (fun s8 I8=>?_) (.inr hnl)
  refine wpAny_mono (hsu a pins s8 _ H3 _ (I8.held (a:=a)) (ht H3 g3 ea3)) (fun fl s9 hp=>?_) fun _ _ z=>False.elim z
  cases fl with
  | next =>
   obtain ⟨σ9,H9,I9,⟨v,hv⟩,q9⟩:=hp
   have I9':=I9.unheld I.ok
   refine wpAny_bind (wpAny_bindName (zcf (v:=V.non) I9' hN hj (.inl hnl) rfl (fun s10 I10=>?_) (.inr hnl)))
   unfold unbindBehindTheSuite
   refine wpAny_onRaise (zme (v:=V.non) I10 hN hj hnl (y2u (by rw [I9'.len];exact (y04.mp hj).1)) fun s11 I11=>?_)
   rw [List.set_set] at I11
   exact ⟨_,H9,I11,q9⟩
  | brk=>obtain ⟨_,_,_,z⟩:=hp;exact False.elim z
  | cont=>obtain ⟨_,_,_,z⟩:=hp;exact False.elim z
  | ret u=>obtain ⟨_,_,_,_,_,z⟩:=hp;exact False.elim z
 ·exact zcf I1 hN hi hxl r1 (fun s2 I2=>wpAny_execs_nil (wpAny_execs_nil ⟨_,H1,I2,q1⟩)) hf
end
theorem own_K {K:Frag} {h:Heap} {mg:Z1} {x:Str} {C:Addr} {bmB:List Value} {newId:String} (X:K.In h) (hm:mg x=some (.ref C)) (q:excIn K C bmB newId=true):OwnCls x C bmB newId mg h:=by
 refine ⟨hm,?_⟩
 unfold excIn at q
 split at q
 ·rename_i dd cd sl ho
  split at q
  ·rename_i C' bm k0 k1 k2 k3 n k5 e1 e2
   simp only [y18,beq_iff_eq,Bool.not_eq_true'] at q
   obtain ⟨⟨⟨⟨⟨z1,z2⟩,z3⟩,z4⟩,z5⟩,z6⟩:=q
   have hC:=X _ _ ho
   obtain ⟨nm,bs,mro,ns,qn,hd,sn,sub,ab,col,del⟩:=cd
   simp only at e1 z3 z5 z6
   subst e1 z1 z2 z3
   obtain ⟨l⟩:=sl
   simp only at e2
   subst e2
   exact ⟨bm,ns,nm,qn,bs,hd,sn,sub,ab,col,dd,k0,k1,k2,k3,k5,_,hC,.of_isNs (isNs_of_in X z5),nsMap_none_of_in X z5 z6,tail_of_in X z4⟩
  ·cases q
 ·cases q
theorem zhu {X:Cx} {E:XK} {x:Str} {C:Addr} {B newId initId:String} {bm:List Value} {np cpos pos:Pos} {e₀:Expr} {rest:List Expr} {t:TA} (R:Rs X E) (hc:X.calm=true) (hg:Gl X x) (hm:X.mg x=some (.ref C)) (hq:excIn X.K C bm newId=true) (FB:ExcBaseFacts B newId initId bm) (ha:PA X (e₀ :: rest) t)
  (he:starEach (e₀ :: rest) X.env=(false,eval e₀ X.env) :: starEach rest X.env:=by rfl) (hp:(backTo cpos (starEach rest X.env)).any (·.1)=false:=by rfl) (hd:(x == ("__debug__":Str))=false:=by decide) :
  PS X (.Raise (some (.Call (.Name x np) (e₀ :: rest) [] cpos)) none pos) (tRaise E (.ref C) t):=fun pins s σ H D I h =>
 zp1 R hc hg (own_K I.ok.mod.kin hm hq) FB ha he hp hd pins s σ H D I h
structure CalE (P:Program) (w:World) (K:Frag) (mg:Z1) (base:Heap) (n:Nat) (x:Str) (ps:List Str) (sp:Sp):Prop where
 ex:∃ f fd,FnOk P w K mg base (CXE P w) n f fd ps sp∧Binds K fd ps []∧PySem.W.keepIn K (.ref f)=true∧mg x=some (.ref f)
theorem Dfn.calE {P:Program} {w:World} {K:Frag} {mg:Z1} {base:Heap} {x:Str} {st:Stmt} {N ps:List Str} {k:Nat} {sp:Sp} (d:Dfn K mg x st ps) (S:FnScope N ps (defScope st)) (len:∀ vs H Q E,sp vs H Q E→vs.length=ps.length)
  (hbody:∀ (f:Addr) (cdv:Value) (A:Around) (outer:List Env) (s:Shared) (H:Hp) (vs:List V) (Q:VK) (E:XK),Room k (A.deeper (envOfC x (defScope st) s.heap.objs.size f cdv))→sp vs H Q E→Rs (cxOf (CXE P w) P w K mg base N x (defScope st) f cdv A outer s H E) E →
   ∃ t,PSs (cxOf (CXE P w) P w K mg base N x (defScope st) f cdv A outer s H E) (defBody st) t∧t { nx:=fun _ H'=>Q .non H',rt:=Q } (start N vs) H):CalE P w K mg base (k + 1) x ps sp:=by
 obtain ⟨f,fd,F,b,m⟩:=d.ex
 exact ⟨f,fd,F.okE S len (hbody f),b,F.kp,m⟩
theorem zbq {X:Cx} (K:Frag) (h:X.K=K:=by rfl):CallR X (.builtin "isinstance") (rIsX K):=h ▸ zrg
theorem zl4 {X:Cx} (K:Frag) (h:X.K=K:=by rfl):CallR X (.builtin "isinstance") (rIsXT K):=h ▸ zpa
theorem zsu {X:Cx} {k m:Nat} {x f c n:Str} {i j:Nat} {S:Addr} {ps:List Str} {sp:Sp} {e:Expr} {es:List Expr} {t:TA} {ts:TS} {px np cpos apos cp hpos pos:Pos} {b₀:Stmt} {suite:List Stmt} (C:CalE X.prog X.w X.K X.mg X.base m f ps sp) (hr:Room k X.A) (hle:m ≤ k) (hg:Gl X f)
  (ha:PA X.nox (e :: es) t) (hgS:Gl X c) (hmS:X.mg c=some (.ref S)) (kS:KSup X.K S) (hx:X.ex=[]) (hst:X.stack=X.env :: X.outer) (hfr:X.env.frame=some X.env.locals) (hN:X.N.Nodup) (hi:X.N[i]?=some x) (hxl:Loc X.env.scope x) (hj:X.N[j]?=some n)
  (hnl:X.env.scope.names.lookup n=some .local) (hsu:∀ a,PSs (X.held a) (b₀ :: suite) ts)
  (hs:swapsWith (.Call (.Name f np) (e :: es) [] cpos) (some (.Name x px)) apos.line X.env=pure false:=by rfl) (hf:X.fn x=true∨X.env.scope.names.lookup x=some .local:=by first | exact .inl rfl | exact .inr rfl | assumption) (hdb:(f == ("__debug__":Str))=false:=by decide)
  (hdc:(c == ("__debug__":Str))=false:=by decide) (h1:notStar e=true:=by rfl) (h2:es.all notStar=true:=by rfl) :
  PS X (.Try [.Assign [.Name x px] (.Call (.Name f np) (e :: es) [] cpos) apos] [.ExceptHandler (some (.Name c cp)) (some n) (b₀ :: suite) hpos] [] [] pos) (tTry X.K S sp i j t ts):=by
 obtain ⟨fa,fd,F,b,kp,mm⟩:=C.ex
 exact ps_try F (hr.mono hle) hg mm kp b ha hgS hmS kS hx hst hfr hN hi hxl hj hnl hsu hs hf hdb hdc (zbd h1) (zbw h2)
theorem DfnC.calE {P:Program} {w:World} {K:Frag} {mg:Z1} {base:Heap} {x:Str} {st:Stmt} {N ps:List Str} {k:Nat} {sp:Sp} {c Pt:Addr} (d:DfnC K mg x st ps c Pt) (S:FnScope N ps (defScope st)) (len:∀ vs H Q E,sp vs H Q E→vs.length=ps.length)
  (hbody:∀ (f:Addr) (A:Around) (outer:List Env) (s:Shared) (H:Hp) (vs:List V) (Q:VK) (E:XK),Room k (A.deeper (envOfC x (defScope st) s.heap.objs.size f (.ref c)))→sp vs H Q E→Rs (cxOf (CXE P w) P w K mg base N x (defScope st) f (.ref c) A outer s H E) E →
   ∃ t,PSs (cxOf (CXE P w) P w K mg base N x (defScope st) f (.ref c) A outer s H E) (defBody st) t∧t { nx:=fun _ H'=>Q .non H',rt:=Q } (start N vs) H):CalE P w K mg base (k + 1) x ps sp:=by
 obtain ⟨f,fd,F,b,m⟩:=d.ex
 obtain ⟨oc,od,kV,doc,pm,an,ct,osl,rfl,lk,hcd⟩:=F.ex
 exact ⟨f,_,zq5 lk hcd S len fun A outer s H vs Q E hr hsp=>hbody f A outer s H vs Q E hr hsp ⟨rfl,rfl,rfl,fun _ _ h=>h⟩,b,F.kp,m⟩
def tCallAE (X:Cx) (E:XK) (sp:Sp) (t:TA):TE:=fun σ H Q=>t σ H fun vs H1=>∀ Hq,Adopted X σ H1 Hq→sp vs Hq (fun v H2=>Q v (dropX X H2)) (fun c a H2=>E c a (dropX X H2))
theorem znh {X:Cx} {E:XK} {k:Nat} {f:Addr} {fd:FuncData} {ps:List Str} {sp:Sp} {x:Str} {p pos:Pos} {e:Expr} {es:List Expr} {t:TA} (R:Rs X E) (F:FnOk X.prog X.w X.K X.mg X.base (CXE X.prog X.w) k f fd ps sp) (hr:Room k X.A) (hg:Gl X x) (hm:X.mg x=some (.ref f)) (hk:PySem.W.keepIn X.K (.ref f)=true) (hb:Binds X.K fd ps [])
  (hfn:∀ x,X.fn x=true) (ha:PA X (e :: es) t) (hdb:(x == ("__debug__":Str))=false:=by decide) (he:starEach (e :: es) X.env=(false,eval e X.env) :: starEach es X.env:=by rfl) (hpl:(backTo pos (starEach es X.env)).any (·.1)=false:=by rfl) :
  PE X (.Call (.Name x p) (e :: es) [] pos) (tCallAE X E sp t):=by
 classical
 intro pins s σ H Q I h
 refine wpAny_Call_Name_kw (zdz I hg hm ?_ hdb)
 refine PySem.W.callWith_K (h₀:=X.base) I.ok.mod.kin hk (thn (ha pos pins s σ H _ I h) fun us s1 ⟨vs,H1,I1,r,q⟩=>⟨I1.kIn,?_⟩) he hpl
 let Hq:Hp:=fun b=>if CellOf X b then (s1.heap.get? b).map fun o=>.frz o (.own b) else H1 b
 have q1:∀ b,¬ CellOf X b→Hq b=H1 b:=fun b n=>if_neg n
 have q2:∀ x c,X.env.cells.lookup x=some c→∃ o v,s1.heap.get? c=some o∧o.data=.cell v∧Hq c=some (.frz o (.own c)):=fun x c e=>by
  obtain ⟨v,o,ho,hd⟩:=I1.cell x c e
  exact ⟨o,v,ho,hd,by show (if CellOf X c then _ else _)=_;rw [if_pos ⟨x,e⟩,ho];rfl⟩
 have tr:∀ b u,H1 b=some u→¬ CellOf X b:=fun b u e ⟨x,z⟩=>by rw [I1.freeC x b z] at e;cases e
 have ad:Adopted X σ H1 Hq:=⟨q1,fun b ⟨x,z⟩=>I1.freeC x b z,I1.ok.inj,fun x c e=>by
  obtain ⟨o,v,ho,hd,hq⟩:=q2 x c e
  refine ⟨o,v,hq,hd,fun i y e1 e2 e3=>?_⟩
  obtain ⟨m,hn,hl⟩:=I1.loc
  obtain ⟨u,ru,l⟩:=hl i x y e1 e2 (by rcases e3 with z | z;exact .inr (.inl z);exact .inr (.inr z))
  rcases l with ⟨z,_⟩ | ⟨_,c',hc',o',ho',hd'⟩
  ·rcases e3 with y' | y' <;> (rw [z] at y';cases y')
  ·rw [e] at hc';cases hc'
   rw [ho] at ho';cases ho'
   rw [hd] at hd';cases hd'
   exact ⟨u,ru,rfl⟩⟩
 have low:∀ b,CellOf X b→X.s₀.heap.objs.size ≤ b:=fun b ⟨x,e⟩=>I1.ok.cab x b (hfn x) e
 have nfr:∀ b ∈ frs X.stack,¬ CellOf X b:=fun b hb ⟨x,e⟩=>by
  rcases y0f.mp (I1.stkSub b hb) with z | z
  ·exact I1.cne x b e z
  ·obtain ⟨_,o,ho,_⟩:=I1.ok.funs.mem z
   exact absurd (y0h (y0g ho) (low b ⟨x,e⟩)) (y1a _)
 have up:∀ b u,H1 b=some u→Hq b=some u:=fun b u e=>by rw [q1 b (tr b u e)];exact e
 have hokq:HOk X.prog X.w Hq s1.heap:=fun b u e=>by
  by_cases hc:CellOf X b
  ·obtain ⟨x,ex⟩:=hc
   obtain ⟨o,v,ho,hd,hq⟩:=q2 x b ex
   rw [hq] at e;cases e
   exact ⟨ho,o,ho⟩
  ·rw [q1 b hc] at e
   exact (I1.hok b u e).stay (fun _ _ _ z=>z) (fun c z=>up c _ z) (fun c _ _ _ _ z=>up c _ z) fun c xs z=>up c _ z
 have e0:=I1.env0
 have e0q:Env0 X.prog X.w X.K X.mg X.base X.A X.stack s1 Hq:=⟨e0.frames,e0.mod,fun b o e=>⟨(e0.bs b o e).1,by
  rw [q1 b fun hc=>absurd (y0h (y0g e) (y13 I1.ok.bsz (low b hc))) (y1a _)];exact (e0.bs b o e).2⟩,e0.bsz,e0.funs,fun b hb=>by rw [q1 b (nfr b hb)];exact e0.frf b hb,hokq,e0.bare⟩
 have key:∀ (H2:Hp) (h':Heap),Un (frs X.stack) [] Hq H2 s1.heap h'→HOk X.prog X.w H2 h'→Un (frs X.stack) [] H1 (dropX X H2) s1.heap h'∧HOk X.prog X.w (dropX X H2) h':=by
  intro H2 h' un hok2
  have c2:∀ x c,X.env.cells.lookup x=some c→∃ o,s1.heap.get? c=some o∧H2 c=some (.frz o (.own c))∧h'.get? c=some o:=fun x c e=>by
   obtain ⟨o,v,ho,hd,hq⟩:=q2 x c e
   have z:=un.frzs c o _ hq
   exact ⟨o,ho,z,(hok2 c _ z).1⟩
  have d1:∀ b,¬ CellOf X b→dropX X H2 b=H2 b:=fun b n=>if_neg n
  have nmC:∀ b o u q,CodeObj o q→H2 b=some (.frz o u)→¬ CellOf X b:=fun b o u q ⟨vs,t,hv,_⟩ e ⟨x,z⟩=>by
   obtain ⟨o',ho',z2,_⟩:=c2 x b z
   rw [z2] at e;cases e
   obtain ⟨v,o3,ho,hd⟩:=I1.cell x b z
   rw [ho'] at ho;cases ho
   rw [hv] at hd;cases hd
  have nm:∀ b u,H2 b=some u→(∀ o a,u ≠ .frz o a)→¬ CellOf X b:=fun b u e n ⟨x,z⟩=>by
   obtain ⟨o,_,z2,_⟩:=c2 x b z
   rw [z2] at e;cases e
   exact n _ _ rfl
  refine ⟨⟨fun b o e n hf hx=>?_,fun b o e n hf hx=>?_,fun b o e n hx=>?_,fun b o e hx=>?_,fun b xs e=>?_,fun b o a e=>?_,fun b qs ps e=>?_⟩,fun b u e=>?_⟩
  ·by_cases hc:CellOf X b
   ·obtain ⟨x,ex⟩:=hc
    obtain ⟨o',ho',_,z⟩:=c2 x b ex
    rw [e] at ho';cases ho'
    exact z
   ·exact un.keep b o e (by rw [q1 b hc];exact n) hf hx
  ·exact un.slot b o e (by rw [q1 b (nfr b hf)];exact n) hf hx
  ·by_cases hc:CellOf X b
   ·exact if_pos hc
   ·rw [d1 b hc];exact un.free b o e (by rw [q1 b hc];exact n) hx
  ·exact un.there b o e hx
  ·rw [d1 b (tr b _ e)];exact un.tups b xs (up b _ e)
  ·rw [d1 b (tr b _ e)];exact un.frzs b o a (up b _ e)
  ·rw [d1 b (tr b _ e)];exact un.tbls b qs ps (up b _ e)
  ·have hc:¬ CellOf X b:=fun hc=>by
    have:dropX X H2 b=none:=if_pos hc
    rw [this] at e;cases e
   rw [d1 b hc] at e
   exact (hok2 b u e).stay (fun _ _ _ z=>z) (fun c z=>by rw [d1 c (nm c _ z fun _ _ y=>nomatch y)];exact z) (fun c o a q co z=>by rw [d1 c (nmC c o a q co z)];exact z) fun c xs z=>by rw [d1 c (nm c _ z fun _ _ y=>nomatch y)];exact z
 have hl:us.length=ps.length:=by rw [← r.length];exact F.len _ _ _ _ (q Hq ad)
 refine wpAny_call (codeAny_mono (F.run X.A X.stack s1 Hq ⟨us,[]⟩ us vs _ _ hr e0q (by have:=hb s1 us I1.kIn (by rw [y0s];exact hl);rw [y0s] at this;exact this) r (q Hq ad)) fun r s' hq=>?_)
 cases r with
 | error e =>
  obtain ⟨a,cls,H2,rfl,os,bare,un,hok2,⟨oe,vs',T,oT,ts,t1,t2,t3,t4,t6,t7,t8,t9,n1,n2,h1,h2⟩,ee⟩:=hq
  obtain ⟨un',hok'⟩:=key H2 s'.heap un hok2
  have dn:∀ b,H2 b=none→dropX X H2 b=none:=fun b z=>by unfold dropX;split;rfl;exact z
  exact R.xe _ _ (zlv (E':=E) I1 R.ex R.st R.fr ⟨a,cls,dropX X H2,rfl,os,bare,un',hok',⟨oe,vs',T,oT,ts,t1,t2,t3,t4,t6,t7,t8,t9,n1,n2,dn _ h1,dn _ h2⟩,ee⟩ fun _ _ _ z=>z)
 | ok fl =>
  cases fl with
  | next=>exact False.elim hq
  | brk=>exact False.elim hq
  | cont=>exact False.elim hq
  | ret u =>
   obtain ⟨v,H2,os,bare,un,hok2,rv,qq⟩:=hq
   obtain ⟨un',hok'⟩:=key H2 s'.heap un hok2
   exact I1.after ⟨v,dropX X H2,os,bare,un',hok',rv,qq⟩
theorem zlz {X:Cx} {H:Hp} {b:Addr} (h:H b=none):dropX X H b=none:=by
 unfold dropX
 split
 ·rfl
 ·exact h
theorem zlj {X:Cx} {E:XK} {n k:Nat} {x:Str} {ps:List Str} {sp:Sp} {p pos:Pos} {e:Expr} {es:List Expr} {t:TA} (R:Rs X E) (C:CalE X.prog X.w X.K X.mg X.base n x ps sp) (hr:Room k X.A) (hle:n ≤ k) (hg:Gl X x) (hfn:∀ x,X.fn x=true) (ha:PA X (e :: es) t) (hdb:(x == ("__debug__":Str))=false:=by decide)
  (h1:notStar e=true:=by rfl) (h2:es.all notStar=true:=by rfl):PE X (.Call (.Name x p) (e :: es) [] pos) (tCallAE X E sp t):=by
 obtain ⟨f,fd,F,b,kp,m⟩:=C.ex
 exact znh R F (hr.mono hle) hg m kp b hfn ha hdb (zbd h1) (zbw h2)
end L2
namespace SM
open PySem PySem.Spec PyProof.Rows L2 SS
def zgg (R:Hp→Prop) (T:TTh) (G:List Nat→Prop):Sp:=fun vs H Q _=>∃ (a b:Addr) (s t:List Nat),vs=[.ref a,.ref b]∧R H∧H a=some (.tup (s.map nV))∧H b=some (.tup (t.map nV))∧G s∧G t ∧
 ∀ D rs H',H D=none→Same H H'→H' D=some (.lst rs)→Paired (Line H') rs (T.com s t)→Q (.ref D) H'
def zgf (R:Hp→Prop) (T:TTh) (G:List Nat→Prop):Sp:=fun vs H Q _=>∃ (a:Addr) (t:List Nat),vs=[.ref a]∧R H∧H a=some (.tup (t.map nV))∧G t∧∀ H',Same H H'→Q (.bl (T.fin t)) H'
structure TSt (M:Tm) (ns:List Nat) (k:Nat) (F:Nat→Nat):Prop where
 len:ns.length=M.n
 lt:∀ i,i < M.n→ix ns i < k
 first:∀ s,s < k→F s < M.n∧ix ns (F s)=s∧∀ j,j < F s→ix ns j < s
 fin:∀ i j,i < M.n→j < M.n→ix ns i=ix ns j→M.fin i=M.fin j
 stab:∀ i j x l,i < M.n→j < M.n→x < M.n→l < 2 ^ M.w→ix ns i=ix ns j→ix ns (M.go l i x)=ix ns (M.go l j x)∧ix ns (M.go l x i)=ix ns (M.go l x j)
 coarse:∀ E:Nat→Nat→Prop,Cong M E→∀ i j,i < M.n→j < M.n→E i j→ix ns i=ix ns j
def quo (M:Tm) (ns:List Nat) (k:Nat) (F:Nat→Nat):Tm:=mkT M.w k (fun l a b=>ix ns (M.go l (F a) (F b))) fun a=>M.fin (F a)
theorem zor (m:Tm) {k:Nat} (h:∃ x ∈ m.evl k,k ≤ x):∃ a b l,a < k∧b < k∧l < 2 ^ m.w∧k ≤ m.go l a b∧∀ a' b' l',a' < k→b' < k→l' < 2 ^ m.w→Lt4 (a',b',l') (a,b,l)→m.go l' a' b' < k:=by
 obtain ⟨A,r,B,eA,hA,hr⟩:=zdb h
 rw [zkx] at eA
 obtain ⟨EA,ER,e1,e2,e3⟩:=y4d.mp eA
 obtain ⟨e,EB,e4,e5,e6⟩:=List.map_eq_cons_iff.mp e3
 have hs:=zfe (2 ^ m.w) k
 rw [e1,e4,y1p] at hs
 have me:e ∈ evts (2 ^ m.w) k:=by rw [e1,e4];simp
 have h1:=evts_mem.mp me
 refine ⟨e.1,e.2.1,e.2.2,h1.1,h1.2.1,h1.2.2,by rw [e5];exact hr,fun a' b' l' ha hb hl lt=>?_⟩
 have me':(a',b',l') ∈ evts (2 ^ m.w) k:=evts_mem.mpr ⟨ha,hb,hl⟩
 rw [e1,e4] at me'
 rcases y0i.mp me' with z | z
 ·exact hA _ (by rw [← e2];exact y09.mpr ⟨_,z,rfl⟩)
 ·rcases y0f.mp z with z | z
  ·rw [z] at lt
   exact (Lt4.asym lt lt).elim
  ·have:=(y2l.mp hs.2.1).1 _ z
   exact (Lt4.asym lt this).elim
section
variable {M:Tm} {ns:List Nat} {k:Nat} {F:Nat→Nat}
theorem ziy:(quo M ns k F).n=k:=mkT_n
theorem zmw {l a b:Nat} (hl:l < 2 ^ M.w) (ha:a < k) (hb:b < k):(quo M ns k F).go l a b=ix ns (M.go l (F a) (F b)):=zrw (w:=M.w) (go:=fun l a b=>ix ns (M.go l (F a) (F b))) (fin:=fun a=>M.fin (F a)) hl ha hb
theorem ziz {a:Nat} (ha:a < k):(quo M ns k F).fin a=M.fin (F a):=zn1 (w:=M.w) (go:=fun l a b=>ix ns (M.go l (F a) (F b))) (fin:=fun a=>M.fin (F a)) ha
theorem zc9 (ok:M.Ok) (S:TSt M ns k F) {l i j:Nat} (hl:l < 2 ^ M.w) (hi:i < M.n) (hj:j < M.n):(quo M ns k F).go l (ix ns i) (ix ns j)=ix ns (M.go l i j):=by
 have ki:=S.lt i hi
 have kj:=S.lt j hj
 obtain ⟨f1,f2,_⟩:=S.first _ ki
 obtain ⟨f3,f4,_⟩:=S.first _ kj
 rw [zmw hl ki kj,(S.stab _ i _ l f1 hi f3 hl f2).1,(S.stab _ j i l f3 hj hi hl f4).2]
theorem quo_ok (ok:M.Ok) (S:TSt M ns k F) (k0:0 < k) (k30:k ≤ 30):(quo M ns k F).Ok :=
 zrv ok.wid k0 k30 fun l a b hl ha hb=>S.lt _ (ok.go_lt hl (S.first a ha).1 (S.first b hb).1)
theorem TSt.zero (S:TSt M ns k F) (k0:0 < k):F 0=0∧ix ns 0=0:=by
 obtain ⟨h1,h2,h3⟩:=S.first 0 k0
 have:F 0=0:=by
  rcases Nat.eq_zero_or_pos (F 0) with z | z
  ·exact z
  ·have:=h3 0 z;omega
 exact ⟨this,by rw [this] at h2;exact h2⟩
theorem zmy (ok:M.Ok) (S:TSt M ns k F) (k0:0 < k):Bis M (quo M ns k F) fun i a=>i < M.n∧a=ix ns i:=by
 refine ⟨rfl,⟨ok.pos,(S.zero k0).2.symm⟩,?_,?_,?_⟩
 ·rintro a b c d l ⟨h1,rfl⟩ ⟨h2,rfl⟩ hl
  exact ⟨ok.go_lt hl h1 h2,zc9 ok S hl h1 h2⟩
 ·rintro a b ⟨h1,rfl⟩
  have ki:=S.lt a h1
  obtain ⟨f1,f2,_⟩:=S.first _ ki
  rw [ziz ki]
  exact S.fin a _ h1 f1 f2.symm
 ·rintro a b ⟨h1,rfl⟩
  exact ⟨h1,by rw [ziy];exact S.lt a h1⟩
theorem zmv (ok:M.Ok) (S:TSt M ns k F) (k0:0 < k) (rc:∀ x,x < M.n→Reach M x):∀ a,a < (quo M ns k F).n→Reach (quo M ns k F) a:=fun a ha=>by
 rw [ziy] at ha
 obtain ⟨f1,f2,_⟩:=S.first a ha
 have key:∀ {i:Nat},Reach M i→i < M.n∧Reach (quo M ns k F) (ix ns i):=fun {i} z=>by
  induction z with
  | zero=>exact ⟨ok.pos,by rw [(S.zero k0).2];exact .zero⟩
  | @go l a b hl _ _ ih1 ih2 =>
   refine ⟨ok.go_lt hl ih1.1 ih2.1,?_⟩
   rw [← zc9 ok S hl ih1.1 ih2.1]
   exact .go hl ih1.2 ih2.2
 have:=(key (rc _ f1)).2
 rw [f2] at this;exact this
theorem zst (ok:M.Ok) (S:TSt M ns k F):Min (quo M ns k F):=fun E c a b ha hb hE=>by
 rw [ziy] at ha hb
 obtain ⟨f1,f2,_⟩:=S.first a ha
 obtain ⟨f3,f4,_⟩:=S.first b hb
 have:=S.coarse (fun i j=>i < M.n∧j < M.n∧E (ix ns i) (ix ns j)) ⟨?_,?_⟩ (F a) (F b) f1 f3 ⟨f1,f3,by rw [f2,f4];exact hE⟩
 ·rw [f2,f4] at this;exact this
 ·rintro i j ⟨hi,hj,e⟩
  have h:=c.fin _ _ e
  rw [ziz (S.lt i hi),ziz (S.lt j hj)] at h
  obtain ⟨g1,g2,_⟩:=S.first _ (S.lt i hi)
  obtain ⟨g3,g4,_⟩:=S.first _ (S.lt j hj)
  rw [S.fin i _ hi g1 g2.symm,S.fin j _ hj g3 g4.symm]
  exact h
 ·rintro i j l x ⟨hi,hj,e⟩ hl hx
  have h:=c.go _ _ l (ix ns x) e hl (by rw [ziy];exact S.lt x hx)
  rw [zc9 ok S hl hi hx,zc9 ok S hl hj hx,zc9 ok S hl hx hi,zc9 ok S hl hx hj] at h
  exact ⟨⟨ok.go_lt hl hi hx,ok.go_lt hl hj hx,h.1⟩,⟨ok.go_lt hl hx hi,ok.go_lt hl hx hj,h.2⟩⟩
theorem TSt.mono (S:TSt M ns k F) {s t:Nat} (hs:s < k) (ht:t < k) (h:s < t):F s < F t:=by
 obtain ⟨f1,f2,f3⟩:=S.first s hs
 obtain ⟨g1,g2,g3⟩:=S.first t ht
 rcases y1t (F s) (F t) with z | z | z
 ·exact z
 ·rw [z,g2] at f2;omega
 ·have:=f3 _ z;omega
theorem TSt.le (S:TSt M ns k F) {i:Nat} (hi:i < M.n):F (ix ns i) ≤ i:=by
 obtain ⟨f1,f2,f3⟩:=S.first _ (S.lt i hi)
 rcases Nat.lt_or_ge i (F (ix ns i)) with z | z
 ·have:=f3 i z;omega
 ·exact z
theorem zss (ok:M.Ok) (S:TSt M ns k F) (k0:0 < k) (o:TOrd2 M):TOrd2 (quo M ns k F):=fun s s0 hs=>by
 rw [ziy] at hs
 obtain ⟨f1,f2,f3⟩:=S.first s hs
 have fpos:0 < F s:=by
  rcases Nat.eq_zero_or_pos (F s) with z | z
  ·rw [z,(S.zero k0).2] at f2;omega
  ·exact z
 obtain ⟨a,b,l,ha,hb,hl,ev,fst⟩:=o (F s) fpos f1
 have hA:=f3 a ha
 have hB:=f3 b hb
 have han:a < M.n:=by omega
 have hbn:b < M.n:=by omega
 have qv:(quo M ns k F).go l (ix ns a) (ix ns b)=s:=by rw [zc9 ok S hl han hbn,ev,f2]
 obtain ⟨a',b',l',ha',hb',hl',hv,fst'⟩:=zor (quo M ns k F) (k:=s) ⟨s,Tm.evl_mem.mpr ⟨_,_,l,hA,hB,hl,qv⟩,y05 _⟩
 have hl'':l' < 2 ^ M.w:=hl'
 have ka:a' < k:=by omega
 have kb:b' < k:=by omega
 refine ⟨a',b',l',ha',hb',hl',?_,fst'⟩
 have Fa:=S.mono ka hs ha'
 have Fb:=S.mono kb hs hb'
 rw [zmw hl'' ka kb] at hv ⊢
 have hy:¬ M.go l' (F a') (F b') < F s:=fun z=>by have:=f3 _ z;omega
 rcases Lt4.tri (a,b,l) (F a',F b',l') with z | z | z
 ·-- the image of the first of M comes no later
  have nl:¬ Lt4 (ix ns a,ix ns b,l) (a',b',l'):=fun lt=>by
   have:=fst' _ _ _ hA hB hl lt
   omega
  rcases Lt4.tri (ix ns a,ix ns b,l) (a',b',l') with y | y | y
  ·exact absurd y nl
  ·rw [Prod.mk.injEq,Prod.mk.injEq] at y
   rw [← y.1,← y.2.1,← y.2.2,← zmw hl (S.lt a han) (S.lt b hbn)]
   exact qv
  ·exfalso
   have l1:=S.le han
   have l2:=S.le hbn
   have kA:=S.lt a han
   have kB:=S.lt b hbn
   have y2:=Lt4.up (F:=F) (fun u v hu hv h=>S.mono hu hv h) ka kb kA kB y
   rcases Lt4.low (l:=l) l1 l2 with e | e
   ·rw [e] at y2
    exact y2.asym z
   ·exact (y2.trans e).asym z
 ·rw [Prod.mk.injEq,Prod.mk.injEq] at z
  rw [← z.1,← z.2.1,← z.2.2,ev,f2]
 ·exact absurd (fst _ _ _ Fa Fb hl'' z) hy
theorem zmx (ok:M.Ok) (S:TSt M ns k F) (k0:0 < k) (k30:k ≤ 30) (o:TOrd2 M) (rc:∀ x,x < M.n→Reach M x):TCan2 (quo M ns k F):=⟨quo_ok ok S k0 k30,zss ok S k0 o,zmv ok S k0 rc,zst ok S⟩
end
structure TRed (m m':Tm):Prop where
 can:TCan2 m'
 bis:∃ R,Bis m m' R
 le:m'.n ≤ m.n
theorem zsh {x:Tm} {fs ns:List Nat} {k:Nat} {F:Nat→Nat} (ok:x.Ok) (f:TFnd x fs (alls fs.length)) (S:TSt (xpl x fs) ns k F) (k0:0 < k) (hk:k ≤ fs.length):TRed x (quo (xpl x fs) ns k F):=by
 have h1:fs.length ≤ x.n:=zb4 f.nd f.rm
 have h2:x.n ≤ 30:=ok.few
 exact ⟨zmx (zl8 ok f) S k0 (by omega) (zsa f) (zg9 f),⟨_,(zsc f).trans (zmy (zl8 ok f) S k0)⟩,by rw [ziy];omega⟩
structure TSorts (M:Tm) (ns:List Nat):Prop where
 srt:Srt ns
 len:ns.length=M.n
 fin:∀ i j,i < M.n→j < M.n→ix ns i=ix ns j→M.fin i=M.fin j
 coarse:∀ E:Nat→Nat→Prop,Cong M E→∀ i j,i < M.n→j < M.n→E i j→ix ns i=ix ns j
def tmark (M:Tm) (ns:List Nat) (i:Nat):List Nat:=ix ns i :: M.ways.flatMap fun t=>(t.getD i []).map (ix ns) ++ t.map fun r=>ix ns (r.getD i 0)
theorem zjf {α:Type} {f g:α→List Nat}:∀ {ts:List α},(∀ t ∈ ts,(f t).length=(g t).length)→(ts.flatMap f=ts.flatMap g ↔ ∀ t ∈ ts,f t=g t)
 | [],_=>by simp
 | t :: ts,h=>by
  rw [y1o,y1o,List.append_inj_left_iff_of h]
 where
  List.append_inj_left_iff_of {t:α} {ts:List α} (h:∀ x ∈ t :: ts,(f x).length=(g x).length):(f t ++ ts.flatMap f=g t ++ ts.flatMap g)=(∀ x ∈ t :: ts,f x=g x):=by
   refine propext ⟨fun e x hx=>?_,fun e=>?_⟩
   ·obtain ⟨h1,h2⟩:=List.append_inj e (h t y0d)
    rcases y0f.mp hx with rfl | z
    ·exact h1
    ·exact (zjf fun y hy=>h y (y08 _ hy)).mp h2 x z
   ·rw [e t y0d,(zjf fun y hy=>h y (y08 _ hy)).mpr fun y hy=>e y (y08 _ hy)]
section
variable {M:Tm} {ns fs:List Nat}
theorem tab_at (ok:M.Ok) {t:List (List Nat)} (ht:t ∈ M.ways):∃ l,l < 2 ^ M.w∧M.ways[l]?=some t:=by
 obtain ⟨l,hl,e⟩:=y1g ht
 exact ⟨l,by rw [← ok.len];exact hl,by rw [y01 hl,e]⟩
theorem zem (ok:M.Ok) {t:List (List Nat)} {l:Nat} (e:M.ways[l]?=some t) {i x:Nat} (hl:l < 2 ^ M.w) (hi:i < M.n) (hx:x < M.n):(t.getD i [])[x]?=some (M.go l i x)∧t[x]?.map (fun r=>r.getD i 0)=some (M.go l x i):=by
 obtain ⟨t1,r1,a1,a2,a3,_⟩:=ok.at hl hi hx
 obtain ⟨t2,r2,b1,b2,b3,_⟩:=ok.at hl hx hi
 rw [e] at a1 b1
 cases a1;cases b1
 refine ⟨by rw [y03,a2];exact a3,?_⟩
 rw [b2]
 show some (r2.getD i 0)=_
 rw [y03,b3];rfl
theorem zpm (ok:M.Ok) {i j:Nat} (hi:i < M.n) (hj:j < M.n):tmark M ns i=tmark M ns j ↔ ix ns i=ix ns j∧∀ l x,l < 2 ^ M.w→x < M.n→ix ns (M.go l i x)=ix ns (M.go l j x)∧ix ns (M.go l x i)=ix ns (M.go l x j):=by
 have ln:∀ t ∈ M.ways,∀ k,k < M.n→(t.getD k []).length=M.n:=fun t ht k hk=>by
  have h1:k < t.length:=by rw [ok.tab t ht];exact hk
  rw [y03,y01 h1]
  exact ok.line t ht _ (y0q h1)
 unfold tmark
 rw [List.cons.injEq]
 refine and_congr_right fun _=>?_
 rw [zjf fun t ht=>by rw [y0c,y0c,y00,y00,y00,y00,ln t ht i hi,ln t ht j hj]]
 constructor
 ·intro h l x hl hx
  have hl':l < M.ways.length:=by rw [ok.len];exact hl
  have e:=y01 hl'
  have ht:=y0q hl'
  obtain ⟨h1,h2⟩:=List.append_inj (h _ ht) (by rw [y00,y00,ln _ ht i hi,ln _ ht j hj])
  obtain ⟨p1,p2⟩:=zem ok e hl hi hx
  obtain ⟨q1,q2⟩:=zem ok e hl hj hx
  constructor
  ·have z:=congrArg (fun q=>q[x]?) h1
   simp only [y02] at z
   rw [p1,q1] at z
   exact Option.some.inj z
  ·have z:=congrArg (fun q=>q[x]?) h2
   simp only [y02] at z
   have hx':x < M.ways[l].length:=by rw [ok.tab _ ht];exact hx
   rw [y01 hx'] at z p2 q2
   have p3:=Option.some.inj p2
   have q3:=Option.some.inj q2
   have z':=Option.some.inj z
   rw [← p3,← q3];exact z'
 ·intro h t ht
  obtain ⟨l,hl,e⟩:=tab_at ok ht
  congr 1
  ·refine y16 fun x=>?_
   rw [y02,y02]
   by_cases hx:x < M.n
   ·rw [(zem ok e hl hi hx).1,(zem ok e hl hj hx).1]
    show some _=some _
    rw [(h l x hl hx).1]
   ·rw [y0e (by rw [ln t ht i hi];omega),y0e (by rw [ln t ht j hj];omega)]
  ·refine y16 fun x=>?_
   rw [y02,y02]
   by_cases hx:x < M.n
   ·have hx':x < t.length:=by rw [ok.tab t ht];exact hx
    have p2:=(zem ok e hl hi hx).2
    have q2:=(zem ok e hl hj hx).2
    rw [y01 hx'] at p2 q2 ⊢
    have p3:t[x].getD i 0=M.go l x i:=Option.some.inj p2
    have q3:t[x].getD j 0=M.go l x j:=Option.some.inj q2
    show some (ix ns (t[x].getD i 0))=some (ix ns (t[x].getD j 0))
    rw [p3,q3,(h l x hl hx).2]
   ·have hlt:t.length=M.n:=ok.tab t ht
    rw [y0e (show t.length ≤ x by omega)]
    rfl
theorem zhe (N:Num M.ends ns):TSorts M ns :=
 ⟨N.srt,N.len,fun i j hi hj e=>(N.eq i j _ _ (Tm.fin_at hi) (Tm.fin_at hj)).mp e,fun E c i j hi hj e=>(N.eq i j _ _ (Tm.fin_at hi) (Tm.fin_at hj)).mpr (c.fin i j e)⟩
def TNx (M:Tm) (ns fs:List Nat):Prop:=Num ((List.range M.n).map (tmark M ns)) fs
theorem zek (ok:M.Ok) (S:TSorts M ns) (N:TNx M ns fs):TSorts M fs∧(∀ i j,i < ns.length→j < ns.length→ix fs i=ix fs j→ix ns i=ix ns j) ∧
  (fs=ns→∀ i j x l,i < M.n→j < M.n→x < M.n→l < 2 ^ M.w→ix ns i=ix ns j→ix ns (M.go l i x)=ix ns (M.go l j x)∧ix ns (M.go l x i)=ix ns (M.go l x j)):=by
 have at':∀ {i:Nat},i < M.n→((List.range M.n).map (tmark M ns))[i]?=some (tmark M ns i):=fun h=>by rw [y02,y0j h];rfl
 have eq:∀ {i j:Nat},i < M.n→j < M.n→(ix fs i=ix fs j ↔ ix ns i=ix ns j∧∀ l x,l < 2 ^ M.w→x < M.n→ix ns (M.go l i x)=ix ns (M.go l j x)∧ix ns (M.go l x i)=ix ns (M.go l x j)):=fun hi hj=>(N.eq _ _ _ _ (at' hi) (at' hj)).trans (zpm ok hi hj)
 refine ⟨⟨N.srt,by rw [N.len];simp,fun i j hi hj e=>S.fin i j hi hj ((eq hi hj).mp e).1,fun E c i j hi hj e=>(eq hi hj).mpr ⟨S.coarse E c i j hi hj e,fun l x hl hx=>?_⟩⟩,fun i j hi hj e=>?_,fun e i j x l hi hj hx hl h=>?_⟩
 ·have z:=c.go i j l x e hl hx
  exact ⟨S.coarse E c _ _ (ok.go_lt hl hi hx) (ok.go_lt hl hj hx) z.1,S.coarse E c _ _ (ok.go_lt hl hx hi) (ok.go_lt hl hx hj) z.2⟩
 ·rw [S.len] at hi hj
  exact ((eq hi hj).mp e).1
 ·subst e
  exact ((eq hi hj).mp h).2 l x hl hx
theorem ziq (S:TSorts M ns) (S':TSorts M fs) (ref:∀ i j,i < ns.length→j < ns.length→ix fs i=ix fs j→ix ns i=ix ns j) (ne:fs ≠ ns):ns.sum < fs.sum∧fs.sum ≤ M.n * M.n:=by
 have hl:ns.length=fs.length:=by rw [S.len,S'.len]
 obtain ⟨h1,h2⟩:=zrk hl fun i hi=>zrl S.srt S'.srt hl ref _ i hi rfl
 refine ⟨Nat.lt_of_le_of_ne h1 fun e=>ne (h2 e).symm,?_⟩
 have h3:=zhg (s:=fs) (n:=M.n) fun x hx=>by
  obtain ⟨i,hi,rfl⟩:=zth hx
  have:=S'.srt.le i hi
  have:=S'.len
  omega
 rw [S'.len] at h3
 exact h3
theorem tst_of (ok:M.Ok) (S:TSorts M ns) (N:TNx M ns ns) {Mx:Nat} (hM:Mx ∈ ns) (hle:∀ a ∈ ns,a ≤ Mx):TSt M ns (Mx + 1) fun s=>ns.idxOf s:=by
 obtain ⟨F,mem⟩:=zh7 S.srt hM hle
 have hfl:((List.range (Mx + 1)).map fun s=>ns.idxOf s).length=Mx + 1:=by rw [y00,y0t]
 have hix:∀ s,s < Mx + 1→ix ((List.range (Mx + 1)).map fun s=>ns.idxOf s) s=ns.idxOf s:=fun s hs=>zgq (by rw [y02,y0j hs];rfl)
 refine ⟨S.len,fun i hi=>?_,fun s hs=>?_,S.fin,(zek ok S N).2.2 rfl,S.coarse⟩
 ·have:=hle _ (zca (by rw [S.len];exact hi));omega
 ·obtain ⟨h1,h2⟩:=zf5 (mem s (by omega))
  refine ⟨by rw [← S.len];exact h1,h2,fun j hj=>?_⟩
  have hj':j < ns.length:=by omega
  rcases y1t (ix ns j) s with z | z | z
  ·exact z
  ·have:=F.le s j (by omega) hj' z
   rw [hix s hs] at this
   omega
  ·obtain ⟨j2,hj2,e2⟩:=S.srt.grow j hj' s z
   have:=F.le s j2 (by omega) (by omega) e2
   rw [hix s hs] at this
   omega
end
end SM
namespace L2
theorem zgb:typeLookup (.type "tuple") (dunderI "add")=pure none:=by rw [show (dunderI "add":Str)="__iadd__" from rfl,typeLookup_type,builtinLookup_eq_fast];kernel_rfl
section
variable {prog:Program} {w:World} {A:Around} {E:Z0} {s:Shared}
theorem zgr {T id:String} {B:Builtin} {a b:Value} {S:PySem.Spec} {Q:Z0} (ha:s.TypeIs a T) (hb:s.TypeIs b T) (hno:typeLookup (.type T) (dunderI "add")=pure none)
  (hfill:fillsNumberSlot (.type T) "add"=pure false) (hseq:seqSlot? (.type T) "__add__"=pure (some (.builtin id))) (slot:Slot T "__add__" id)
  (entry:entryFor table id=some B) (args:argsOk id ⟨[a,b],[]⟩) (g:Meets (B ⟨[a,b],[]⟩) S) (h:S A (wants Q E) s):wpAny (model prog w) A (inplaceOp .Add a b) Q E s :=
 wpAny_inplaceOp_concat ha hb hno hfill hseq (call_meets slot ha entry args g h)
theorem zqy {t b:Addr} {vs ws:List Value} {Q:Z0} (ht:IsTup s.heap t vs.toArray) (hb:IsTup s.heap b ws.toArray) (hv:vs ≠ []) (hw:ws ≠ [])
  (h2:Q (.ref s.heap.objs.size) { s with heap:=s.heap.push { cls:=.type "tuple",data:=.seq (vs ++ ws).toArray } })
  (hsz:vs.length + ws.length ≤ sizeLine):wpAny (model prog w) A (inplaceOp .Add (.ref t) (.ref b)) Q E s:=by
 obtain ⟨⟨cls,dd,data,sl⟩,ho,hc,n,hd⟩:=id ht
 obtain ⟨⟨cls2,dd2,data2,sl2⟩,ho2,hc2,n2,hd2⟩:=id hb
 simp only at hc hd hc2 hd2
 subst hc hd hc2 hd2
 have e:vs.toArray ++ ws.toArray=(vs ++ ws).toArray:=by simp
 refine zgr ⟨_,ho,rfl⟩ ⟨_,ho2,rfl⟩ zgb noFill_tuple_add seq_tuple_add PySem.F.slot_tuple_add PySem.F.entry_tuple_add (PySem.F.args_tuple_add_2 _ _)
  (tuple_addW2 t b vs.toArray ws.toArray n n2 dd dd2 sl sl2 (by simpa using hv) (by simpa using hw) (by rw [y06,y06];exact hsz)) ⟨ho,ho2,?_⟩
 rw [e]
 exact h2
end
def ipCatT (K:Frag):TIp:=fun x y H Q=>∃ a b xs ys,x=.ref a∧y=.ref b∧SqT K H a xs∧SqT K H b ys∧xs ≠ []∧ys ≠ []∧xs.length + ys.length ≤ sizeLine∧∀ p H',New H p (.tup (xs ++ ys)) H'→Q (.ref p) H'
theorem ztj {X:Cx}:PIp X .Add (ipCatT X.K):=by
 intro pins s σ H x y v u Q I rx ry h
 obtain ⟨a,b,xs,ys,rfl,rfl,ha,hb,hx,hy,hz,q⟩:=h
 cases rx
 cases ry
 obtain ⟨its,r1,p1,_⟩:=I.tuple ha
 obtain ⟨its2,r2,p2,_⟩:=I.tuple hb
 refine zqy p1 p2 (fun z=>hx (r1.nil_iff.mp z)) (fun z=>hy (r2.nil_iff.mp z)) ?_ (by rw [← r1.length,← r2.length];exact hz)
 refine ⟨.ref s.heap.objs.size,_,I.laid (t':=s.toks) (o:=.tup (xs ++ ys)) (fun b ob q=>y0b _ q) (y05 _) ?_,rfl,q _ _ (.mk' (I.hok.fresh (y05 _)) _)⟩
 exact ⟨by rw [y0c];exact hz,_,r1.append r2,IsTup.new _ _⟩
theorem zqw {X:Cx} (K:Frag) (h:X.K=K:=by rfl):PIp X .Add (ipCatT K):=h ▸ ztj
end L2
namespace SM
open PySem PySem.Spec PyProof.Rows L2 SS
def RenQ (l:List Nat) (g:Nat→V) (H:Hp) (Q:VK):Prop:=∀ p H',Same H H'→H' p=some (.tup (l.map g))→Q (.ref p) H'
def zpq:Sp:=fun vs H Q _=>∃ (a b:Addr) (l:List Nat) (ns:List V) (g:Nat→V),vs=[.ref a,.ref b]∧H a=some (.tup (l.map nV))∧l.length ≤ 100∧H b=some (.lst ns)∧(∀ r ∈ l,ns[r]?=some (g r))∧RenQ l g H Q
def zpr:Sp:=fun vs H Q _=>∃ (a b:Addr) (l:List Nat) (ns:List V) (g:Nat→V),vs=[.ref a,.ref b]∧H a=some (.lst (l.map nV))∧l.length ≤ 100∧H b=some (.tup ns)∧(∀ r ∈ l,ns[r]?=some (g r))∧RenQ l g H Q
def zps:Sp:=fun vs H Q _=>∃ (a b:Addr) (l:List Nat) (kvs:List (Key × V)) (g:Nat→V),vs=[.ref a,.ref b]∧H a=some (.lst (l.map nV))∧l.length ≤ 100∧H b=some (.dK kvs)∧(∀ r ∈ l,valV kvs (.inl (r:Int))=some (g r))∧RenQ l g H Q
def zer (P:Program) (w:World) (K:Frag) (mg:Z1) (base:Heap):Sp:=fun vs H Q _=>∃ (e f:Addr) (fd:FuncData) (bs:List Bool) (R:Hp→Prop) (J:List Nat→Prop) (Nx:List Nat→List Nat→Prop) (mu:List Nat→Nat),
 vs=[.ref e,.ref f]∧H e=some (.tup (bs.map V.bl))∧bs.length ≤ 100∧H f=some (fnO fd f)∧CloH P w K mg base 4 H f 1 (zge R J Nx)∧R H∧(∀ H1 H2,Same H1 H2→R H1→R H2)∧(∀ ns,Num bs ns→J ns) ∧
 (∀ ns,J ns→ns.length ≤ 100)∧(∀ ns fs,J ns→Nx ns fs→J fs∧(fs ≠ ns→mu fs < mu ns))∧∀ D ns H',Same H H'→H' D=some (.lst (ns.map nV))→J ns→Nx ns ns→Q (.ref D) H'
def zdg:Sp:=fun vs H Q E=>zpq vs H Q E∨zpr vs H Q E∨zps vs H Q E
def zep (Pt:Addr) (qs:Z3):Sp:=fun vs H Q _=>∃ (a:Addr) (m:Tm),vs=[.ref a]∧TabOk H Pt qs∧RepT H a m∧m.Ok∧∀ p ns k H',Same H H'→RepT H' p (quo m ns k fun s=>ns.idxOf s)→TSt m ns k (fun s=>ns.idxOf s)→0 < k→k ≤ m.n→Q (.ref p) H'
theorem zgt {α:Type} {f:α→List Nat} {c:Nat}:∀ xs:List α,(∀ x ∈ xs,(f x).length ≤ c)→(xs.flatMap f).length ≤ xs.length * c
 | [],_=>by simp
 | x :: xs,h=>by
  rw [y1o,y0c,y10,y4f]
  have:=h x y0d
  have:=zgt xs fun y hy=>h y (y08 _ hy)
  omega
def pL (p:Nat × Nat):List Nat:=[p.1,p.2]
def zdv:Sp:=fun vs H Q _=>∃ m:Nat,vs=[nV m]∧m ≤ 30∧∀ D rs H',H D=none→Same H H'→H' D=some (.lst rs)→Paired (Line H') rs ((ups m).map pL)→Q (.ref D) H'
def zit (R:Hp→Prop) (x:Tm):Sp:=fun vs H Q _=>∃ a b:Nat,vs=[nV a,nV b]∧R H∧a < x.n∧b < x.n∧∀ D H',H D=none→Same H H'→H' D=some (.lst ((x.com a b).map nV))→Q (.ref D) H'
def zis (R:Hp→Prop) (x:Tm):Sp:=fun vs H Q _=>∃ a:Nat,vs=[nV a]∧R H∧a < x.n∧∀ H',Same H H'→Q (.bl (x.fin a)) H'
def zj1:Sp:=fun vs H Q _=>∃ (a b:Addr) (m:Tm) (i:Nat) (ns:List Nat),vs=[.ref a,nV i,.ref b]∧RepT H a m∧m.Ok∧i < m.n∧H b=some (.lst (ns.map nV))∧ns.length=m.n∧∀ p H',Same H H'→H' p=some (.tup ((tmark m ns i).map nV))→Q (.ref p) H'
def zhi:Sp:=fun vs H Q _=>∃ (a b:Addr) (m:Tm) (ns:List Nat),vs=[.ref a,.ref b]∧RepT H a m∧m.Ok∧H b=some (.lst (ns.map nV))∧ns.length=m.n∧∀ D fs H',H D=none→Same H H'→H' D=some (.lst (fs.map nV))→TNx m ns fs→Q (.ref D) H'
def keyI (r:Nat):Key:=.inl (r:Int)
theorem zeg (a b:Nat) (e:keyI a=keyI b):a=b:=by have:=Sum.inl.inj e;omega
def zj2 (P:Program) (w:World) (K:Frag) (mg:Z1) (base:Heap):Sp:=fun vs H Q _=>∃ (fc fe:Addr) (fd fd':FuncData) (R:Hp→Prop) (x:Tm) (mo:Nat),vs=[nV x.w,.ref fc,nV 0,.ref fe,nV mo]∧x.Ok∧x.n ≤ mo∧H fc=some (fnO fd fc)∧H fe=some (fnO fd' fe) ∧
 CloH P w K mg base 4 H fc 2 (zit R x)∧CloH P w K mg base 4 H fe 1 (zis R x)∧R H∧(∀ H1 H2,Same H1 H2→R H1→R H2)∧∀ p fs H',Same H H'→RepT H' p (xpl x fs)→TFnd x fs (alls fs.length)→Q (.ref p) H'
def KnT (x:Tm) (fs:List Nat) (H:Hp) (dn:List (Nat × Nat)) (kvs:List (List Key × V)):Prop:=kvs.map (·.1)=dn.map (fun p=>keyL (pL p))∧∀ p ∈ dn,∃ v,valV kvs (keyL (pL p))=some v∧Line H v ((x.com (ix fs p.1) (ix fs p.2)).map (nOf fs))
def zen:Sp:=fun vs H Q _=>∃ (a:Addr) (kvs:List (List Key × V)) (n l L:Nat) (rw:Nat→Nat→List Nat),vs=[.ref a,nV n,nV l]∧H a=some (.dT kvs)∧n ≤ 30∧l < L∧(∀ i j,i < n→j < n→∃ v,valV kvs (keyL [i,j])=some v∧Line H v (rw i j)∧(rw i j).length=L) ∧
 ∀ p H',Same H H'→Tab H' (.ref p) ((List.range n).map fun i=>(List.range n).map fun j=>(rw i j).getD l 0)→Q (.ref p) H'
theorem TupS.wrK {H:Hp} {p:Addr} {kvs:List (Key × V)} (h:H p=some (.dK kvs)) (o:HO):TupS H (upd H p o):=fun b ys e=>by rw [zal (zlr e h (by intro z;cases z))];exact e
theorem zio (n:Nat):(ups n).length=2 * n + 1:=by simp [ups];omega
theorem zg7:∀ n,(alls n).length=n * n
 | 0=>by simp [alls]
 | n + 1=>by rw [zcd,y0c,zg7 n,zio,Nat.mul_add,Nat.add_mul];omega
theorem TFnd.com {x:Tm} {fs:List Nat} {dn:List (Nat × Nat)} (f:TFnd x fs dn) {p:Nat × Nat} (hp:p ∈ dn) {r:Nat} (hr:r ∈ x.com (ix fs p.1) (ix fs p.2)):r ∈ fs :=
 (congrArg (r ∈ ·) f.eq).mpr ((za0 _ _ _).mpr (.inr (y1m.mpr ⟨p,hp,hr⟩)))
theorem KnT.ts {x:Tm} {fs:List Nat} {H H':Hp} {dn:List (Nat × Nat)} {kvs:List (List Key × V)} (h:KnT x fs H dn kvs) (g:TupS H H'):KnT x fs H' dn kvs :=
 ⟨h.1,fun p hp=>let ⟨v,e,l⟩:=h.2 p hp;⟨v,e,l.ts g⟩⟩
theorem KnT.more {x:Tm} {fs fs' t:List Nat} {H:Hp} {dn:List (Nat × Nat)} {kvs:List (List Key × V)} (f:TFnd x fs dn) (h:KnT x fs H dn kvs) (e:fs'=fs ++ t):KnT x fs' H dn kvs:=by
 refine ⟨h.1,fun p hp=>?_⟩
 obtain ⟨v,e1,l⟩:=h.2 p hp
 obtain ⟨h1,h2⟩:=f.lt p hp
 refine ⟨v,e1,?_⟩
 rw [e,zh1 h1,zh1 h2]
 have:(x.com (ix fs p.1) (ix fs p.2)).map (nOf (fs ++ t))=(x.com (ix fs p.1) (ix fs p.2)).map (nOf fs):=y1d fun r hr=>zfc (f.com hp hr)
 rw [this];exact l
theorem zkf {p q:Nat × Nat} (h:keyL (pL p)=keyL (pL q)):p=q:=by
 have:=zbo _ _ h
 obtain ⟨a,b⟩:=p
 obtain ⟨c,d⟩:=q
 simp only [pL,List.cons.injEq,and_true] at this
 rw [this.1,this.2]
theorem KnT.put {x:Tm} {fs:List Nat} {H:Hp} {dn:List (Nat × Nat)} {kvs:List (List Key × V)} {p:Nat × Nat} {v:V} (h:KnT x fs H dn kvs) (hp:p ∉ dn) (l:Line H v ((x.com (ix fs p.1) (ix fs p.2)).map (nOf fs))):KnT x fs H (dn ++ [p]) (putK kvs (keyL (pL p)) v):=by
 have hn:valV kvs (keyL (pL p))=none:=by
  cases hv:valV kvs (keyL (pL p)) with
  | none=>rfl
  | some y =>
   have:=zmc hv
   rw [h.1] at this
   obtain ⟨q,hq,e⟩:=y09.mp this
   rw [zkf e] at hq
   exact absurd hq hp
 refine ⟨by rw [zkq v hn,h.1,y15];rfl,fun q hq=>?_⟩
 rw [zjv]
 by_cases e:keyL (pL q)=keyL (pL p)
 ·rw [if_pos e]
  have:=zkf e
  subst this
  exact ⟨v,rfl,l⟩
 ·rw [if_neg e]
  rcases y0i.mp hq with z | z
  ·exact h.2 q z
  ·rw [y07.mp z] at e
   exact absurd rfl e
theorem KnT.len {x:Tm} {fs:List Nat} {H:Hp} {dn:List (Nat × Nat)} {kvs:List (List Key × V)} (h:KnT x fs H dn kvs):kvs.length=dn.length:=by
 have:=congrArg List.length h.1
 rwa [y00,y00] at this
theorem zhc {k j:Nat} {p:Nat × Nat} (h:(ups k)[j]?=some p):p ∉ alls k ++ (ups k).take j:=fun z=>by
 have hj:=(y04.mp h).1
 have hs:=zde (k + 1)
 have e:alls (k + 1)=(alls k ++ (ups k).take j) ++ (p :: (ups k).drop (j + 1)):=by
  have:(ups k)=(ups k).take j ++ (p :: (ups k).drop (j + 1)):=by
   rw [← (y04.mp h).2,y3g,y2c]
  rw [zcd,y12]
  exact congrArg (alls k ++ ·) this
 rw [e,y1p] at hs
 have:=hs.2.2 p z p y0d
 simp only [Lt3] at this
 omega
theorem zjk {x:Tm} {a b:Nat}:(x.com a b).length=2 ^ x.w:=by simp [Tm.com]
theorem zrc {x:Tm} {fs:List Nat} {a b l:Nat} (hl:l < 2 ^ x.w):((x.com a b).map (nOf fs)).getD l 0=nOf fs (x.go l a b):=by
 rw [y03,y02,Tm.com,y02,y0j hl];rfl
def zmk (Pt:Addr) (qs:Z3) (Pr:Addr) (qr:Z3):Sp:=fun vs H Q _=>∃ (a:Addr) (m:Tm),vs=[.ref a]∧TabOk H Pt qs∧TabOk H Pr qr∧RepT H a m∧m.Ok∧∀ p m' H',Same H H'→RepT H' p m'→TRed m m'→Q (.ref p) H'
def KnY (T:TTh) (fs:List (List Nat)) (H:Hp) (dn:List (Nat × Nat)) (kvs:List (List Key × V)):Prop:=kvs.map (·.1)=dn.map (fun p=>keyL (pL p))∧∀ p ∈ dn,∃ v,valV kvs (keyL (pL p))=some v∧Line H v ((T.com (iy fs p.1) (iy fs p.2)).map (nOf fs))
section
variable {T:TTh} {t0:List Nat} {fs:List (List Nat)} {H H':Hp} {dn:List (Nat × Nat)} {kvs:List (List Key × V)}
theorem TFndT.com (f:TFndT T t0 fs dn) {p:Nat × Nat} (hp:p ∈ dn) {r:List Nat} (hr:r ∈ T.com (iy fs p.1) (iy fs p.2)):r ∈ fs :=
 (congrArg (r ∈ ·) f.eq).mpr ((za0 _ _ _).mpr (.inr (y1m.mpr ⟨p,hp,hr⟩)))
theorem KnY.ts (h:KnY T fs H dn kvs) (g:TupS H H'):KnY T fs H' dn kvs :=
 ⟨h.1,fun p hp=>let ⟨v,e,l⟩:=h.2 p hp;⟨v,e,l.ts g⟩⟩
theorem KnY.more {fs' t:List (List Nat)} (f:TFndT T t0 fs dn) (h:KnY T fs H dn kvs) (e:fs'=fs ++ t):KnY T fs' H dn kvs:=by
 refine ⟨h.1,fun p hp=>?_⟩
 obtain ⟨v,e1,l⟩:=h.2 p hp
 obtain ⟨h1,h2⟩:=f.lt p hp
 refine ⟨v,e1,?_⟩
 rw [e,zh0 h1,zh0 h2]
 have:(T.com (iy fs p.1) (iy fs p.2)).map (nOf (fs ++ t))=(T.com (iy fs p.1) (iy fs p.2)).map (nOf fs):=y1d fun r hr=>zfc (f.com hp hr)
 rw [this];exact l
theorem KnY.put {p:Nat × Nat} {v:V} (h:KnY T fs H dn kvs) (hp:p ∉ dn) (l:Line H v ((T.com (iy fs p.1) (iy fs p.2)).map (nOf fs))):KnY T fs H (dn ++ [p]) (putK kvs (keyL (pL p)) v):=by
 have hn:valV kvs (keyL (pL p))=none:=by
  cases hv:valV kvs (keyL (pL p)) with
  | none=>rfl
  | some y =>
   have:=zmc hv
   rw [h.1] at this
   obtain ⟨q,hq,e⟩:=y09.mp this
   rw [zkf e] at hq
   exact absurd hq hp
 refine ⟨by rw [zkq v hn,h.1,y15];rfl,fun q hq=>?_⟩
 rw [zjv]
 by_cases e:keyL (pL q)=keyL (pL p)
 ·rw [if_pos e]
  have:=zkf e
  subst this
  exact ⟨v,rfl,l⟩
 ·rw [if_neg e]
  rcases y0i.mp hq with z | z
  ·exact h.2 q z
  ·rw [y07.mp z] at e
   exact absurd rfl e
theorem KnY.len (h:KnY T fs H dn kvs):kvs.length=dn.length:=by
 have:=congrArg List.length h.1
 rwa [y00,y00] at this
end
theorem zry {β:Type} (f:List Nat→β) (fs:List (List Nat)):(List.range fs.length).map (fun i=>f (iy fs i))=fs.map f:=by
 refine y16 fun i=>?_
 by_cases hi:i < fs.length
 ·rw [y02,y0j hi,y02,zfp hi];rfl
 ·rw [y0e (by rw [y00,y0t];omega),y0e (by rw [y00];omega)]
theorem zq3 {fs xs:List (List Nat)} {l:Nat} (h:l < xs.length):(xs.map (nOf fs)).getD l 0=nOf fs (xs.getD l []):=by
 rw [y03,y02,y03,y01 h];rfl
theorem tabY {T:TTh} {fs:List (List Nat)} {l:Nat} (hs:∀ a ∈ fs,∀ b ∈ fs,l < (T.com a b).length):((List.range fs.length).map fun a=>(List.range fs.length).map fun b=>((T.com (iy fs a) (iy fs b)).map (nOf fs)).getD l 0)=fs.map fun a=>fs.map fun b=>nOf fs ((T.com a b).getD l []):=by
 rw [← zry]
 refine y1d fun a ha=>?_
 rw [← zry]
 refine y1d fun b hb=>?_
 exact zq3 (hs _ (zcl (y0k.mp ha)) _ (zcl (y0k.mp hb)))
def TreeY (C:Addr) (T:TTh) (t0:List Nat) (most:Nat) (H:Hp) (Q:VK) (E:XK):Prop :=
 (∀ fs,TFndT T t0 fs (alls fs.length)→fs.length ≤ most→∀ p H',Same H H'→RepT H' p (xplT T fs)→Q (.ref p) H')∧(∀ fs,TSome T t0 fs→most < fs.length→∀ e H',Same H H'→H' e=none→E (.ref C) (some e) H')
def zhj (C:Addr) (P:Program) (w:World) (K:Frag) (mg:Z1) (base:Heap):Sp:=fun vs H Q E=>∃ (a fc fe:Addr) (fd fd':FuncData) (Th:TTh) (G:List Nat→Prop) (Rh:Hp→Prop) (t0:List Nat) (most:Nat),
 vs=[nV Th.w,.ref fc,.ref a,.ref fe,nV most]∧most ≤ 30∧0 < most∧H a=some (.tup (t0.map nV))∧H fc=some (fnO fd fc)∧H fe=some (fnO fd' fe)∧CloH P w K mg base 4 H fc 2 (zgg Rh Th G)∧CloH P w K mg base 4 H fe 1 (zgf Rh Th G)∧Rh H∧(∀ H1 H2,Same H1 H2→Rh H1→Rh H2)∧Th.w ≤ 3∧G t0 ∧
 (∀ s t,G s→G t→(Th.com s t).length=2 ^ Th.w∧∀ u ∈ Th.com s t,G u)∧TreeY C Th t0 most H Q E
theorem zpl {T:TTh} {t0:List Nat} {fs:List (List Nat)} {ns:List Nat} {k:Nat} {F:Nat→Nat} (hw:T.w ≤ 3) (f:TFndT T t0 fs (alls fs.length)) (hl:fs.length ≤ 30) (hs:∀ a ∈ fs,∀ b ∈ fs,(T.com a b).length=2 ^ T.w) (S:TSt (xplT T fs) ns k F) (k0:0 < k) (hk:k ≤ fs.length):TRed (xplT T fs) (quo (xplT T fs) ns k F):=by
 have ok:=zma hw f.all hl hs
 exact ⟨zmx ok S k0 (by omega) (zpg f hs) (zft f.all hs),⟨_,zmy ok S k0⟩,by rw [ziy,zju];exact hk⟩
def TreeR (C:Addr) (T:TTh) (t0:List Nat) (H:Hp) (Q:VK) (E:XK):Prop :=
 (∀ fs,TFndT T t0 fs (alls fs.length)→fs.length ≤ 30→(xplT T fs).Ok→∀ p m' H',Same H H'→RepT H' p m'→TRed (xplT T fs) m'→Q (.ref p) H')∧(∀ fs,TSome T t0 fs→30 < fs.length→∀ e H',Same H H'→H' e=none→E (.ref C) (some e) H')
section
variable {X:Cx} {H:Hp}
theorem zsq {a b:Addr} {rs ts:List V} {tt:List (List (List Nat))} {k:Nat} (ha:H a=some (.tup rs)) (hb:H b=some (.tup ts)) (pa:Paired (Tab H) rs tt) (pb:Paired (Tab H) ts tt):RcOk X (k + 3) H (.ref a) (.ref b) true:=by
 have l1:=SS.Paired.len pa
 have l2:=SS.Paired.len pb
 have r:=zdj (X:=X) (k:=k + 2) (.of ha) (.of hb) (fun _=>true) fun j h1 h2=>by
  obtain ⟨x,ex,p,us,ep,hp,pp⟩:=SS.Paired.at pa (y01 h1)
  obtain ⟨y,ey,q,vs,eq,hq,pq⟩:=SS.Paired.at pb (y01 h2)
  rw [ex] at ey
  cases ey
  rw [ep,eq]
  exact zgu (zpy hp hq pp pq)
 rw [zbt,show (rs.length == ts.length)=true by simp;omega,y2k] at r
 exact r
end
def zfx:Sp:=fun vs H Q _=>∃ (a:Addr) (m:Tm),vs=[.ref a,nV m.w]∧RepT H a m∧m.Ok∧∀ H',Same H H'→Q (.bl true) H'
def zhl:Sp:=fun vs H Q _=>∃ (a:Addr) (m:Tm) (x:Int),vs=[.ref a,.int x]∧RepT H a m∧m.Ok∧∀ p m' H',Same H H'→RepT H' p m'→m'.Ok→m'.w=m.w→m'.n=m.n→Q (.ref p) H'
theorem zq6 {m:Tm} (ok:m.Ok) {t:List (List Nat)} (h1:t.length=m.n) (h2:∀ r ∈ t,r.length=m.n∧∀ x ∈ r,x < m.n):Tm.Ok ⟨m.w,t :: m.ways.drop 1,m.ends⟩:=by
 have hl:=ok.len
 have hp:1 ≤ 2 ^ m.w:=y3q
 refine { wid:=ok.wid,pos:=ok.pos,few:=ok.few,len:=?_,tab:=?_,line:=?_,room:=?_ }
 ·show (t :: m.ways.drop 1).length=_
  rw [y10,y2b,hl];show _=2 ^ m.w;omega
 ·intro u hu
  rcases y0f.mp hu with rfl | z
  ·exact h1
  ·exact ok.tab u (y30 z)
 ·intro u hu r hr
  rcases y0f.mp hu with rfl | z
  ·exact (h2 r hr).1
  ·exact ok.line u (y30 z) r hr
 ·intro u hu r hr x hx
  rcases y0f.mp hu with rfl | z
  ·exact (h2 r hr).2 x hx
  ·exact ok.room u (y30 z) r hr x hx
variable {m1 m2 m3:Tm} {op:Bool→Bool→Bool}
variable {T:TTh} {t0:List Nat}
def CloT (T:TTh) (ls:List (List Nat)) (i:Nat):Prop:=∀ x y a b,x < i→y < i→ls[x]?=some a→ls[y]?=some b→∀ u ∈ T.com a b,u ∈ ls
structure ExtT (T:TTh) (t0:List Nat) (fs ls:List (List Nat)) (D:List Nat→Prop) (n:Nat):Prop where
 ext:∃ xs,ls=fs ++ xs
 some:TSome T t0 ls
 done:∀ u,D u→u ∈ ls
 len:ls.length ≤ n
theorem ExtT.weak {fs ls:List (List Nat)} {D D':List Nat→Prop} {n n':Nat} (h:ExtT T t0 fs ls D n) (f:∀ u,D' u→D u) (g:n ≤ n'):ExtT T t0 fs ls D' n':=⟨h.ext,h.some,fun u z=>h.done u (f u z),y13 h.len g⟩
theorem ExtT.inn {fs ls:List (List Nat)} {D:List Nat→Prop} {n:Nat} {v:List Nat} (h:ExtT T t0 fs ls D n) (m:v ∈ ls):ExtT T t0 fs ls (fun u=>D u∨u=v) (n + 1) :=
 ⟨h.ext,h.some,fun u z=>z.elim (h.done u) (fun e=>e ▸ m),by have:=h.len;omega⟩
theorem ExtT.new {fs ls:List (List Nat)} {D:List Nat→Prop} {n:Nat} {v:List Nat} (h:ExtT T t0 fs ls D n) (r:RchT T t0 v) (m:¬ v ∈ ls):ExtT T t0 fs (ls ++ [v]) (fun u=>D u∨u=v) (n + 1):=by
 obtain ⟨xs,e⟩:=h.ext
 refine ⟨⟨xs ++ [v],by rw [e,y12]⟩,⟨?_,?_⟩,?_,by have:=h.len;rw [y0c];simp;omega⟩
 ·refine y3a.mpr ⟨h.some.nd,by simp,?_⟩
  intro a ha b hb e
  cases y07.mp hb
  exact m (e ▸ ha)
 ·intro t ht
  rcases y0i.mp ht with z | z
  ·exact h.some.come t z
  ·cases y07.mp z
   exact r
 ·intro u z
  rcases z with z | z
  ·exact y1x _ (h.done u z)
  ·exact y11 _ (by rw [z];exact y07.mpr rfl)
theorem ExtT.at {fs ls:List (List Nat)} {D:List Nat→Prop} {n x:Nat} (h:ExtT T t0 fs ls D n) (hx:x < fs.length):ls[x]?=fs[x]?:=by
 obtain ⟨xs,rfl⟩:=h.ext
 exact y0o hx
def DoneT (T:TTh) (fs:List (List Nat)) (i k:Nat) (u:List Nat):Prop:=(∃ x y a b,x < i∧y < i∧fs[x]?=some a∧fs[y]?=some b∧u ∈ T.com a b)∨∃ x a b,x < k∧fs[x]?=some a∧fs[i]?=some b∧(u ∈ T.com a b∨u ∈ T.com b a)
theorem ExtT.start {fs:List (List Nat)} {i:Nat} (s:TSome T t0 fs) (c:CloT T fs i) (h:fs.length ≤ 40):ExtT T t0 fs fs (DoneT T fs i 0) 40:=by
 refine ⟨⟨[],by simp⟩,s,?_,h⟩
 rintro u (⟨x,y,a,b,hx,hy,ea,eb,hu⟩ | ⟨x,a,b,hx,_⟩)
 ·exact c x y a b hx hy ea eb u hu
 ·omega
theorem ExtT.clo {fs ls:List (List Nat)} {i n:Nat} (h:ExtT T t0 fs ls (DoneT T fs i (i + 1)) n) (hi:i < fs.length):CloT T ls (i + 1):=by
 intro x y a b hx hy ea eb u hu
 rw [h.at (by omega)] at ea eb
 by_cases hxi:x < i
 ·by_cases hyi:y < i
  ·exact h.done u (.inl ⟨x,y,a,b,hxi,hyi,ea,eb,hu⟩)
  ·have:y=i:=by omega
   subst this
   exact h.done u (.inr ⟨x,a,b,hx,ea,eb,.inl hu⟩)
 ·have:x=i:=by omega
  subst this
  exact h.done u (.inr ⟨y,b,a,hy,eb,ea,.inr hu⟩)
theorem CloT.all {ls:List (List Nat)} {i:Nat} (c:CloT T ls i) (s:TSome T t0 ls) (hd:ls[0]?=some t0) (h:ls.length ≤ i):TAll T t0 ls:=by
 refine ⟨s.nd,hd,s.come,fun a ha b hb u hu=>?_⟩
 obtain ⟨x,hx,rfl⟩:=y1g ha
 obtain ⟨y,hy,rfl⟩:=y1g hb
 exact c x y _ _ (by omega) (by omega) (y01 hx) (y01 hy) u hu
theorem zmg:TSome T t0 [t0]:=⟨by simp,fun t ht=>by cases y07.mp ht;exact .first⟩
theorem zo4 {ls:List (List Nat)}:CloT T ls 0:=fun x _ _ _ hx=>absurd hx (y31 _)
def FndT (H:Hp) (v:V):Option Tm→Prop
 | none=>v=.non
 | some m=>∃ q,v=.ref q∧RepT H q m
end SM
namespace L2
abbrev Key2:=Key ⊕ List Key
section
variable {prog:Program} {w:World}
def Is2 (prog:Program) (w:World) (h:Heap):Key2→Value→Prop
 | .inl k,v=>(mixKind prog w).is k v=true
 | .inr l,v=>∃ b,v=.ref b∧IsTupleKey (mixKind prog w) h l b
inductive Its2 (prog:Program) (w:World) (h:Heap):List Key2→List Value→Prop
 | nil:Its2 prog w h [] []
 | cons {k:Key2} {v:Value} {ks:List Key2} {vs:List Value}:Is2 prog w h k v→Its2 prog w h ks vs→Its2 prog w h (k :: ks) (v :: vs)
def IsNest (prog:Program) (w:World) (h:Heap) (ks:List Key2) (a:Addr):Prop:=∃ o items n,h.get? a=some o∧o.cls=.type "tuple"∧o.data=.seq items n∧Its2 prog w h ks items.toList
theorem zds {k:Key} {v:Value} (h:(mixKind prog w).is k v=true):carriedByValue v=true:=(mixKind prog w).byValue _ _ h
theorem Is2.inj {h:Heap} {x y:Key2} {v:Value} (hx:Is2 prog w h x v) (hy:Is2 prog w h y v):x=y:=by
 cases x with
 | inl k =>
  cases y with
  | inl j=>rw [(mixKind prog w).inj _ _ _ hx hy]
  | inr l =>
   obtain ⟨b,rfl,_⟩:=hy
   exact absurd (zds hx) (by simp [carriedByValue])
 | inr l =>
  obtain ⟨b,rfl,hb⟩:=hx
  cases y with
  | inl j=>exact absurd (zds hy) (by simp [carriedByValue])
  | inr l' =>
   obtain ⟨b',e,hb'⟩:=hy
   cases e
   rw [hb.inj hb']
theorem Its2.inj {h:Heap} {vs:List Value}:∀ {x y:List Key2},Its2 prog w h x vs→Its2 prog w h y vs→x=y:=by
 intro x y hx
 induction hx generalizing y with
 | nil=>intro hy;cases hy;rfl
 | cons h1 _ ih =>
  intro hy
  cases hy with
  | cons h2 t2=>rw [h1.inj h2,ih t2]
theorem IsNest.ty {s:Shared} {ks:List Key2} {a:Addr} (x:IsNest prog w s.heap ks a):s.TypeIs (.ref a) "tuple":=let ⟨o,_,_,ho,hc,_⟩:=x;⟨o,ho,hc⟩
theorem IsNest.inj {h:Heap} {a:Addr} {x y:List Key2} (hx:IsNest prog w h x a) (hy:IsNest prog w h y a):x=y:=by
 obtain ⟨o,its,n,ho,_,hd,hi⟩:=hx
 obtain ⟨o',its',n',ho',_,hd',hi'⟩:=hy
 rw [ho] at ho';cases ho'
 rw [hd] at hd';cases hd'
 exact hi.inj hi'
theorem Is2.keeps {h h':Heap} {d:Addr} {o:Obj} {es ep} {k:Key2} {v:Value} (x:Is2 prog w h k v) (ho:h.get? d=some o) (hd:o.data=.dict es ep) (hs:Heap.SameBut d h h'):Is2 prog w h' k v:=by
 cases k with
 | inl k=>exact x
 | inr l =>
  obtain ⟨b,e,hb⟩:=x
  exact ⟨b,e,hb.keeps ho hd hs⟩
theorem Its2.keeps {h h':Heap} {d:Addr} {o:Obj} {es ep} (ho:h.get? d=some o) (hd:o.data=.dict es ep) (hs:Heap.SameBut d h h') {ks:List Key2} {vs:List Value} (x:Its2 prog w h ks vs):Its2 prog w h' ks vs:=by
 induction x with
 | nil=>exact .nil
 | cons h1 _ ih=>exact .cons (h1.keeps ho hd hs) ih
theorem IsNest.keeps {h h':Heap} {ks:List Key2} {a d:Addr} {o:Obj} {es ep} (x:IsNest prog w h ks a) (ho:h.get? d=some o) (hd:o.data=.dict es ep) (hs:Heap.SameBut d h h'):IsNest prog w h' ks a:=by
 obtain ⟨o',its,n,ho',hc,hd',hi⟩:=x
 have ne:a ≠ d:=fun e=>by
  subst e
  rw [ho] at ho';cases ho'
  rw [hd] at hd';cases hd'
 exact ⟨o',its,n,(hs.2 a ne).trans ho',hc,hd',hi.keeps ho hd hs⟩
def hash2 (prog:Program) (w:World):Key2→Int
 | .inl k=>(mixKind prog w).hash k
 | .inr l=>tupleKeyHash (mixKind prog w) l
def draws2:Key2→Nat
 | .inl _=>1
 | .inr l=>l.length + 1
def drawsN (ks:List Key2):Nat:=(ks.map draws2).foldr (· + ·) 0
theorem zjh (ks:List Key2) (k:Key2):drawsN (ks ++ [k])=drawsN ks + draws2 k:=by
 unfold drawsN
 induction ks with
 | nil=>simp
 | cons x r ih =>
  rw [y2z,y0u,List.foldr_cons,ih,y0u,List.foldr_cons]
  omega
variable {A:Around} {E:Z0} {s:Shared}
theorem zok {k:Key2} {v:Value} {Q:Int→Shared→Prop} (hu:A.units < cLine) (x:Is2 prog w s.heap k v) (q:Q (hash2 prog w k) { s with toks:=s.toks + draws2 k }):wpAny (model prog w) A (pyHash v) Q E s:=by
 cases k with
 | inl k=>exact (mixKind prog w).pyHash x q
 | inr l =>
  obtain ⟨b,rfl,hb⟩:=x
  exact wpAny_pyHash_tuple hu hb q
def nestHash (prog:Program) (w:World) (ks:List Key2):Int:=reduceHash (Builtin.Tuple.tupleHashOf (ks.map (hash2 prog w)))
theorem zoj {ks:List Key2} {a:Addr} {Q:Int→Shared→Prop} (hu:A.units + 1 < cLine) (hk:IsNest prog w s.heap ks a) (q:Q (nestHash prog w ks) { s with toks:=s.toks + (drawsN ks + 1) }) :
  wpAny (model prog w) A (pyHash (.ref a)) Q E s:=by
 have ty:=hk.ty
 obtain ⟨o,its,n,ho,_,hd,hi⟩:=hk
 unfold pyHash
 first | unfold pyHashByItsType | skip
 first | refine wpAny_bind (wpAny_cRoomFor_or (.inr (Nat.lt_of_succ_lt hu)) ?_) | skip
 refine wpAny_bind (wpAny_specialOf ty PySem.F.slot_tuple_hash.lookup ?_)
 show wpAny _ _ (if (some (Value.builtin "tuple.__hash__") == some Value.none)=true then _ else _) Q _ s
 rw [if_neg (by rw [beq_builtin_none];exact fun z=>nomatch z)]
 refine wpAny_bind (wpAny_specialOf ty PySem.F.slot_tuple_hash.lookup ?_)
 show wpAny _ _ (callSpecialIfBoundUnlessNone? (.ref a) "__hash__" _ >>= fun _=>_) Q _ s
 refine wpAny_bind (wpAny_callSpecialIfBoundUnlessNone?_slot ty PySem.F.slot_tuple_hash (wpAny_call_entry PySem.F.slot_tuple_hash ty PySem.F.entry_tuple_hash ?_ (PySem.F.args_tuple_hash_1 _)))
 show wpAny _ _ (Builtin.Tuple.tupleItemsOf (.ref a) >>= fun _=>_) _ _ s
 refine wpAny_bind (wpAny_tupleItemsOf ho hd (wpAny_bind ?_))
 rw [← y2f]
 refine wpAny_forIn_list _ (fun left (b:Array Int) s'=>∃ d l,ks=d ++ l∧Its2 prog w s.heap l left∧b.toList=d.map (hash2 prog w)∧s'={ s with toks:=s.toks + drawsN d }) _ ?_ ?_ _ _ ⟨[],ks,rfl,hi,rfl,rfl⟩
 ·rintro x left b s' ⟨d,l,rfl,hl,hb,rfl⟩
  cases hl with
  | @cons k _ l' _ h1 hl' =>
   refine wpAny_bind (zok (s:={ s with toks:=s.toks + drawsN d }) hu h1 ?_)
   have e1:({ s with toks:=s.toks + drawsN d + draws2 k }:Shared)={ s with toks:=s.toks + drawsN (d ++ [k]) }:=by rw [zjh,y48]
   first
    | exact wpAny_pure ⟨d ++ [k],l',by simp,hl',by simp [hb],e1⟩
    | exact wpAny_bind (wpAny_pure (wpAny_pure ⟨d ++ [k],l',by simp,hl',by simp [hb],e1⟩))
 ·rintro b s' ⟨d,l,rfl,hl,hb,rfl⟩
  cases hl
  rw [y0s] at q
  show wpAny _ _ (retInt (Builtin.Tuple.tupleHashOf b.toList)) _ _ _
  rw [hb]
  refine wpAny_ret_mkInt ?_
  generalize hH:Builtin.Tuple.tupleHashOf (d.map (hash2 prog w))=z
  unfold nestHash reduceHash at q
  rw [hH] at q
  show wpAny _ _ (if (decide (-(2:Int) ^ 63 ≤ z) && decide (z < 2 ^ 63))=true then _ else _) Q _ _
  by_cases hr:(decide (-(2:Int) ^ 63 ≤ z) && decide (z < 2 ^ 63))=true
  ·rw [if_pos hr] at q ⊢
   exact wpAny_pure (by simpa [y48] using q)
  ·rw [if_neg hr] at q ⊢
   exact wpAny_bind (wpAny_rule (wpAny_pure (by simpa [y48] using q)))
theorem dec_l {a b:Key}:decide ((Sum.inl a:Key2)=Sum.inl b)=decide (a=b):=by
 by_cases e:a=b
 ·rw [e];simp
 ·rw [decide_eq_false e,decide_eq_false fun q=>e (Sum.inl.inj q)]
theorem dec_r {a b:List Key}:decide ((Sum.inr a:Key2)=Sum.inr b)=decide (a=b):=by
 by_cases e:a=b
 ·rw [e];simp
 ·rw [decide_eq_false e,decide_eq_false fun q=>e (Sum.inr.inj q)]
theorem zks {h:Heap} {l:List Key} {b:Addr} (x:IsTupleKey (mixKind prog w) h l b):∃ its,h.IsTuple b its:=by
 obtain ⟨o,its,n,ho,hc,hd,_⟩:=x
 exact ⟨its,o,ho,hc,n,hd⟩
theorem eq_item {x y:Key2} {u v:Value} {Q:Bool→Shared→Prop} (hu:A.units < cLine) (hx:Is2 prog w s.heap x u) (hy:Is2 prog w s.heap y v) (q:Q (decide (x=y)) s):wpAny (model prog w) A (eqBool u v) Q E s:=by
 cases x with
 | inl k =>
  cases y with
  | inl j=>rw [dec_l] at q;exact (mixKind prog w).eqBool hx hy q
  | inr l =>
   obtain ⟨b,rfl,hb⟩:=hy
   obtain ⟨its,tb⟩:=zks hb
   rw [decide_eq_false (fun z=>nomatch z)] at q
   rcases zav hx with ⟨i,t,rfl,rfl⟩ | ⟨z,t,rfl,rfl⟩ | ⟨c,rfl,rfl⟩
   ·exact SeqAt.EqAt.int_tuple i t tb hu prog w E Q q
   ·exact SeqAt.EqAt.str_tuple z t tb hu prog w E Q q
   ·exact SeqAt.EqAt.bool_tuple c tb hu prog w E Q q
 | inr l =>
  obtain ⟨b,rfl,hb⟩:=hx
  cases y with
  | inl j =>
   obtain ⟨its,tb⟩:=zks hb
   rw [decide_eq_false (fun z=>nomatch z)] at q
   rcases zav hy with ⟨i,t,rfl,rfl⟩ | ⟨z,t,rfl,rfl⟩ | ⟨c,rfl,rfl⟩
   ·exact SeqAt.EqAt.tuple_int i t tb hu prog w E Q q
   ·exact SeqAt.EqAt.tuple_str z t tb hu prog w E Q q
   ·exact SeqAt.EqAt.tuple_bool c tb hu prog w E Q q
  | inr l' =>
   obtain ⟨b',rfl,hb'⟩:=hy
   rw [dec_r] at q
   exact wpAny_eqBool_tuple hu hb hb' q
theorem znx {x y:List Key2} {a b:Addr} {R:Fin→Shared→Prop} (hu:A.units < cLine) (hx:IsNest prog w s.heap x a) (hy:IsNest prog w s.heap y b) (q:R (.done (.ret (.bool (decide (x=y))))) s) :
  wpAny (model prog w) A (Builtin.«tuple.__eq__» ⟨[.ref a,.ref b],[]⟩) R E s:=by
 have tb:=hy.ty
 obtain ⟨oa,xs,na,hoa,_,hda,hia⟩:=hx
 obtain ⟨ob,ys,nb,hob,_,hdb,hib⟩:=hy
 show wpAny _ _ (isInstance (.ref b) (.type "tuple") >>= fun _=>_) _ _ s
 refine wpAny_bind (wpAny_isInstance tb isSubtype_tuple_tuple ?_)
 simp only [if_false,y0w,y2e]
 refine wpAny_bind (wpAny_tupleItemsOf hoa hda (wpAny_bind (wpAny_tupleItemsOf hob hdb (wpAny_bind ?_))))
 refine wpAny_forIn_list _ (fun left r s'=>r.1=none∧s'=s∧∃ x' y' xs' ys',left=List.zip xs' ys'∧Its2 prog w s.heap x' xs'∧Its2 prog w s.heap y' ys'∧decide (x'=y')=decide (x=y)∧(xs'.length == ys'.length)=(xs.size == ys.size)) _ ?_ ?_ _ _
  ⟨rfl,rfl,x,y,xs.toList,ys.toList,rfl,hia,hib,rfl,by simp⟩
 ·rintro ⟨u,v⟩ left r s' ⟨hr,rfl,x',y',xs',ys',hz,hx',hy',hdec,hlen⟩
  cases hx' with
  | nil=>simp at hz
  | @cons k1 u' x2 xs2 h1 hx2 =>
   cases hy' with
   | nil=>simp at hz
   | @cons k2 v' y2 ys2 h2 hy2 =>
    rw [List.zip_cons_cons] at hz
    cases hz
    refine wpAny_bind (eq_item hu h1 h2 ?_)
    by_cases hk:k1=k2
    ·subst hk
     rw [decide_eq_true rfl]
     simp only [if_false,y0w,y2e]
     refine wpAny_pure ⟨rfl,rfl,x2,y2,xs2,ys2,rfl,hx2,hy2,?_,by simpa using hlen⟩
     rw [← hdec]
     by_cases hxy:x2=y2 <;> simp [hxy]
    ·rw [decide_eq_false hk]
     simp only [if_true,y46]
     have hf:decide (x=y)=false:=by rw [← hdec];simp [hk]
     rw [hf] at q
     exact wpAny_bind (wpAny_pure (wpAny_pure (wpAny_pure q)))
 ·rintro ⟨r1,r2⟩ s' ⟨hr,rfl,x',y',xs',ys',hz,hx',hy',hdec,hlen⟩
  simp only at hr
  subst hr
  refine wpAny_pure ?_
  have e:(xs.size == ys.size)=decide (x=y):=by
   rw [← hdec,← hlen]
   cases hx' with
   | nil=>cases hy' <;> simp
   | cons _ _ =>
    cases hy' with
    | nil=>simp
    | cons _ _=>simp at hz
  show R (.done (.ret (.bool (xs.size == ys.size)))) s'
  rw [e];exact q
theorem eq_nest {x y:List Key2} {a b:Addr} {Q:Bool→Shared→Prop} (hu:A.units + 1 < cLine) (hx:IsNest prog w s.heap x a) (hy:IsNest prog w s.heap y b) (q:Q (decide (x=y)) s):wpAny (model prog w) A (eqBool (.ref a) (.ref b)) Q E s:=by
 unfold eqBool
 try with_reducible refine wpAny_holding ?_
 show wpAny _ _ (if (Value.ref a == Value.ref b)=true then _ else _) Q E s
 by_cases hab:(Value.ref a == Value.ref b)=true
 ·rw [if_pos hab]
  cases eq_of_beq hab
  cases hx.inj hy
  exact wpAny_bind (wpAny_rule (wpAny_pure (by simpa using q)))
 ·rw [if_neg hab]
  exact wpAny_bind (wpAny_richCompare_same_room (op:=.Eq) hx.ty hy.ty PySem.F.slot_tuple_eq
   (wpAny_call_entry PySem.F.slot_tuple_eq hx.ty PySem.F.entry_tuple_eq (znx hu hx hy ⟨_,rfl,(fun e=>nomatch e),wpAny_truthy_bool q⟩) (PySem.F.args_tuple_eq_2 _ _)) (Nat.lt_of_succ_lt hu))
theorem zmz {n:Nat} {l:List Key} {a:Addr} {Q:Bool→Shared→Prop} (hk:IsTupleKey (mixKind prog w) s.heap l a) (q:Q true s):wpAny (model prog w) A (eqIsQuiet (n + 1) (.ref a)) Q E s:=by
 have ty:=hk.typeIs
 obtain ⟨o,its,m,ho,_,hd,hi⟩:=hk
 unfold eqIsQuiet
 refine wpAny_bind (wpAny_specialOf ty PySem.F.slot_tuple_eq.lookup ?_)
 show wpAny _ _ (isInstance (.ref a) (.type "tuple") >>= fun _=>_) _ _ s
 refine wpAny_bind (wpAny_isInstance ty isSubtype_tuple_tuple ?_)
 simp only [if_false,y0w,y2e]
 refine wpAny_bind (wpAny_seqItems ho hd (wpAny_bind ?_))
 show wpAny _ _ (forIn its _ _) _ _ s
 rw [← y2f]
 refine wpAny_forIn_list _ (fun left r s'=>r.1=none∧s'=s∧∀ v ∈ left,carriedByValue v=true) _ ?_ ?_ _ _ ⟨rfl,rfl,hi.byValue⟩
 ·rintro v left r s' ⟨hr,rfl,hall⟩
  rw [eqIsQuiet_byValue _ (hall v y0d)]
  refine wpAny_bind (wpAny_pure ?_)
  simp only [if_false,y0w,y2e]
  exact wpAny_pure ⟨rfl,rfl,fun u hm=>hall u (y08 _ hm)⟩
 ·rintro ⟨r1,r2⟩ s' ⟨hr,rfl,_⟩
  simp only at hr
  subst hr
  exact wpAny_pure q
theorem zlg {n:Nat} {k:Key2} {v:Value} {Q:Bool→Shared→Prop} (h:Is2 prog w s.heap k v) (q:Q true s):wpAny (model prog w) A (eqIsQuiet (n + 1) v) Q E s:=by
 cases k with
 | inl k =>
  rw [eqIsQuiet_byValue _ (zds h)]
  exact wpAny_pure q
 | inr l =>
  obtain ⟨b,rfl,hb⟩:=h
  exact zmz hb q
theorem Its2.mem {h:Heap} {ks:List Key2} {vs:List Value} (x:Its2 prog w h ks vs):∀ v ∈ vs,∃ k,Is2 prog w h k v:=by
 induction x with
 | nil=>intro v hv;cases hv
 | @cons k v' ks vs h1 _ ih =>
  intro v hv
  rcases y0f.mp hv with rfl | hv
  ·exact ⟨k,h1⟩
  ·exact ih v hv
theorem zlf {ks:List Key2} {a:Addr} {Q:Bool→Shared→Prop} (hk:IsNest prog w s.heap ks a) (q:Q true s):wpAny (model prog w) A (eqIsQuiet 8 (.ref a)) Q E s:=by
 have ty:=hk.ty
 obtain ⟨o,its,m,ho,_,hd,hi⟩:=hk
 unfold eqIsQuiet
 refine wpAny_bind (wpAny_specialOf ty PySem.F.slot_tuple_eq.lookup ?_)
 show wpAny _ _ (isInstance (.ref a) (.type "tuple") >>= fun _=>_) _ _ s
 refine wpAny_bind (wpAny_isInstance ty isSubtype_tuple_tuple ?_)
 simp only [if_false,y0w,y2e]
 refine wpAny_bind (wpAny_seqItems ho hd (wpAny_bind ?_))
 show wpAny _ _ (forIn its _ _) _ _ s
 rw [← y2f]
 refine wpAny_forIn_list _ (fun left r s'=>r.1=none∧s'=s∧∀ v ∈ left,∃ k,Is2 prog w s.heap k v) _ ?_ ?_ _ _ ⟨rfl,rfl,hi.mem⟩
 ·rintro v left r s' ⟨hr,rfl,hall⟩
  obtain ⟨k,h1⟩:=hall v y0d
  refine wpAny_bind (zlg h1 ?_)
  simp only [if_false,y0w,y2e]
  exact wpAny_pure ⟨rfl,rfl,fun u hm=>hall u (y08 _ hm)⟩
 ·rintro ⟨r1,r2⟩ s' ⟨hr,rfl,_⟩
  simp only at hr
  subst hr
  exact wpAny_pure q
end
def nestKind (prog:Program) (w:World):HeapKind prog w (List Key2) where
 is:=IsNest prog w
 hash:=nestHash prog w
 draws:=fun ks=>drawsN ks + 1
 room:=fun A=>A.units + 1 < cLine
 inj:=fun hx hy=>hx.inj hy
 keeps:=fun x ho hd hs=>x.keeps ho hd hs
 pyHash:=fun hu hk h=>zoj hu hk h
 eqBool:=fun hu hx hy h=>eq_nest hu hx hy h
 quiet:=fun hk h=>zlf hk h
open PySem
abbrev Rise (xs:Array Nat):Prop:=xs.toList.Pairwise (· < ·)
theorem zev {xs:Array Nat} (h:Rise xs) {i j:Nat} (hij:i < j) (hj:j < xs.size):xs.getD i 0 < xs.getD j 0:=by
 have:=List.pairwise_iff_getElem.mp h i j (by simpa using y22 hij hj) (by simpa using hj) hij
 simp only [Array.getElem_toList] at this
 rw [Array.getD,Array.getD,dif_pos (y22 hij hj),dif_pos hj]
 exact this
theorem zg5 {xs:Array Nat} (h:Rise xs) (j:Nat):∀ (fuel lo hi:Nat),lo ≤ hi→hi ≤ xs.size→hi - lo ≤ fuel→(∀ i,i < lo→xs.getD i 0 < j)→(∀ i,hi ≤ i→i < xs.size→j ≤ xs.getD i 0) →
  SetTable.below.go xs j fuel lo hi ≤ xs.size∧(∀ i,i < SetTable.below.go xs j fuel lo hi→xs.getD i 0 < j)∧∀ i,SetTable.below.go xs j fuel lo hi ≤ i→i < xs.size→j ≤ xs.getD i 0
 | 0,lo,hi,h1,h2,h3,h4,h5=>by
  have e:lo=hi:=by omega
  unfold SetTable.below.go
  exact ⟨by omega,h4,fun i hi'=>h5 i (by omega)⟩
 | fuel + 1,lo,hi,h1,h2,h3,h4,h5=>by
  unfold SetTable.below.go
  by_cases c:lo < hi
  ·rw [if_pos c]
   have hm:(lo + hi) / 2 < xs.size:=by omega
   have e:xs.getD ((lo + hi) / 2) j=xs.getD ((lo + hi) / 2) 0:=by rw [Array.getD,Array.getD,dif_pos hm,dif_pos hm]
   show _∧_∧_
   simp only
   by_cases c2:xs.getD ((lo + hi) / 2) j < j
   ·rw [if_pos c2]
    refine zg5 h j fuel ((lo + hi) / 2 + 1) hi (by omega) h2 (by omega) (fun i hi'=>?_) h5
    by_cases c3:i=(lo + hi) / 2
    ·rw [c3,← e];exact c2
    ·exact y22 (zev h (j:=(lo + hi) / 2) (by omega) hm) (by rw [← e];exact c2)
   ·rw [if_neg c2]
    refine zg5 h j fuel lo ((lo + hi) / 2) (by omega) (by omega) (by omega) h4 fun i hi' hs=>?_
    by_cases c3:i=(lo + hi) / 2
    ·rw [c3,← e];omega
    ·have:=zev h (i:=(lo + hi) / 2) (j:=i) (by omega) hs
     rw [e] at c2
     omega
  ·rw [if_neg c]
   exact ⟨by omega,h4,fun i hi'=>h5 i (by omega)⟩
theorem zcc {xs:Array Nat} (h:Rise xs) (j:Nat):SetTable.below xs j ≤ xs.size∧(∀ i,i < SetTable.below xs j→xs.getD i 0 < j)∧∀ i,SetTable.below xs j ≤ i→i < xs.size→j ≤ xs.getD i 0 :=
 zg5 h j xs.size 0 xs.size (y1k _) (y05 _) (by omega) (fun i hi=>absurd hi (y31 _)) fun i h1 h2=>by omega
theorem zl6 {xs:Array Nat} (h:Rise xs) {i:Nat} (hi:i < xs.size):SetTable.below xs (xs.getD i 0 + 1)=i + 1:=by
 obtain ⟨h1,h2,h3⟩:=zcc h (xs.getD i 0 + 1)
 by_cases c:SetTable.below xs (xs.getD i 0 + 1) ≤ i
 ·have:=h3 i c hi;omega
 ·by_cases c2:SetTable.below xs (xs.getD i 0 + 1)=i + 1
  ·exact c2
  ·have:=h2 (i + 1) (by omega)
   have:=zev h (i:=i) (j:=i + 1) (by omega) (by omega)
   omega
theorem zl5 {xs:Array Nat} (h:Rise xs):SetTable.below xs 0=0:=by
 obtain ⟨h1,h2,h3⟩:=zcc h 0
 by_cases c:SetTable.below xs 0=0
 ·exact c
 ·have:=h2 0 (by omega);omega
theorem zci {α:Type} (xs:Array α) (p:Nat) (x:α):(SetTable.insertAt xs p x).toList=xs.toList.take p ++ x :: xs.toList.drop p:=by
 unfold SetTable.insertAt
 rw [Array.toList_append,y3u,Array.toList_extract,Array.toList_extract]
 simp
 exact y0r (by simp)
theorem zew {xs:Array Nat} (h:Rise xs) {j:Nat} (hj:xs[SetTable.below xs j]? ≠ some j):Rise (SetTable.insertAt xs (SetTable.below xs j) j):=by
 obtain ⟨h1,h2,h3⟩:=zcc h j
 show (SetTable.insertAt xs (SetTable.below xs j) j).toList.Pairwise (· < ·)
 rw [zci]
 generalize SetTable.below xs j=p at *
 have at':∀ i (hi:i < xs.size),xs.getD i 0=xs.toList[i]'(by simpa using hi):=fun i hi=>by rw [Array.getD,dif_pos hi];simp
 have gt:∀ i,p ≤ i→i < xs.size→j < xs.getD i 0:=fun i hp hi=>by
  have hle:=h3 i hp hi
  by_cases c:i=p
  ·subst c
   have hne:xs.getD i 0 ≠ j:=fun e=>hj (by rw [y14 hi,← e,Array.getD,dif_pos hi];rfl)
   omega
  ·have h4:=h3 p (y05 _) (by omega)
   have:=zev h (i:=p) (j:=i) (by omega) hi
   omega
 refine y1p.mpr ⟨h.sublist (List.take_sublist _ _),y2l.mpr ⟨fun y hy=>?_,h.sublist (List.drop_sublist _ _)⟩,fun x hx y hy=>?_⟩
 ·obtain ⟨i,hi,e⟩:=y1g hy
  rw [List.getElem_drop] at e
  have hi':p + i < xs.size:=by rw [y2b] at hi;simp at hi;omega
  rw [← e,← at' _ hi']
  exact gt _ (by omega) hi'
 ·have xlt:x < j:=by
   obtain ⟨i,hi,e⟩:=y1g hx
   rw [List.getElem_take] at e
   have hi':i < p∧i < xs.size:=by rw [y0y] at hi;simp at hi;omega
   rw [← e,← at' _ hi'.2]
   exact h2 i hi'.1
  rcases y0f.mp hy with rfl | hy
  ·exact xlt
  ·obtain ⟨i,hi,e⟩:=y1g hy
   rw [List.getElem_drop] at e
   have hi':p + i < xs.size:=by rw [y2b] at hi;simp at hi;omega
   rw [← e,← at' _ hi']
   have:=gt (p + i) (by omega) hi'
   omega
structure Tb (led:Bool) (t:SetTable):Prop where
 rise:Rise t.place
 led:t.led=led
 dum:t.dummies=#[]
theorem zpp (f m:Nat) (led:Bool):Tb led (.fresh f m led):=⟨List.Pairwise.nil,rfl,rfl⟩
theorem zcv {led:Bool} {t:SetTable} (h:Tb led t) (n:Nat):Tb led (t.standIn n):=⟨by
 show (Array.range n).toList.Pairwise (· < ·)
 rw [Array.toList_range]
 exact y1z,h.led,rfl⟩
theorem tb_or {led:Bool} {t:SetTable} (h:Tb led t) (n:Nat):Tb led (t.orStandIn n):=by
 unfold SetTable.orStandIn
 split
 ·exact h
 ·exact zcv h n
theorem zki {t:SetTable} (h:t.dummies=#[]) (j:Nat):SetTable.has t.dummies j=false:=by
 rw [h]
 unfold SetTable.has
 rfl
theorem zex {t:SetTable} (hd:t.dummies=#[]) (hashAt:Nat→Int) (h:Int):∀ (fuel:Nat) (p:SetTable.Probe) (j:Nat) (d:Option Nat),p.dummy=none→SetTable.probe.go t hashAt h fuel p=some (.empty j d)→d=none∧t.slot j=.empty
 | 0,p,j,d,_,e=>by unfold SetTable.probe.go at e;cases e
 | fuel + 1,p,j,d,hp,e=>by
  unfold SetTable.probe.go at e
  have adv:∀ q:SetTable.Probe,(t.advance q).dummy=q.dummy:=fun q=>by unfold SetTable.advance;split <;> rfl
  cases c:t.slot p.j with
  | empty =>
   rw [c] at e
   simp only [Option.some.injEq,SetTable.Met.empty.injEq] at e
   obtain ⟨rfl,rfl⟩:=e
   exact ⟨hp,c⟩
  | dummy =>
   exfalso
   unfold SetTable.slot at c
   simp only [zki hd] at c
   split at c <;> cases c
  | live i =>
   rw [c] at e
   simp only at e
   split at e
   ·cases e
   ·exact zex hd hashAt h fuel _ j d (by rw [adv];exact hp) e
theorem tb_put {led:Bool} {t:SetTable} (h:Tb led t) {j:Nat} (hj:t.slot j=.empty):Tb led (t.put j).1:=by
 refine ⟨zew h.rise fun e=>?_,h.led,?_⟩
 ·unfold SetTable.slot at hj
  simp only [e,beq_self_eq_true,if_true] at hj
  cases hj
 ·show (if SetTable.has t.dummies j then _ else t.dummies)=#[]
  rw [zki h.dum]
  exact h.dum
theorem zmj {led:Bool} {t:SetTable} (h:Tb led t) (es:Array (Int × Value)) (k:Int) (x:Value):Tb led (layNew t es k x).2.1∧(layNew t es k x).2.2.1=false:=by
 unfold layNew
 cases c:t.freeSlot k with
 | none=>exact ⟨zcv h _,rfl⟩
 | some p =>
  obtain ⟨slot,wd⟩:=p
  unfold SetTable.freeSlot at c
  cases c2:t.probe (fun _=>k + 1) k (t.probeStart k) with
  | none=>rw [c2] at c;cases c
  | some m =>
   rw [c2] at c
   cases m with
   | candidate j i nx=>cases c
   | empty j d =>
    obtain ⟨rfl,he⟩:=zex h.dum _ _ _ _ _ _ rfl c2
    simp only [Option.some.injEq,Prod.mk.injEq] at c
    obtain ⟨rfl,rfl⟩:=c
    exact ⟨tb_or (tb_put h he) _,rfl⟩
theorem zn9 {mask finger moves:Nat} {led plain:Bool} {hs:Array Int} {t:SetTable} {o:Array Nat} (e:SetTable.laid mask finger moves led plain hs=some (t,o)):Tb led t:=by
 unfold SetTable.laid at e
 cases c:SetTable.layClean mask hs with
 | none=>rw [c] at e;cases e
 | some owner =>
  rw [c] at e
  simp only [Option.bind_eq_bind,Option.bind_some,Option.pure_def,Option.some.injEq,Prod.mk.injEq] at e
  obtain ⟨rfl,rfl⟩:=e
  refine ⟨?_,rfl,rfl⟩
  show List.Pairwise (· < ·) (List.map (fun x:Nat × Nat=>x.1) ((List.range (mask + 1)).filterMap fun j=>(owner.getD j none).map (j,·)))
  have:∀ l:List Nat,((l.filterMap fun j=>(owner.getD j none).map (j,·)).map (·.1)).Sublist l:=fun l=>by
   induction l with
   | nil=>exact List.Sublist.refl _
   | cons a l ih =>
    rw [y1s]
    cases c3:owner.getD a none with
    | none=>exact .cons _ ih
    | some v=>exact .cons_cons _ ih
  exact y1z.sublist (this _)
theorem zpn {led:Bool} {t:SetTable} (h:Tb led t) (es:Array (Int × Value)) (n:Nat):Tb led (relayAll t es n).2.1:=by
 unfold relayAll
 cases c:t.relaid (es.map (·.1)) n with
 | none=>exact zcv h _
 | some p =>
  obtain ⟨t',o⟩:=p
  have:=zn9 c
  rw [h.led] at this
  simp only
  split
  ·exact this
  ·exact zcv h _
theorem zm7 {α:Type} (next:Nat→Nat):∀ (fuel k:Nat) (left:List α) (out:Array α),left.length=fuel→(pickOrder.go next fuel k left out).toList.Perm (out.toList ++ left)
 | 0,k,left,out,h=>by
  unfold pickOrder.go
  rw [List.length_eq_zero_iff.mp h,y0s]
 | fuel + 1,k,left,out,h=>by
  unfold pickOrder.go
  have hlt:next k % left.length < left.length:=y3n _ (by omega)
  rw [y01 hlt]
  simp only
  refine (zm7 next fuel (k + 1) (left.eraseIdx (next k % left.length)) (out.push left[next k % left.length]) (by rw [y42 hlt];omega)).trans ?_
  rw [y3u,y12,List.singleton_append]
  refine List.Perm.append_left _ ?_
  generalize next k % left.length=i at hlt
  have e:left=left.take i ++ left[i] :: left.drop (i + 1):=by rw [y3g,y2c]
  conv=>rhs;rw [e]
  rw [y3t]
  exact (y3z).symm
theorem zm6 {α:Type} (next:Nat→Nat) (xs:Array α):(pickOrder next xs).toList.Perm xs.toList:=by
 have:=zm7 next xs.size 0 xs.toList #[] (by simp)
 rw [show (#[]:Array α).toList=[] from rfl,List.nil_append] at this
 exact this
section
variable {P:Program} {w:World} {T:Type} [DecidableEq T] {knd:KeyKind P w T} {A:Around} {E:Z0} {s:Shared} {led:Bool}
def SetT (knd:KeyKind P w T) (led:Bool) (h:Heap) (a:Addr) (S:T→Bool) (n:Nat):Prop :=
 ∃ o es ep t,h.get? a=some o∧o.ExactSet∧o.data=.set es ep t∧(ElemsOf knd es.toList∧∀ k,S k=true ↔ ∃ e ∈ es.toList,knd.is k e.2=true)∧(es.size < scanBound∧t.fits es.size=true∧es.size=n)∧Tb led t∧es.toList.Pairwise fun x y=>∀ k,knd.is k x.2=true→knd.is k y.2=false
theorem SetT.kept {h h':Heap} {a:Addr} {S:T→Bool} {n:Nat} (x:SetT knd led h a S n) (k:∀ o,h.get? a=some o→h'.get? a=some o):SetT knd led h' a S n :=
 let ⟨o,es,ep,t,e,r⟩:=x;⟨o,es,ep,t,k o e,r⟩
theorem SetT.congr {h:Heap} {a:Addr} {S S':T→Bool} {n n':Nat} (x:SetT knd led h a S n) (e:∀ k,S k=S' k) (en:n=n'):SetT knd led h a S' n':=by
 have:S=S':=funext e
 subst this;subst en;exact x
theorem zpo {t:SetTable} (h:Tb led t):Tb led { t with plain:=false }:=⟨h.rise,h.led,h.dum⟩
theorem zga {l l':List (Int × Value)} (h:l.Pairwise fun x y=>∀ k,knd.is k x.2=true→knd.is k y.2=false) (p:l'.Perm l):l'.Pairwise fun x y=>∀ k,knd.is k x.2=true→knd.is k y.2=false :=
 p.symm.pairwise h fun {x y} z k hk=>by
  cases c:knd.is k x.2 with
  | false=>rfl
  | true=>rw [z k c] at hk;cases hk
theorem zj8 {h:Heap} {a:Addr} {o:Obj} {es:Array (Int × Value)} {ep:Nat} {t:SetTable} (ho:h.get? a=some o) (hx:o.ExactSet) (hd:o.data=.set es ep t) {fs:Array (Int × Value)} {u:SetTable} {S:T→Bool}
  (h1:ElemsOf knd fs.toList) (h2:∀ k,S k=true ↔ ∃ e ∈ fs.toList,knd.is k e.2=true) (h3:fs.size < scanBound) (h4:u.fits fs.size=true) (tb:Tb led u) (ap:fs.toList.Pairwise fun x y=>∀ k,knd.is k x.2=true→knd.is k y.2=false) :
  (h.update a (Obj.putSet fs u)).get? a=some { o with data:=.set fs (ep + 1) u }∧SetT knd led (h.update a (Obj.putSet fs u)) a S fs.size :=
 let z:=(SetOf_store (knd:=knd) (S':=S) ho hx hd h1 h2 h3 h4).1
 ⟨z,_,fs,ep + 1,u,z,hx,rfl,⟨h1,h2⟩,⟨h3,h4,rfl⟩,tb,ap⟩
theorem zj6 {g:Bool→Sem Unit} (hg:∀ (b:Bool) (s1:Shared) (R:Unit→Shared→Prop),R () s1→wpAny (model P w) A (g b) R E s1) {a:Addr} {o:Obj} {es:Array (Int × Value)} {ep:Nat} {t:SetTable}
  (ho:s.heap.get? a=some o) (hx:o.ExactSet) (hd:o.data=.set es ep t) {fs:Array (Int × Value)} {u:SetTable} {S:T→Bool} (h1:ElemsOf knd fs.toList) (h2:∀ k,S k=true ↔ ∃ e ∈ fs.toList,knd.is k e.2=true)
  (h3:fs.size < scanBound) (h4:u.fits fs.size=true) (tb:Tb led u) (ap:fs.toList.Pairwise fun x y=>∀ k,knd.is k x.2=true→knd.is k y.2=false) {wd:Bool} {R:Option Bool→Shared→Prop}
  (h:∀ h',Heap.SameBut a s.heap h'→SetT knd led h' a S fs.size→R (some true) { s with heap:=h' }) :
  wpAny (model P w) A (do
    storeSet a fs u
    if (!wd && u.tooFull)=true then do
      g (relayAll u fs (SetTable.grown fs.size)).2.2
      storeSet a (relayAll u fs (SetTable.grown fs.size)).1 (relayAll u fs (SetTable.grown fs.size)).2.1
      pure (some true)
     else pure (some true)) R E s:=by
 refine wpAny_bind (wpAny_storeSet_of ho hd ?_ (fits_of_scanBound h3))
 obtain ⟨o1,x1⟩:=zj8 (S:=S) ho hx hd h1 h2 h3 h4 tb ap
 have b1:=Heap.SameBut.update s.heap a (Obj.putSet fs u)
 split
 ·have p:=relayAll_perm u fs (SetTable.grown fs.size)
  have f:=relayAll_fits u fs (SetTable.grown fs.size)
  have tb2:=zpn tb fs (SetTable.grown fs.size)
  generalize relayAll u fs (SetTable.grown fs.size)=Z at p f tb2 ⊢
  obtain ⟨gs,v,gave⟩:=Z
  dsimp only at p f tb2 ⊢
  have sz:gs.size=fs.size:=by rw [← y0x,p.length_eq,y0x]
  have i3:gs.size < scanBound:=by rw [sz];exact h3
  refine wpAny_bind (hg _ _ _ (wpAny_bind (wpAny_storeSet_of o1 rfl ?_ (fits_of_scanBound i3))))
  obtain ⟨_,x2⟩:=zj8 (knd:=knd) (S:=S) o1 hx rfl (h1.perm p) (fun k'=>(h2 k').trans ⟨fun ⟨e,m,q⟩=>⟨e,p.mem_iff.mpr m,q⟩,fun ⟨e,m,q⟩=>⟨e,p.mem_iff.mp m,q⟩⟩) i3 f tb2 (zga ap p)
  rw [sz] at x2
  exact wpAny_pure (h _ (b1.trans (Heap.SameBut.update _ a _)) x2)
 ·exact wpAny_pure (h _ b1 x1)
theorem zsn {a:Addr} {S:T→Bool} {n:Nat} {k:T} {x:Value} {Q:Bool→Shared→Prop} (hk:knd.is k x=true) (hs:x.scannable=true) (x0:SetT knd led s.heap a S n) (room:n + 1 < scanBound)
  (h:∀ h',Heap.SameBut a s.heap h'→SetT knd led h' a (fun k'=>S k' || decide (k'=k)) (if S k then n else n + 1)→Q (!S k) { s with heap:=h' }):wpAny (model P w) A (setAddHashed a x (knd.hash k)) Q E s:=by
 obtain ⟨o,es,ep,t,ho,hx,hd,⟨h1,h2⟩,⟨h3,h4,hn⟩,tb,ap⟩:=id x0
 unfold setAddHashed setAddHashedIn
 refine wpAny_holding (wpAny_bind (wpAny_setState_of ho hd h4 ?_))
 dsimp only
 rw [byScan_of hs h3 h1]
 simp only [↓reduceIte]
 unfold setAddByScan
 refine wpAny_bind (wpAny_bind (wpAny_rule (wpAny_bind (wpAny_setScan_of hk ho hd h4 h1 ?_))))
 cases c:List.findIdx? (fun e=>knd.is k e.2) es.toList with
 | some j =>
  dsimp only
  obtain ⟨hj,hp,_⟩:=List.findIdx?_eq_some_iff_getElem.mp c
  have sk:S k=true:=(h2 k).mpr ⟨_,y0q hj,hp⟩
  have z:=h s.heap (Heap.SameBut.refl a s.heap) (x0.congr (fun k'=>by
   cases e:S k' with
   | true=>rfl
   | false=>rw [Bool.false_or,eq_comm,decide_eq_false_iff_not];intro q;rw [q,sk] at e;cases e) (by rw [sk];rfl))
  rw [sk] at z
  refine wpAny_pure (wpAny_pure ?_)
  cases s;exact z
 | none =>
  dsimp only
  have no:=List.findIdx?_eq_none_iff.mp c
  have sk:S k=false:=Bool.eq_false_iff.mpr fun z=>by
   obtain ⟨e,m,q⟩:=(h2 k).mp z
   rw [no e m] at q;cases q
  have lp:=layNew_perm t es (knd.hash k) x
  have lf:=layNew_fits t es (knd.hash k) x
  obtain ⟨lt,ld⟩:=zmj tb es (knd.hash k) x
  generalize layNew t es (knd.hash k) x=Z at lp lf lt ld ⊢
  obtain ⟨fs,u,wd,gave⟩:=Z
  dsimp only at lp lf lt ld ⊢
  rw [y3u] at lp
  have i1:ElemsOf knd fs.toList:=(h1.push hk hs).perm lp
  have i2:∀ k',(S k' || decide (k'=k))=true ↔ ∃ e ∈ fs.toList,knd.is k' e.2=true:=mem_push_iff hk h2 lp
  have sz:fs.size=n + 1:=by rw [← y0x,lp.length_eq,y0c,y0x,hn];rfl
  have i3:fs.size < scanBound:=by rw [sz];exact room
  have ip:fs.toList.Pairwise fun x y=>∀ k,knd.is k x.2=true→knd.is k y.2=false:=by
   refine zga (y1p.mpr ⟨ap,List.pairwise_singleton _ _,fun y hy z hz k' hk'=>?_⟩) lp
   rw [y07.mp hz]
   cases q:knd.is k' x with
   | false=>rfl
   | true =>
    have e:=knd.inj x k' k q hk
    rw [e,no y hy] at hk'
    cases hk'
  have fin:∀ h',Heap.SameBut a s.heap h'→SetT knd led h' a (fun k'=>S k' || decide (k'=k)) fs.size→Q true { s with heap:=h' }:=fun h' b z=>by
   have:=h h' b
   rw [sk] at this
   rw [sz] at z
   exact this z
  refine wpAny_bind ?_
  have gw:∀ (b:Bool) (s1:Shared) (R:Unit→Shared→Prop),R () s1→wpAny (model P w) A (match b with | true=>rule "set.scan.the-table-gave-way" | false=>pure ()) R E s1:=fun b s1 R q=>by cases b <;> first | exact wpAny_pure q | exact wpAny_rule q
  refine gw _ _ _ ?_
  split
  ·refine wpAny_bind ?_
   rw [hashByValue_scannable 8 hs]
   refine wpAny_pure (zj6 (led:=led) gw ho hx hd i1 i2 i3 ?_ ?_ ip fun h' b z=>?_)
   ·split
    ·exact lf
    ·exact SetTable.fits_plain_off lf
   ·split
    ·exact lt
    ·exact zpo lt
   ·dsimp only
    exact wpAny_pure (fin h' b z)
  ·refine wpAny_bind (wpAny_pure ?_)
   simp only [↓reduceIte]
   refine zj6 (led:=led) gw ho hx hd i1 i2 i3 lf lt ip fun h' b z=>?_
   dsimp only
   exact wpAny_pure (fin h' b z)
end
theorem slot_setit_next:Slot "set_iterator" "__next__" "set_iterator.__next__" :=
 .of (owner:="set_iterator") (n:="__next__") (by rw [typeLookup_type,builtinLookup_eq_fast];kernel_rfl) (by decide +kernel) (by decide +kernel) (by decide +kernel) (by first | exact .inl (by decide +kernel) | exact .inr (by decide +kernel)) (by rw [isSubtype_type];kernel_rfl)
theorem zcm:entryFor table "set_iterator.__next__"=some Builtin.«set_iterator.__next__»:=entryFor_of_fast (by kernel_rfl)
theorem zct (v:Value):argsOk "set_iterator.__next__" ⟨[v],[]⟩:=by unfold argsOk;kernel_rfl
theorem zfr:entryFor table "set.__iter__"=some Builtin.«frozenset.__iter__»:=entryFor_alias (id':="frozenset.__iter__") (by kernel_rfl) rfl (by decide +kernel) (by kernel_rfl)
def byT (w:World):Bool:=w.params.followText "set-order"
inductive Way where
 | text
 | drawn (pt:Addr) (pl:List Nat)
 | place
def ordOf (w:World) (a:Addr) (es:Array (Int × Value)) (ep:Nat):Way→List (Int × Value)
 | .text=>(pickOrder (w.params.setOrder a ep) es).toList
 | .drawn _ pl=>pl.filterMap fun i=>es[i]?
 | .place=>es.toList
def WayOk (w:World) (es:Array (Int × Value)) (t:SetTable):Way→Prop
 | .text=>byT w=true
 | .drawn _ pl=>byT w=false∧(!t.plain && decide (es.size > 1))=true∧pl.Perm (List.range es.size)
 | .place=>byT w=false∧(!t.plain && decide (es.size > 1))=false
def FirstIs (h:Heap) (t:SetTable) (i:Nat) (v:Value):Way→Prop
 | .text=>v=.int 0 0
 | .drawn pt pl=>v=.ref pt∧∃ o n,h.get? pt=some o∧o.data=.seq (pl.map fun j:Nat=>rawInt j).toArray n
 | .place=>∃ j:Nat,v=.int j 0∧SetTable.below t.place j=i
structure SetSt (w:World) (it a:Addr) (es:Array (Int × Value)) (ep:Nat) (t:SetTable) (y:Way) (i:Nat) (h:Heap):Prop where
 st:∃ o,h.get? a=some o∧o.data=.set es ep t
 it:∃ o v,h.get? it=some o∧o.cls=.type "set_iterator"∧o.data=.fields #[v,.int i 0,.ref a,.int es.size 0,.int ep 0]∧FirstIs h t i v y
theorem zoo {α β:Type} {f:α→Option β} {g:α→β}:∀ (l:List α),(∀ x ∈ l,f x=some (g x))→l.filterMap f=l.map g
 | [],_=>rfl
 | x :: l,h=>by rw [y1s,h x y0d,y0u,zoo l fun y hy=>h y (y08 _ hy)]
section
variable {P:Program} {w:World} {A:Around} {E:Z0} {s:Shared}
theorem zgl {a:Addr} {es:Array (Int × Value)} {ep:Nat} {t:SetTable} {y:Way} (h:WayOk w es t y):(ordOf w a es ep y).Perm es.toList:=by
 cases y with
 | text=>exact zm6 _ _
 | place=>exact .refl _
 | drawn pt pl =>
  have e:es.toList=(List.range es.size).filterMap fun i=>es[i]?:=by
   refine y16 fun i=>?_
   have:((List.range es.size).filterMap fun i=>es[i]?)=(List.range es.size).map fun i=>es.getD i default:=by
    refine zoo _ fun i hi=>?_
    rw [y14 (y0k.mp hi),Array.getD,dif_pos (y0k.mp hi)]
    rfl
   rw [this,y02]
   by_cases hi:i < es.size
   ·rw [y0j hi,y1b,y14 hi,y21,Array.getD,dif_pos hi]
    rfl
   ·rw [y0e (by simpa using hi),y0e (by simpa using hi)]
    rfl
  rw [e]
  exact h.2.2.filterMap _
theorem zl1 {M:Model} {A:Around} {src:Source} {n:Nat} {Q:Nat→Shared→Prop} {E:Z0} {s:Shared} (hn:n ≠ 0) (h:∀ i d,i < n→Q i { s with drawn:=d }):wpAny M A (choose src n) Q E s :=
 fun Γ p hΓ=>⟨hn,h _ _ (y3n _ (Nat.pos_of_ne_zero hn))⟩
theorem zq9 {M:Model} {A:Around} {α:Type} {E:Z0} (n:Nat):∀ (xs:List α) (s:Shared) (Q:List α→Shared→Prop),xs.length=n→(∀ ys d,ys.Perm xs→Q ys { s with drawn:=d })→wpAny M A (drawOrder n xs) Q E s:=by
 induction n with
 | zero =>
  intro xs s Q hn h
  cases List.eq_nil_of_length_eq_zero hn
  unfold drawOrder
  exact wpAny_pure (h [] s.drawn (.refl _))
 | succ n ih =>
  intro xs s Q hn h
  cases xs with
  | nil=>cases hn
  | cons x xs =>
   unfold drawOrder
   refine wpAny_bind (zl1 (by simp) fun i d hi=>?_)
   rw [y01 hi]
   simp only
   refine wpAny_bind (ih _ _ _ (by rw [y42 hi];omega) fun ys d' p=>?_)
   refine wpAny_pure (h _ d' ?_)
   generalize hl:x :: xs=l at hi p ⊢
   have e:l=l.take i ++ l[i] :: l.drop (i + 1):=by rw [y3g,y2c]
   rw [y3t] at p
   conv=>rhs;rw [e]
   exact (List.Perm.cons _ p).trans y3z.symm
theorem SetSt.ty {it a:Addr} {es:Array (Int × Value)} {ep:Nat} {t:SetTable} {y:Way} {i:Nat} (x:SetSt w it a es ep t y i s.heap):s.TypeIs (.ref it) "set_iterator":=let ⟨o,_,ho,hc,_⟩:=x.it;⟨o,ho,hc⟩
theorem zby {h:Heap} {a:Addr} {o:Obj} {vs:Array Value} (ho:h.get? a=some o) (hd:o.data=.fields vs) (i:Nat) (x:Value):∃ o',(h.update a (Obj.mapFields (·.setIfInBounds i x))).get? a=some o'∧o'.cls=o.cls∧o'.data=.fields (vs.setIfInBounds i x) :=
 ⟨_,y2d _ ho (Obj.isFreed_of_fields (Obj.data_mapFields hd _)),Obj.cls_mapFields ..,by rw [Obj.data_mapFields hd]⟩
theorem zsd {M:Model} {α:Type} {c:Prop} [Decidable c] {x y:Sem α} {Q:α→Shared→Prop} (hc:c) (h:wpAny M A x Q E s):wpAny M A (if c then x else y) Q E s:=by rw [if_pos hc];exact h
theorem zmb {M:Model} {α:Type} {c:Prop} [Decidable c] {x y:Sem α} {Q:α→Shared→Prop} (hc:¬ c) (h:wpAny M A y Q E s):wpAny M A (if c then x else y) Q E s:=by rw [if_neg hc];exact h
theorem zd3 {a:Addr} {o:Obj} {es:Array (Int × Value)} {ep j i:Nat} {t:SetTable} {Q:Option (Value × Nat)→Shared→Prop} (ho:s.heap.get? a=some o) (hd:o.data=.set es ep t) (hf:t.fits es.size=true) (hb:byT w=true)
  (q:Q (((ordOf w a es ep .text)[i]?).map fun e=>(e.2,j)) s):wpAny (model P w) A (setNext a j i ep) Q E s:=by
 unfold setNext
 refine wpAny_bind (wpAny_setState_of ho hd hf ?_)
 dsimp only
 unfold setsByText
 refine wpAny_bind (wpAny_bind (wpAny_askSetting (wpAny_pure ?_)))
 refine zsd hb (zmb (by simp) ?_)
 unfold setWalk
 refine wpAny_bind (wpAny_bind (wpAny_setState_of ho hd hf ?_))
 dsimp only
 unfold setsByText
 refine wpAny_bind (wpAny_bind (wpAny_askSetting (wpAny_pure ?_)))
 refine zsd hb ?_
 refine wpAny_bind (wpAny_askSetting (wpAny_pure (wpAny_pure ?_)))
 have e:(ordOf w a es ep .text)[i]?=(pickOrder (w.params.setOrder a ep) es)[i]?:=by show (pickOrder (w.params.setOrder a ep) es).toList[i]?=_;rw [y1b]
 rw [e] at q
 exact q
theorem zdh {a:Addr} {o:Obj} {es:Array (Int × Value)} {ep j i:Nat} {t:SetTable} {Q:Option (Value × Nat)→Shared→Prop} (ho:s.heap.get? a=some o) (hd:o.data=.set es ep t) (hf:t.fits es.size=true) (hb:byT w=false) (hp:(!t.plain && decide (es.size > 1))=false) (tb:Tb (!byT w) t)
  (q:Q (match es[SetTable.below t.place j]?,t.place[SetTable.below t.place j]? with | some (_,x),some j=>some (x,j + 1) | _,_=>none) s):wpAny (model P w) A (setNext a j i ep) Q E s:=by
 unfold setNext
 refine wpAny_bind (wpAny_setState_of ho hd hf ?_)
 dsimp only
 unfold setsByText
 refine wpAny_bind (wpAny_bind (wpAny_askSetting (wpAny_pure ?_)))
 refine zmb (fun z=>by rw [show byT w=true from z] at hb;cases hb) (zmb (fun z=>by rw [show (!t.plain && decide (es.size > 1))=true from z] at hp;cases hp) ?_)
 have hl:t.led=true:=by rw [tb.led,hb];rfl
 refine wpAny_bind ?_
 refine zmb (c:=(!t.led && !es.isEmpty)=true) (by rw [hl];simp) (wpAny_pure (wpAny_pure q))
theorem zpv {it a:Addr} {es:Array (Int × Value)} {ep:Nat} {t:SetTable} {y:Way} {i:Nat} {k:Int} {x:Value} {Q:Z9} (hy:WayOk w es t y) (tb:Tb (!byT w) t) (hf:t.fits es.size=true) (st:SetSt w it a es ep t y i s.heap) (hne:a ≠ it) (hpt:∀ pt pl,y=.drawn pt pl→pt ≠ it) (hx:(ordOf w a es ep y)[i]?=some (k,x))
  (q:∀ h',SetSt w it a es ep t y (i + 1) h'→Heap.SameBut it s.heap h'→Q (some x) { s with heap:=h' }):wpAny (model P w) A (pyNext (.ref it)) Q E s:=by
 have ty:=st.ty
 obtain ⟨⟨oa,ha,da⟩,oi,v,hi,ci,di,fi⟩:=st
 unfold pyNext
 refine wpAny_bind (wpAny_attempt (wpAny_callSpecial?_slot (name:=Str.ofString "__next__") ty slot_setit_next (wpAny_call_entry slot_setit_next ty zcm ?_ (zct _))))
 unfold Builtin.«set_iterator.__next__»
 refine wpAny_bind (wpAny_pure ?_)
 refine wpAny_bind (wpAny_fieldsOf hi di ?_)
 dsimp only
 refine wpAny_bind (wpAny_setEntries_of ha da hf ?_)
 rw [if_neg (by simp)]
 simp only [y1u]
 cases y with
 | text =>
  have fv:v=.int 0 0:=fi
  subst fv
  dsimp only
  refine wpAny_bind (zd3 ha da hf hy ?_)
  rw [hx]
  dsimp only [y21]
  refine wpAny_bind (wpAny_setField hi di (by simp) ?_)
  obtain ⟨o1,h1,c1,d1⟩:=zby hi di 0 (rawInt ((0:Int).toNat:Int))
  refine wpAny_bind (wpAny_setField h1 d1 (by simp) ?_)
  obtain ⟨o2,h2,c2,d2⟩:=zby h1 d1 1 (rawInt ((i:Int) + 1))
  have sb:=(Heap.SameBut.update s.heap it (Obj.mapFields (·.setIfInBounds 0 (rawInt ((0:Int).toNat:Int))))).trans (Heap.SameBut.update _ it (Obj.mapFields (·.setIfInBounds 1 (rawInt ((i:Int) + 1)))))
  refine wpAny_pure ⟨x,rfl,wpAny_pure (q _ ⟨⟨oa,by rw [sb.2 a hne];exact ha,da⟩,o2,.int 0 0,h2,by rw [c2,c1,ci],by rw [d2];rfl,rfl⟩ sb)⟩
 | drawn pt pl =>
  obtain ⟨fv,op,n,hp,dp⟩:=fi
  subst fv
  dsimp only
  refine wpAny_bind (wpAny_seqItems hp dp ?_)
  dsimp only
  obtain ⟨j,hj,hjx⟩:∃ j,pl[i]?=some j∧es[j]?=some (k,x):=by
   have e:ordOf w a es ep (.drawn pt pl)=pl.map fun j=>es.getD j default:=zoo _ fun j hj=>by
    have:=y0k.mp (hy.2.2.mem_iff.mp hj)
    rw [y14 this,Array.getD,dif_pos this]
    rfl
   rw [e,y02] at hx
   obtain ⟨j,hj,ej⟩:=y0z.mp hx
   have hlt:=y0k.mp (hy.2.2.mem_iff.mp (y0a hj))
   refine ⟨j,hj,?_⟩
   rw [y14 hlt]
   rw [Array.getD,dif_pos hlt] at ej
   exact congrArg some ej
  have hj':(pl.map fun j:Nat=>rawInt j).toArray[i]?=some (.int j 0):=by
   rw [List.getElem?_toArray,y02,hj]
   rfl
  rw [hj']
  dsimp only
  unfold setNextDrawn
  refine wpAny_bind (wpAny_bind (wpAny_setState_of ha da hf ?_))
  dsimp only
  refine zmb (by simp) ?_
  simp only [y1u,hjx]
  refine wpAny_pure ?_
  refine wpAny_bind (wpAny_setField hi di (by simp) ?_)
  obtain ⟨o2,h2,c2,d2⟩:=zby hi di 1 (rawInt ((i:Int) + 1))
  have sb:=Heap.SameBut.update s.heap it (Obj.mapFields (·.setIfInBounds 1 (rawInt ((i:Int) + 1))))
  refine wpAny_pure ⟨x,rfl,wpAny_pure (q _ ⟨⟨oa,by rw [sb.2 a hne];exact ha,da⟩,o2,.ref pt,h2,by rw [c2,ci],by rw [d2];rfl,rfl,op,n,by rw [sb.2 pt (hpt pt pl rfl)];exact hp,dp⟩ sb)⟩
 | place =>
  obtain ⟨j,fv,fb⟩:=fi
  subst fv
  dsimp only
  refine wpAny_bind (zdh ha da hf hy.1 hy.2 tb ?_)
  have hx':es[i]?=some (k,x):=by
   have:es.toList[i]?=some (k,x):=hx
   rw [y1b] at this
   exact this
  have hlt:i < es.size:=(y2a.mp hx').1
  have hpz:t.place.size=es.size:=by
   simp only [SetTable.fits,y18,beq_iff_eq] at hf
   exact hf.1
  have hpl:t.place[i]?=some (t.place.getD i 0):=by rw [y14 (by omega),Array.getD,dif_pos (by omega)];rfl
  rw [y1u,fb,hx',hpl]
  dsimp only
  refine wpAny_bind (wpAny_setField hi di (by simp) ?_)
  obtain ⟨o1,h1,c1,d1⟩:=zby hi di 0 (rawInt ((t.place.getD i 0 + 1:Nat):Int))
  refine wpAny_bind (wpAny_setField h1 d1 (by simp) ?_)
  obtain ⟨o2,h2,c2,d2⟩:=zby h1 d1 1 (rawInt ((i:Int) + 1))
  have sb:=(Heap.SameBut.update s.heap it (Obj.mapFields (·.setIfInBounds 0 (rawInt ((t.place.getD i 0 + 1:Nat):Int))))).trans (Heap.SameBut.update _ it (Obj.mapFields (·.setIfInBounds 1 (rawInt ((i:Int) + 1)))))
  refine wpAny_pure ⟨x,rfl,wpAny_pure (q _ ⟨⟨oa,by rw [sb.2 a hne];exact ha,da⟩,o2,_,h2,by rw [c2,c1,ci],by rw [d2];rfl,t.place.getD i 0 + 1,rfl,zl6 tb.rise (by omega)⟩ sb)⟩
theorem zgi {it:Addr} {h1:Heap} {Q:Z9} {R:Fin→Shared→Prop} (hh:A.handled=none) (e1:Heap.ExtBut it s.heap h1) (q:∀ h',Heap.ExtBut it s.heap h'→Q none { s with heap:=h' }) :
  wpAny (model P w) A.in1 (newExc (.type "StopIteration") [] >>= raiseNew) R (fun e s'=>wpAny (model P w) A (isInstance e (.type "StopIteration") >>= fun b=>if b=true then pure none else throw e) Q E s') { s with heap:=h1 }:=by
 refine wpAny_bind ?_;simp only [newExc,newTuple]
 refine wpAny_bind (wpAny_newObj_type (wpAny_bind (m:=firstArgMember _ _) (wpAny_of_eq (a:=Value.none) (by first | rfl | (simp only [firstArgMember];rfl)) (wpAny_newObj_type ?_ (by size_fits)))) (by size_fits))
 simp only [raiseNew];refine wpAny_bind (wpAny_handled ?_)
 rw [show A.in1.handled=none from hh];refine wpAny_bind (wpAny_pure (wpAny_throw ?_))
 refine wpAny_bind (wpAny_isInstance (s:={ s with heap:=_ }) (T:="StopIteration") (b:=true) ⟨_,y0m _ rfl,rfl⟩ isSubtype_stop ?_);exact wpAny_pure (q _ ((e1.push _).push _))
theorem zsm {it a:Addr} {es:Array (Int × Value)} {ep:Nat} {t:SetTable} {y:Way} {Q:Z9} (hh:A.handled=none) (hy:WayOk w es t y) (tb:Tb (!byT w) t) (hf:t.fits es.size=true) (st:SetSt w it a es ep t y es.size s.heap)
  (q:∀ h',Heap.ExtBut it s.heap h'→Q none { s with heap:=h' }):wpAny (model P w) A (pyNext (.ref it)) Q E s:=by
 have ty:=st.ty
 obtain ⟨⟨oa,ha,da⟩,oi,v,hi,ci,di,fi⟩:=st
 unfold pyNext
 refine wpAny_bind (wpAny_attempt (wpAny_callSpecial?_slot (name:=Str.ofString "__next__") ty slot_setit_next (wpAny_call_entry slot_setit_next ty zcm ?_ (zct _))))
 unfold Builtin.«set_iterator.__next__»
 refine wpAny_bind (wpAny_pure ?_)
 refine wpAny_bind (wpAny_fieldsOf hi di ?_)
 dsimp only
 refine wpAny_bind (wpAny_setEntries_of ha da hf ?_)
 rw [if_neg (by simp)]
 simp only [y1u]
 have hpz:t.place.size=es.size:=by
  simp only [SetTable.fits,y18,beq_iff_eq] at hf
  exact hf.1
 cases y with
 | text =>
  have fv:v=.int 0 0:=fi
  subst fv
  dsimp only
  refine wpAny_bind (zd3 ha da hf hy ?_)
  rw [y0e (by rw [(zgl (a:=a) (ep:=ep) hy).length_eq];simp)]
  dsimp only [Option.map_none]
  exact wpAny_bind (wpAny_setField hi di (by simp) (zgi hh (Heap.SameBut.update ..).extBut q))
 | drawn pt pl =>
  obtain ⟨fv,op,n,hp,dp⟩:=fi
  subst fv
  dsimp only
  refine wpAny_bind (wpAny_seqItems hp dp ?_)
  dsimp only
  rw [y3h (by rw [y06,y00,hy.2.2.length_eq,y0t];exact y05 _)]
  dsimp only
  show wpAny _ _ (setField (.ref it) 0 (rawInt 0) >>= fun _=>setField (.ref it) 2 Value.none >>= fun _=>(newExc (.type "StopIteration") [] >>= raiseNew)) _ _ s
  obtain ⟨o1,h1,c1,d1⟩:=zby hi di 0 (rawInt 0)
  refine wpAny_bind (wpAny_setField hi di (by simp) ?_)
  refine wpAny_bind (wpAny_setField h1 d1 (by simp) ?_)
  exact zgi (s:=s) hh ((Heap.SameBut.update s.heap it _).trans (Heap.SameBut.update _ it _)).extBut q
 | place =>
  obtain ⟨j,fv,fb⟩:=fi
  subst fv
  dsimp only
  refine wpAny_bind (zdh ha da hf hy.1 hy.2 tb ?_)
  rw [y1u,fb,y3h (y05 _)]
  dsimp only
  exact wpAny_bind (wpAny_setField hi di (by simp) (zgi hh (Heap.SameBut.update ..).extBut q))
theorem SetSt.kept {it a:Addr} {es:Array (Int × Value)} {ep:Nat} {t:SetTable} {y:Way} {i:Nat} {h h':Heap} (x:SetSt w it a es ep t y i h) (k:∀ b o,(b=it∨b=a∨∃ pl,y=.drawn b pl)→h.get? b=some o→h'.get? b=some o):SetSt w it a es ep t y i h':=by
 obtain ⟨⟨oa,ha,da⟩,oi,v,hi,ci,di,fi⟩:=x
 refine ⟨⟨oa,k a oa (.inr (.inl rfl)) ha,da⟩,oi,v,k it oi (.inl rfl) hi,ci,di,?_⟩
 cases y with
 | text=>exact fi
 | place=>exact fi
 | drawn pt pl =>
  obtain ⟨fv,op,n,hp,dp⟩:=fi
  exact ⟨fv,op,n,k pt op (.inr (.inr ⟨pl,rfl⟩)) hp,dp⟩
def Way.fp:Way→List Addr
 | .drawn pt _=>[pt]
 | _=>[]
theorem Way.mem_fp {y:Way} {b:Addr}:(∃ pl,y=.drawn b pl) ↔ b ∈ y.fp:=by
 cases y with
 | text=>exact ⟨fun ⟨_,h⟩=>(nomatch h),fun h=>(nomatch h)⟩
 | place=>exact ⟨fun ⟨_,h⟩=>(nomatch h),fun h=>(nomatch h)⟩
 | drawn pt pl =>
  constructor
  ·rintro ⟨pl',h⟩
   cases h
   exact y07.mpr rfl
  ·intro h
   rw [y07.mp h]
   exact ⟨pl,rfl⟩
theorem Walks.set (hh:A.handled=none) {it a:Addr} {es:Array (Int × Value)} {ep:Nat} {t:SetTable} {y:Way} (hne:a ≠ it) (hpt:∀ pt pl,y=.drawn pt pl→pt ≠ it) (hy:WayOk w es t y) (tb:Tb (!byT w) t) (hf:t.fits es.size=true) (hself:∀ (s:Shared) (Q:Z0) (E:Z0),s.TypeIs (.ref it) "set_iterator"→Q (.ref it) s→wpAny (model P w) A (pyIter (.ref it)) Q E s) :
  Walks P w A it (it :: a :: y.fp) [it] es.size (fun i v=>∃ k,(ordOf w a es ep y)[i]?=some (k,v)) (fun i h=>SetSt w it a es ep t y i h) where
 sub:=fun b hb=>by rw [y07.mp hb];exact y0d
 frame:=fun i h h' x k=>x.kept fun b o hb e=>k b (by
  rcases hb with rfl | rfl | hb
  ·exact y0d
  ·exact y08 _ y0d
  ·exact y08 _ (y08 _ (Way.mem_fp.mp hb))) o e
 item:=fun i s Q E hi x q=>by
  have hl:i < (ordOf w a es ep y).length:=by rw [(zgl (a:=a) (ep:=ep) hy).length_eq];simpa using hi
  refine zpv hy tb hf x hne hpt (y01 hl) fun h' x' sb=>q _ h' s.toks ⟨_,y01 hl⟩ x' fun b o hb e=>?_
  rw [sb.2 b fun z=>hb (by rw [z];exact y07.mpr rfl)]
  exact e
 done:=fun s Q E x q=>zsm hh hy tb hf x fun h' e1=>q h' s.toks fun b o hb e=>e1 b o (fun z=>hb (by rw [z];exact y07.mpr rfl)) e
 self:=fun i s Q E x q=>hself s Q E x.ty q
end
local instance (priority:=10000):BEq Key:=instBEqOfDecidableEq
section
variable {prog:Program} {w:World} {A:Around} {E:Z0} {s:Shared}
theorem zet (a:Value) {Q₁:Z0}
  (h:Q₁ (.ref s.heap.objs.size) { s with heap:=s.heap.push { cls:=.type "set",dict:=none,data:=.set #[] 0 (.fresh 0 0 (!byT w)) } }) :
  codeAny (model prog w) A (.call (.builtin "set.__new__") ⟨[.type "set",a],[]⟩) (wants Q₁ E) s:=by
 refine codeAny_of_tree ?_
 show wpAny _ A.in1 (do checkBuiltinCall "set.__new__" ⟨[.type "set",a],[]⟩;again (.builtin "set.__new__" ⟨[.type "set",a],[]⟩)) _ _ s
 refine wpAny_bind (wpAny_of_eq (F.newCall_set_1 a) (wpAny_pure ⟨plainId_quiet F.plain_set_new _,codeAny_builtin F.entry_set_new ?_⟩))
 rw [Around.under_plainId F.plain_set_new _]
 unfold Builtin.«set.__new__» Builtin.Frozenset.newClass
 have hsub:=sub_set_self
 obtain ⟨hp,g,d,tk,os⟩:=s
 dsimp only
 wp_walk
 refine wpAny_askSetting (wpAny_pure ?_)
 dsimp only
 simp only [newObj]
 refine wpAny_bind (wpAny_alloc (wpAny_pure ?_))
 exact wpAny_pure h
end
section
variable {P:Program} {w:World} {A:Around} {R:Result→Shared→Prop} {it:Addr} {fp wr:List Addr} {G:Array GenState→Array GenState→Prop} {n:Nat} {Pv:Nat→Value→Prop} {St:Nat→Shared→Prop}
def SetTs (P:Program) (w:World) (h:Heap) (a:Addr) (ks:List Int):Prop:=∃ n,n ≤ ks.length∧SetT (intKind P w) (!byT w) h a (fun k=>decide (k ∈ ks)) n
theorem SetTs.kept {P:Program} {w:World} {h h':Heap} {a:Addr} {ks:List Int} (x:SetTs P w h a ks) (k:∀ o,h.get? a=some o→h'.get? a=some o):SetTs P w h' a ks:=let ⟨n,l,x⟩:=x;⟨n,l,SetT.kept x k⟩
theorem zpw {P:Program} {w:World} {k:Int} {v:Value} (h:(intKind P w).is k v=true):v.scannable=true:=by
 obtain ⟨t,rfl⟩:=Value.isInt_shape h
 rfl
theorem zk9 (W:WalksS P w A.in1 it fp wr G n Pv St) (a:Addr) (ha:a ∉ fp) (ks:List Int) (hn:ks.length=n) (hv:∀ i v,Pv i v→∀ k,ks[i]?=some k→(intKind P w).is k v=true) (hb:n + 1 < scanBound) :
  ∀ (m i:Nat) (s:Shared),n - i=m→i ≤ n→St i s→SetTs P w s.heap a (ks.take i)→(∀ s',Moved (a :: wr) G s s'→SetTs P w s'.heap a ks→R (.ok (.ret .none)) s') →
   codeAny (model P w) A (.builtin "set.update.loop" ⟨[.ref a,.ref it],[]⟩) R s:=by
 have haw:a ∉ wr:=fun h=>ha (W.sub _ h)
 have up:∀ b ∈ wr,b ∈ a :: wr:=fun b h=>y08 _ h
 intro m
 induction m with
 | zero =>
  intro i s hm hi st x q
  obtain rfl:i=n:=by omega
  rw [y0r (y3m hn)] at x
  refine codeAny_builtin F.entry_set_update_loop ?_
  rw [Around.under_plainId F.plain_set_update_loop _]
  refine wpAny_bind (W.done s _ _ st fun s' mv=>wpAny_pure (q s' (mv.mono up) (x.kept fun o e=>mv.heap a _ haw e)))
 | succ m ih =>
  intro i s hm hi st x q
  have lt:i < n:=by omega
  have hk:ks[i]?=some ks[i]:=by simp [hn,lt]
  refine codeAny_builtin F.entry_set_update_loop ?_
  rw [Around.under_plainId F.plain_set_update_loop _]
  refine wpAny_bind (W.item i s _ _ lt st fun v s' pv st' mv=>?_)
  have is:=hv i v pv _ hk
  have x':=x.kept (h':=s'.heap) fun o e=>mv.heap a _ haw e
  refine wpAny_bind (m:=holding [v] (setAdd a v)) (wpAny_holding ?_)
  unfold setAdd
  refine wpAny_holding (wpAny_bind ((intKind P w).pyHash (k:=ks[i]) is ?_))
  obtain ⟨nn,hnn,x'⟩:=x'
  have room:nn ≤ i:=y13 hnn (by rw [y0y];omega)
  refine zsn (knd:=intKind P w) (s:={ s' with toks:=s'.toks + 1 }) is (zpw is) x' (by omega) fun h' sb x2=>?_
  have x3:SetTs P w h' a (ks.take (i + 1)):=by
   refine ⟨_,?_,SetT.congr x2 (fun k'=>?_) rfl⟩
   ·have el:(ks.take (i + 1)).length=i + 1:=by rw [y0y];omega
    rw [el]
    split <;> omega
   ·rw [y1e,hk,y1f]
    rw [y35]
    simp only [Bool.or_eq_true,decide_eq_true_eq,y0i,y07]
  refine wpAny_pure ⟨plainId_quiet F.plain_set_update_loop _,ih (i + 1) _ (by omega) lt (W.frame _ s' _ _ st' (Nat.le_succ _) fun b hb o e=>?_) x3 fun s2 mv2 x4=>?_⟩
  ·rw [sb.2 b (fun h=>ha (h ▸ hb))];exact e
  ·refine q s2 (Moved.trans W.gtrans ((mv.mono up).then_heap (Nat.le_succ _) fun b o hb e=>?_) mv2) x4
   rw [sb.2 b (fun h=>hb (h ▸ y0d))];exact e
end
section
variable {P:Program} {w:World} {A:Around} {E:Z0} {s:Shared}
set_option maxHeartbeats 3200000 in
theorem zhr {l:Addr} {its:Array Value} {ks:List Int} {Q:Z0} (hh:A.handled=none) (hl:s.heap.IsList l its) (hk:ks.length=its.size) (hi:∀ (i:Nat) v k,its[i]?=some v→ks[i]?=some k→(intKind P w).is k v=true)
  (hb:its.size + 1 < scanBound)
  (h:∀ (h':Heap) (tk:Nat),SetTs P w h' s.heap.objs.size ks→(∀ b o,b < s.heap.objs.size→s.heap.get? b=some o→h'.get? b=some o)→Q (.ref s.heap.objs.size) { s with heap:=h',toks:=tk }) :
  wpAny (model P w) A (call (.type "set") [.ref l]) Q E s:=by
 obtain ⟨c,tl,hmro⟩:=F.called_set.mro
 have made:=F.called_set.made
 have sub:=F.called_set.sub
 refine wpAny_call (codeAny_of_tree (wpAny_pure ⟨Code.quiet_builtin _ (by decide +kernel),codeAny_builtin F.entry_type_call ?_⟩))
 rw [Around.under_plain (weight_type_call_type "set" [.ref l] []) rfl]
 have a1:=F.called_set.notType
 have a2:=F.called_set.canCreate
 have a3:=F.typeCall_set_1 (.ref l)
 repeat (any_goals (first | assumption | wp_step))
 refine codeAny_mono (zet (.ref l) (E:=E) (Q₁:=fun obj s1=>obj=.ref s.heap.objs.size∧s1={ s with heap:=s.heap.push { cls:=.type "set",dict:=none,data:=.set #[] 0 (.fresh 0 0 (!byT w)) } }) ⟨rfl,rfl⟩) fun r s1 hr=>?_
 cases r with
 | error e=>exact hr
 | ok fl =>
  cases fl with
  | ret obj =>
   obtain ⟨rfl,rfl⟩:=hr
   have at0:(s.heap.push { cls:=.type "set",dict:=none,data:=.set #[] 0 (.fresh 0 0 (!byT w)) }).get? s.heap.objs.size=some { cls:=.type "set",dict:=none,data:=.set #[] 0 (.fresh 0 0 (!byT w)) }:=y0m _ rfl
   have ty:Shared.TypeIs { s with heap:=s.heap.push { cls:=.type "set",dict:=none,data:=.set #[] 0 (.fresh 0 0 (!byT w)) } } (.ref s.heap.objs.size) "set":=⟨_,at0,rfl⟩
   have i1:=F.called_set.init.lookup
   have i2:=F.called_set.init.bind (.ref s.heap.objs.size)
   repeat (any_goals (first | assumption | wp_step))
   refine codeAny_mono (codeAny_call_builtin (R:=wants (fun r s2=>r=.none∧∃ h' tk,s2={ s with heap:=h',toks:=tk }∧SetTs P w h' s.heap.objs.size ks ∧
     (∀ b o,b < s.heap.objs.size→s.heap.get? b=some o→h'.get? b=some o)) E) F.called_set.init.plain F.entry_set_init (check_set_init_1 ty ?_)) fun r2 s2 hr2=>?_
   ·obtain ⟨ol,ho,hc,nl,hd⟩:=hl
    obtain ⟨oc,od,oda,osl⟩:=ol
    simp only at hc hd
    subst hc;subst hd
    have ho':(s.heap.push { cls:=.type "set",dict:=none,data:=.set #[] 0 (.fresh 0 0 (!byT w)) }).get? l=some { cls:=.type "list",dict:=od,data:=.seq its nl,slots:=osl }:=y0b _ ho
    have b1:=F.sub_list_set
    have b2:=F.sub_list_frozenset
    have b3:(Value.type "list" == Value.type "dict")=false:=by decide
    have hl1:(s.heap.push { cls:=.type "set",dict:=none,data:=.set #[] 0 (.fresh 0 0 (!byT w)) }).IsList l its:=⟨_,ho',rfl,nl,rfl⟩
    unfold Builtin.«set.__init__» noKeywords Builtin.Frozenset.updateFrom
    generalize hPI:pyIter=PI
    wp_walk
    subst hPI
    refine wpAny_pyIter_list hl1 ?_
    refine wpAny_bind (wpAny_runValue ?_)
    have ll:l < s.heap.objs.size:=y0g ho
    have h3:A.in1.in1.in1.handled=none:=by simp [hh]
    have ne:l ≠ (s.heap.push { cls:=.type "set",dict:=none,data:=.set #[] 0 (.fresh 0 0 (!byT w)) }).objs.size:=by rw [y1i];exact y0n (y25 ll)
    have nf:s.heap.objs.size ∉ [(s.heap.push { cls:=.type "set",dict:=none,data:=.set #[] 0 (.fresh 0 0 (!byT w)) }).objs.size,l]:=by
     rw [y1i]
     intro z
     rcases y0f.mp z with z | z
     ·exact absurd z (y0n (y3y _))
     ·exact absurd (y07.mp z) (y1j ll)
    refine zk9 ((Walks.list h3 _ l ne its).toS) s.heap.objs.size nf ks hk (fun i v pv k e=>hi i v k pv e) hb (its.size - 0) 0 _ (by omega) (y1k _) ⟨⟨_,y0m _ rfl,rfl,rfl⟩,(hl1.push _)⟩ ?x0 ?q0
    case x0 =>
     refine SetTs.kept (h:=s.heap.push { cls:=.type "set",dict:=none,data:=.set #[] 0 (.fresh 0 0 (!byT w)) }) ?_ fun o e=>y0b _ e
     rw [y2v]
     obtain ⟨o,es,ep,t,ho,hx,hd,h12,h3⟩:=(setObjOf_fresh (knd:=intKind P w) (!byT w)).setOf at0 (by unfold scanBound;omega)
     have eo:o=_:=(Option.some.inj (at0.symm.trans ho)).symm
     subst eo
     have hd':Data.set #[] 0 (.fresh 0 0 (!byT w))=Data.set es ep t:=hd
     injection hd' with e1 e2 e3
     subst e1;subst e2;subst e3
     exact ⟨0,y05 _,_,_,_,_,at0,hx,rfl,⟨h12,fun k=>by simp⟩,h3.2,zpp _ _ _,.nil⟩
    case q0 =>
     intro s' mv x'
     obtain ⟨h',g',d',tk',os'⟩:=s'
     have eg:g'=s.gens:=mv.gens
     have ed:d'=s.drawn:=mv.drawn
     have eo:os'=s.os:=mv.os
     subst eg;subst ed;subst eo
     refine wpAny_pure (wpAny_pure ⟨rfl,h',tk',rfl,x',fun b o hb e=>mv.heap b o ?_ (y0b _ (y0b _ e))⟩)
     rw [y1i]
     intro z
     rcases y0f.mp z with z | z
     ·exact absurd z (y0n hb)
     ·exact absurd (y07.mp z) (y0n (y25 hb))
   ·cases r2 with
    | error e=>exact hr2
    | ok f2 =>
     cases f2 with
     | ret r =>
      obtain ⟨rfl,h',tk,rfl,x',k'⟩:=hr2
      repeat (any_goals (first | assumption | wp_step))
      exact h _ _ x' k'
     | _=>exact hr2.elim
  | _=>exact hr.elim
end
def advM (mask:Nat) (p:SetTable.Probe):SetTable.Probe:=SetTable.advance { mask,place:=#[],dummies:=#[],finger:=0,led:=true,moves:=0,plain:=true } p
def startM (mask:Nat) (h:Int):SetTable.Probe:=SetTable.probeStart { mask,place:=#[],dummies:=#[],finger:=0,led:=true,moves:=0,plain:=true } h
def seqP (mask:Nat) (h:Int):Nat→SetTable.Probe
 | 0=>startM mask h
 | k + 1=>advM mask (seqP mask h k)
def headP (mask i pert:Nat):SetTable.Probe:={ j:=i,more:=SetTable.runEnd mask i - i,i,perturb:=pert,dummy:=none }
theorem zeu {mask i:Nat} (h:i ≤ mask):i ≤ SetTable.runEnd mask i∧SetTable.runEnd mask i ≤ mask∧SetTable.runEnd mask i ≤ i + 9:=by
 unfold SetTable.runEnd
 split <;> omega
structure Good (mask:Nat) (p:SetTable.Probe):Prop where
 i:p.i ≤ mask
 j:p.j + p.more ≤ mask
 d:p.dummy=none
theorem zh4 {mask i pert:Nat} (h:i ≤ mask):Good mask (headP mask i pert):=by
 have:=zeu h
 exact ⟨h,by show i + (SetTable.runEnd mask i - i) ≤ mask;omega,rfl⟩
theorem zg8 {mask:Nat} {p:SetTable.Probe} (h:p.more > 0):advM mask p={ p with j:=p.j + 1,more:=p.more - 1 }:=by
 unfold advM SetTable.advance
 rw [if_pos h]
theorem zk1 {mask:Nat} {p:SetTable.Probe} (h:p.more=0) (hd:p.dummy=none):advM mask p=headP mask ((p.i * 5 + 1 + p.perturb / 32) % (mask + 1)) (p.perturb / 32):=by
 unfold advM SetTable.advance
 rw [if_neg (by omega)]
 show ({ j:=_,more:=_,i:=_,perturb:=_,dummy:=p.dummy }:SetTable.Probe)=_
 rw [hd]
 rfl
theorem zq2 {mask:Nat} {p:SetTable.Probe} (g:Good mask p):Good mask (advM mask p):=by
 by_cases h:p.more > 0
 ·rw [zg8 h]
  exact ⟨g.i,by have:=g.j;show p.j + 1 + (p.more - 1) ≤ mask;omega,g.d⟩
 ·rw [zk1 (by omega) g.d]
  exact zh4 (y3l.mp (y3n _ (y3v _)))
theorem zk7 (mask:Nat) (h:Int):startM mask h=headP mask (SetTable.bits h % (mask + 1)) (SetTable.bits h):=rfl
theorem zej (mask:Nat) (h:Int):∀ k,Good mask (seqP mask h k)
 | 0=>by show Good mask (startM mask h);rw [zk7];exact zh4 (y3l.mp (y3n _ (y3v _)))
 | k + 1=>zq2 (zej mask h k)
theorem zmr {mask:Nat} {h:Int}:∀ (m k:Nat) (p:SetTable.Probe),seqP mask h k=p→p.more=m→p.dummy=none→seqP mask h (k + (m + 1))=headP mask ((p.i * 5 + 1 + p.perturb / 32) % (mask + 1)) (p.perturb / 32)
 | 0,k,p,e,hm,hd=>by
  show advM mask (seqP mask h k)=_
  rw [e,zk1 hm hd]
 | m + 1,k,p,e,hm,hd=>by
  have z:=zmr (mask:=mask) (h:=h) m (k + 1) { p with j:=p.j + 1,more:=p.more - 1 } (by show advM mask (seqP mask h k)=_;rw [e,zg8 (by omega)]) (by show p.more - 1=m;omega) hd
  rw [show k + (m + 1 + 1)=k + 1 + (m + 1) by omega]
  exact z
def headI (mask:Nat) (h:Int):Nat→Nat × Nat
 | 0=>(SetTable.bits h % (mask + 1),SetTable.bits h)
 | n + 1=>(((headI mask h n).1 * 5 + 1 + (headI mask h n).2 / 32) % (mask + 1),(headI mask h n).2 / 32)
theorem zei (mask:Nat) (h:Int):∀ n,(headI mask h n).1 ≤ mask
 | 0=>y3l.mp (y3n _ (y3v _))
 | n + 1=>y3l.mp (y3n _ (y3v _))
theorem zkv (mask:Nat) (h:Int):∀ n,∃ k,k ≤ 10 * n∧seqP mask h k=headP mask (headI mask h n).1 (headI mask h n).2
 | 0=>⟨0,y05 _,rfl⟩
 | n + 1=>by
  obtain ⟨k,hk,e⟩:=zkv mask h n
  have hr:=zeu (zei mask h n)
  have z:=zmr (mask:=mask) (h:=h) (SetTable.runEnd mask (headI mask h n).1 - (headI mask h n).1) k _ e rfl rfl
  exact ⟨_,by omega,z⟩
theorem zf6 (mask:Nat) (h:Int):∀ n,(headI mask h n).2=SetTable.bits h / 32 ^ n
 | 0=>by simp [headI]
 | n + 1=>by
  show (headI mask h n).2 / 32=_
  rw [zf6 mask h n,Nat.div_div_eq_div_mul,← y3i]
theorem bits_lt (h:Int):SetTable.bits h < 2 ^ 64:=by
 unfold SetTable.bits
 have h1:=y2j h (show (2 ^ 64:Int) ≠ 0 by decide)
 have h2:=y2m h (show (0:Int) < 2 ^ 64 by decide)
 omega
theorem zm8 (mask:Nat) (h:Int) {n:Nat} (hn:13 ≤ n):(headI mask h n).2=0:=by
 rw [zf6]
 have:=bits_lt h
 refine Nat.div_eq_of_lt (y0h this ?_)
 refine y13 (by decide:2 ^ 64 ≤ 32 ^ 13) (y2q (by decide) hn)
def lcg (mask i:Nat):Nat→Nat
 | 0=>i
 | n + 1=>(lcg mask i n * 5 + 1) % (mask + 1)
theorem zfd (mask:Nat) (h:Int):∀ n,(headI mask h (13 + n)).1=lcg mask (headI mask h 13).1 n
 | 0=>rfl
 | n + 1=>by
  show ((headI mask h (13 + n)).1 * 5 + 1 + (headI mask h (13 + n)).2 / 32) % (mask + 1)=(lcg mask _ n * 5 + 1) % (mask + 1)
  rw [zfd mask h n,zm8 mask h (by omega)]
def masks:List Nat:=[7,31,127]
def orb (mask:Nat):Nat→Nat→List Nat
 | 0,_=>[]
 | n + 1,i=>i :: orb mask n ((i * 5 + 1) % (mask + 1))
theorem zhz (mask:Nat):∀ (n i:Nat),lcg mask ((i * 5 + 1) % (mask + 1)) n=lcg mask i (n + 1)
 | 0,i=>rfl
 | n + 1,i=>by
  show (lcg mask ((i * 5 + 1) % (mask + 1)) n * 5 + 1) % (mask + 1)=(lcg mask i (n + 1) * 5 + 1) % (mask + 1)
  rw [zhz mask n i]
theorem zni (mask:Nat):∀ (m i j:Nat),j ∈ orb mask m i→∃ n,n < m∧lcg mask i n=j
 | 0,i,j,h=>by simp [orb] at h
 | m + 1,i,j,h=>by
  rcases y0f.mp h with e | e
  ·exact ⟨0,by omega,e.symm⟩
  ·obtain ⟨n,hn,e2⟩:=zni mask m _ j e
   exact ⟨n + 1,by omega,by rw [← zhz];exact e2⟩
def lcgB (mask:Nat):Bool:=((List.range (mask + 1)).all fun j=>(orb mask (mask + 1) 0).contains j) && lcg mask 0 (mask + 1) == 0
theorem zte:masks.all lcgB=true:=by decide +kernel
theorem zgp (mask:Nat):∀ (m n i:Nat),lcg mask (lcg mask i n) m=lcg mask i (n + m)
 | 0,n,i=>rfl
 | m + 1,n,i=>by
  show (lcg mask (lcg mask i n) m * 5 + 1) % (mask + 1)=(lcg mask i (n + m) * 5 + 1) % (mask + 1)
  rw [zgp mask m n i]
theorem zn7 (mask:Nat) (hm:mask ∈ masks) (i:Nat) (hi:i < mask + 1) (j:Nat) (hj:j < mask + 1):∃ n,n < mask + 1∧lcg mask i n=j:=by
 have h1:=y1n.mp zte mask hm
 simp only [lcgB,y18,beq_iff_eq] at h1
 have at':∀ x,x < mask + 1→∃ n,n < mask + 1∧lcg mask 0 n=x:=fun x hx=>by
  have h3:=y1n.mp h1.1 x (y0k.mpr hx)
  exact zni mask _ _ x (by simpa using h3)
 obtain ⟨n0,hn0,e0⟩:=at' i hi
 obtain ⟨n1,hn1,e1⟩:=at' j hj
 by_cases h:n0 ≤ n1
 ·exact ⟨n1 - n0,by omega,by rw [← e0,zgp,show n0 + (n1 - n0)=n1 by omega];exact e1⟩
 ·refine ⟨mask + 1 - n0 + n1,by omega,?_⟩
  rw [← e0,zgp,show n0 + (mask + 1 - n0 + n1)=mask + 1 + n1 by omega,← zgp,h1.2]
  exact e1
theorem zqe {mask:Nat} (hm:mask ∈ masks) (h:Int) {j:Nat} (hj:j ≤ mask):∃ k,k < 10 * SetTable.turns mask∧(seqP mask h k).j=j:=by
 obtain ⟨n,hn,e⟩:=zn7 mask hm (headI mask h 13).1 (y39 (zei _ _ _)) j (y39 hj)
 obtain ⟨k,hk,ek⟩:=zkv mask h (13 + n)
 refine ⟨k,by unfold SetTable.turns;omega,?_⟩
 rw [ek]
 show (headI mask h (13 + n)).1=j
 rw [zfd];exact e
theorem zto {xs:Array Nat} {i j:Nat} (h:xs.toList[i]?=some j):i < xs.size∧xs.getD i 0=j:=by
 rw [y1b] at h
 obtain ⟨h1,h2⟩:=y2a.mp h
 exact ⟨h1,by rw [y28,h];rfl⟩
theorem zbl {t:SetTable} (r:Rise t.place) {i j:Nat} (h:t.place.toList[i]?=some j):t.slot j=.live i:=by
 obtain ⟨hi,e⟩:=zto h
 obtain ⟨b1,b2,b3⟩:=zcc r j
 have eb:SetTable.below t.place j=i:=by
  rcases y1t (SetTable.below t.place j) i with z | z | z
  ·have h1:=b3 _ (y05 _) (by omega)
   have h2:=zev r z hi
   omega
  ·exact z
  ·have:=b2 i z
   omega
 show (if (t.place[SetTable.below t.place j]? == some j)=true then SetTable.Slot.live (SetTable.below t.place j) else _)=_
 rw [eb,show t.place[i]?=some j by rw [← y1b];exact h]
 simp
theorem zk8 {t:SetTable} (d:t.dummies=#[]) {j:Nat} (h:j ∉ t.place.toList):t.slot j=.empty:=by
 unfold SetTable.slot
 have:¬ t.place[SetTable.below t.place j]?=some j:=fun e=>h (by
  rw [← y1b] at e
  exact y0a e)
 simp [this,zki d j]
structure TbI (t:SetTable) (hs:List Int):Prop where
 rise:Rise t.place
 dum:t.dummies=#[]
 mask:t.mask ∈ masks
 le:∀ j ∈ t.place.toList,j ≤ t.mask
 size:t.place.toList.length=hs.length
 room:hs.length ≤ t.mask
 path:∀ (i j:Nat) (h:Int),t.place.toList[i]?=some j→hs[i]?=some h→∃ k,(seqP t.mask h k).j=j∧∀ k',k' < k→(seqP t.mask h k').j ∈ t.place.toList
theorem ze3:∀ {l m:List Nat},l.Nodup→(∀ x ∈ l,x ∈ m)→l.length ≤ m.length
 | [],m,_,_=>y1k _
 | x :: l,m,nd,h=>by
  obtain ⟨h1,h2⟩:=y1h.mp nd
  have hx:=h x y0d
  have:=ze3 (l:=l) (m:=m.erase x) h2 fun y hy=>(List.mem_erase_of_ne (fun e=>h1 (by rw [← e];exact hy))).mpr (h y (y08 _ hy))
  rw [y3b hx] at this
  have:=y3f hx
  rw [y10]
  omega
theorem TbI.free {t:SetTable} {hs:List Int} (I:TbI t hs):∃ j,j ≤ t.mask∧j ∉ t.place.toList:=by
 refine Classical.byContradiction fun n=>?_
 have all:∀ j,j < t.mask + 1→j ∈ t.place.toList:=fun j hj=>Classical.byContradiction fun z=>n ⟨j,by omega,z⟩
 have h1:(List.range (t.mask + 1)).length ≤ t.place.toList.length:=ze3 (y40 (n:=t.mask + 1)) fun j hj=>all j (y0k.mp hj)
 rw [y0t] at h1
 have:=I.size
 have:=I.room
 omega
theorem TbI.first {t:SetTable} {hs:List Int} (I:TbI t hs) (h:Int):∃ e,e < 10 * SetTable.turns t.mask∧(seqP t.mask h e).j ∉ t.place.toList∧∀ k,k < e→(seqP t.mask h k).j ∈ t.place.toList:=by
 obtain ⟨j,hj,hn⟩:=I.free
 obtain ⟨k,hk,ek⟩:=zqe I.mask h hj
 have key:∀ n,(∃ k,k < n∧(seqP t.mask h k).j ∉ t.place.toList)→∃ e,e < n∧(seqP t.mask h e).j ∉ t.place.toList∧∀ k,k < e→(seqP t.mask h k).j ∈ t.place.toList:=by
  intro n
  induction n with
  | zero=>rintro ⟨k,hk,_⟩;omega
  | succ n ih =>
   rintro ⟨k,hk,hkn⟩
   by_cases z:∃ k,k < n∧(seqP t.mask h k).j ∉ t.place.toList
   ·obtain ⟨e,he,r⟩:=ih z
    exact ⟨e,by omega,r⟩
   ·have:k=n:=by
     refine Classical.byContradiction fun ne=>z ⟨k,by omega,hkn⟩
    subst this
    exact ⟨k,by omega,hkn,fun k' hk'=>Classical.byContradiction fun y=>z ⟨k',hk',y⟩⟩
 obtain ⟨e,he,r⟩:=key (k + 1) ⟨k,by omega,by rw [ek];exact hn⟩
 exact ⟨e,by omega,r⟩
theorem TbI.ahead {t:SetTable} {hs:List Int} (I:TbI t hs) {h:Int} {e i j:Nat} (he:(seqP t.mask h e).j ∉ t.place.toList) (h1:t.place.toList[i]?=some j) (h2:hs[i]?=some h):∃ k,k < e∧(seqP t.mask h k).j=j:=by
 obtain ⟨k,hk,hp⟩:=I.path i j h h1 h2
 refine ⟨k,?_,hk⟩
 rcases y1t k e with z | z | z
 ·exact z
 ·subst z;exact absurd (by rw [hk];exact y0a h1) he
 ·exact absurd (hp e z) he
theorem TbI.probe {t:SetTable} {hs:List Int} (I:TbI t hs) {hashAt:Nat→Int} (hA:∀ (i:Nat) h,hs[i]?=some h→hashAt i=h) {h:Int} {e:Nat} (he:(seqP t.mask h e).j ∉ t.place.toList) (hb:∀ k,k < e→(seqP t.mask h k).j ∈ t.place.toList) :
  ∀ (d k fuel:Nat),e=k + d→d < fuel→(∃ k1 i:Nat,k ≤ k1∧k1 < e∧t.place.toList[i]?=some (seqP t.mask h k1).j∧hs[i]?=some h∧(∀ k2,k ≤ k2→k2 < k1→∀ i2:Nat,t.place.toList[i2]?=some (seqP t.mask h k2).j→hs[i2]? ≠ some h)∧SetTable.probe.go t hashAt h fuel (seqP t.mask h k)=some (.candidate (seqP t.mask h k1).j i (seqP t.mask h (k1 + 1)))) ∨
   ((∀ k2,k ≤ k2→k2 < e→∀ i2:Nat,t.place.toList[i2]?=some (seqP t.mask h k2).j→hs[i2]? ≠ some h)∧SetTable.probe.go t hashAt h fuel (seqP t.mask h k)=some (.empty (seqP t.mask h e).j none))
 | 0,k,fuel + 1,hk,_=>by
  obtain rfl:e=k:=by omega
  refine .inr ⟨fun k2 h1 h2=>by omega,?_⟩
  rw [SetTable.probe.go,zk8 I.dum he]
  show some (SetTable.Met.empty _ (seqP t.mask h e).dummy)=_
  rw [(zej t.mask h e).d]
 | d + 1,k,fuel + 1,hk,hf=>by
  obtain ⟨i,ei⟩:=y2w.mp (hb k (by omega))
  have hi:i < hs.length:=by rw [← I.size];exact (y04.mp ei).1
  have hh:=y01 hi
  rw [SetTable.probe.go,zbl I.rise ei]
  show (∃ k1 i_1,_)∨_
  by_cases c:hs[i]=h
  ·refine .inl ⟨k,i,y05 _,by omega,ei,by rw [hh,c],fun k2 h1 h2=>by omega,?_⟩
   show (if (hashAt i == h)=true then _ else _)=_
   rw [hA i _ hh,if_pos (by simpa using c)]
   rfl
  ·have no:∀ i2:Nat,t.place.toList[i2]?=some (seqP t.mask h k).j→hs[i2]? ≠ some h:=fun i2 e2=>by
    have z1:=zbl I.rise e2
    have z2:=zbl I.rise ei
    rw [z1] at z2
    cases z2
    rw [hh]
    exact fun z=>c (Option.some.inj z)
   have go:(if (hashAt i == h)=true then some (SetTable.Met.candidate (seqP t.mask h k).j i (t.advance (seqP t.mask h k))) else SetTable.probe.go t hashAt h fuel (t.advance (seqP t.mask h k)))=SetTable.probe.go t hashAt h fuel (seqP t.mask h (k + 1)):=by
    rw [hA i _ hh,if_neg (by simpa using c)]
    rfl
   have ih:=TbI.probe I hA he hb d (k + 1) fuel (by omega) (by omega)
   rcases ih with ⟨k1,i1,a1,a2,a3,a4,a5,a6⟩ | ⟨b1,b2⟩
   ·refine .inl ⟨k1,i1,by omega,a2,a3,a4,fun k2 h1 h2 i2 e2=>?_,go.trans a6⟩
    by_cases z:k2=k
    ·subst z;exact no i2 e2
    ·exact a5 k2 (by omega) h2 i2 e2
   ·refine .inr ⟨fun k2 h1 h2 i2 e2=>?_,go.trans b2⟩
    by_cases z:k2=k
    ·subst z;exact no i2 e2
    ·exact b1 k2 (by omega) h2 i2 e2
def insL {α:Type} (l:List α) (p:Nat) (x:α):List α:=l.take p ++ x :: l.drop p
theorem zoh {α:Type} {l:List α} {p:Nat} {x:α} (hp:p ≤ l.length) (i:Nat):(insL l p x)[i]?=if i < p then l[i]? else if i=p then some x else l[i - 1]?:=by
 unfold insL
 by_cases h:i < p
 ·rw [if_pos h,y0o (by rw [y0y];omega),List.getElem?_take,if_pos h]
 ·rw [if_neg h,y0p (by rw [y0y];omega),y0y,y3j hp]
  by_cases e:i=p
  ·rw [if_pos e,e,y3w];rfl
  ·rw [if_neg e,show i - p=(i - p - 1) + 1 by omega,y1w,List.getElem?_drop,show p + (i - p - 1)=i - 1 by omega]
theorem zb5 {α:Type} {l:List α} {p:Nat} {x:α}:(insL l p x).length=l.length + 1:=by
 unfold insL
 rw [y0c,y10,y0y,y2b]
 omega
theorem insL_mem {α:Type} {l:List α} {p:Nat} {x y:α}:y ∈ insL l p x ↔ y=x∨y ∈ l:=by
 unfold insL
 rw [y0i,y0f]
 constructor
 ·rintro (h | h | h)
  ·exact .inr (y2g h)
  ·exact .inl h
  ·exact .inr (y30 h)
 ·rintro (h | h)
  ·exact .inr (.inl h)
  ·rw [← y2c p l] at h
   rcases y0i.mp h with z | z
   ·exact .inl z
   ·exact .inr (.inr z)
theorem TbI.put {t:SetTable} {hs:List Int} (I:TbI t hs) {h:Int} {e:Nat} (he:(seqP t.mask h e).j ∉ t.place.toList) (hb:∀ k,k < e→(seqP t.mask h k).j ∈ t.place.toList) (hr:hs.length + 1 ≤ t.mask) :
  TbI (t.put (seqP t.mask h e).j).1 (insL hs (SetTable.below t.place (seqP t.mask h e).j) h)∧(t.put (seqP t.mask h e).j).2=SetTable.below t.place (seqP t.mask h e).j:=by
 have hjm:(seqP t.mask h e).j ≤ t.mask:=by have:=(zej t.mask h e).j;omega
 generalize ej:(seqP t.mask h e).j=j at he hjm ⊢
 obtain ⟨b1,b2,b3⟩:=zcc I.rise j
 have hpl:SetTable.below t.place j ≤ t.place.toList.length:=by simpa using b1
 have hph:SetTable.below t.place j ≤ hs.length:=by rw [← I.size];exact hpl
 have epl:(t.put j).1.place.toList=insL t.place.toList (SetTable.below t.place j) j:=zci _ _ _
 have em:(t.put j).1.mask=t.mask:=rfl
 refine ⟨⟨?_,?_,I.mask,fun x hx=>?_,?_,?_,fun i x y h1 h2=>?_⟩,rfl⟩
 ·refine zew I.rise fun z=>he ?_
  rw [← y1b] at z
  exact y0a z
 ·show (if SetTable.has t.dummies j then _ else t.dummies)=#[]
  rw [zki I.dum]
  exact I.dum
 ·rw [epl] at hx
  rcases insL_mem.mp hx with z | z
  ·rw [z];exact hjm
  ·exact I.le x z
 ·rw [epl,zb5,zb5,I.size]
 ·rw [zb5];exact hr
 ·rw [epl] at h1 ⊢
  rw [zoh hpl] at h1
  rw [zoh hph] at h2
  rw [em]
  by_cases c1:i < SetTable.below t.place j
  ·rw [if_pos c1] at h1 h2
   obtain ⟨k,a,b⟩:=I.path i x y h1 h2
   exact ⟨k,a,fun k' hk'=>insL_mem.mpr (.inr (b k' hk'))⟩
  ·rw [if_neg c1] at h1 h2
   by_cases c2:i=SetTable.below t.place j
   ·rw [if_pos c2] at h1 h2
    cases h1
    cases h2
    exact ⟨e,ej,fun k' hk'=>insL_mem.mpr (.inr (hb k' hk'))⟩
   ·rw [if_neg c2] at h1 h2
    obtain ⟨k,a,b⟩:=I.path _ x y h1 h2
    exact ⟨k,a,fun k' hk'=>insL_mem.mpr (.inr (b k' hk'))⟩
theorem zmi (f m:Nat) (led:Bool):TbI (.fresh f m led) []:=⟨List.Pairwise.nil,rfl,(by show (7:Nat) ∈ masks;decide),fun j hj=>(nomatch hj),rfl,y1k _,fun i j h e=>by simp [SetTable.fresh] at e⟩
structure Own (mask:Nat) (owner:Array (Option Nat)) (pos:List Nat) (hs:List Int):Prop where
 size:owner.size=mask + 1
 nd:pos.Nodup
 le:∀ j ∈ pos,j ≤ mask
 at':∀ j k,j ≤ mask→(owner[j]?=some (some k) ↔ pos[k]?=some j)
 path:∀ (k j:Nat) (h:Int),pos[k]?=some j→hs[k]?=some h→∃ n,(seqP mask h n).j=j∧∀ n',n' < n→(seqP mask h n').j ∈ pos
theorem Own.mem {mask:Nat} {owner:Array (Option Nat)} {pos:List Nat} {hs:List Int} (O:Own mask owner pos hs) {j:Nat} (hj:j ≤ mask):(owner.getD j (some 0)).isNone=true ↔ j ∉ pos:=by
 have hs':j < owner.size:=by rw [O.size];omega
 rw [y28,y14 hs',y1q]
 constructor
 ·intro h hm
  obtain ⟨k,hk⟩:=y2w.mp hm
  have:=(O.at' j k hj).mpr hk
  rw [y14 hs'] at this
  rw [Option.some.inj this] at h
  cases h
 ·intro h
  cases e:owner[j] with
  | none=>rfl
  | some k=>exact absurd (y0a ((O.at' j k hj).mp (by rw [y14 hs',e]))) h
theorem zsp {mask:Nat} {h:Int} {i pert:Nat}:∀ (d k:Nat),seqP mask h k=headP mask i pert→d ≤ SetTable.runEnd mask i - i→seqP mask h (k + d)={ headP mask i pert with j:=i + d,more:=SetTable.runEnd mask i - i - d }
 | 0,k,e,_=>e
 | d + 1,k,e,hd=>by
  have z:=zsp (mask:=mask) (h:=h) d k e (by omega)
  show advM mask (seqP mask h (k + d))=_
  rw [z,zg8 (by show SetTable.runEnd mask i - i - d > 0;omega)]
  show ({ headP mask i pert with j:=i + d + 1,more:=SetTable.runEnd mask i - i - d - 1 }:SetTable.Probe)=_
  rw [show SetTable.runEnd mask i - i - d - 1=SetTable.runEnd mask i - i - (d + 1) by omega]
  rfl
theorem zom {mask:Nat} {owner:Array (Option Nat)} {pos:List Nat} {hs:List Int} (O:Own mask owner pos hs) (h:Int):∀ (fuel L k:Nat),seqP mask h k=headP mask (headI mask h L).1 (headI mask h L).2→(∀ n,n < k→(seqP mask h n).j ∈ pos)→(∃ L',L ≤ L'∧L' < L + fuel∧(headI mask h L').1 ∉ pos) →
  ∃ n,SetTable.layClean.free mask owner fuel (headI mask h L).1 (headI mask h L).2=some (seqP mask h n).j∧(seqP mask h n).j ∉ pos∧∀ n',n' < n→(seqP mask h n').j ∈ pos
 | 0,L,k,_,_,⟨L',h1,h2,_⟩=>by omega
 | fuel + 1,L,k,e,hb,⟨L',h1,h2,h3⟩=>by
  have hi:=zei mask h L
  have hr:=zeu hi
  rw [SetTable.layClean.free]
  cases hf:(List.range (SetTable.runEnd mask (headI mask h L).1 + 1 - (headI mask h L).1)).find? fun d=>(owner.getD ((headI mask h L).1 + d) (some 0)).isNone with
  | some d =>
   obtain ⟨p1,p2,p3⟩:=List.find?_range_eq_some.mp hf
   have hd:=y0k.mp p2
   have z:=fun d' hd'=>zsp (mask:=mask) (h:=h) d' k e hd'
   have ej:∀ d',d' ≤ SetTable.runEnd mask (headI mask h L).1 - (headI mask h L).1→(seqP mask h (k + d')).j=(headI mask h L).1 + d':=fun d' hd'=>by rw [z d' hd']
   refine ⟨k + d,by rw [ej d (by omega)],?_,fun n hn=>?_⟩
   ·rw [ej d (by omega)]
    exact (O.mem (by omega)).mp p1
   ·by_cases c:n < k
    ·exact hb n c
    ·have e1:=ej (n - k) (by omega)
     rw [show k + (n - k)=n by omega] at e1
     rw [e1]
     have:=p3 (n - k) (by omega)
     refine Classical.byContradiction fun y=>?_
     rw [(O.mem (by omega)).mpr y] at this
     cases this
  | none =>
   have p3:=List.find?_range_eq_none.mp hf
   have ej:∀ d',d' ≤ SetTable.runEnd mask (headI mask h L).1 - (headI mask h L).1→(seqP mask h (k + d')).j=(headI mask h L).1 + d'∧(headI mask h L).1 + d' ∈ pos:=fun d' hd'=>by
    refine ⟨by rw [zsp (mask:=mask) (h:=h) d' k e hd'],?_⟩
    have:=p3 d' (by omega)
    refine Classical.byContradiction fun y=>?_
    rw [(O.mem (by omega)).mpr y] at this
    cases this
   have hL:L ≠ L':=fun c=>h3 (by rw [← c];have:=(ej 0 (by omega)).2;simpa using this)
   have e2:=zmr (mask:=mask) (h:=h) (SetTable.runEnd mask (headI mask h L).1 - (headI mask h L).1) k _ e rfl rfl
   have:=zom O h fuel (L + 1) (k + (SetTable.runEnd mask (headI mask h L).1 - (headI mask h L).1 + 1)) e2 (fun n hn=>?_) ⟨L',by omega,by omega,h3⟩
   ·exact this
   ·by_cases c:n < k
    ·exact hb n c
    ·have e1:=ej (n - k) (by omega)
     rw [show k + (n - k)=n by omega] at e1
     rw [e1.1];exact e1.2
theorem ztp {mask:Nat} (hm:mask ∈ masks) {owner:Array (Option Nat)} {pos:List Nat} {hs:List Int} (O:Own mask owner pos hs) (h:Int) (hl:pos.length ≤ mask):∃ n,SetTable.layClean.free mask owner (SetTable.turns mask) (SetTable.bits h % (mask + 1)) (SetTable.bits h)=some (seqP mask h n).j∧(seqP mask h n).j ∉ pos∧∀ n',n' < n→(seqP mask h n').j ∈ pos:=by
 obtain ⟨j,hj,hn⟩:∃ j,j ≤ mask∧j ∉ pos:=by
  refine Classical.byContradiction fun n=>?_
  have h1:=ze3 (y40 (n:=mask + 1)) (m:=pos) fun j hj=>Classical.byContradiction fun z=>n ⟨j,by have:=y0k.mp hj;omega,z⟩
  rw [y0t] at h1
  omega
 obtain ⟨n,hn1,e⟩:=zn7 mask hm (headI mask h 13).1 (y39 (zei _ _ _)) j (y39 hj)
 exact zom O h (SetTable.turns mask) 0 0 rfl (fun n hn=>by omega) ⟨13 + n,by omega,by unfold SetTable.turns;omega,by rw [zfd,e];exact hn⟩
theorem zs4 (mask:Nat):Own mask (Array.replicate (mask + 1) none) [] [] :=
 ⟨by simp,y2r,fun j hj=>(nomatch hj),fun j k hj=>by simp [Array.getElem?_replicate],fun k j h e=>by simp at e⟩
theorem Own.more {mask:Nat} {owner:Array (Option Nat)} {pos:List Nat} {hs:List Int} (O:Own mask owner pos hs) (hl:pos.length=hs.length) {h:Int} {n:Nat} (h1:(seqP mask h n).j ∉ pos) (h2:∀ n',n' < n→(seqP mask h n').j ∈ pos) :
  Own mask (owner.setIfInBounds (seqP mask h n).j (some pos.length)) (pos ++ [(seqP mask h n).j]) (hs ++ [h]):=by
 have hjm:(seqP mask h n).j ≤ mask:=by have:=(zej mask h n).j;omega
 generalize ej:(seqP mask h n).j=j at h1 hjm ⊢
 refine ⟨by rw [Array.size_setIfInBounds];exact O.size,?_,fun x hx=>?_,fun x k hx=>?_,fun k x y e1 e2=>?_⟩
 ·rw [y3a]
  exact ⟨O.nd,by simp,fun a ha b hb=>by rw [y07.mp hb];exact fun z=>h1 (z ▸ ha)⟩
 ·rcases y0i.mp hx with z | z
  ·exact O.le x z
  ·rw [y07.mp z];exact hjm
 ·have hsz:x < owner.size:=by rw [O.size];omega
  rw [Array.getElem?_setIfInBounds]
  by_cases c:j=x
  ·subst c
   rw [if_pos rfl,if_pos hsz]
   constructor
   ·intro z
    have:pos.length=k:=Option.some.inj (Option.some.inj z)
    subst this
    rw [y0p (y05 _),y3w];rfl
   ·intro z
    by_cases ck:k < pos.length
    ·rw [y0o ck] at z
     exact absurd (y0a z) h1
    ·have hk:=(y04.mp z).1
     rw [y0c,y17] at hk
     rw [show k=pos.length by omega]
  ·rw [if_neg c,O.at' x k hx]
   by_cases ck:k < pos.length
   ·rw [y0o ck]
   ·rw [y0p (by omega),y0e (by omega)]
    constructor
    ·intro z;cases z
    ·intro z
     have:=y0a z
     exact absurd (y07.mp this).symm c
 ·by_cases ck:k < pos.length
  ·rw [y0o ck] at e1
   rw [y0o (by omega)] at e2
   obtain ⟨m,a,b⟩:=O.path k x y e1 e2
   exact ⟨m,a,fun m' hm'=>y1x _ (b m' hm')⟩
  ·have hk:=(y04.mp e1).1
   rw [y0c,y17] at hk
   obtain rfl:k=pos.length:=by omega
   rw [y0p (y05 _),y3w] at e1
   rw [hl,y0p (y05 _),y3w] at e2
   cases e1
   cases e2
   exact ⟨n,ej,fun m' hm'=>y1x _ (h2 m' hm')⟩
def layStep (mask:Nat) (acc:Option (Array (Option Nat) × Nat)) (h:Int):Option (Array (Option Nat) × Nat):=do
 let (owner,k) ← acc
 let j ← SetTable.layClean.free mask owner (SetTable.turns mask) (SetTable.bits h % (mask + 1)) (SetTable.bits h)
 pure (owner.setIfInBounds j (some k),k + 1)
theorem zko {mask:Nat} (hm:mask ∈ masks):∀ (l pre:List Int) (owner:Array (Option Nat)) (pos:List Nat),Own mask owner pos pre→pos.length=pre.length→pre.length + l.length ≤ mask →
  ∃ owner' pos',l.foldl (layStep mask) (some (owner,pos.length))=some (owner',pos'.length)∧Own mask owner' pos' (pre ++ l)∧pos'.length=(pre ++ l).length
 | [],pre,owner,pos,O,hl,_=>⟨owner,pos,rfl,by rw [y0s];exact O,by rw [y0s];exact hl⟩
 | h :: l,pre,owner,pos,O,hl,hr=>by
  rw [y10] at hr
  obtain ⟨n,e,h1,h2⟩:=ztp hm O h (by omega)
  have O':=O.more hl h1 h2
  obtain ⟨owner',pos',e2,O2,l2⟩:=zko hm l (pre ++ [h]) _ (pos ++ [(seqP mask h n).j]) O' (by rw [y0c,y0c,hl];rfl) (by rw [y0c,y17];omega)
  refine ⟨owner',pos',?_,by rw [y12] at O2;exact O2,by rw [y12] at l2;exact l2⟩
  rw [List.foldl_cons]
  have:layStep mask (some (owner,pos.length)) h=some (owner.setIfInBounds (seqP mask h n).j (some pos.length),pos.length + 1):=by
   show (do let j ← SetTable.layClean.free mask owner (SetTable.turns mask) (SetTable.bits h % (mask + 1)) (SetTable.bits h);pure (owner.setIfInBounds j (some pos.length),pos.length + 1))=_
   rw [e];rfl
  rw [this]
  rw [y0c,y17] at e2
  exact e2
theorem zjd {mask:Nat} (hm:mask ∈ masks) (hs:Array Int) (hr:hs.size ≤ mask):∃ owner pos,SetTable.layClean mask hs=some owner∧Own mask owner pos hs.toList∧pos.length=hs.toList.length:=by
 obtain ⟨owner,pos,e,O,l⟩:=zko hm hs.toList [] _ [] (zs4 mask) rfl (by simpa using hr)
 refine ⟨owner,pos,?_,O,l⟩
 unfold SetTable.layClean
 rw [← Array.foldl_toList]
 show Option.map _ (List.foldl (layStep mask) (some (Array.replicate (mask + 1) none,0)) hs.toList)=_
 rw [show (some (Array.replicate (mask + 1) none,0):Option (Array (Option Nat) × Nat))=some (Array.replicate (mask + 1) none,([]:List Nat).length) from rfl,e]
 rfl
def liveL (mask:Nat) (owner:Array (Option Nat)):List (Nat × Nat):=(List.range (mask + 1)).filterMap fun j=>(owner.getD j none).map (j,·)
theorem zn6 {mask:Nat} {owner:Array (Option Nat)} {pos:List Nat} {hs:List Int} (O:Own mask owner pos hs) {j k:Nat}:(j,k) ∈ liveL mask owner ↔ pos[k]?=some j:=by
 unfold liveL
 rw [y3s]
 constructor
 ·rintro ⟨x,hx,e⟩
  have hx:=y0k.mp hx
  obtain ⟨k',e1,e2⟩:=y0z.mp e
  cases e2
  refine (O.at' j k (by omega)).mp ?_
  have:j < owner.size:=by rw [O.size];exact hx
  rw [y28,y14 this,y1q] at e1
  rw [y14 this,e1]
 ·intro h
  have hj:=O.le j (y0a h)
  refine ⟨j,y0k.mpr (by omega),?_⟩
  rw [y28,(O.at' j k hj).mpr h]
  rfl
theorem zlt (mask:Nat) (owner:Array (Option Nat)):((liveL mask owner).map (·.1)).Pairwise (· < ·):=by
 have:∀ l:List Nat,((l.filterMap fun j=>(owner.getD j none).map (j,·)).map (·.1)).Sublist l:=fun l=>by
  induction l with
  | nil=>exact List.Sublist.refl _
  | cons a l ih =>
   rw [y1s]
   cases c3:owner.getD a none with
   | none=>exact .cons _ ih
   | some v=>exact .cons_cons _ ih
 exact y1z.sublist (this _)
theorem zop {α β:Type} {f:α→Option β} {g:α→β}:∀ {l:List α},(∀ x ∈ l,f x=some (g x))→l.filterMap f=l.map g
 | [],_=>rfl
 | x :: l,h=>by
  rw [y1s,h x y0d,y0u,zop fun y hy=>h y (y08 _ hy)]
theorem ztf {mask finger moves:Nat} {led plain:Bool} (hm:mask ∈ masks) (es:Array (Int × Value)) (hr:es.size ≤ mask) :
  ∃ t' order,SetTable.laid mask finger moves led plain (es.map (·.1))=some (t',order)∧t'.led=led∧t'.plain=plain∧t'.mask=mask∧t'.finger=finger∧(∃ ord:List Nat,ord.Perm (List.range es.size)∧(order.filterMap (es[·]?)).toList=ord.filterMap fun k=>es.toList[k]?)∧TbI t' ((order.filterMap (es[·]?)).toList.map (·.1)):=by
 obtain ⟨owner,pos,e,O,hl⟩:=zjd hm (es.map (·.1)) (by simpa using hr)
 have hpl:pos.length=es.size:=by rw [hl];simp
 have lm:=fun j k=>zn6 O (j:=j) (k:=k)
 have lr:=zlt mask owner
 refine ⟨{ mask,place:=((liveL mask owner).map (·.1)).toArray,dummies:=#[],finger,led,moves,plain },((liveL mask owner).map (·.2)).toArray,?_,rfl,rfl,rfl,rfl,?_⟩
 ·unfold SetTable.laid
  rw [e]
  rfl
 generalize hL:liveL mask owner=L at lm lr
 have nds:(L.map (·.2)).Nodup:=by
  show List.Pairwise (· ≠ ·) _
  rw [y20] at lr ⊢
  refine List.Pairwise.imp_of_mem (fun {a b} ha hb hab=>?_) lr
  intro z
  obtain ⟨a1,a2⟩:=a
  obtain ⟨b1,b2⟩:=b
  have h1:=(lm a1 a2).mp ha
  have h2:=(lm b1 b2).mp hb
  have z:a2=b2:=z
  rw [z,h2] at h1
  have:=Option.some.inj h1
  have hab:a1 < b1:=hab
  omega
 have mem2:∀ k,k ∈ L.map (·.2) ↔ k < es.size:=fun k=>by
  rw [y09,← hpl]
  constructor
  ·rintro ⟨⟨j,k'⟩,hq,rfl⟩
   exact (y04.mp ((lm j k').mp hq)).1
  ·intro hk
   exact ⟨(pos[k],k),(lm _ _).mpr (y01 hk),rfl⟩
 have pm:(L.map (·.2)).Perm (List.range es.size):=(List.perm_ext_iff_of_nodup nds y40).mpr fun k=>by rw [mem2,y0k]
 have hLl:L.length=es.size:=by have:=pm.length_eq;rwa [y00,y0t] at this
 have eo:((L.map (·.2)).toArray.filterMap (es[·]?)).toList=(L.map (·.2)).filterMap (fun k=>es.toList[k]?):=by
  rw [Array.toList_filterMap]
  refine congrArg (fun f=>List.filterMap f (L.map (·.2))) (funext fun k=>?_)
  rw [y1b]
 have em:(L.map (·.2)).filterMap (fun k=>es.toList[k]?)=(L.map (·.2)).map fun k=>es.toList.getD k (0,.none):=zop fun k hk=>by
  have:=(mem2 k).mp hk
  rw [y03,y01 (by simpa using this)]
  rfl
 refine ⟨⟨_,pm,eo⟩,?_⟩
 rw [eo,em]
 have memp:∀ j,j ∈ L.map (·.1) ↔ j ∈ pos:=fun j=>by
  rw [y09]
  constructor
  ·rintro ⟨⟨j',k⟩,hq,rfl⟩
   exact y0a ((lm j' k).mp hq)
  ·intro h
   obtain ⟨k,hk⟩:=y2w.mp h
   exact ⟨(j,k),(lm j k).mpr hk,rfl⟩
 refine ⟨lr,rfl,hm,fun j hj=>O.le j ((memp j).mp hj),by simp,by simp [hLl];exact hr,fun i j h h1 h2=>?_⟩
 have h1:(L.map (·.1))[i]?=some j:=h1
 rw [y02] at h1
 obtain ⟨⟨j',k⟩,hq,ej⟩:=y0z.mp h1
 have ej:j'=j:=ej
 subst ej
 have hp:=(lm j' k).mp (y0a hq)
 have hk:k < es.size:=by rw [← hpl];exact (y04.mp hp).1
 rw [y02,y02,y02,hq] at h2
 have h2:some ((es.toList.getD k (0,.none)).1)=some h:=h2
 have hh:(es.map (·.1)).toList[k]?=some h:=by
  rw [Array.toList_map,y02,y01 (by simpa using hk)]
  rw [y03,y01 (by simpa using hk)] at h2
  exact h2
 obtain ⟨n,a,b⟩:=O.path k j' h hp hh
 exact ⟨n,a,fun n' hn'=>(memp _).mpr (b n' hn')⟩
section
variable {P:Program} {w:World} {T:Type} [DecidableEq T] {knd:HeapKind P w T} {A:Around} {E:Z0} {s:Shared}
def NoCls (knd:HeapKind P w T):Prop:=∀ {A:Around} {E:Z0} {s:Shared} {k:T} {b:Addr} {Q:Bool→Shared→Prop},knd.is s.heap k b→Q false s→wpAny (model P w) A (ofAClassStatement 8 (.ref b)) Q E s
theorem zso (nc:NoCls knd) {b:Addr} {k:T} {l:List Value} {Q:Bool→Shared→Prop} (hk:knd.is s.heap k b) (hl:∀ v ∈ l,∃ k' b',v=.ref b'∧knd.is s.heap k' b') (h:Q false s):wpAny (model P w) A (searchCouldBeSeen (.ref b) l) Q E s:=by
 unfold searchCouldBeSeen
 refine wpAny_bind ?_
 refine wpAny_forIn_list _ (fun rest r s'=>s'=s∧r=(none,())∧∀ v ∈ rest,∃ k' b',v=.ref b'∧knd.is s.heap k' b') _ ?_ ?_ _ _ ⟨rfl,rfl,hl⟩
 ·rintro x rest r s' ⟨rfl,rfl,hr⟩
  obtain ⟨k',b',rfl,hb⟩:=hr x y0d
  dsimp only
  split
  ·exact wpAny_pure ⟨rfl,rfl,fun v hv=>hr v (y08 _ hv)⟩
  ·refine wpAny_bind (knd.quiet hk ?_)
   simp only [y2e,y0w,if_false]
   refine wpAny_bind (knd.quiet hb ?_)
   simp only [y2e,y0w,if_false]
   refine wpAny_bind (nc hk ?_)
   simp only [y0w,if_false]
   refine wpAny_bind (nc hb ?_)
   simp only [y0w,if_false]
   exact wpAny_pure ⟨rfl,rfl,fun v hv=>hr v (y08 _ hv)⟩
 ·rintro r s' ⟨rfl,rfl,_⟩
  exact wpAny_pure h
structure SetHAt (knd:HeapKind P w T) (h:Heap) (a:Addr) (o:Obj) (es:Array (Int × Value)) (ep:Nat) (t:SetTable) (xs:List (T × Addr)):Prop where
 at':h.get? a=some o
 ex:o.ExactSet
 dat:o.data=.set es ep t
 es:es.toList=xs.map fun x=>(knd.hash x.1,Value.ref x.2)
 is:∀ x ∈ xs,knd.is h x.1 x.2
 nd:(xs.map (·.1)).Nodup
 tb:TbI t (xs.map fun x=>knd.hash x.1)
theorem SetHAt.fits {h:Heap} {a:Addr} {o:Obj} {es:Array (Int × Value)} {ep:Nat} {t:SetTable} {xs:List (T × Addr)} (S:SetHAt knd h a o es ep t xs):es.size=xs.length∧t.fits es.size=true:=by
 have e1:es.size=xs.length:=by rw [← y0x,S.es,y00]
 have e2:t.place.size=xs.length:=by rw [← y0x,S.tb.size,y00]
 refine ⟨e1,?_⟩
 have:=S.tb.room
 rw [y00] at this
 simp [SetTable.fits,SetTable.fill,e1,e2,S.tb.dum,this]
theorem TbI.met {t:SetTable} {hs:List Int} (I:TbI t hs) {h:Int} {e:Nat} (he:(seqP t.mask h e).j ∉ t.place.toList) (hb:∀ k,k < e→(seqP t.mask h k).j ∈ t.place.toList) {d k:Nat} (hd:e=k + d) (hf:d < 10 * SetTable.turns t.mask) {f:Nat→Int} {m:Option SetTable.Met}
  (heq:t.probe f h (seqP t.mask h k)=m) (hA:∀ (i:Nat) h,hs[i]?=some h→f i=h) :
  (∃ k1 i:Nat,k ≤ k1∧k1 < e∧t.place.toList[i]?=some (seqP t.mask h k1).j∧hs[i]?=some h∧(∀ k2,k ≤ k2→k2 < k1→∀ i2:Nat,t.place.toList[i2]?=some (seqP t.mask h k2).j→hs[i2]? ≠ some h)∧m=some (.candidate (seqP t.mask h k1).j i (seqP t.mask h (k1 + 1)))) ∨
   ((∀ k2,k ≤ k2→k2 < e→∀ i2:Nat,t.place.toList[i2]?=some (seqP t.mask h k2).j→hs[i2]? ≠ some h)∧m=some (.empty (seqP t.mask h e).j none)):=by
 subst heq
 exact I.probe hA he hb d k _ hd hf
theorem zmp (nc:NoCls knd) (hu:knd.room A) {a b:Addr} {o:Obj} {es:Array (Int × Value)} {ep:Nat} {t:SetTable} {xs:List (T × Addr)} {k0:T} {Q:SetFound→Shared→Prop} (S:SetHAt knd s.heap a o es ep t xs) (hk:knd.is s.heap k0 b) {e:Nat}
  (he:(seqP t.mask (knd.hash k0) e).j ∉ t.place.toList) (hb:∀ k,k < e→(seqP t.mask (knd.hash k0) k).j ∈ t.place.toList) (hf:e < 10 * SetTable.turns t.mask)
  (h1:k0 ∈ xs.map (·.1)→Q (.there none) s) (h2:k0 ∉ xs.map (·.1)→Q (.free (seqP t.mask (knd.hash k0) e).j false) s) :
  ∀ (d k fuel:Nat) (st:Option SetTable.Probe),e=k + d→d < fuel→st.getD (t.probeStart (knd.hash k0))=seqP t.mask (knd.hash k0) k→(∀ k2,k2 < k→∀ i2:Nat,t.place.toList[i2]?=some (seqP t.mask (knd.hash k0) k2).j→∀ x,xs[i2]?=some x→x.1 ≠ k0) →
   wpAny (model P w) A (setSearchFrom a (.ref b) (knd.hash k0) true fuel st) Q E s:=by
 obtain ⟨hsz,hfit⟩:=S.fits
 intro d
 induction d using Nat.strongRecOn with
 | ind d ih =>
 intro k fuel st hd hfu hst hno
 match fuel,hfu with
 | fuel + 1,hfu =>
 rw [setSearchFrom]
 refine wpAny_bind (wpAny_setState_of S.at' S.dat hfit ?_)
 have hodd:t.gaveWay=false:=by
  have:=S.tb.mask
  simp only [masks,y0f,y1y,or_false] at this
  unfold SetTable.gaveWay
  rcases this with h | h | h <;> rw [h] <;> rfl
 dsimp only
 rw [hodd]
 simp only [y0w,if_false]
 rw [hst]
 have hA:∀ (i:Nat) h,(xs.map fun x=>knd.hash x.1)[i]?=some h→(es[i]?.map (·.1)).getD 0=h:=fun i h e0=>by
  rw [y02] at e0
  obtain ⟨x,ex,rfl⟩:=y0z.mp e0
  rw [← y1b,S.es,y02,ex]
  rfl
 split
 ·rename_i met heq
  rcases S.tb.met he hb hd (by omega) heq hA with ⟨k1,i,b1,b2,b3,b4,b5,em⟩ | ⟨no,em⟩
  ·cases em
   rw [y02] at b4
   obtain ⟨x,ex,hx⟩:=y0z.mp b4
   have eei:es[i]?=some (knd.hash x.1,Value.ref x.2):=by rw [← y1b,S.es,y02,ex];rfl
   have hxi:=S.is x (y0a ex)
   dsimp only
   rw [eei]
   have hl:∀ v ∈ (es.filter (fun x=>x.1 == knd.hash k0)).toList.map (·.2),∃ k' b',v=.ref b'∧knd.is s.heap k' b':=fun v hv=>by
    obtain ⟨q,hq,rfl⟩:=y09.mp hv
    rw [Array.toList_filter] at hq
    have hq:=(y32.mp hq).1
    rw [S.es] at hq
    obtain ⟨y,hy,rfl⟩:=y09.mp hq
    exact ⟨y.1,y.2,rfl,S.is y hy⟩
   split
   ·refine wpAny_bind (zso nc hk hl ?_)
    simp only [y0w,if_false]
    refine wpAny_bind (wpAny_holding (knd.eqBool (x:=x.1) (y:=k0) hu hxi hk (wpAny_bind (wpAny_setState_of S.at' S.dat hfit ?_))))
    dsimp only
    by_cases ck:x.1=k0
    ·rw [decide_eq_true ck]
     simp only [Bool.and_self,if_true]
     exact wpAny_pure (h1 (y09.mpr ⟨x,y0a ex,ck⟩))
    ·rw [decide_eq_false ck]
     simp only [y3p,y0w,if_false]
     have hsm:t.sameMemory t.moves t.mask=some true:=by unfold SetTable.sameMemory;simp
     rw [hsm]
     dsimp only
     rw [if_pos rfl,zbl S.tb.rise b3]
     dsimp only
     rw [eei]
     dsimp only
     have iss:∀ {R:Bool→Shared→Prop},R true s→wpAny (model P w) A (isSame (Value.ref x.2) (Value.ref x.2)) R E s:=fun {R} hR=>by
      unfold isSame
      dsimp only
      rw [if_pos (by simp)]
      exact wpAny_pure hR
     refine wpAny_bind (iss (wpAny_bind (wpAny_pure ?_)))
     simp only [if_true]
     refine ih (e - (k1 + 1)) (by omega) (k1 + 1) fuel _ (by omega) (by omega) rfl fun k2 hk2 i2 e2 y ey hy=>?_
     by_cases c1:k2 < k
     ·exact hno k2 c1 i2 e2 y ey hy
     ·by_cases c2:k2=k1
      ·subst c2
       have z1:=zbl S.tb.rise e2
       rw [zbl S.tb.rise b3] at z1
       cases z1
       rw [ex] at ey
       cases ey
       exact ck hy
      ·exact b5 k2 (by omega) (by omega) i2 e2 (by rw [y02,ey,← hy];rfl)
   ·refine wpAny_bind (wpAny_holding (knd.eqBool (x:=x.1) (y:=k0) hu hxi hk (wpAny_bind (wpAny_setState_of S.at' S.dat hfit ?_))))
    dsimp only
    by_cases ck:x.1=k0
    ·rw [decide_eq_true ck]
     simp only [Bool.and_self,if_true]
     exact wpAny_pure (h1 (y09.mpr ⟨x,y0a ex,ck⟩))
    ·rw [decide_eq_false ck]
     simp only [y3p,y0w,if_false]
     have hsm:t.sameMemory t.moves t.mask=some true:=by unfold SetTable.sameMemory;simp
     rw [hsm]
     dsimp only
     rw [if_pos rfl,zbl S.tb.rise b3]
     dsimp only
     rw [eei]
     dsimp only
     have iss:∀ {R:Bool→Shared→Prop},R true s→wpAny (model P w) A (isSame (Value.ref x.2) (Value.ref x.2)) R E s:=fun {R} hR=>by
      unfold isSame
      dsimp only
      rw [if_pos (by simp)]
      exact wpAny_pure hR
     refine wpAny_bind (iss (wpAny_bind (wpAny_pure ?_)))
     simp only [if_true]
     refine ih (e - (k1 + 1)) (by omega) (k1 + 1) fuel _ (by omega) (by omega) rfl fun k2 hk2 i2 e2 y ey hy=>?_
     by_cases c1:k2 < k
     ·exact hno k2 c1 i2 e2 y ey hy
     ·by_cases c2:k2=k1
      ·subst c2
       have z1:=zbl S.tb.rise e2
       rw [zbl S.tb.rise b3] at z1
       cases z1
       rw [ex] at ey
       cases ey
       exact ck hy
      ·exact b5 k2 (by omega) (by omega) i2 e2 (by rw [y02,ey,← hy];rfl)
  ·cases em
   refine wpAny_pure (h2 fun hm=>?_)
   obtain ⟨x,hx,ex⟩:=y09.mp hm
   obtain ⟨i,hi⟩:=y2w.mp hx
   have hil:i < t.place.toList.length:=by rw [S.tb.size,y00];exact (y04.mp hi).1
   have hh:(xs.map fun x=>knd.hash x.1)[i]?=some (knd.hash k0):=by rw [y02,hi,← ex];rfl
   obtain ⟨k3,hk3,ek3⟩:=S.tb.ahead he (y01 hil) hh
   by_cases c:k ≤ k3
   ·exact no k3 c hk3 i (by rw [ek3];exact y01 hil) hh
   ·exact hno k3 (by omega) i (by rw [ek3];exact y01 hil) x hi ex
 ·rename_i heq
  rcases S.tb.met he hb hd (by omega) rfl hA with ⟨k1,i,b1,b2,b3,b4,b5,em⟩ | ⟨no,em⟩ <;> exact absurd em (heq _)
end
theorem zkt {α β:Type} (f:α→β) (l:List α) (p:Nat) (x:α):(insL l p x).map f=insL (l.map f) p (f x):=by
 unfold insL
 rw [y15,y0u,List.map_take,List.map_drop]
theorem zfb {α:Type} (l:List α) (p:Nat) (x:α):(insL l p x).Perm (x :: l):=by
 unfold insL
 refine y3z.trans (List.Perm.cons _ ?_)
 rw [y2c]
theorem TbI.plain {t:SetTable} {hs:List Int} (I:TbI t hs) (b:Bool):TbI { t with plain:=b } hs:=⟨I.rise,I.dum,I.mask,I.le,I.size,I.room,I.path⟩
section
variable {P:Program} {w:World} {T:Type} [DecidableEq T] {knd:HeapKind P w T} {A:Around} {E:Z0} {s:Shared}
structure KindS (knd:HeapKind P w T):Prop where
 nc:NoCls knd
 hbv:∀ {A:Around} {E:Z0} {s:Shared} {k:T} {b:Addr} {Q:Bool→Shared→Prop},knd.is s.heap k b→(∀ v,Q v s)→wpAny (model P w) A (hashByValue 8 (.ref b)) Q E s
 keep:∀ {h h':Heap} {k:T} {b d:Addr} {o:Obj} {es:Array (Int × Value)} {ep:Nat} {t:SetTable},knd.is h k b→h.get? d=some o→o.data=.set es ep t→Heap.SameBut d h h'→knd.is h' k b
def SetHs (knd:HeapKind P w T) (h:Heap) (a:Addr) (xs:List (T × Addr)):Prop:=∃ o es ep t,SetHAt knd h a o es ep t xs∧xs.length * 5 < t.mask * 3
theorem SetHAt.store (KS:KindS knd) {h:Heap} {a:Addr} {o:Obj} {es:Array (Int × Value)} {ep:Nat} {t:SetTable} {xs:List (T × Addr)} (S:SetHAt knd h a o es ep t xs) {es':Array (Int × Value)} {t':SetTable} {xs':List (T × Addr)} (e1:es'.toList=xs'.map fun x=>(knd.hash x.1,Value.ref x.2)) (e2:∀ x ∈ xs',knd.is h x.1 x.2) (e3:(xs'.map (·.1)).Nodup) (e4:TbI t' (xs'.map fun x=>knd.hash x.1)) :
  SetHAt knd (h.update a (Obj.putSet es' t')) a { o with data:=.set es' (ep + 1) t' } es' (ep + 1) t' xs':=by
 have hg:(h.update a (Obj.putSet es' t')).get? a=some { o with data:=.set es' (ep + 1) t' }:=by
  have:=y2d (Obj.putSet es' t') S.at' (by rw [putSet_of es' t' S.dat];rfl)
  rw [putSet_of es' t' S.dat] at this;exact this
 exact ⟨hg,S.ex,rfl,e1,fun x hx=>KS.keep (e2 x hx) S.at' S.dat (Heap.SameBut.update h a _),e3,e4⟩
theorem zlx {n mask:Nat} (hm:mask ∈ masks) (h1:n * 5 < mask * 3) (h2:mask * 3 ≤ (n + 1) * 5) (hn:n ≤ 75):SetTable.sizeAbove (SetTable.grown (n + 1)) - 1 ∈ masks∧n + 1 ≤ SetTable.sizeAbove (SetTable.grown (n + 1)) - 1∧(n + 1) * 5 < (SetTable.sizeAbove (SetTable.grown (n + 1)) - 1) * 3∧SetTable.sizeAbove (SetTable.grown (n + 1)) ≤ 128:=by
 simp only [masks,y0f,y1y,or_false] at hm
 rcases hm with rfl | rfl | rfl
 ·obtain rfl:n=4:=by omega
  decide
 ·obtain rfl:n=18:=by omega
  decide
 ·omega
theorem zpx (KS:KindS knd) {a:Addr} {o:Obj} {es:Array (Int × Value)} {ep:Nat} {t:SetTable} {xs:List (T × Addr)} {wanted:Nat} {Q:Unit→Shared→Prop} (S:SetHAt knd s.heap a o es ep t xs) (hm:SetTable.sizeAbove wanted - 1 ∈ masks) (hr:xs.length ≤ SetTable.sizeAbove wanted - 1) (h128:SetTable.sizeAbove wanted ≤ 128)
  (h:∀ h' o' es' ep' t' xs',Heap.SameBut a s.heap h'→SetHAt knd h' a o' es' ep' t' xs'→xs'.Perm xs→t'.mask=SetTable.sizeAbove wanted - 1→Q () { s with heap:=h' }):wpAny (model P w) A (setRelay a wanted) Q E s:=by
 obtain ⟨hsz,hfit⟩:=S.fits
 unfold setRelay
 refine wpAny_bind (wpAny_setState_of S.at' S.dat hfit ?_)
 dsimp only
 rw [if_neg (by rw [sizeLine_eq];omega)]
 obtain ⟨t',order,e,el,epl,em,ef,⟨ord,pm,eo⟩,tb⟩:=ztf (finger:=t.finger) (moves:=t.movedTo (SetTable.sizeAbove wanted - 1)) (led:=t.led) (plain:=t.plain) hm es (by omega)
 have er:t.relaid (es.map (·.1)) wanted=some (t',order):=e
 rw [er]
 have exs:(ord.filterMap fun k=>es.toList[k]?)=(ord.filterMap fun k=>xs[k]?).map fun x=>(knd.hash x.1,Value.ref x.2):=by
  rw [List.map_filterMap]
  refine congrArg (fun f=>List.filterMap f ord) (funext fun k=>?_)
  rw [S.es,y02]
 have pmx:(ord.filterMap fun k=>xs[k]?).Perm xs:=by
  have h1:=pm.filterMap (fun k=>xs[k]?)
  have h2:(List.range es.size).filterMap (fun k=>xs[k]?)=xs:=by
   rw [hsz]
   refine (fmS_all xs)
  rw [h2] at h1
  exact h1
 rw [exs] at eo
 have hsz2:(order.filterMap (es[·]?)).size=es.size:=by rw [← y0x,eo,y00,pmx.length_eq,hsz]
 refine wpAny_bind (wpAny_of_eq (a:=(order.filterMap (es[·]?),t')) ?_ ?_)
 ·show (if ((order.filterMap (es[·]?)).size != es.size)=true then _ else _)=_
  rw [if_neg (by simp [hsz2])]
 ·dsimp only
  have eh:(order.filterMap (es[·]?)).toList.map (·.1)=(ord.filterMap fun k=>xs[k]?).map fun x=>knd.hash x.1:=by rw [eo,y0v];rfl
  rw [eh] at tb
  refine wpAny_storeSet_of S.at' S.dat ?_ (by rw [hsz2,hsz,sizeLine_eq];omega)
  exact h _ _ _ _ _ _ (Heap.SameBut.update s.heap a _) (S.store KS eo (fun x hx=>S.is x (pmx.mem_iff.mp hx)) ((pmx.map (·.1)).nodup_iff.mpr S.nd) tb) pmx em
where
 fmS_all {α:Type} (xs:List α):(List.range xs.length).filterMap (fun k=>xs[k]?)=xs:=by
  induction xs with
  | nil=>rfl
  | cons x l ih =>
   rw [y10,y4c,y1s]
   show x :: List.filterMap _ (List.map Nat.succ (List.range l.length))=_
   rw [List.filterMap_map]
   exact congrArg (x :: ·) ih
theorem add_on (KS:KindS knd) (hu:knd.room A) {a b:Addr} {xs:List (T × Addr)} {k0:T} {Q:Bool→Shared→Prop} (S0:SetHs knd s.heap a xs) (hn:xs.length ≤ 75) (hk:knd.is s.heap k0 b)
  (h1:k0 ∈ xs.map (·.1)→Q false s) (h2:k0 ∉ xs.map (·.1)→∀ h' xs',Heap.SameBut a s.heap h'→SetHs knd h' a xs'→xs'.Perm ((k0,b) :: xs)→Q true { s with heap:=h' }) :
  wpAny (model P w) A (setAddHashed a (.ref b) (knd.hash k0)) Q E s:=by
 obtain ⟨o,es,ep,t,S,few⟩:=S0
 obtain ⟨hsz,hfit⟩:=S.fits
 obtain ⟨e,hf,he,hb⟩:=S.tb.first (knd.hash k0)
 unfold setAddHashed setAddHashedIn
 refine wpAny_holding (wpAny_bind (wpAny_setState_of S.at' S.dat hfit ?_))
 dsimp only
 have nb:byScan (.ref b) es=false:=by simp [byScan,Value.scannable]
 rw [nb]
 simp only [y0w,if_false]
 have ht:SetTable.turns t.mask ≤ 142:=by
  have:=S.tb.mask
  simp only [masks,y0f,y1y,or_false] at this
  unfold SetTable.turns
  omega
 refine wpAny_bind (zmp (e:=e) KS.nc hu S hk he hb hf (fun hin=>?_) (fun hnot=>?_) e 0 100000 none (by omega) (by omega) rfl (fun k2 hk2=>by omega))
 ·exact wpAny_pure (h1 hin)
 ·dsimp only
  refine wpAny_bind (wpAny_setState_of S.at' S.dat hfit ?_)
  dsimp only
  obtain ⟨tb,ep2⟩:=S.tb.put he hb (by rw [y00];have:=S.tb.mask;simp only [masks,y0f,y1y,or_false] at this;omega)
  have hms:=S.tb.mask
  have hn1:xs.length + 1 ≤ t.mask:=by simp only [masks,y0f,y1y,or_false] at hms;omega
  rw [ep2]
  generalize hp:SetTable.below t.place (seqP t.mask (knd.hash k0) e).j=p at tb
  have tail:∀ t1:SetTable,TbI t1 (insL (xs.map fun x=>knd.hash x.1) p (knd.hash k0))→t1.mask=t.mask→wpAny (model P w) A (do
    storeSet a (SetTable.insertAt es p (knd.hash k0,Value.ref b)) t1
    if (!false && t1.tooFull)=true then do
     setRelay a (SetTable.grown (es.size + 1))
     pure true
    else pure true) Q E s:=fun t1 tb1 em1=>by
   have tb2:TbI t1 ((insL xs p (k0,b)).map fun x=>knd.hash x.1):=by rw [zkt];exact tb1
   have e1:(SetTable.insertAt es p (knd.hash k0,Value.ref b)).toList=(insL xs p (k0,b)).map fun x=>(knd.hash x.1,Value.ref x.2):=by
    rw [zci,zkt,S.es];rfl
   have hnd:((insL xs p (k0,b)).map (·.1)).Nodup:=by
    rw [(((zfb xs p (k0,b)).map (·.1)).nodup_iff)]
    exact y1h.mpr ⟨hnot,S.nd⟩
   have S1:=S.store KS e1 (fun x hx=>by
    rcases insL_mem.mp hx with z | z
    ·rw [z];exact hk
    ·exact S.is x z) hnd tb2
   have sb:=Heap.SameBut.update s.heap a (Obj.putSet (SetTable.insertAt es p (knd.hash k0,Value.ref b)) t1)
   have hz:(SetTable.insertAt es p (knd.hash k0,Value.ref b)).size=xs.length + 1:=by rw [← y0x,e1,y00,zb5]
   refine wpAny_bind (wpAny_storeSet_of S.at' S.dat ?_ (by rw [hz,sizeLine_eq];omega))
   have hfill:t1.fill=xs.length + 1:=by
    unfold SetTable.fill
    rw [tb2.dum,← y0x,tb2.size,y00,zb5]
    rfl
   cases hfull:t1.tooFull with
   | true =>
    simp only [y46,y2k,if_true]
    unfold SetTable.tooFull at hfull
    rw [hfill,em1] at hfull
    have hfull:=of_decide_eq_true hfull
    obtain ⟨m1,m2,m3,m4⟩:=zlx hms few (by omega) hn
    rw [hsz]
    refine wpAny_bind (zpx KS S1 m1 (by rw [zb5];exact m2) m4 fun h' o' es' ep' t' xs' sb' S' pm em=>?_)
    refine wpAny_pure ?_
    refine h2 hnot h' xs' (sb.trans sb') ⟨o',es',ep',t',S',?_⟩ (pm.trans (zfb _ _ _))
    rw [em,pm.length_eq,zb5]
    exact m3
   | false =>
    simp only [y46,y2k,y0w,if_false]
    unfold SetTable.tooFull at hfull
    rw [hfill,em1] at hfull
    have hfull:=of_decide_eq_false hfull
    refine wpAny_pure (h2 hnot _ _ sb ⟨_,_,_,_,S1,?_⟩ (zfb _ _ _))
    rw [zb5,em1]
    omega
  split
  ·refine wpAny_bind (KS.hbv hk fun v=>?_)
   cases v
   ·exact tail _ (tb.plain false) rfl
   ·exact tail _ tb rfl
  ·refine wpAny_bind (wpAny_pure ?_)
   exact tail _ tb rfl
end
section
variable {prog:Program} {w:World} {A:Around} {E:Z0} {s:Shared}
theorem IsTupleKey.keepsO {h h':Heap} {l:List Key} {a d:Addr} {o:Obj} (x:IsTupleKey (mixKind prog w) h l a) (ho:h.get? d=some o) (hd:∀ its n,o.data ≠ .seq its n) (hs:Heap.SameBut d h h'):IsTupleKey (mixKind prog w) h' l a:=by
 obtain ⟨o',its,n,ho',hc,hd',hi⟩:=x
 have ne:a ≠ d:=fun e=>by
  subst e
  rw [ho] at ho';cases ho'
  exact hd _ _ hd'
 exact ⟨o',its,n,(hs.2 a ne).trans ho',hc,hd',hi⟩
theorem Is2.keepsO {h h':Heap} {d:Addr} {o:Obj} {k:Key2} {v:Value} (x:Is2 prog w h k v) (ho:h.get? d=some o) (hd:∀ its n,o.data ≠ .seq its n) (hs:Heap.SameBut d h h'):Is2 prog w h' k v:=by
 cases k with
 | inl k=>exact x
 | inr l =>
  obtain ⟨b,e,hb⟩:=x
  exact ⟨b,e,IsTupleKey.keepsO hb ho hd hs⟩
theorem Its2.keepsO {h h':Heap} {d:Addr} {o:Obj} (ho:h.get? d=some o) (hd:∀ its n,o.data ≠ .seq its n) (hs:Heap.SameBut d h h') {ks:List Key2} {vs:List Value} (x:Its2 prog w h ks vs):Its2 prog w h' ks vs:=by
 induction x with
 | nil=>exact .nil
 | cons h1 _ ih=>exact .cons (h1.keepsO ho hd hs) ih
theorem IsNest.keepsO {h h':Heap} {ks:List Key2} {a d:Addr} {o:Obj} (x:IsNest prog w h ks a) (ho:h.get? d=some o) (hd:∀ its n,o.data ≠ .seq its n) (hs:Heap.SameBut d h h'):IsNest prog w h' ks a:=by
 obtain ⟨o',its,n,ho',hc,hd',hi⟩:=x
 have ne:a ≠ d:=fun e=>by
  subst e
  rw [ho] at ho';cases ho'
  exact hd _ _ hd'
 exact ⟨o',its,n,(hs.2 a ne).trans ho',hc,hd',hi.keepsO ho hd hs⟩
theorem IsTupleKey.stays {h h':Heap} {l:List Key} {a:Addr} (x:IsTupleKey (mixKind prog w) h l a) (k:∀ b o its n,h.get? b=some o→o.data=.seq its n→h'.get? b=some o):IsTupleKey (mixKind prog w) h' l a:=by
 obtain ⟨o',its,n,ho',hc,hd',hi⟩:=x
 exact ⟨o',its,n,k _ _ _ _ ho' hd',hc,hd',hi⟩
theorem Its2.stays {h h':Heap} (k:∀ b o its n,h.get? b=some o→o.data=.seq its n→h'.get? b=some o) {ks:List Key2} {vs:List Value} (x:Its2 prog w h ks vs):Its2 prog w h' ks vs:=by
 induction x with
 | nil=>exact .nil
 | @cons k' v ks vs h1 _ ih =>
  refine .cons ?_ ih
  cases k' with
  | inl k'=>exact h1
  | inr l =>
   obtain ⟨b,e,hb⟩:=h1
   exact ⟨b,e,IsTupleKey.stays hb k⟩
theorem IsNest.stays {h h':Heap} {ks:List Key2} {a:Addr} (x:IsNest prog w h ks a) (k:∀ b o its n,h.get? b=some o→o.data=.seq its n→h'.get? b=some o):IsNest prog w h' ks a:=by
 obtain ⟨o',its,n,ho',hc,hd',hi⟩:=x
 exact ⟨o',its,n,k _ _ _ _ ho' hd',hc,hd',hi.stays k⟩
theorem zid (n:Nat) {v:Value} (h:carriedByValue v=true):ofAClassStatement n v=pure false:=by
 cases v with
 | ref a=>simp [carriedByValue] at h
 | _=>first | rfl | simp [ofAClassStatement] | (unfold ofAClassStatement;rfl)
theorem cls_key {n:Nat} {l:List Key} {a:Addr} {Q:Bool→Shared→Prop} (hk:IsTupleKey (mixKind prog w) s.heap l a) (q:Q false s):wpAny (model prog w) A (ofAClassStatement (n + 1) (.ref a)) Q E s:=by
 have ty:=hk.typeIs
 obtain ⟨o,its,m,ho,_,hd,hi⟩:=hk
 unfold ofAClassStatement
 refine wpAny_bind (wpAny_typeOf ty ?_)
 dsimp only
 refine wpAny_bind (wpAny_pure ?_)
 simp only [y2e,y0w,if_false]
 refine wpAny_bind (wpAny_seqItems ho hd (wpAny_bind ?_))
 show wpAny _ _ (forIn its _ _) _ _ s
 rw [← y2f]
 refine wpAny_forIn_list _ (fun left r s'=>r.1=none∧s'=s∧∀ v ∈ left,carriedByValue v=true) _ ?_ ?_ _ _ ⟨rfl,rfl,hi.byValue⟩
 ·rintro v left r s' ⟨hr,rfl,hall⟩
  rw [zid _ (hall v y0d)]
  refine wpAny_bind (wpAny_pure ?_)
  simp only [if_false,y0w]
  exact wpAny_pure ⟨rfl,rfl,fun u hm=>hall u (y08 _ hm)⟩
 ·rintro ⟨r1,r2⟩ s' ⟨hr,rfl,_⟩
  simp only at hr
  subst hr
  exact wpAny_pure q
theorem zre {n:Nat} {k:Key2} {v:Value} {Q:Bool→Shared→Prop} (h:Is2 prog w s.heap k v) (q:Q false s):wpAny (model prog w) A (ofAClassStatement (n + 1) v) Q E s:=by
 cases k with
 | inl k =>
  rw [zid _ (zds h)]
  exact wpAny_pure q
 | inr l =>
  obtain ⟨b,rfl,hb⟩:=h
  exact cls_key hb q
theorem zrd {ks:List Key2} {a:Addr} {Q:Bool→Shared→Prop} (hk:IsNest prog w s.heap ks a) (q:Q false s):wpAny (model prog w) A (ofAClassStatement 8 (.ref a)) Q E s:=by
 have ty:=hk.ty
 obtain ⟨o,its,m,ho,_,hd,hi⟩:=hk
 unfold ofAClassStatement
 refine wpAny_bind (wpAny_typeOf ty ?_)
 dsimp only
 refine wpAny_bind (wpAny_pure ?_)
 simp only [y2e,y0w,if_false]
 refine wpAny_bind (wpAny_seqItems ho hd (wpAny_bind ?_))
 show wpAny _ _ (forIn its _ _) _ _ s
 rw [← y2f]
 refine wpAny_forIn_list _ (fun left r s'=>r.1=none∧s'=s∧∀ v ∈ left,∃ k,Is2 prog w s.heap k v) _ ?_ ?_ _ _ ⟨rfl,rfl,hi.mem⟩
 ·rintro v left r s' ⟨hr,rfl,hall⟩
  obtain ⟨k,h1⟩:=hall v y0d
  refine wpAny_bind (zre h1 ?_)
  simp only [if_false,y0w]
  exact wpAny_pure ⟨rfl,rfl,fun u hm=>hall u (y08 _ hm)⟩
 ·rintro ⟨r1,r2⟩ s' ⟨hr,rfl,_⟩
  simp only at hr
  subst hr
  exact wpAny_pure q
theorem zh3 (n:Nat) {v:Value} (h:carriedByValue v=true):∃ b,hashByValue n v=pure b:=by
 cases v with
 | ref a=>simp [carriedByValue] at h
 | _=>first | exact ⟨_,rfl⟩ | (unfold hashByValue;exact ⟨_,rfl⟩)
theorem ztl {n:Nat} {l:List Key} {a:Addr} {Q:Bool→Shared→Prop} (hk:IsTupleKey (mixKind prog w) s.heap l a) (q:∀ b,Q b s):wpAny (model prog w) A (hashByValue (n + 1) (.ref a)) Q E s:=by
 have ty:=hk.typeIs
 obtain ⟨o,its,m,ho,_,hd,hi⟩:=hk
 unfold hashByValue
 refine wpAny_bind (wpAny_specialOf ty PySem.F.slot_tuple_hash.lookup ?_)
 dsimp only
 refine wpAny_bind (wpAny_seqItems ho hd (wpAny_bind ?_))
 show wpAny _ _ (forIn its _ _) _ _ s
 rw [← y2f]
 refine wpAny_forIn_list _ (fun left r s'=>s'=s∧∀ v ∈ left,carriedByValue v=true) _ ?_ ?_ _ _ ⟨rfl,hi.byValue⟩
 ·rintro v left r s' ⟨rfl,hall⟩
  obtain ⟨b,e⟩:=zh3 n (hall v y0d)
  rw [e]
  refine wpAny_bind (wpAny_pure ?_)
  cases b
  ·exact wpAny_pure (wpAny_pure (q _))
  ·exact wpAny_pure ⟨rfl,fun u hm=>hall u (y08 _ hm)⟩
 ·rintro ⟨r1,r2⟩ s' ⟨rfl,_⟩
  cases r1 <;> exact wpAny_pure (q _)
theorem zq1 {n:Nat} {k:Key2} {v:Value} {Q:Bool→Shared→Prop} (h:Is2 prog w s.heap k v) (q:∀ b,Q b s):wpAny (model prog w) A (hashByValue (n + 1) v) Q E s:=by
 cases k with
 | inl k =>
  obtain ⟨b,e⟩:=zh3 (n + 1) (zds h)
  rw [e]
  exact wpAny_pure (q _)
 | inr l =>
  obtain ⟨b,rfl,hb⟩:=h
  exact ztl hb q
theorem zq0 {ks:List Key2} {a:Addr} {Q:Bool→Shared→Prop} (hk:IsNest prog w s.heap ks a) (q:∀ b,Q b s):wpAny (model prog w) A (hashByValue 8 (.ref a)) Q E s:=by
 have ty:=hk.ty
 obtain ⟨o,its,m,ho,_,hd,hi⟩:=hk
 unfold hashByValue
 refine wpAny_bind (wpAny_specialOf ty PySem.F.slot_tuple_hash.lookup ?_)
 dsimp only
 refine wpAny_bind (wpAny_seqItems ho hd (wpAny_bind ?_))
 show wpAny _ _ (forIn its _ _) _ _ s
 rw [← y2f]
 refine wpAny_forIn_list _ (fun left r s'=>s'=s∧∀ v ∈ left,∃ k,Is2 prog w s.heap k v) _ ?_ ?_ _ _ ⟨rfl,hi.mem⟩
 ·rintro v left r s' ⟨rfl,hall⟩
  obtain ⟨k,h1⟩:=hall v y0d
  refine wpAny_bind (zq1 h1 fun b=>?_)
  cases b
  ·exact wpAny_pure (wpAny_pure (q _))
  ·exact wpAny_pure ⟨rfl,fun u hm=>hall u (y08 _ hm)⟩
 ·rintro ⟨r1,r2⟩ s' ⟨rfl,_⟩
  cases r1 <;> exact wpAny_pure (q _)
theorem nestS:KindS (nestKind prog w) where
 nc:=fun hk h=>zrd hk h
 hbv:=fun hk h=>zq0 hk h
 keep:=fun x ho hd hs=>IsNest.keepsO x ho (fun its n e=>by rw [hd] at e;cases e) hs
end
abbrev NRow:=List Key2 × Addr × V
def rowR (y:NRow) (x:List Key2 × Addr × Value):Prop:=y.1=x.1∧y.2.1=x.2.1∧RelV y.2.2 x.2.2
def dN (P:Program) (w:World) (a:Addr) (ys:List NRow):HO:=.ext fun h=>(a == sysModules)=false∧ys.length ≤ sizeLine∧∃ xs:List (List Key2 × Addr × Value),Paired rowR ys xs ∧
 ∃ o es ep,h.get? a=some o∧o.ExactDict∧o.data=.dict es ep∧es.toList=xs.map (entryOfKey (nestKind P w))∧(xs.map (·.1)).Nodup
def N2 (H:Hp) (v:V):Key2→Prop
 | .inl k=>v=kV k
 | .inr l=>∃ c,v=.ref c∧H c=some (.tup (l.map kV))
def NestAt (H:Hp) (b:Addr) (ks:List Key2):Prop:=∃ vs,H b=some (.tup vs)∧Paired (N2 H) vs ks
def Keys (H:Hp) (ys:List NRow):Prop:=∀ y ∈ ys,NestAt H y.2.1 y.1
theorem N2.ts {H H':Hp} {v:V} {k:Key2} (ts:TupS H H') (x:N2 H v k):N2 H' v k:=by
 cases k with
 | inl k=>exact x
 | inr l =>
  obtain ⟨c,e,hc⟩:=x
  exact ⟨c,e,ts _ _ hc⟩
theorem NestAt.ts {H H':Hp} {b:Addr} {ks:List Key2} (x:NestAt H b ks) (ts:TupS H H'):NestAt H' b ks:=by
 obtain ⟨vs,e,p⟩:=x
 exact ⟨vs,ts _ _ e,L2.Paired.mapP p fun _ _ z=>z.ts ts⟩
theorem Keys.ts {H H':Hp} {ys:List NRow} (x:Keys H ys) (ts:TupS H H'):Keys H' ys:=fun y hy=>(x y hy).ts ts
section
variable {P:Program} {w:World} {H:Hp} {h:Heap} {a b:Addr}
theorem NestAt.is {ks:List Key2} (ok:HOk P w H h) (x:NestAt H b ks):IsNest P w h ks b:=by
 obtain ⟨vs,e,p⟩:=x
 obtain ⟨_,its,r,o,h1,h2,n,h3⟩:=(show ObjOk P w H h b (.tup vs) from ok b _ e)
 refine ⟨o,its.toArray,n,h1,h2,h3,?_⟩
 have all:∀ {vs:List V} {ks:List Key2},Paired (N2 H) vs ks→∀ {us:List Value},Vals vs us→Its2 P w h ks us:=by
  intro vs ks q
  induction q with
  | nil=>intro us r;cases r;exact .nil
  | @cons v k vs ks hv _ ih =>
   intro us r
   cases r with
   | cons rv rs =>
    refine .cons ?_ (ih rs)
    cases k with
    | inl k=>cases (show v=kV k from hv);exact zqv rv
    | inr l =>
     obtain ⟨c,rfl,hc⟩:=hv
     exact ⟨c,rv,zf3 ok hc⟩
 simpa using all p r
theorem dn_of {ys:List NRow} (ok:HOk P w H h) (e:H a=some (dN P w a ys)) (kk:Keys H ys):(a == sysModules)=false∧ys.length ≤ sizeLine∧∃ xs,Paired rowR ys xs∧h.DictOfH (nestKind P w) a xs:=by
 obtain ⟨⟨hd,hz,xs,rel,o,es,ep,h1,h2,h3,h4,h5⟩,_,_⟩:=(show ObjOk P w H h a (dN P w a ys) from ok a _ e)
 refine ⟨hd,hz,xs,rel,o,es,ep,h1,h2,h3,h4,fun x hx=>?_,h5⟩
 have all:∀ {ys:List NRow} {xs:List (List Key2 × Addr × Value)},Paired rowR ys xs→Keys H ys→∀ x ∈ xs,(nestKind P w).is h x.1 x.2.1:=by
  intro ys xs q
  induction q with
  | nil=>intro _ x hx;cases hx
  | @cons y x ys xs hq _ ih =>
   intro kk z hz
   rcases y0f.mp hz with e | hz
   ·subst e
    have:=(kk y y0d).is ok
    rw [hq.1,hq.2.1] at this
    exact this
   ·exact ih (fun y hy=>kk y (y08 _ hy)) z hz
 exact all rel kk x hx
def valN (ys:List NRow) (k:List Key2):Option V:=(ys.find? fun y=>decide (y.1=k)).map (·.2.2)
theorem zj9 {ys:List NRow} {xs:List (List Key2 × Addr × Value)} (r:Paired rowR ys xs) (k:List Key2):RelO (valN ys k) ((atKey xs k).map (·.2)):=by
 unfold valN atKey
 induction r with
 | nil=>exact True.intro
 | @cons y x ys xs hq _ ih =>
  rw [y27,y27,← hq.1]
  by_cases e:y.1=k
  ·rw [decide_eq_true e];exact hq.2.2
  ·rw [decide_eq_false e];exact ih
theorem zot {H':Hp} {h':Heap} {ys:List NRow} {xs:List (List Key2 × Addr × Value)} (hd:(a == sysModules)=false) (hz:ys.length ≤ sizeLine) (r:Paired rowR ys xs) (dd:h'.DictOfH (nestKind P w) a xs):ObjOk P w H' h' a (dN P w a ys):=by
 obtain ⟨o,es,ep,h1,h2,h3,h4,_,h5⟩:=dd
 refine ⟨⟨hd,hz,xs,r,o,es,ep,h1,h2,h3,h4,h5⟩,⟨o,h1⟩,fun g1 g2 x kp=>?_⟩
 obtain ⟨q1,q2,xs',q3,o',es',ep',q4,q5⟩:=x
 exact ⟨q1,q2,xs',q3,o',es',ep',kp _ q4,q5⟩
theorem zms {ys:List NRow} {xs:List (List Key2 × Addr × Value)} {k:List Key2} {v:V} {u:Value} (r:Paired rowR ys xs) (rv:RelV v u):Paired rowR (ys ++ [(k,b,v)]) (xs ++ [(k,b,u)]):=by
 induction r with
 | nil=>exact .cons ⟨rfl,rfl,rv⟩ .nil
 | cons h _ ih=>exact .cons h ih
end
section
variable {X:Cx}
def rNotInN (P:Program) (w:World):R2:=fun y x H Q=>∃ a b ys k,x=.ref a∧y=.ref b∧H a=some (dN P w a ys)∧Keys H ys∧NestAt H b k∧Q (.bl (!(valN ys k).isSome)) H
theorem znj (hu:X.A.units + 8 < cLine):OpR X (compareOp .NotIn) (rNotInN X.prog X.w):=by
 intro pins s σ H y x v u Q I ry rx h
 obtain ⟨a,b,ys,k,rfl,rfl,e,kk,nb,q⟩:=h
 obtain rfl:u=Value.ref a:=rx
 obtain rfl:v=Value.ref b:=ry
 obtain ⟨hd,hz,xs,rel,dd⟩:=dn_of I.hok e kk
 refine wpAny_notIn_heap (knd:=nestKind X.prog X.w) (show X.A.units + 1 + 1 < cLine by omega) (nb.is I.hok) hd dd ?_
 have z:=(zj9 rel k).isSome_eq
 rw [y37] at z
 rw [← z]
 exact ⟨.bl (!(valN ys k).isSome),H,I.tok _,rfl,q⟩
def sDPutN (P:Program) (w:World) (td ty tv:TE):TS:=fun D σ H=>tv σ H fun v H1=>td σ H1 fun x H2=>ty σ H2 fun y H3=>∃ a b ys k,x=.ref a∧y=.ref b∧H3 a=some (dN P w a ys)∧Keys H3 ys∧NestAt H3 b k∧valN ys k=none∧ys.length < sizeLine ∧
 ∀ H4,H4=upd H3 a (dN P w a (ys ++ [(k,b,v)]))→D.nx σ H4
theorem zp3 {o i value:Expr} {pos pos':Pos} {td ty tv:TE} (hu:X.A.units + 8 < cLine) (ho:PE X o td) (hi:PE X i ty) (hv:PE X value tv) (hs:swapsWith value (some (.Subscript o i pos')) pos.line X.env=pure false) :
  PS X (.Assign [.Subscript o i pos'] value pos) (sDPutN X.prog X.w td ty tv):=by
 intro pins s σ H D I h
 refine wpAny_Assign_Subscript (thn (hv pins s σ H _ I h) fun r s1 ⟨v,H1,I1,rv,q1⟩=>thn (ho pins s1 σ H1 _ I1 q1) fun u s2 ⟨x,H2,I2,rx,q2⟩=>thn (hi pins s2 σ H2 _ I2 q2) fun iv s3 ⟨y,H3,I3,ry,a,b,ys,k,ex,ey,e,kk,nb,hn,hl,q3⟩=>?_) hs
 subst ex ey
 obtain rfl:u=Value.ref a:=rx
 obtain rfl:iv=Value.ref b:=ry
 obtain ⟨hd,hz,xs,rel,dd⟩:=dn_of I3.hok e kk
 have hzx:xs.length ≤ sizeLine:=by rw [← Paired.length rel];exact hz
 refine wpAny_setItem_heap (knd:=nestKind X.prog X.w) (hsz:=hzx) (show X.A.units + 1 + 1 < cLine by omega) (nb.is I3.hok) dd fun h' dd' ss=>?_
 have z:=(zj9 rel k).isSome_eq
 rw [hn,y37] at z
 have ek:atKey xs k=none:=by
  cases q:atKey xs k with
  | none=>rfl
  | some p=>rw [q] at z;cases z
 rw [storedH_new ek] at dd'
 have dd2:=dd'
 obtain ⟨q,es,ep,hq,_⟩:=dd2
 refine ⟨σ,_,zdc I3 (by rw [e];exact True.intro) ss ⟨q,hq⟩ (zot hd ?_ (zms rel rv) dd'),q3 _ rfl⟩
 rw [y0c,y17];omega
theorem zra {P:Program} {w:World} {H:Hp} (h:Heap) (hb:sysModules < h.objs.size):ObjOk P w H (h.push { cls:=.type "dict",data:=.dict #[] }) h.objs.size (dN P w h.objs.size []):=by
 refine zot (xs:=[]) (beq_eq_false_iff_ne.mpr (y1j hb)) (y1k _) .nil ?_
 exact ⟨_,#[],_,y0m _ rfl,⟨rfl,rfl,rfl⟩,rfl,rfl,fun x hx=>(nomatch hx),y2r⟩
def tDisp1N (P:Program) (w:World) (tk tv:TE):TE:=fun σ H Q=>∀ p H1,New H p (dN P w p []) H1→tk σ H1 fun y H2=>tv σ H2 fun z H3=>H3 p=some (dN P w p [])∧∃ b k,y=.ref b∧NestAt H3 b k∧∀ H4,H4=upd H3 p (dN P w p [(k,b,z)])→Q (.ref p) H4
theorem zne {k v:Expr} {tk tv:TE} {pos:Pos} (hu:X.A.units + 8 < cLine) (hk:PE X k tk) (hv:PE X v tv):PE X (.Dict [some k] [v] pos) (tDisp1N X.prog X.w tk tv):=by
 intro pins s σ H Q I q
 have I1:=I.laid (a:=s.heap.objs.size) (o:=dN X.prog X.w s.heap.objs.size []) (h':=s.heap.push { cls:=.type "dict",data:=.dict #[] }) (t':=s.toks) (fun _ _ q=>y0b _ q) (y05 _) (zra s.heap I.big)
 have e:(evalEachOpt [some k] X.env).zip ((evalEach [v] X.env).map fun v=>do let x ← v;standAt pos;pure x)=[(eval k X.env,do let x ← eval v X.env;standAt pos;pure x)].map fun p=>(some p.1,p.2):=rfl
 rw [arm_eval_Dict,e,dictDisplay_pairs _ (by simp) (by simp)]
 refine wpAny_bind (wpAny_standAt (wpAny_bind ?_))
 unfold subDict
 refine wpAny_bind (wpAny_alloc (wpAny_bind (wpAny_holding ?_)))
 rw [if_pos (by simp)]
 refine wpAny_bind (evalPairs_cons ?_)
 refine thn (hk pins _ σ _ _ I1 (q _ _ (.mk' I.fresh _))) fun kv s2 ⟨y,H2,I2,ry,q2⟩=>?_
 refine wpAny_bind (thn (hv pins s2 σ H2 _ I2 q2) fun vv s3 ⟨z,H3,I3,rz,ep,b,ks,ey,nb,q3⟩=>?_)
 subst ey
 obtain rfl:kv=Value.ref b:=ry
 refine wpAny_bind (wpAny_standAt (wpAny_pure (evalPairs_nil (wpAny_holding ?_))))
 rw [y34]
 obtain ⟨hd,hz,xs,rel,dd⟩:=dn_of I3.hok ep (fun y hy=>nomatch hy)
 cases rel
 refine wpAny_bind (wpAny_bind ?_)
 show wpAny _ _ (dictSet s.heap.objs.size (Value.ref b) vv >>= _) _ _ _
 refine wpAny_bind (wpAny_dictSet_heap (knd:=nestKind X.prog X.w) (hsz:=by rw [y2h];exact y1k _) (show X.A.units + 1 < cLine by omega) (nb.is I3.hok) dd fun h' dd' hs=>wpAny_pure ?_)
 dsimp only
 rw [y45]
 refine wpAny_pure (wpAny_pure (wpAny_pure (wpAny_pure ?_)))
 have dd2:=dd'
 obtain ⟨o,es,ep',hq,_⟩:=dd2
 exact ⟨.ref s.heap.objs.size,_,zdc I3 (by rw [ep];exact True.intro) hs ⟨o,hq⟩ (zot hd (zab (by simp)) (.cons ⟨rfl,rfl,rz⟩ .nil) dd'),rfl,q3 _ rfl⟩
end
section
variable {P:Program} {w:World} {A:Around} {E:Z0} {s:Shared}
theorem zg6 (v:Value):argsOk "set.__iter__" ⟨[v],[]⟩:=by unfold argsOk;kernel_rfl
theorem zlh {a:Addr} {o:Obj} {es:Array (Int × Value)} {ep:Nat} {t:SetTable} {Q:Z0} (ho:s.heap.get? a=some o) (hx:o.ExactSet) (hc:o.cls=.type "set") (hd:o.data=.set es ep t) (hf:t.fits es.size=true) (tb:Tb (!byT w) t) (hn:es.size ≤ sizeLine)
  (q:∀ (it:Addr) (y:Way) (h':Heap) (d:Drawn),WayOk w es t y→a ≠ it→(∀ pt pl,y=.drawn pt pl→pt ≠ it∧s.heap.objs.size ≤ pt)→s.heap.objs.size ≤ it→SetSt w it a es ep t y 0 h'→(∀ b u,s.heap.get? b=some u→h'.get? b=some u)→Q (.ref it) { s with heap:=h',drawn:=d }) :
  wpAny (model P w) A (pyIter (.ref a)) Q E s:=by
 have hT:s.TypeIs (.ref a) "set":=⟨o,ho,hc⟩
 refine wpAny_pyIter_slot hT F.slot_set_iter (wpAny_call_entry F.slot_set_iter hT zfr ?_ (zg6 _))
 unfold Builtin.«frozenset.__iter__» Builtin.Frozenset.slot0 slotArgs
 refine wpAny_bind (wpAny_bind (wpAny_pure ?_))
 unfold Builtin.Frozenset.addrOf
 refine wpAny_pure ?_
 unfold Builtin.Frozenset.sizeOf
 refine wpAny_bind (wpAny_bind (wpAny_setEntries_of ho hd hf (wpAny_pure ?_)))
 unfold setDrawn
 refine wpAny_bind (wpAny_bind (wpAny_setState_of ho hd hf ?_))
 dsimp only
 unfold setsByText
 refine wpAny_bind (wpAny_bind (wpAny_askSetting (wpAny_pure (wpAny_pure ?_))))
 have fin:∀ (s2:Shared) (v:Value) (y:Way),WayOk w es t y→(∀ b u,s.heap.get? b=some u→s2.heap.get? b=some u)→s2={ s with heap:=s2.heap,drawn:=s2.drawn }→s.heap.objs.size ≤ s2.heap.objs.size→FirstIs s2.heap t 0 v y→(∀ pt pl,y=.drawn pt pl→s.heap.objs.size ≤ pt∧pt < s2.heap.objs.size) →
   wpAny (model P w) A.in1 (do let e ← setEpoch a;let f ← newFields "set_iterator" [v,rawInt 0,.ref a,rawInt es.size,rawInt e];ret f) (fun fin s'=>∃ v,fin=PySem.Fin.done (.ret v)∧∃ T' r,s'.TypeIs v T'∧typeLookup (Value.type T') (Str.ofString "__next__")=pure (some r)∧Q v s') E s2:=by
  intro s2 v y hy hk es2 le hv hpt
  obtain ⟨h2,g2,d2,tk2,os2⟩:=s2
  have e1:g2=s.gens:=congrArg Shared.gens es2
  have e2:tk2=s.toks:=congrArg Shared.toks es2
  have e3:os2=s.os:=congrArg Shared.os es2
  subst e1;subst e2;subst e3
  unfold setEpoch
  refine wpAny_bind (wpAny_bind (wpAny_setState_of (hk a o ho) hd hf (wpAny_pure ?_)))
  unfold newFields
  refine wpAny_bind (wpAny_newObj_type (wpAny_pure ⟨_,rfl,"set_iterator",_,⟨_,y0m _ rfl,rfl⟩,slot_setit_next.lookup,?_⟩))
  have lt:a < h2.objs.size:=y0g (hk a o ho)
  have hk':∀ b u,h2.get? b=some u→(h2.push { cls:=.type "set_iterator",data:=.fields #[v,.int 0 0,.ref a,.int es.size 0,.int ep 0] }).get? b=some u:=fun b u e=>y0b _ e
  refine q _ y _ d2 hy (y0n lt) (fun pt pl e=>⟨y0n (hpt pt pl e).2,(hpt pt pl e).1⟩) le ⟨⟨o,hk' a o (hk a o ho),hd⟩,⟨_,v,y0m _ rfl,rfl,rfl,?_⟩⟩ fun b u e=>hk' b u (hk b u e)
  cases y with
  | text=>exact hv
  | place=>exact hv
  | drawn pt pl =>
   obtain ⟨e,o2,n2,h1,h2'⟩:=hv
   exact ⟨e,o2,n2,hk' _ _ h1,h2'⟩
 show wpAny _ _ (if (!byT w && (!t.plain && decide (es.size > 1)))=true then _ else _) _ _ _
 cases hb:byT w with
 | true =>
  rw [if_neg (by simp)]
  refine wpAny_bind (wpAny_pure ?_)
  exact fin s _ .text hb (fun _ _ e=>e) rfl (y05 _) rfl (fun _ _ e=>nomatch e)
 | false =>
  cases hp:(!t.plain && decide (es.size > 1)) with
  | false =>
   rw [if_neg (by simp)]
   refine wpAny_bind (wpAny_pure ?_)
   exact fin s _ .place ⟨hb,hp⟩ (fun _ _ e=>e) rfl (y05 _) ⟨0,rfl,zl5 tb.rise⟩ (fun _ _ e=>nomatch e)
  | true =>
   rw [if_pos (by simp)]
   refine wpAny_bind (zq9 es.size (List.range es.size) s _ y0t fun ys d pm=>?_)
   have yl:ys.length=es.size:=by rw [pm.length_eq,y0t]
   refine wpAny_bind (wpAny_newTuple ?_ (by rw [y00,yl];exact hn))
   refine fin _ _ (.drawn s.heap.objs.size ys) ⟨hb,hp,pm⟩ (fun _ _ e=>y0b _ e) rfl ?_ ⟨rfl,_,_,y0m _ rfl,rfl⟩ fun pt pl e=>?_
   ·show _ ≤ (Heap.push _ _).objs.size
    rw [y1i];exact Nat.le_succ _
   ·cases e
    refine ⟨y05 _,?_⟩
    show _ < (Heap.push _ _).objs.size
    rw [y1i];exact y3y _
end
section
variable {P:Program} {w:World} {A:Around} {E:Z0} {s:Shared}
theorem zco:Slot "set_iterator" "__iter__" "set_iterator.__iter__" :=
 .of (owner:="set_iterator") (n:="__iter__") (by rw [typeLookup_type,builtinLookup_eq_fast];kernel_rfl) (by decide +kernel) (by decide +kernel) (by decide +kernel) (by first | exact .inl (by decide +kernel) | exact .inr (by decide +kernel)) (by rw [isSubtype_type];kernel_rfl)
theorem zea:entryFor table "set_iterator.__iter__"=some Builtin.«dict_keyiterator.__iter__» :=
 entryFor_alias (id':="dict_keyiterator.__iter__") (by kernel_rfl) rfl (by decide +kernel) (by kernel_rfl)
theorem zfk (v:Value):argsOk "set_iterator.__iter__" ⟨[v],[]⟩:=by unfold argsOk;kernel_rfl
theorem zlb:typeLookup (.type "set") (Str.ofString "__len__")=pure (some (.builtin "set.__len__")):=F.slot_set_len.lookup
theorem zjl {a:Addr} {o:Obj} {es:Array (Int × Value)} {ep:Nat} {t:SetTable} {Q:List Value→Shared→Prop} (hh:A.handled=none) (ho:s.heap.get? a=some o) (hx:o.ExactSet) (hc:o.cls=.type "set") (hd:o.data=.set es ep t) (hf:t.fits es.size=true) (tb:Tb (!byT w) t) (hn:es.size ≤ sizeLine)
  (q:∀ (vs:List Value) (h':Heap) (d:Drawn) (tk:Nat),vs.Perm (es.toList.map (·.2))→s.heap.objs.size ≤ h'.objs.size→s.toks ≤ tk→(∀ b u,s.heap.get? b=some u→h'.get? b=some u)→Q vs { s with heap:=h',drawn:=d,toks:=tk }) :
  wpAny (model P w) A (collect (.ref a)) Q E s:=by
 have la:a < s.heap.objs.size:=y0g ho
 unfold collect
 refine wpAny_bind (wpAny_runValue (codeAny_builtin F.entry_proto_collect ?_))
 rw [Around.under_plainId F.plain_proto_collect _]
 show wpAny _ A.in1 (newList [] >>= fun l=>again (.builtin "list.__iadd__" ⟨[l,.ref a],[]⟩)) _ _ s
 refine wpAny_bind (wpAny_newObj_type ?_)
 refine wpAny_pure ⟨plainId_quiet F.plain_list_iadd _,codeAny_builtin F.entry_list_iadd ?_⟩
 rw [Around.under_plainId F.plain_list_iadd _]
 have hS₁:(s.heap.push { cls:=.type "list",data:=.seq ([]:List Value).toArray }).get? s.heap.objs.size=some { cls:=.type "list",data:=.seq ([]:List Value).toArray }:=y0m _ rfl
 have ha₁:(s.heap.push { cls:=.type "list",data:=.seq ([]:List Value).toArray }).get? a=some o:=y0b _ ho
 have h1:Builtin.List.listSameRef (.ref s.heap.objs.size) (.ref a)=false:=by simp [Builtin.List.listSameRef,y1j la]
 show wpAny _ A.in1 (Builtin.List.listExtendWith (.ref s.heap.objs.size) (.ref a) (.ref s.heap.objs.size)) _ _ _
 unfold Builtin.List.listExtendWith
 have hT:Shared.TypeIs { s with heap:=s.heap.push { cls:=.type "list",data:=.seq ([]:List Value).toArray } } (.ref a) "set":=⟨o,ha₁,hc⟩
 refine wpAny_bind (wpAny_typeOf hT ?_)
 rw [if_neg (by rw [h1];decide)]
 refine wpAny_bind (zlh (s:={ s with heap:=s.heap.push { cls:=.type "list",data:=.seq ([]:List Value).toArray } }) ha₁ hx hc hd hf tb hn fun it y h2 d wo hne hpt hit st k2=>?_)
 refine wpAny_bind (wpAny_holding ?_)
 have hT2:Shared.TypeIs { s with heap:=h2,drawn:=d } (.ref a) "set":=⟨o,k2 a o ha₁,hc⟩
 unfold Builtin.List.listLengthHint
 refine wpAny_bind (wpAny_specialOf hT2 zlb ?_)
 generalize hid:("set.__len__":String)=id0
 (fail_if_success (clear hid id0))
 wp_delta
 rw [show splitId id0=some ("set","__len__") from by subst hid;decide +kernel]
 subst hid
 refine wpAny_bind (wpAny_isInstance (b:=true) hT2 (by rw [isSubtype_type];kernel_rfl) ?_)
 rw [if_neg (by decide)]
 refine zsd (by decide +kernel) ?_
 refine wpAny_bind (wpAny_typeOf hT2 (wpAny_pure ?_))
 show wpAny _ A.in1 (rule "list.extend.makes-room" >>= fun _=>Builtin.List.listTouch (.ref s.heap.objs.size) >>= fun _ =>
  again (.builtin "list.extend.loop" ⟨[.ref s.heap.objs.size,.ref it,.ref s.heap.objs.size],[]⟩)) _ _ _
 refine wpAny_bind (wpAny_rule ?_)
 have hS2:=k2 _ _ hS₁
 refine wpAny_bind ?_
 show wpAny _ A.in1 (updateSeq s.heap.objs.size (·.push .none) >>= fun _=>updateSeq s.heap.objs.size (·.pop)) _ _ _
 refine wpAny_bind (wpAny_updateSeq hS2 rfl ?_)
 have hS₂:=y2d (Obj.mapSeq (·.push Value.none)) hS2 rfl
 refine wpAny_updateSeq hS₂ rfl ?_
 have hS₃:=y2d (Obj.mapSeq (·.pop)) hS₂ rfl
 have oth:∀ b o,b ≠ s.heap.objs.size→h2.get? b=some o→((h2.update s.heap.objs.size (Obj.mapSeq (·.push Value.none))).update s.heap.objs.size (Obj.mapSeq (·.pop))).get? b=some o :=
  fun b o hb e=>(y29 _ _ (Ne.symm hb)).trans ((y29 _ _ (Ne.symm hb)).trans e)
 have hself:∀ (s:Shared) (Q:Z0) (E:Z0),s.TypeIs (.ref it) "set_iterator"→Q (.ref it) s→wpAny (model P w) A.in1 (pyIter (.ref it)) Q E s:=fun s Q E hT q=>by
  refine wpAny_pyIter_slot hT zco (wpAny_call_entry zco hT zea ?_ (zfk _))
  show wpAny _ _ (ret (.ref it)) _ _ s
  exact wpAny_pure ⟨_,rfl,"set_iterator",_,hT,slot_setit_next.lookup,q⟩
 have sz1:(s.heap.push { cls:=.type "list",data:=.seq ([]:List Value).toArray }).objs.size=s.heap.objs.size + 1:=y1i ..
 have hit':s.heap.objs.size + 1 ≤ it:=by rw [← sz1];exact hit
 have ptne:∀ b,b ∈ y.fp→b ≠ s.heap.objs.size:=fun b hb=>by
  obtain ⟨pl,e⟩:=Way.mem_fp.mpr hb
  have:=(hpt b pl e).2
  have z:s.heap.objs.size + 1 ≤ b:=by rw [← sz1];exact this
  exact y1j z
 have W:=(Walks.set (P:=P) (A:=A.in1) (ep:=ep) hh hne (fun pt pl e=>(hpt pt pl e).1) wo tb hf hself).toS
 have hSf:s.heap.objs.size ∉ it :: a :: y.fp:=fun hm=>by
  rcases y0f.mp hm with z | hm
  ·exact y0n hit' z
  rcases y0f.mp hm with z | hm
  ·exact y1j la z
  ·exact ptne _ hm rfl
 refine wpAny_pure ⟨plainId_quiet F.plain_extend_loop _,codeAny_extend_loopS W hn _ hSf _ es.size 0 _ _ _ rfl (y1k _) ?_ hS₃ (ItemsOf.nil _) fun s' acc' c' hm hS' hacc=>?_⟩
 ·refine st.kept fun b u hb e=>oth b u ?_ e
  rcases hb with rfl | rfl | hb
  ·exact y1j hit'
  ·exact y0n la
  ·exact ptne b (Way.mem_fp.mp hb)
 show wpAny _ A (load s.heap.objs.size >>= _) _ _ s'
 refine wpAny_bind (wpAny_load hS' (wpAny_pure ?_))
 obtain ⟨h',g',d',tk',os'⟩:=s'
 have eg:g'=s.gens:=hm.gens
 have ed:d'=d:=hm.drawn
 have eo:os'=s.os:=hm.os
 subst eg;subst ed;subst eo
 have op:=zgl (a:=a) (ep:=ep) wo
 have ol:(ordOf w a es ep y).length=es.size:=by rw [op.length_eq,y0x]
 have hacc':acc'.toList=(ordOf w a es ep y).map (·.2):=by
  refine y16 fun j=>?_
  rw [y02,y1b]
  cases e:acc'[j]? with
  | none =>
   have:acc'.size ≤ j:=Array.getElem?_eq_none_iff.mp e
   rw [hacc.1] at this
   rw [y0e (by omega)]
   rfl
  | some v =>
   obtain ⟨k,hk⟩:=hacc.2 j v e
   rw [hk]
   rfl
 refine q _ h' d' tk' (by rw [hacc'];exact op.map _) (y1l (y0g hS')) hm.toks fun b u e=>?_
 have lb:b < s.heap.objs.size:=y0g e
 refine hm.heap b u (fun hb=>?_) (oth b u (y0n lb) (k2 b u (y0b _ e)))
 rcases y0f.mp hb with z | z
 ·exact y0n lb z
 ·rw [y07.mp z] at lb
  exact absurd (y22 lb hit') (y1a _)
end
def iv:Value→Int
 | .int i _=>i
 | _=>0
theorem zje:∀ {l:List Value},(∀ v ∈ l,∃ i t,v=.int i t)→IntsAre l (l.map iv)
 | [],_=>.nil
 | v :: r,h=>by
  obtain ⟨i,t,rfl⟩:=h v y0d
  exact .cons i t (zje fun v hv=>h v (y08 _ hv))
section
variable {P:Program} {w:World} {A:Around} {E:Z0} {s:Shared}
theorem zc4 {l:List Int} (h1:l.Pairwise (· ≤ ·)) (h2:l.Nodup):l.Pairwise (· < ·):=by
 have:=List.Pairwise.and h1 h2
 exact this.imp fun ⟨a,b⟩=>by omega
end
theorem Inv.drew {X:Cx} {pins:Z2} {σ:St} {H:Hp} {s:Shared} (I:Inv X pins σ H s) (d:Drawn):Inv X pins σ H { s with drawn:=d }:=by
 obtain ⟨h1,h2,h3,h4,h5,h6,h7,h8,h9,h10,h11⟩:=I
 exact ⟨h1,h2,h3,h4,h5,h6,h7,h8,h9,h10,h11⟩
def setI (P:Program) (w:World) (a:Addr) (ns:List Int):HO:=.ext fun h=>SetTs P w h a ns
theorem zih {X:Cx} (hc:X.calm=true):CallR X (.type "set") (fun xs H Q=>∃ (p:Addr) (ns:List Int),xs=[.ref p]∧SqL X.K H p (ns.map V.int)∧ns.length ≤ 1000∧∀ a,H a=none→Q (.ref a) (upd H a (setI X.prog X.w a ns))):=by
 infer_instance
 obtain ⟨p,ks,rfl,hx,hz,q⟩:=h
 obtain ⟨u,rfl,rx⟩:=vals1 r
 cases (show u=Value.ref p from rx)
 obtain ⟨vs,rv,pl,_⟩:=I.list hx
 have lv:=rv.length
 rw [y00] at lv
 refine zhr (ks:=ks) (I.ok.hd hc) pl.isList (by rw [y06];exact lv) (fun i v k e1 e2=>?_) (by rw [y06];unfold scanBound;omega) fun h' tk x k=>?_
 ·have e1':vs[i]?=some v:=by simpa using e1
  obtain ⟨u,e,q⟩:=rv.get (i:=i) (x:=V.int k) (by rw [y02,e2];rfl)
  rw [e1'] at e
  cases e
  obtain ⟨t,rfl⟩:=q
  show Value.isInt k (.int k t)=true
  unfold Value.isInt
  simp
 ·refine ⟨.ref s.heap.objs.size,_,I.laid (t':=tk) (fun b u e=>k b u (y0g e) e) (y05 _) ?_,rfl,q _ I.fresh⟩
  obtain ⟨n,hn,o,es,ep,t,ho,rest⟩:=id x
  exact ⟨x,⟨o,ho⟩,fun h1 h2 x1 k1=>x1.kept k1⟩
theorem zdt:∀ {vs:List Value} {ns:List Int},IntsAre vs ns→Vals (ns.map V.int) vs
 | _,_,.nil=>.nil
 | _,_,.cons n t h=>.cons ⟨t,rfl⟩ (zdt h)
def unlike {α:Type} [DecidableEq α]:List α→List α
 | []=>[]
 | x :: l=>if x ∈ unlike l then unlike l else x :: unlike l
theorem zbk {α:Type} [DecidableEq α] (x:α):∀ (l:List α),x ∈ unlike l ↔ x ∈ l
 | []=>Iff.rfl
 | y :: l=>by
  have ih:=zbk x l
  unfold unlike
  split
  ·rename_i h
   rw [ih,y0f]
   exact ⟨.inr,fun z=>z.elim (fun z=>by rw [z];exact (zbk y l).mp h) id⟩
  ·rw [y0f,y0f,ih]
theorem za7 {α:Type} [DecidableEq α]:∀ (l:List α),(unlike l).Nodup
 | []=>y2r
 | y :: l=>by
  unfold unlike
  split
  ·exact za7 l
  ·rename_i h
   exact y1h.mpr ⟨h,za7 l⟩
theorem ze4 {α:Type} [DecidableEq α] {l m:List α} (h1:l.Nodup) (h2:m.Nodup) (h:∀ x,x ∈ l ↔ x ∈ m):l.length=m.length :=
 Nat.le_antisymm (h1.length_le_of_subset fun y hy=>(h y).mp hy) (h2.length_le_of_subset fun y hy=>(h y).mpr hy)
theorem zhd {α:Type} [DecidableEq α]:∀ {l:List α},l.Nodup→unlike l=l
 | [],_=>rfl
 | x :: l,h=>by
  obtain ⟨h1,h2⟩:=y1h.mp h
  rw [unlike,zhd h2,if_neg h1]
section
variable {P:Program} {w:World} {T:Type} [DecidableEq T] {knd:HeapKind P w T}
theorem SetHs.moved {h h':Heap} {a:Addr} {xs:List (T × Addr)} (x:SetHs knd h a xs) (k:∀ o,h.get? a=some o→h'.get? a=some o) (i:∀ x ∈ xs,knd.is h' x.1 x.2):SetHs knd h' a xs:=by
 obtain ⟨o,es,ep,t,S,few⟩:=x
 exact ⟨o,es,ep,t,⟨k _ S.at',S.ex,S.dat,S.es,i,S.nd,S.tb⟩,few⟩
end
structure SetNs (P:Program) (w:World) (h0 h:Heap) (a:Addr) (ks:List (List Key2)) (xs:List (List Key2 × Addr)):Prop where
 low:∀ b o,h0.get? b=some o→h.get? b=some o
 set:SetHs (nestKind P w) h a xs
 is:∀ x ∈ xs,IsNest P w h0 x.1 x.2
 mem:∀ k,k ∈ xs.map (·.1) ↔ k ∈ ks
 few:xs.length ≤ ks.length
theorem SetNs.moved {P:Program} {w:World} {h0 h h':Heap} {a:Addr} {ks:List (List Key2)} {xs:List (List Key2 × Addr)} (x:SetNs P w h0 h a ks xs) (k:∀ o,h.get? a=some o→h'.get? a=some o) (l:∀ b o,h0.get? b=some o→h'.get? b=some o):SetNs P w h0 h' a ks xs :=
 ⟨l,x.set.moved k fun y hy=>IsNest.stays (x.is y hy) fun b o _ _ e _=>l b o e,x.is,x.mem,x.few⟩
section
variable {P:Program} {w:World} {A:Around} {R:Result→Shared→Prop} {it:Addr} {fp wr:List Addr} {G:Array GenState→Array GenState→Prop} {n:Nat} {Pv:Nat→Value→Prop} {St:Nat→Shared→Prop}
theorem zla (W:WalksS P w A.in1 it fp wr G n Pv St) (a:Addr) (ha:a ∉ fp) (h0:Heap) (hw:∀ b ∈ a :: wr,h0.get? b=none) (ks:List (List Key2)) (hn:ks.length=n) (hv:∀ i v,Pv i v→∀ k,ks[i]?=some k→∃ b,v=.ref b∧IsNest P w h0 k b) (hb:(unlike ks).length ≤ 75) (hu:A.units + 3 < cLine) :
  ∀ (m i:Nat) (s:Shared) (xs:List (List Key2 × Addr)),n - i=m→i ≤ n→St i s→SetNs P w h0 s.heap a (ks.take i) xs→(∀ s' xs',Moved (a :: wr) G s s'→SetNs P w h0 s'.heap a ks xs'→R (.ok (.ret .none)) s') →
   codeAny (model P w) A (.builtin "set.update.loop" ⟨[.ref a,.ref it],[]⟩) R s:=by
 have haw:a ∉ wr:=fun h=>ha (W.sub _ h)
 have up:∀ b ∈ wr,b ∈ a :: wr:=fun b h=>y08 _ h
 intro m
 induction m with
 | zero =>
  intro i s xs hm hi st x q
  obtain rfl:i=n:=by omega
  rw [y0r (y3m hn)] at x
  refine codeAny_builtin F.entry_set_update_loop ?_
  rw [Around.under_plainId F.plain_set_update_loop _]
  refine wpAny_bind (W.done s _ _ st fun s' mv=>wpAny_pure (q s' xs (mv.mono up) (x.moved (fun o e=>mv.heap a _ haw e) fun b o e=>mv.heap b o (fun hm=>by rw [hw b (up b hm)] at e;cases e) (x.low b o e))))
 | succ m ih =>
  intro i s xs hm hi st x q
  have lt:i < n:=by omega
  have hk:ks[i]?=some ks[i]:=by simp [hn,lt]
  have et:ks.take (i + 1)=ks.take i ++ [ks[i]]:=by rw [y1e,hk,y1f]
  have el:(ks.take i).length=i:=by rw [y0y];omega
  refine codeAny_builtin F.entry_set_update_loop ?_
  rw [Around.under_plainId F.plain_set_update_loop _]
  refine wpAny_bind (W.item i s _ _ lt st fun v s' pv st' mv=>?_)
  obtain ⟨b,rfl,is0⟩:=hv i v pv _ hk
  have x':=x.moved (h':=s'.heap) (fun o e=>mv.heap a _ haw e) fun b o e=>mv.heap b o (fun hm=>by rw [hw b (up b hm)] at e;cases e) (x.low b o e)
  have is:=IsNest.stays (h':=s'.heap) is0 fun b o _ _ e _=>x'.low b o e
  refine wpAny_bind (m:=holding [Value.ref b] (setAdd a (.ref b))) (wpAny_holding ?_)
  unfold setAdd
  refine wpAny_holding (wpAny_bind ((nestKind P w).pyHash (k:=ks[i]) (a:=b) ?_ is ?_))
  ·show _ + 1 < cLine
   simp
   omega
  ·refine add_on (knd:=nestKind P w) (s:={ s' with toks:=_ }) nestS ?_ x'.set ?_ is (fun hin=>?_) fun hnot h' xs' sb x2 pm=>?_
   ·show _ + 1 < cLine
    simp
    omega
   ·obtain ⟨_,_,_,_,S,_⟩:=x'.set
    rw [← y00 (f:=(·.1))]
    exact y13 (S.nd.length_le_of_subset fun k hk=>(zbk k ks).mpr (y2g ((x'.mem k).mp hk))) hb
   ·have x3:SetNs P w h0 s'.heap a (ks.take (i + 1)) xs:=⟨x'.low,x'.set,x'.is,fun k=>by
     rw [x'.mem,et,y0i,y07]
     exact ⟨.inl,fun z=>z.elim id fun z=>by rw [z];exact (x'.mem _).mp hin⟩,by rw [et,y0c];have:=x'.few;omega⟩
    refine wpAny_pure ⟨plainId_quiet F.plain_set_update_loop _,ih (i + 1) _ xs (by omega) lt (W.frame _ s' _ _ st' (y2x _ _) fun b hb o e=>e) x3 fun s2 xs2 mv2 x4=>?_⟩
    exact q s2 xs2 (Moved.trans W.gtrans ((mv.mono up).then_heap (y2x _ _) fun b o hb e=>e) mv2) x4
   ·have lo:∀ b o,h0.get? b=some o→h'.get? b=some o:=fun b o e=>by
     rw [sb.2 b (fun z=>by rw [z,hw a y0d] at e;cases e)]
     exact x'.low b o e
    have x3:SetNs P w h0 h' a (ks.take (i + 1)) xs':=⟨lo,x2,fun y hy=>by
     rcases y0f.mp (pm.mem_iff.mp hy) with rfl | z
     ·exact is0
     ·exact x'.is y z,fun k=>by
     rw [(pm.map (·.1)).mem_iff,y0u,y0f,x'.mem,et,y0i,y07]
     exact Or.comm,by rw [pm.length_eq,et,y0c,y10];have:=x'.few;simp;omega⟩
    refine wpAny_pure ⟨plainId_quiet F.plain_set_update_loop _,ih (i + 1) _ xs' (by omega) lt (W.frame _ s' _ _ st' (y2x _ _) fun b hb o e=>?_) x3 fun s2 xs2 mv2 x4=>?_⟩
    ·rw [sb.2 b (fun h=>ha (h ▸ hb))];exact e
    ·refine q s2 xs2 (Moved.trans W.gtrans ((mv.mono up).then_heap (y2x _ _) fun b o hb e=>?_) mv2) x4
     rw [sb.2 b (fun h=>hb (h ▸ y0d))];exact e
end
section
variable {P:Program} {w:World} {A:Around} {E:Z0} {s:Shared}
set_option maxHeartbeats 3200000 in
theorem zhs {l:Addr} {its:Array Value} {ks:List (List Key2)} {Q:Z0} (hh:A.handled=none) (hu:A.units + 8 < cLine) (hl:s.heap.IsList l its) (hk:ks.length=its.size) (hi:∀ (i:Nat) v k,its[i]?=some v→ks[i]?=some k→∃ b,v=.ref b∧IsNest P w s.heap k b)
  (hb:(unlike ks).length ≤ 75)
  (h:∀ (h':Heap) (tk:Nat) (xs:List (List Key2 × Addr)),SetNs P w s.heap h' s.heap.objs.size ks xs→Q (.ref s.heap.objs.size) { s with heap:=h',toks:=tk }) :
  wpAny (model P w) A (call (.type "set") [.ref l]) Q E s:=by
 obtain ⟨c,tl,hmro⟩:=F.called_set.mro
 have made:=F.called_set.made
 have sub:=F.called_set.sub
 refine wpAny_call (codeAny_of_tree (wpAny_pure ⟨Code.quiet_builtin _ (by decide +kernel),codeAny_builtin F.entry_type_call ?_⟩))
 rw [Around.under_plain (weight_type_call_type "set" [.ref l] []) rfl]
 have a1:=F.called_set.notType
 have a2:=F.called_set.canCreate
 have a3:=F.typeCall_set_1 (.ref l)
 repeat (any_goals (first | assumption | wp_step))
 refine codeAny_mono (zet (.ref l) (E:=E) (Q₁:=fun obj s1=>obj=.ref s.heap.objs.size∧s1={ s with heap:=s.heap.push { cls:=.type "set",dict:=none,data:=.set #[] 0 (.fresh 0 0 (!byT w)) } }) ⟨rfl,rfl⟩) fun r s1 hr=>?_
 cases r with
 | error e=>exact hr
 | ok fl =>
  cases fl with
  | ret obj =>
   obtain ⟨rfl,rfl⟩:=hr
   have at0:(s.heap.push { cls:=.type "set",dict:=none,data:=.set #[] 0 (.fresh 0 0 (!byT w)) }).get? s.heap.objs.size=some { cls:=.type "set",dict:=none,data:=.set #[] 0 (.fresh 0 0 (!byT w)) }:=y0m _ rfl
   have ty:Shared.TypeIs { s with heap:=s.heap.push { cls:=.type "set",dict:=none,data:=.set #[] 0 (.fresh 0 0 (!byT w)) } } (.ref s.heap.objs.size) "set":=⟨_,at0,rfl⟩
   have i1:=F.called_set.init.lookup
   have i2:=F.called_set.init.bind (.ref s.heap.objs.size)
   repeat (any_goals (first | assumption | wp_step))
   refine codeAny_mono (codeAny_call_builtin (R:=wants (fun r s2=>r=.none∧∃ h' tk,s2={ s with heap:=h',toks:=tk }∧∃ xs,SetNs P w s.heap h' s.heap.objs.size ks xs) E) F.called_set.init.plain F.entry_set_init (check_set_init_1 ty ?_)) fun r2 s2 hr2=>?_
   ·obtain ⟨ol,ho,hc,nl,hd⟩:=hl
    obtain ⟨oc,od,oda,osl⟩:=ol
    simp only at hc hd
    subst hc;subst hd
    have ho':(s.heap.push { cls:=.type "set",dict:=none,data:=.set #[] 0 (.fresh 0 0 (!byT w)) }).get? l=some { cls:=.type "list",dict:=od,data:=.seq its nl,slots:=osl }:=y0b _ ho
    have b1:=F.sub_list_set
    have b2:=F.sub_list_frozenset
    have b3:(Value.type "list" == Value.type "dict")=false:=by decide
    have hl1:(s.heap.push { cls:=.type "set",dict:=none,data:=.set #[] 0 (.fresh 0 0 (!byT w)) }).IsList l its:=⟨_,ho',rfl,nl,rfl⟩
    unfold Builtin.«set.__init__» noKeywords Builtin.Frozenset.updateFrom
    generalize hPI:pyIter=PI
    wp_walk
    subst hPI
    refine wpAny_pyIter_list hl1 ?_
    refine wpAny_bind (wpAny_runValue ?_)
    have ll:l < s.heap.objs.size:=y0g ho
    have h3:A.in1.in1.in1.handled=none:=by simp [hh]
    have ne:l ≠ (s.heap.push { cls:=.type "set",dict:=none,data:=.set #[] 0 (.fresh 0 0 (!byT w)) }).objs.size:=by rw [y1i];exact y0n (y25 ll)
    have nf:s.heap.objs.size ∉ [(s.heap.push { cls:=.type "set",dict:=none,data:=.set #[] 0 (.fresh 0 0 (!byT w)) }).objs.size,l]:=by
     rw [y1i]
     intro z
     rcases y0f.mp z with z | z
     ·exact absurd z (y0n (y3y _))
     ·exact absurd (y07.mp z) (y1j ll)
    have hwr:∀ b ∈ [s.heap.objs.size,(s.heap.push { cls:=.type "set",dict:=none,data:=.set #[] 0 (.fresh 0 0 (!byT w)) }).objs.size],s.heap.get? b=none:=fun b hb0=>by
     cases e:s.heap.get? b with
     | none=>rfl
     | some o =>
      have lt:=y0g e
      rw [y1i] at hb0
      rcases y0f.mp hb0 with z | z
      ·exact absurd z (y0n lt)
      ·exact absurd (y07.mp z) (y0n (y25 lt))
    refine zla ((Walks.list h3 _ l ne its).toS) s.heap.objs.size nf s.heap hwr ks hk (fun i v pv k e=>hi i v k pv e) hb ?u0 (its.size - 0) 0 _ [] (by omega) (y1k _) ⟨⟨_,y0m _ rfl,rfl,rfl⟩,(hl1.push _)⟩ ?x0 ?q0
    case u0=>simp;omega
    case x0 =>
     rw [y2v]
     refine ⟨fun b o e=>y0b _ (y0b _ e),?_,fun x hx=>(nomatch hx),fun k=>by simp,y05 _⟩
     exact ⟨_,_,_,_,⟨y0b _ at0,⟨rfl,rfl,rfl⟩,rfl,rfl,fun x hx=>(nomatch hx),y2r,zmi _ _ _⟩,show 0 * 5 < 7 * 3 by decide⟩
    case q0 =>
     intro s' xs' mv x'
     obtain ⟨h',g',d',tk',os'⟩:=s'
     have eg:g'=s.gens:=mv.gens
     have ed:d'=s.drawn:=mv.drawn
     have eo:os'=s.os:=mv.os
     subst eg;subst ed;subst eo
     exact wpAny_pure (wpAny_pure ⟨rfl,h',tk',rfl,xs',x'⟩)
   ·cases r2 with
    | error e=>exact hr2
    | ok f2 =>
     cases f2 with
     | ret r =>
      obtain ⟨rfl,h',tk,rfl,xs',x'⟩:=hr2
      repeat (any_goals (first | assumption | wp_step))
      exact h _ _ _ x'
     | _=>exact hr2.elim
  | _=>exact hr.elim
end
def setC (a:Addr) (n:Nat):HO:=.ext fun h=>∃ o es ep t,h.get? a=some o∧o.ExactSet∧o.data=.set es ep t∧t.fits es.size=true∧es.size=n
def rSetN (X:Cx):List V→Hp→VK→Prop:=fun xs H Q=>∃ (p:Addr) (vs:List V) (ks:List (List Key2)),xs=[.ref p]∧SqL X.K H p vs∧Paired (fun v k=>∃ b,v=V.ref b∧NestAt H b k) vs ks∧(unlike ks).length ≤ 75∧∀ a,H a=none→Q (.ref a) (upd H a (setC a (unlike ks).length))
theorem zg1 {X:Cx} (hc:X.calm=true) (hu:X.A.units + 8 < cLine):CallR X (.type "set") (rSetN X):=by
 infer_instance
 obtain ⟨p,ws,ks,rfl,hx,pr,hz,q⟩:=h
 obtain ⟨u,rfl,rx⟩:=vals1 r
 cases (show u=Value.ref p from rx)
 obtain ⟨vs,rv,pl,_⟩:=I.list hx
 have lv:=rv.length
 have lk:ws.length=ks.length:=pr.length
 refine zhs (ks:=ks) (I.ok.hd hc) hu pl.isList (by rw [y06];omega) (fun i v k e1 e2=>?_) hz fun h' tk ys x=>?_
 ·have e1':vs[i]?=some v:=by simpa using e1
  obtain ⟨b,e,nb⟩:=nth pr e2
  obtain ⟨u,e3,q⟩:=rv.get (i:=i) (x:=.ref b) e
  rw [e1'] at e3
  cases e3
  exact ⟨b,q,nb.is I.hok⟩
 ·refine ⟨.ref s.heap.objs.size,_,I.laid (t':=tk) (fun b u e=>x.low b u e) (y05 _) ?_,rfl,q _ I.fresh⟩
  obtain ⟨o,es,ep,t,S,_⟩:=x.set
  obtain ⟨hs,hf⟩:=S.fits
  have hn:es.size=(unlike ks).length:=by
   rw [hs,← y00 (f:=(·.1))]
   exact ze4 S.nd (za7 ks) fun k=>(x.mem k).trans (zbk k ks).symm
  exact ⟨⟨o,es,ep,t,S.at',S.ex,S.dat,hf,hn⟩,⟨o,S.at'⟩,fun h1 h2 x1 k1=>by
   obtain ⟨o,es,ep,t,a1,rest⟩:=x1
   exact ⟨o,es,ep,t,k1 _ a1,rest⟩⟩
where
 nth {ws:List V} {ks:List (List Key2)} {H:Hp} (pr:Paired (fun v k=>∃ b,v=V.ref b∧NestAt H b k) ws ks):∀ {i:Nat} {k:List Key2},ks[i]?=some k→∃ b,ws[i]?=some (V.ref b)∧NestAt H b k:=by
  induction pr with
  | nil=>intro i k e;simp at e
  | cons h1 _ ih =>
   intro i k e
   cases i with
   | zero =>
    obtain ⟨b,rfl,nb⟩:=h1
    rw [y4a] at e
    cases e
    exact ⟨b,rfl,nb⟩
   | succ i =>
    rw [y1w] at e
    obtain ⟨b,e',nb⟩:=ih e
    exact ⟨b,by rw [y1w];exact e',nb⟩
theorem zg2 {X:Cx}:CallR X (.builtin "len") (fun xs H Q=>∃ (p:Addr) (n:Nat),xs=[.ref p]∧H p=some (setC p n)∧n ≤ 1000∧Q (.int (n:Int)) H):=by
 infer_instance
 obtain ⟨p,n,rfl,hx,hz,q⟩:=h
 obtain ⟨u,rfl,rx⟩:=vals1 r
 cases (show u=Value.ref p from rx)
 obtain ⟨x,_⟩:=I.hok p _ hx
 obtain ⟨o,es,ep,t,ho,hex,hd,hf,hn⟩:=x
 refine call_len_set ho hex hd hf (by rw [hn];omega) ?_
 rw [hn]
 exact ⟨.int _,H,I.tok _,⟨_,rfl⟩,q⟩
end L2
namespace SM
open PySem PySem.Spec PyProof.Rows L2 SS
def k1 (p:List Nat):List Key2:=p.map fun (n:Nat)=>(.inl (.inl (n:Int)):Key2)
theorem zoc:∀ {p q:List Nat},k1 p=k1 q→p=q
 | [],[],_=>rfl
 | [],_ :: _,h=>by simp [k1] at h
 | _ :: _,[],h=>by simp [k1] at h
 | x :: p,y :: q,h=>by
  simp only [k1,y0u,List.cons.injEq,Sum.inl.injEq] at h
  rw [zoc (p:=p) (q:=q) h.2,show x=y by have:=h.1;omega]
theorem zta {H:Hp} {b:Addr} {p:List Nat} (e:H b=some (.tup (p.map nV))):NestAt H b (k1 p):=by
 refine ⟨_,e,?_⟩
 clear e
 induction p with
 | nil=>exact .nil
 | cons x p ih=>exact .cons (by exact rfl) ih
theorem zfu {α β:Type} [DecidableEq α] [DecidableEq β] {f:α→β} (inj:∀ x y,f x=f y→x=y) (l:List α):(unlike (l.map f)).length=(unlike l).length:=by
 have nd:((unlike l).map f).Nodup:=y20.mpr ((za7 l).imp fun {a b} ne e=>ne (inj a b e))
 rw [← y00 (f:=f) (as:=unlike l)]
 exact ze4 (za7 _) nd fun x=>by simp [zbk,y09]
variable {m1 m2 m3:Tm} {ls:List (List Nat)} {k:Nat} {ks:List Bool}
def oneT (w:Nat):Tm:=⟨w,List.replicate (2 ^ w) [[0]],[true]⟩
theorem zrs {w:Nat} (h:w ≤ 3):(oneT w).Ok:=by
 refine ⟨h,Nat.one_pos,(show 1 ≤ 30 by decide),y23,?_,?_,?_⟩
 ·intro t ht
  rw [y3e ht]
  rfl
 ·intro t ht r hr
  rw [y3e ht] at hr
  cases y07.mp hr
  rfl
 ·intro t ht r hr x hx
  rw [y3e ht] at hr
  cases y07.mp hr
  cases y07.mp hx
  exact Nat.one_pos
theorem zka {α β:Type} {R:α→β→Prop} {x:α} {y:β} (h:R x y):∀ n,Paired R (List.replicate n [x]).flatten (List.replicate n y)
 | 0=>.nil
 | n + 1=>by
  rw [y26,y26]
  exact .cons h (zka h n)
section
variable {X:Cx} {H:Hp}
theorem ne_tm {a b:Addr} {m:Tm} (ha:RepT H a m) (hb:RepT H b m):NeOk X 8 H (.ref a) (.ref b) false:=by
 obtain ⟨b1,c1,rs,e1,e2,e3,e4⟩:=ha
 obtain ⟨b2,c2,ts,f1,f2,f3,f4⟩:=hb
 have r:=zny (X:=X) (k:=7) (.of e1) (.of f1) (fun _=>true) fun j h1 h2=>by
  have hj:j=0∨j=1∨j=2:=by simp only [y10,y2h] at h1;omega
  rcases hj with rfl | rfl | rfl
  ·have z:=zcq (X:=X) (k:=7) (H:=H) (x:=V.int (m.w:Int)) (y:=V.int (m.w:Int)) rfl rfl
   rw [show eqV (V.int (m.w:Int)) (V.int (m.w:Int))=true by simp [eqV]] at z
   exact z
  ·exact zgu (zsq (k:=4) e2 f2 e3 f3)
  ·exact zgu (zpz (k:=6) e4 f4)
 exact r
theorem zru {a b:Addr} {xs:List V} (ha:H a=some (.lst xs)) (hb:H b=some (.lst [])):NeOk X 8 H (.ref a) (.ref b) (!xs.isEmpty):=fun pins σ s A u v hu I rx ry=>by
 cases (show u=Value.ref a from rx)
 cases (show v=Value.ref b from ry)
 obtain ⟨us,r1,p1,_⟩:=I.list (.of ha)
 obtain ⟨vs,r2,p2,_⟩:=I.list (.of hb)
 have l1:=r1.length
 have l2:=r2.length
 have hu':A.units < cLine:=by omega
 cases xs with
 | nil =>
  have z:=SeqAt.RcNeAt.lists (A:=A) (s:=s) (e:=fun _=>true) p1.isList p2.isList (by rw [y06,y06,← l1,← l2]) hu' fun j h1 h2=>by
   rw [y06,← l1] at h1
   exact absurd h1 (y31 _)
  rw [y06,← l1] at z
  exact z
 | cons x xs=>exact SeqAt.RcNeAt.lists_lengths (A:=A) (s:=s) p1.isList p2.isList (by rw [y06,y06,← l1,← l2];simp) hu'
end
def zfw:Sp:=fun vs H Q _=>∃ (r:Int),vs=[.int r]∧Q (.bl true) H
end SM
namespace L2
theorem zbp:∀ (ns:List (Str × NameKind)) (n:Nat) (cl:Z4),cellsFrom n ns cl=cellsFrom n ns [] ++ cl
 | [],_,_=>rfl
 | (x,k) :: r,n,cl=>by
  unfold cellsFrom
  split
  ·rw [zbp r (n + 1) ((x,n) :: cl),zbp r (n + 1) [(x,n)]];simp
  ·exact zbp r n cl
theorem zb7:∀ (ns:List (Str × NameKind)) (n:Nat) {x:Str} {c:Addr},(x,c) ∈ cellsFrom n ns []→(x,NameKind.cell) ∈ ns
 | [],_,_,_,h=>nomatch h
 | (y,k) :: r,n,x,c,h=>by
  unfold cellsFrom at h
  split at h
  ·rename_i hk
   rw [zbp] at h
   rcases y0i.mp h with z | z
   ·exact y08 _ (zb7 r (n + 1) z)
   ·cases y07.mp z
    rw [beq_iff_eq.mp hk];exact y0d
  ·exact y08 _ (zb7 r n h)
theorem zc1 {α:Type} {x:Str}:∀ {a b:List (Str × α)},(a ++ b).lookup x=(a.lookup x).or (b.lookup x)
 | [],_=>rfl
 | (y,v) :: r,b=>by
  rw [y2z,y19,y19]
  cases x == y with
  | true=>rfl
  | false=>exact zc1
section
variable {M:Model} {A:Around} {E:Z0} {s₀ s:Shared} {m cm:Z1} {env:Env} {ow:Z4}
theorem putL {n:Str} {v:Value} {Q:Unit→Shared→Prop} (x:InCallC s₀ env.locals m ow cm s) (hk:env.scope.kind=.function) (hl:env.kindOf n=some .local)
  (q:∀ t,InCallC s₀ env.locals (fun y=>if y=n then some v else m y) ow cm t→Q () t):wpAny M A (storeName env n v) Q E s:=by
 obtain ⟨g0,t0,eS⟩:=x.toInCall.same
 refine wpAny_storeName_local hl x.toInCall.ns (fun g1 gn gs=>q _ { toInCall:=⟨⟨g1,t0 + 1,by rw [eS]⟩,gn,fun b o e=>?_,x.toInCall.fresh⟩,cell:=fun k c hc=>?_,apart:=x.apart,above:=x.above }) (by rw [hk];rfl)
 ·have lt:=y0g e
  have fr:=x.toInCall.fresh
  exact gs.extBut b o (y0n (y0h lt fr)) (x.toInCall.keep b o e)
 ·have ab:=x.above k c (mem_of_lookup' hc)
  exact (x.cell k c hc).sameBut gs (y1j ab)
theorem putC {n:Str} {c:Addr} {v:Value} {Q:Unit→Shared→Prop} (x:InCallC s₀ env.locals m ow cm s) (hk:env.scope.kind=.function) (hl:env.kindOf n=some .cell) (ho:ow.lookup n=some c) (hc:env.cells.lookup n=some c)
  (q:∀ t,InCallC s₀ env.locals m ow (fun y=>if y=n then some v else cm y) t→Q () t):wpAny M A (storeName env n v) Q E s:=by
 have ab:=x.above n c (mem_of_lookup' ho)
 obtain ⟨g0,t0,eS⟩:=x.toInCall.same
 refine wpAny_storeName_cell hk hl hc (x.cell n c ho) fun g1 gc gs=>q _ { toInCall:=⟨⟨g1,t0,by rw [eS]⟩,x.toInCall.ns.sameBut gs (y0n ab),fun b o e=>?_,x.toInCall.fresh⟩,cell:=fun k d hd=>?_,apart:=x.apart,above:=x.above }
 ·have lt:=y0g e
  have fr:=x.toInCall.fresh
  exact gs.extBut b o (y0n (y22 (y0h lt fr) ab)) (x.toInCall.keep b o e)
 ·by_cases kn:k=n
  ·rw [kn,ho] at hd
   cases hd
   rw [if_pos kn];exact gc
  ·rw [if_neg kn]
   refine (x.cell k d hd).sameBut gs fun e=>kn ?_
   rw [e] at hd
   exact name_of_addr x.apart (mem_of_lookup' hd) (mem_of_lookup' ho)
theorem bindM (f:Str × Value→PUnit→Sem (ForInStep PUnit)) (hf:∀ n v u,f (n,v) u=(do storeName env n v;pure (.yield ⟨⟩))) (hk:env.scope.kind=.function) (hsub:∀ n c,ow.lookup n=some c→env.cells.lookup n=some c) :
  ∀ (bs:List (Str × Value)) (m cm:Z1) (s:Shared) (Q:PUnit→Shared→Prop),InCallC s₀ env.locals m ow cm s→(∀ y ∈ bs,env.kindOf y.1=some .local∨(env.kindOf y.1=some .cell∧∃ c,ow.lookup y.1=some c)) →
   (∀ t,InCallC s₀ env.locals (bindL env.kindOf bs m) ow (bindC env.kindOf bs cm) t→Q ⟨⟩ t)→wpAny M A (forIn bs ⟨⟩ f) Q E s
 | [],m,cm,s,Q,x,_,q=>by rw [y45];exact wpAny_pure (q s x)
 | (n,v) :: r,m,cm,s,Q,x,hb,q=>by
  rw [y34,hf]
  have hb':=fun y hy=>hb y (y08 _ hy)
  rcases hb (n,v) y0d with z | ⟨z,c,hc⟩
  ·refine wpAny_bind (wpAny_bind (putL x hk z fun t x1=>wpAny_pure (bindM f hf hk hsub r _ _ t Q x1 hb' fun t2 x2=>q t2 ?_)))
   rw [bindL,bindC,if_pos z,if_pos z];exact x2
  ·have nz:¬ env.kindOf n=some .local:=by rw [z];decide
   refine wpAny_bind (wpAny_bind (putC x hk z hc (hsub n c hc) fun t x1=>wpAny_pure (bindM f hf hk hsub r _ _ t Q x1 hb' fun t2 x2=>q t2 ?_)))
   rw [bindL,bindC,if_neg nz,if_neg nz];exact x2
theorem newEnvM {scope:Scope} {globals:Addr} {cl:Z4} {bs:List (Str × Value)} {qual:Str} {func:Option Addr} {code:Value} {builtins:Addr} {Q:Env→Shared→Prop} (hk:scope.kind=.function)
  (hb:∀ y ∈ bs,scope.names.lookup y.1=some .local∨scope.names.lookup y.1=some .cell)
  (q:∀ t,InCallC s s.heap.objs.size (bindL (fun x=>scope.names.lookup x) bs fun _=>none) (cellsFrom (s.heap.objs.size + 1) scope.names []) (bindC (fun x=>scope.names.lookup x) bs fun _=>none) t →
   Q (newEnv scope s.heap.objs.size globals (cellsFrom (s.heap.objs.size + 1) scope.names [] ++ cl) qual func code none builtins) t):wpAny M A (newFunctionEnv scope globals cl bs qual func code none builtins) Q E s:=by
 simp only [newFunctionEnv,Option.isSome_none,y0w,if_false]
 refine wpAny_bind (wpAny_alloc (wpAny_bind (wpAny_layCells _ (fun name kind cells=>by cases hkc:kind == NameKind.cell <;> simp [hkc]) _ _ _ _ ?_)))
 have c1:=cellsFrom_ok scope.names (s.heap.push { cls:=.type "frame",data:=.dict #[] }) (s.heap.objs.size + 1) [] ⟨fun _ _ z=>(nomatch z),.nil⟩ (by rw [y1i];exact y05 _)
 rw [y1i] at c1
 rw [show ({ s with heap:=s.heap.push { cls:=.type "frame",data:=.dict #[] } }:Shared).heap.objs.size=s.heap.objs.size + 1 from y1i ..,zbp]
 refine wpAny_bind (bindM (s₀:=s) (ow:=cellsFrom (s.heap.objs.size + 1) scope.names []) (env:=newEnv scope s.heap.objs.size globals (cellsFrom (s.heap.objs.size + 1) scope.names [] ++ cl) qual func code none builtins) _ (fun _ _ _=>rfl) hk (fun n c e=>?_) bs (fun _=>none) (fun _=>none) _ _ ?_ (fun y hy=>?_) fun t x=>wpAny_pure (q t x))
 ·show (cellsFrom (s.heap.objs.size + 1) scope.names [] ++ cl).lookup n=some c
  rw [zc1,e];rfl
 ·refine { toInCall:=⟨⟨_,_,rfl⟩,(Heap.Ns.new s.heap (.type "frame")).keeps (pushCells_keeps _ _),fun b o e=>pushCells_keeps _ _ b o (y0b _ e),y05 _⟩,cell:=fun n c e=>(c1.empty n c (mem_of_lookup' e)).1,apart:=c1.apart,above:=fun n c e=>?_ }
  have:=(c1.empty n c e).2
  exact this
 ·rcases hb y hy with z | z
  ·exact .inl z
  ·exact .inr ⟨z,zc2 z⟩
end
def envM (qual:Str) (scope:Scope) (cl:Z4) (L f:Addr) (cd:Value):Env :=
 { scope:=scope,locals:=L,globals:=mainGlobals,cells:=cellsFrom (L + 1) scope.names [] ++ cl,qual:=qual ++ ".<locals>.",func:=some f,code:=cd,frame:=some L,builtins:=builtinsNs }
noncomputable def cxM (P:Program) (w:World) (K:Frag) (mg:Z1) (base:Heap) (N:List Str) (qual:Str) (scope:Scope) (cl:Z4) (f:Addr) (cd:Value) (A:Around) (outer:List Env) (s:Shared) (H:Hp):Cx where
 prog:=P
 w:=w
 K:=K
 mg:=mg
 base:=base
 A:=A.deeper (envM qual scope cl s.heap.objs.size f cd)
 N:=N
 s₀:=s
 H₀:=dropL cl H
 env:=envM qual scope cl s.heap.objs.size f cd
 outer:=outer
 stack:=envM qual scope cl s.heap.objs.size f cd :: outer
 ex:=[]
 calm:=true
 fn:=fun x=>scope.names.lookup x == some .cell
 pn:=[]
 xe:=fun _ _=>False
structure CloScopeM (own ps cap:List Str) (sc:Scope):Prop where
 kind:sc.kind=.function
 co:sc.isCoroutine=false
 gen:sc.isGenerator=false
 pre:own.take ps.length=ps
 nd:ps.Nodup
 par:∀ x ∈ ps,sc.names.lookup x=some .local∨sc.names.lookup x=some .cell
 cap:∀ x ∈ cap,sc.names.lookup x=some .free
 one:∀ y ∈ sc.names,y.2=.cell→sc.names.lookup y.1=some .cell
section
variable {P:Program} {w:World} {K:Frag} {mg:Z1} {base:Heap} {A:Around} {outer:List Env} {s s1:Shared} {H:Hp} {own ps cap:List Str} {qual:Str} {scope:Scope} {cl:Z4} {f:Addr} {cd:Value} {vs cv:List V} {us:List Value}
theorem zqx (S:CloScopeM own ps cap scope) (hd:A.handled=none) (e0:Env0 P w K mg base A outer s H) (hl:vs.length=ps.length) (hlo:ps.length ≤ own.length) (r:Vals vs us)
  (hcl:∀ x c,cl.lookup x=some c→∃ o v,H c=some (.frz o (.own c))∧o.data=.cell v) (hfr:∀ p ∈ scope.names,p.2=.free→∃ c,cl.lookup p.1=some c) (inj:∀ x y c,cl.lookup x=some c→cl.lookup y=some c→x=y) (hcap:Caps H cl cap cv)
  (xc:InCallC s s.heap.objs.size (bindL (fun x=>scope.names.lookup x) (ps.zip us) fun _=>none) (cellsFrom (s.heap.objs.size + 1) scope.names []) (bindC (fun x=>scope.names.lookup x) (ps.zip us) fun _=>none) s1) :
  Inv (cxM P w K mg base (own ++ cap) qual scope cl f cd A outer s H) [] (stL own vs cv) (dropL cl H) s1:=by
 classical
 obtain ⟨h1,tk,rfl,hk⟩:=xc.done
 have d1:∀ b,¬ InCl cl b→dropL cl H b=H b:=fun b n=>if_neg n
 have dn:∀ b,H b=none→dropL cl H b=none:=fun b e=>by
  by_cases hc:InCl cl b
  ·exact if_pos hc
  ·rw [d1 b hc];exact e
 have noA:∀ b:Addr,b ∉ (cxM P w K mg base (own ++ cap) qual scope cl f cd A outer s H).ex:=fun b z=>absurd (show b ∈ ([]:List Addr) from z) (by simp)
 have at':∀ x c,cl.lookup x=some c→∃ o v,s.heap.get? c=some o∧o.data=.cell v:=fun x c e=>by
  obtain ⟨o,v,z,zd⟩:=hcl x c e
  exact ⟨o,v,(e0.hok c _ z).1,zd⟩
 have hok0:HOk P w (dropL cl H) s.heap:=fun b u e=>by
  have hc:¬ InCl cl b:=fun hc=>by
   have:dropL cl H b=none:=if_pos hc
   rw [this] at e;cases e
  rw [d1 b hc] at e
  exact (e0.hok b u e).stay (fun _ _ _ z=>z) (fun c z=>by rw [d1 c (zbc hcl z fun _ _ y=>nomatch y)];exact z) (fun c o a q co z=>by rw [d1 c (zh9 hcl co z)];exact z) fun c xs z=>by rw [d1 c (zbc hcl z fun _ _ y=>nomatch y)];exact z
 have two:∀ x c,(cellsFrom (s.heap.objs.size + 1) scope.names [] ++ cl).lookup x=some c→((cellsFrom (s.heap.objs.size + 1) scope.names []).lookup x=some c∧s.heap.objs.size < c)∨((cellsFrom (s.heap.objs.size + 1) scope.names []).lookup x=none∧cl.lookup x=some c∧c < s.heap.objs.size):=fun x c e=>by
  rw [zc1] at e
  cases z:(cellsFrom (s.heap.objs.size + 1) scope.names []).lookup x with
  | some y =>
   rw [z] at e
   cases e
   exact .inl ⟨rfl,xc.above x c (mem_of_lookup' z)⟩
  | none =>
   rw [z] at e
   have e':cl.lookup x=some c:=e
   obtain ⟨o,v,ho,_⟩:=at' x c e'
   exact .inr ⟨rfl,e',y0g ho⟩
 have free':∀ x,scope.names.lookup x=some .free→(cellsFrom (s.heap.objs.size + 1) scope.names []).lookup x=none:=fun x hx=>by
  cases z:(cellsFrom (s.heap.objs.size + 1) scope.names []).lookup x with
  | none=>rfl
  | some y =>
   have:=S.one (x,.cell) (zb7 _ _ (mem_of_lookup' z)) rfl
   rw [hx] at this;cases this
 refine ⟨⟨e0.mod,S.kind,rfl,rfl,y05 _,fun x y c hx hy=>?_,fun x hx=>?_,fun x c hx hc=>?_,fun _=>hd,Around.frames_deeper e0.frames,.inr ⟨rfl,rfl⟩,fun b z=>absurd z (noA b),fun b o e=>⟨(e0.bs b o e).1,dn b (e0.bs b o e).2⟩,e0.bsz,fun b _ _=>noA b,fun b z=>absurd z (noA b),e0.funs,fun b hb=>dn b (e0.frf b hb)⟩,
  rfl,e0.bare,Un.kept hk,⟨_,xc.toInCall.ns,fun i x v e1 e2 e3=>?_⟩,fun x c e=>?_,hok0.fresh (y05 _),fun x c e=>?_,fun p hp=>absurd (show p ∈ ([]:Z2) from hp) (by simp),hok0.kept hk,?_⟩
 ·rcases two x c hx with ⟨z1,z2⟩ | ⟨_,z1,z2⟩ <;> rcases two y c hy with ⟨z3,z4⟩ | ⟨_,z3,z4⟩
  ·exact name_of_addr xc.apart (mem_of_lookup' z1) (mem_of_lookup' z3)
  ·exact absurd (y22 z2 z4) (y1a _)
  ·exact absurd (y22 z4 z2) (y1a _)
  ·exact inj x y c z1 z3
 ·have hx:scope.names.lookup x=some .cell∨scope.names.lookup x=some .free:=hx
  show ∃ c,(cellsFrom (s.heap.objs.size + 1) scope.names [] ++ cl).lookup x=some c
  rw [zc1]
  rcases hx with z | z
  ·obtain ⟨c,e⟩:=zc2 (n:=s.heap.objs.size + 1) z
   exact ⟨c,by rw [e];rfl⟩
  ·obtain ⟨c,e⟩:=hfr (x,.free) (mem_of_lookup' z) rfl
   exact ⟨c,by rw [free' x z];exact e⟩
 ·have hx':scope.names.lookup x=some .cell:=beq_iff_eq.mp hx
  obtain ⟨c',e⟩:=zc2 (n:=s.heap.objs.size + 1) hx'
  rcases two x c hc with ⟨z1,z2⟩ | ⟨z1,_⟩
  ·exact y1l z2
  ·rw [e] at z1;cases z1
 ·have e1':(own ++ cap)[i]?=some x:=e1
  have e2':(vs.map some ++ List.replicate (own.length - vs.length) none ++ cv.map some)[i]?=some (some v):=e2
  have lo:(vs.map some ++ List.replicate (own.length - vs.length) (none:Option V)).length=own.length:=by rw [y0c,y00,y23];omega
  by_cases hi:i < own.length
  ·rw [y0o (by omega)] at e2'
   by_cases hv:i < vs.length
   ·rw [y0o (by simpa using hv),y02] at e2'
    rw [y0o hi] at e1'
    have ha:vs[i]?=some v:=by
     cases q:vs[i]? with
     | none=>rw [q] at e2';cases e2'
     | some z=>rw [q] at e2';exact congrArg some (Option.some.inj (Option.some.inj e2'))
    obtain ⟨u,hu,ru⟩:=r.get ha
    have hp:ps[i]?=some x:=by rw [← S.pre,y3c (by omega)];exact e1'
    refine ⟨u,ru,?_⟩
    rcases S.par x (y0a hp) with k | k
    ·exact .inl ⟨k,zfi S.nd hp hu k⟩
    ·obtain ⟨c,e⟩:=zc2 (n:=s.heap.objs.size + 1) k
     have qc:=xc.cell x c e
     rw [zfj S.nd hp hu (by show scope.names.lookup x ≠ _;rw [k];decide)] at qc
     refine .inr ⟨.inl k,c,?_,qc⟩
     show (cellsFrom (s.heap.objs.size + 1) scope.names [] ++ cl).lookup x=some c
     rw [zc1,e];rfl
   ·rw [y0p (by simpa using y1c hv),y2t] at e2'
    split at e2' <;> cases e2'
  ·rw [y0p (by omega),lo,y02] at e2'
   rw [y0p (by omega)] at e1'
   have ha:cv[i - own.length]?=some v:=by
    cases q:cv[i - own.length]? with
    | none=>rw [q] at e2';cases e2'
    | some z=>rw [q] at e2';exact congrArg some (Option.some.inj (Option.some.inj e2'))
   obtain ⟨c,o,u,hc,hz,hd',ru⟩:=zjn hcap e1' ha
   have hf':=S.cap x (y0a e1')
   refine ⟨u,ru,.inr ⟨.inr hf',c,?_,o,hk c o (e0.hok c _ hz).1,hd'⟩⟩
   show (cellsFrom (s.heap.objs.size + 1) scope.names [] ++ cl).lookup x=some c
   rw [zc1,free' x hf'];exact hc
 ·rcases two x c e with ⟨z1,z2⟩ | ⟨_,z1,z2⟩
  ·exact ⟨_,xc.cell x c z1⟩
  ·obtain ⟨o,v,ho,hd'⟩:=at' x c z1
   exact ⟨v,o,hk c o ho,hd'⟩
 ·rcases two x c e with ⟨z1,z2⟩ | ⟨_,z1,z2⟩
  ·exact hok0.fresh (y1l z2)
  ·exact if_pos ⟨x,z1⟩
 ·have:=zdy hcap
  show (vs.map some ++ List.replicate (own.length - vs.length) none ++ cv.map some).length=(own ++ cap).length
  rw [y0c,y0c,y00,y23,y00,y0c]
  omega
theorem zk0 {N:List Str} {pins:Z2} {σ':St} {H2:Hp} {s':Shared} {v:V} {u:Value} {Q:VK} (e0:Env0 P w K mg base A outer s H) (hcl:∀ x c,cl.lookup x=some c→∃ o v,H c=some (.frz o (.own c))∧o.data=.cell v)
  (J:Inv (cxM P w K mg base N qual scope cl f cd A outer s H) pins σ' H2 s') (rv:RelV v u) (q:(∀ b,InCl cl b→H2 b=none)→Q v (mixL cl H H2)):CE outer P w H s Q u s':=by
 classical
 have d1:∀ b,¬ InCl cl b→dropL cl H b=H b:=fun b n=>if_neg n
 have m1:∀ b,¬ InCl cl b→mixL cl H H2 b=H2 b:=fun b n=>if_neg n
 have nc:∀ b,H b=none→¬ InCl cl b:=fun b e ⟨x,z⟩=>by
  obtain ⟨o,v,z2,_⟩:=hcl x b z
  rw [z2] at e;cases e
 have un:Un (frs outer) [] (dropL cl H) H2 s.heap s'.heap:=J.base
 have cellK:∀ x c,cl.lookup x=some c→∃ o,H c=some (.frz o (.own c))∧s'.heap.get? c=some o∧H2 c=none:=fun x c e=>by
  obtain ⟨o,v,z,_⟩:=hcl x c e
  have ho:=(e0.hok c _ z).1
  have dz:dropL cl H c=none:=if_pos ⟨x,e⟩
  have nf:c ∉ frs outer:=fun hb=>by rw [e0.frf c hb] at z;cases z
  exact ⟨o,z,un.keep c o ho dz nf (by simp),un.free c o ho dz (by simp)⟩
 have nm:∀ b u,H2 b=some u→¬ InCl cl b:=fun b u e ⟨x,z⟩=>by
  obtain ⟨_,_,_,z2⟩:=cellK x b z
  rw [z2] at e;cases e
 ac_rfl
 ·have hc:=zbc hcl e fun _ _ y=>nomatch y
  rw [m1 b hc];exact un.tups b xs (by rw [d1 b hc];exact e)
 ·by_cases hc:InCl cl b
  ·show (if InCl cl b then H b else H2 b)=_
   rw [if_pos hc];exact e
  ·rw [m1 b hc];exact un.frzs b o a (by rw [d1 b hc];exact e)
 ·have hc:=zbc hcl e fun _ _ y=>nomatch y
  rw [m1 b hc];exact un.tbls b qs ps (by rw [d1 b hc];exact e)
 ·by_cases hc:InCl cl b
  ·have e':H b=some u:=by rw [← e];exact (if_pos hc).symm
   obtain ⟨x,z⟩:=hc
   obtain ⟨o,z1,z2,_⟩:=cellK x b z
   rw [z1] at e';cases e'
   exact ⟨z2,o,z2⟩
  ·rw [m1 b hc] at e
   exact (J.hok b u e).stay (fun _ _ _ z=>z) (fun c z=>by rw [m1 c (nm c _ z)];exact z) (fun c _ _ _ _ z=>by rw [m1 c (nm c _ z)];exact z) fun c xs z=>by rw [m1 c (nm c _ z)];exact z
end
section
variable {P:Program} {w:World} {K:Frag} {mg:Z1} {base:Heap} {H:Hp} {own ps cap:List Str} {name qual:Str} {params:Arguments} {scope:Scope} {cl:Z4} {f c':Addr} {oc:Obj} {ct pm:Value} {cv:List V} {k:Nat} {sp:Sp}
theorem zl0 {body:List Stmt} (S:CloScopeM own ps cap scope) (hlo:ps.length ≤ own.length) (hf:H f=some (fnO (cloFd name qual params (.stmts body) scope cl ct (.ref c') pm) f)) (hcode:H c'=some (.frz oc (.own c'))) (co:CodeObj oc qual)
  (hcl:∀ x c,cl.lookup x=some c→∃ o v,H c=some (.frz o (.own c))∧o.data=.cell v) (hfr:∀ p ∈ scope.names,p.2=.free→∃ c,cl.lookup p.1=some c) (inj:∀ x y c,cl.lookup x=some c→cl.lookup y=some c→x=y) (hcap:Caps H cl cap cv)
  (hbind:∀ us:List Value,us.length=ps.length→bindArgs (cloFd name qual params (.stmts body) scope cl ct (.ref c') pm) ⟨us,[]⟩=pure (ps.zip us))
  (hbody:∀ (A:Around) (outer:List Env) (s:Shared) (H':Hp) (vs:List V) (Q:VK),Room k (A.deeper (envM qual scope cl s.heap.objs.size f (.ref c')))→Frz H H'→vs.length=ps.length→sp vs H' Q E0 →
   ∃ t,PSs (cxM P w K mg base (own ++ cap) qual scope cl f (.ref c') A outer s H') body t∧t { nx:=fun _ H2=>(∀ b,InCl cl b→H2 b=none)→Q .non (mixL cl H' H2),rt:=fun v H2=>(∀ b,InCl cl b→H2 b=none)→Q v (mixL cl H' H2) } (stL own vs cv) (dropL cl H')):CloH P w K mg base (k + 1) H f ps.length sp:=by
 intro A outer s H' us vs Q hr e0 fz r hl hsp
 have lim:s.heap.NoLimit:=e0.mod.nolimit.keeps fun b o e=>(e0.bs b o e).1
 have ho:=(e0.hok f _ (fz _ _ _ hf)).1
 have hoc:=(e0.hok c' _ (fz _ _ _ hcode)).1
 obtain ⟨ws,t',cd1,cd2⟩:=co
 have hlu:us.length=ps.length:=by rw [← r.length];exact hl
 have hcl':∀ x c,cl.lookup x=some c→∃ o v,H' c=some (.frz o (.own c))∧o.data=.cell v:=fun x c e=>let ⟨o,v,z,d⟩:=hcl x c e;⟨o,v,fz _ _ _ z,d⟩
 refine codeAny_call_function hr.depth ho rfl S.co S.gen rfl ⟨c',oc,ws,t',rfl,hoc,cd1,cd2⟩ ?_
 rw [hbind us hlu]
 refine wpAny_pure (newEnvM S.kind (fun y hy=>S.par y.1 (y2n (show (y.1,y.2) ∈ ps.zip us from hy)).1) fun s1 x=>?_)
 refine ⟨lim.keeps x.toInCall.keep,codeAny_func ?_⟩
 obtain ⟨t,ht,hq⟩:=hbody A outer s H' vs Q (hr.deeper _) fz hl hsp
 have I:=zqx (qual:=qual) (f:=f) (cd:=.ref c') S hr.hd e0 hl hlo r hcl' hfr inj (hcap.frz fz) x
 refine wpAny_mono (ht [] _ _ _ _ I hq) (fun fl s' hs=>?_) fun _ _ z=>z.elim
 cases fl with
 | ret u =>
  obtain ⟨v,σ',H2,J,rv,q⟩:=hs
  exact zk0 e0 hcl' J rv q
 | next =>
  obtain ⟨σ',H2,J,q⟩:=hs
  exact zk0 (v:=V.non) (u:=Value.none) e0 hcl' J rfl q
 | brk =>
  obtain ⟨_,_,_,q⟩:=hs
  exact False.elim q
 | cont =>
  obtain ⟨_,_,_,q⟩:=hs
  exact False.elim q
end
section
variable {X:Cx} {H H1 H1' Hq:Hp} {σ:St} {name qual:Str} {params:Arguments} {scope:Scope} {f:Addr} {own ps cap:List Str} {cv:List V} {k:Nat} {sp:Sp}
theorem Made.clo_sM {body:List Stmt} (M:Made X H H1 name qual params (.stmts body) scope f) (g:Same H1 H1') (ad:Adopted X σ H1' Hq) (S:CloScopeM own ps cap scope) (hlo:ps.length ≤ own.length) (hcap:CapAt X σ cap cv)
  (hbind:∀ (cl:Z4) (ct cd pm:Value) (us:List Value),us.length=ps.length→bindArgs (cloFd name qual params (.stmts body) scope cl ct cd pm) ⟨us,[]⟩=pure (ps.zip us))
  (hbody:∀ (cl:Z4) (c':Addr) (A:Around) (outer:List Env) (s:Shared) (H':Hp) (vs:List V) (Q:VK),Room k (A.deeper (envM qual scope cl s.heap.objs.size f (.ref c')))→ClOk cl H'→Frz Hq H'→Frz H1' (dropL cl H')→vs.length=ps.length→sp vs H' Q E0 →
   ∃ t,PSs (cxM X.prog X.w X.K X.mg X.base (own ++ cap) qual scope cl f (.ref c') A outer s H') body t∧t { nx:=fun _ H2=>(∀ b,InCl cl b→H2 b=none)→Q .non (mixL cl H' H2),rt:=fun v H2=>(∀ b,InCl cl b→H2 b=none)→Q v (mixL cl H' H2) } (stL own vs cv) (dropL cl H')):CloH X.prog X.w X.K X.mg X.base (k + 1) Hq f ps.length sp:=by
 obtain ⟨cl,ct,c',oc,pm,l1,l2,l3,l4,l5⟩:=M.ex
 have hcl:ClOk cl Hq:=fun x c e=>let ⟨o,v,z1,z2,_⟩:=ad.2.2.2 x c (l1 x c e);⟨o,v,z1,z2⟩
 have up:=ad.up
 refine zl0 S hlo (up _ _ (g _ _ l5)) (up _ _ (g _ _ l3)) l4 hcl l2 (fun x y c e1 e2=>ad.2.2.1 x y c (l1 x c e1) (l1 y c e2)) (zgy ad l1 (fun x hx=>l2 (x,.free) (mem_of_lookup' (S.cap x hx)) rfl) hcap) (hbind cl ct _ pm) fun A outer s H' vs Q hr fz hl hsp=>?_
 exact hbody cl c' A outer s H' vs Q hr (fun x c e=>let ⟨o,v,z,d⟩:=hcl x c e;⟨o,v,fz _ _ _ z,d⟩) fz (zgs ad l1 fz) hl hsp
end
end L2
namespace SM
open PySem PySem.Spec PyProof.Rows L2 SS
def subs:Nat→List (List Nat)
 | 0=>[[]]
 | n + 1=>subs n ++ (subs n).map (· ++ [n])
theorem zjz:∀ n,(subs n).length=2 ^ n
 | 0=>rfl
 | n + 1=>by rw [subs,y0c,y00,zjz n,y3i];omega
def Rising (l:List Nat):Prop:=l.Pairwise (· < ·)
theorem zee:∀ (n:Nat) (l:List Nat),Rising l→(∀ x ∈ l,x < n)→l ∈ subs n
 | 0,l,_,h=>by
  cases l with
  | nil=>simp [subs]
  | cons x r=>exact absurd (h x y0d) (y31 _)
 | n + 1,l,hl,h=>by
  rw [subs,y0i]
  rcases List.eq_nil_or_concat l with rfl | ⟨r,x,hr⟩
  ·exact .inl (zee n [] .nil (fun _ z=>by cases z))
  ·rw [List.concat_eq_append] at hr
   subst hr
   have hp:=y1p.mp hl
   have hx:=h x (by simp)
   by_cases e:x=n
   ·subst e
    exact .inr (y09.mpr ⟨r,zee x r hp.1 (fun y hy=>hp.2.2 y hy x (by simp)),rfl⟩)
   ·refine .inl (zee n _ hl fun y hy=>?_)
    rcases y0i.mp hy with z | z
    ·have:=hp.2.2 y z x (by simp);omega
    ·rw [y07.mp z];omega
theorem zlc {n:Nat} {l:List Nat} (hl:Rising l) (h:∀ x ∈ l,x < n):l.length ≤ n:=by
 have nd:l.Nodup:=hl.imp fun h=>y0n h
 have:=zdm (ys:=List.range n) nd fun x hx=>y0k.mpr (h x hx)
 simpa using this
theorem zfz:∀ {a b:List Nat},Rising a→Rising b→(∀ x,x ∈ a ↔ x ∈ b)→a=b
 | [],[],_,_,_=>rfl
 | [],y :: s,_,_,h=>by have:=(h y).mpr y0d;cases this
 | x :: r,[],_,_,h=>by have:=(h x).mp y0d;cases this
 | x :: r,y :: s,ha,hb,h=>by
  have a1:=y2l.mp ha
  have b1:=y2l.mp hb
  have e:x=y:=by
   rcases y0f.mp ((h x).mp y0d) with z | z
   ·exact z
   ·rcases y0f.mp ((h y).mpr y0d) with z' | z'
    ·exact z'.symm
    ·have:=a1.1 y z';have:=b1.1 x z;omega
  subst e
  congr 1
  refine zfz a1.2 b1.2 fun z=>⟨fun hz=>?_,fun hz=>?_⟩
  ·rcases y0f.mp ((h z).mp (y08 _ hz)) with q | q
   ·have:=a1.1 z hz;omega
   ·exact q
  ·rcases y0f.mp ((h z).mpr (y08 _ hz)) with q | q
   ·have:=b1.1 z hz;omega
   ·exact q
def put0 (l t:Nat):Nat:=l + l / 2 ^ t * 2 ^ t
theorem put_lt:∀ w,w < 5→∀ t,t < w→∀ l,l < 2 ^ (w - 1)→put0 l t + 2 ^ t < 2 ^ w:=by decide +kernel
def zmn:Sp:=fun vs H Q _=>∃ (l t:Nat),vs=[nV l,nV t]∧l < 16∧t ≤ 4∧∀ p H',New H p (.tup [nV (put0 l t),nV (put0 l t + 2 ^ t)]) H'→Q (.ref p) H'
def zhp:Sp:=fun vs H Q _=>∃ (r n:Int),vs=[.int r,.int n]∧Q (.bl (decide (0 ≤ r∧r < n))) H
end SM
namespace L2
section
variable {P:Program} {w:World} {A:Around} {E:Z0} {s:Shared}
theorem ziu {F:List Int} {a:Addr} {ks:List Int} {Q:Z0} (hh:A.handled=none) (x:SetTs P w s.heap a ks) (h64:F.length < 64) (hF:∀ k ∈ ks,k ∈ F)
  (q:∀ (L:Addr) (vs:List Value) (ns:List Int) (n:Nat) (h':Heap) (d:Drawn) (tk:Nat),IntsAre vs ns→ns.Pairwise (· < ·)→(∀ k,k ∈ ns ↔ k ∈ ks)→s.heap.objs.size ≤ L→h'.get? L=some (seqObj "list" vs.toArray n)→s.toks ≤ tk→(∀ b u,s.heap.get? b=some u→h'.get? b=some u)→Q (.ref L) { s with heap:=h',drawn:=d,toks:=tk }) :
  wpAny (model P w) A (call (.builtin "sorted") [.ref a]) Q E s:=by
 obtain ⟨n,hn,o,es,ep,t,ho,hx,hd,⟨h1,h2⟩,⟨h3,h4,hsz⟩,tb,ap⟩:=x
 refine Calls.call_function_entry kind_sorted plain_sorted entry_sorted (args_sorted1 _) ?_
 unfold Builtin.«sorted»
 refine wpAny_bind (m:=checkCount "sorted" 1 1 _) (wpAny_pure ?_)
 have iv_is:∀ e ∈ es.toList,(intKind P w).is (iv e.2) e.2=true:=fun e he=>by
  obtain ⟨⟨k,hk,_⟩,_⟩:=h1 e he
  obtain ⟨t,e'⟩:=Value.isInt_shape hk
  rw [e'] at hk ⊢
  exact hk
 have ivn:(es.toList.map fun e=>iv e.2).Nodup:=by
  rw [List.Nodup,y20]
  refine List.Pairwise.imp_of_mem (fun {x y} hx hy z e=>?_) ap
  have h:=z _ (iv_is x hx)
  rw [e,iv_is y hy] at h
  cases h
 have hes:es.size ≤ F.length:=by
  rw [← y0x,← y00 (f:=fun e:Int × Value=>iv e.2)]
  refine ivn.length_le_of_subset fun y hy=>?_
  obtain ⟨e,he,rfl⟩:=y09.mp hy
  exact hF _ (of_decide_eq_true ((h2 _).mpr ⟨e,he,iv_is e he⟩))
 refine wpAny_bind (zjl hh ho hx hx.1 hd h4 tb (show es.size ≤ sizeLine by unfold sizeLine;omega) fun vs h' d tk pm le htk hk=>?_)
 have hint:∀ v ∈ vs,∃ i t,v=.int i t:=fun v hv=>by
  obtain ⟨e,he,rfl⟩:=y09.mp (pm.mem_iff.mp hv)
  obtain ⟨⟨k,hk,_⟩,_⟩:=h1 e he
  obtain ⟨t,e⟩:=Value.isInt_shape hk
  exact ⟨k,t,e⟩
 have hI:=zje hint
 have vl:vs.length < 64:=by
  rw [pm.length_eq,y00,y0x];omega
 refine wpAny_bind (wpAny_newList ?_)
 have hoL:(h'.push (seqObj "list" vs.toArray 0)).get? h'.objs.size=some (seqObj "list" vs.toArray 0):=y0m _ rfl
 show wpAny _ _ _ _ _ { s with heap:=h'.push (seqObj "list" vs.toArray 0),drawn:=d,toks:=tk }
 refine wpAny_bind (wpAny_holding (wpAny_call_entry slot_list_sort ⟨_,hoL,rfl⟩ entry_list_sort (list_sort_tree hoL hI vl fun out ns' a1 a2 a3=>⟨_,rfl,?_⟩) (args_list_sort _)))
 have pe:ns'.Perm (es.toList.map fun e=>iv e.2):=by
  refine a2.trans ?_
  have:=pm.map iv
  rwa [y0v] at this
 obtain ⟨ne,hat⟩:=sortedHeap_at (out:=out) hoL
 refine wpAny_pure ⟨_,rfl,q _ out.toList ns' ne _ d tk a1 (zc4 a3 ?_) (fun k=>?_) le hat htk fun b u e=>?_⟩
 ·exact pe.nodup_iff.mpr ivn
 ·rw [pe.mem_iff,y09]
  have:=h2 k
  rw [decide_eq_true_eq] at this
  rw [this]
  constructor
  ·rintro ⟨e,he,rfl⟩
   exact ⟨e,he,iv_is e he⟩
  ·rintro ⟨e,he,hk⟩
   obtain ⟨t,e'⟩:=Value.isInt_shape hk
   exact ⟨e,he,by rw [e'];rfl⟩
 ·have lb:b < h'.objs.size:=y0h (y0g e) le
  refine (sortedHeap_old (y0n lb) ?_).trans (y0b _ (hk b u e))
  rw [y1i];exact y25 lb
theorem zic {a:Addr} {kvs:List (Int × Value)} {Q:List Value→Shared→Prop} (hh:A.handled=none) (lo:(a == sysModules)=false) (x:s.heap.DictOf (intKind P w) a kvs) (hn:kvs.length ≤ sizeLine)
  (q:∀ (vs:List Value) (h':Heap) (tk:Nat),vs.length=kvs.length→(∀ (j:Nat) v,vs[j]?=some v→∃ k x,kvs[j]?=some (k,x)∧(intKind P w).is k v=true)→s.heap.objs.size ≤ h'.objs.size→(∀ b u,s.heap.get? b=some u→h'.get? b=some u)→Q vs { s with heap:=h',toks:=tk }) :
  wpAny (model P w) A (collect (.ref a)) Q E s:=by
 obtain ⟨o,es,ep,ho,hx,hd,hk,hp,hnd⟩:=x
 have la:a < s.heap.objs.size:=y0g ho
 have dat:s.heap.DictAt (intKind P w) a kvs ep:=⟨o,es,ho,hx,hd,hk,hp,hnd⟩
 unfold collect
 refine wpAny_bind (wpAny_runValue (codeAny_builtin F.entry_proto_collect ?_))
 rw [Around.under_plainId F.plain_proto_collect _]
 show wpAny _ A.in1 (newList [] >>= fun l=>again (.builtin "list.__iadd__" ⟨[l,.ref a],[]⟩)) _ _ s
 refine wpAny_bind (wpAny_newObj_type ?_)
 refine wpAny_pure ⟨plainId_quiet F.plain_list_iadd _,codeAny_builtin F.entry_list_iadd ?_⟩
 rw [Around.under_plainId F.plain_list_iadd _]
 have hS₁:(s.heap.push { cls:=.type "list",data:=.seq ([]:List Value).toArray }).get? s.heap.objs.size=some { cls:=.type "list",data:=.seq ([]:List Value).toArray }:=y0m _ rfl
 show wpAny _ A.in1 (Builtin.List.listExtendWith (.ref s.heap.objs.size) (.ref a) (.ref s.heap.objs.size)) _ _ _
 refine wpAny_mono (PySem.W.kdl_extend (s:={ s with heap:=s.heap.push { cls:=.type "list",data:=.seq ([]:List Value).toArray } }) (R:=fun r s'=>r=.ok (.ret (.ref s.heap.objs.size))∧∃ acc' c' h' tk,s'={ s with heap:=h',toks:=tk }∧h'.get? s.heap.objs.size=some { cls:=.type "list",dict:=none,data:=.seq acc' c',slots:=#[] }∧Q acc'.toList s')
  (PySem.W.kdl_dict (knd:=intKind P w) (kvs:=kvs) (ep:=ep) lo) hh (dat.push _) s.heap.objs.size (y1j la) (y1j la) (.ref s.heap.objs.size) _ hS₁ (fun h' tk acc' c' hk hS' hacc=>⟨rfl,acc',c',h',tk,rfl,hS',?_⟩) hn) (fun fin s' h=>?_) fun e s' h=>(nomatch h.1)
 ·exact q acc'.toList h' tk (by rw [y0x];exact hacc.1) (fun j v e=>hacc.2 j v (by rw [← y1b];exact e)) (y1l (y0g hS')) fun b u e=>hk b u (y0n (y0g e)) (y0b _ e)
 ·have fine:∀ (r:Result) (s':Shared),(r=.ok (.ret (.ref s.heap.objs.size))∧∃ acc' c' h' tk,s'={ s with heap:=h',toks:=tk }∧h'.get? s.heap.objs.size=some { cls:=.type "list",dict:=none,data:=.seq acc' c',slots:=#[] }∧Q acc'.toList s')→wpAny (model P w) A (load s.heap.objs.size >>= fun o=>match o.data with | .seq xs _=>pure xs.toList | _=>unsupported "internal:collect") Q E s':=by
   rintro r s' ⟨_,acc',c',h',tk,rfl,hS',z⟩
   exact wpAny_bind (wpAny_load hS' (wpAny_pure z))
  cases fin with
  | done f =>
   obtain ⟨e,z⟩:=h
   cases e
   exact fine _ _ ⟨rfl,z⟩
  | again c =>
   refine ⟨h.1,codeAny_mono h.2 fun r s' h=>?_⟩
   obtain ⟨rfl,z⟩:=h
   exact fine _ _ ⟨rfl,z⟩
theorem ziv {a:Addr} {kvs:List (Int × Value)} {ks:List Int} {Q:Z0} (hh:A.handled=none) (lo:(a == sysModules)=false) (x:s.heap.DictOf (intKind P w) a kvs) (hk:kvs.map (·.1)=ks) (h64:ks.length < 64)
  (q:∀ (L:Addr) (vs:List Value) (ns:List Int) (n:Nat) (h':Heap) (tk:Nat),IntsAre vs ns→ns.Pairwise (· < ·)→(∀ k,k ∈ ns ↔ k ∈ ks)→s.heap.objs.size ≤ L→h'.get? L=some (seqObj "list" vs.toArray n)→(∀ b u,s.heap.get? b=some u→h'.get? b=some u)→Q (.ref L) { s with heap:=h',toks:=tk }) :
  wpAny (model P w) A (call (.builtin "sorted") [.ref a]) Q E s:=by
 have hl:kvs.length=ks.length:=by rw [← y00 (f:=(·.1)) (as:=kvs),hk]
 have nd:ks.Nodup:=by
  obtain ⟨_,_,_,_,_,_,_,_,nd⟩:=x
  rw [← hk];exact nd
 refine Calls.call_function_entry kind_sorted plain_sorted entry_sorted (args_sorted1 _) ?_
 unfold Builtin.«sorted»
 refine wpAny_bind (m:=checkCount "sorted" 1 1 _) (wpAny_pure ?_)
 refine wpAny_bind (zic hh lo x (show kvs.length ≤ sizeLine by unfold sizeLine;omega) fun vs h' tk vl0 at0 le hkk=>?_)
 have atk:∀ (j:Nat) v,vs[j]?=some v→∃ i t,ks[j]?=some i∧v=.int i t:=fun j v e=>by
  obtain ⟨k,x,e1,e2⟩:=at0 j v e
  have e3:(kvs.map (·.1))[j]?=some k:=by rw [y02,e1];rfl
  rw [hk] at e3
  obtain ⟨t,e5⟩:=Value.isInt_shape e2
  exact ⟨k,t,e3,e5⟩
 have hint:∀ v ∈ vs,∃ i t,v=.int i t:=fun v hv=>by
  obtain ⟨j,hj,rfl⟩:=y1g hv
  obtain ⟨i,t,_,e⟩:=atk j _ (y01 hj)
  exact ⟨i,t,e⟩
 have hI:=zje hint
 have ivk:vs.map iv=ks:=by
  refine y16 fun j=>?_
  rw [y02]
  cases e:vs[j]? with
  | none=>rw [y0e (by have:=List.getElem?_eq_none_iff.mp e;omega)];rfl
  | some v =>
   obtain ⟨i,t,e1,rfl⟩:=atk j v e
   rw [e1];rfl
 have vl:vs.length < 64:=by omega
 refine wpAny_bind (wpAny_newList ?_)
 have hoL:(h'.push (seqObj "list" vs.toArray 0)).get? h'.objs.size=some (seqObj "list" vs.toArray 0):=y0m _ rfl
 show wpAny _ _ _ _ _ { s with heap:=h'.push (seqObj "list" vs.toArray 0),toks:=tk }
 refine wpAny_bind (wpAny_holding (wpAny_call_entry slot_list_sort ⟨_,hoL,rfl⟩ entry_list_sort (list_sort_tree hoL hI vl fun out ns' a1 a2 a3=>⟨_,rfl,?_⟩) (args_list_sort _)))
 rw [ivk] at a2
 obtain ⟨ne,hat⟩:=sortedHeap_at (out:=out) hoL
 refine wpAny_pure ⟨_,rfl,q _ out.toList ns' ne _ tk a1 (zc4 a3 (a2.nodup_iff.mpr nd)) (fun k=>a2.mem_iff) le hat fun b u e=>?_⟩
 have lb:b < h'.objs.size:=y0h (y0g e) le
 refine (sortedHeap_old (y0n lb) ?_).trans (y0b _ (hkk b u e))
 rw [y1i];exact y25 lb
end
def rSortF (P:Program) (w:World):List V→Hp→VK→Prop:=fun xs H Q=>∃ (p:Addr) (ns F:List Int),xs=[.ref p]∧H p=some (setI P w p ns)∧F.length < 64∧(∀ k ∈ ns,k ∈ F)∧∀ (ms:List Int),ms.Pairwise (· < ·)→(∀ k,k ∈ ms ↔ k ∈ ns)→∀ L H',New H L (.lst (ms.map V.int)) H'→Q (.ref L) H'
theorem zeb {X:Cx} (hc:X.calm=true):CallR X (.builtin "sorted") (rSortF X.prog X.w):=by
 infer_instance
 obtain ⟨p,ns,F,rfl,hx,hz,hF,q⟩:=h
 obtain ⟨u,rfl,rx⟩:=vals1 r
 cases (show u=Value.ref p from rx)
 obtain ⟨x,_⟩:=I.hok p _ hx
 refine ziu (I.ok.hd hc) x hz hF fun L vs ms n h' d tk a1 a2 a3 le hat htk k=>?_
 have vl:Vals (ms.map V.int) vs:=zdt a1
 have nf:H L=none:=I.hok.fresh le
 refine ⟨.ref L,_,(I.laid (t':=tk) (o:=.lst (ms.map V.int)) k le ⟨?_,vs,n,vl,hat⟩).drew d,rfl,q ms a2 a3 L _ (New.mk' nf _)⟩
 rw [y00]
 have nd:ms.Nodup:=a2.imp fun h=>by omega
 have:ms.length ≤ F.length:=nd.length_le_of_subset fun y hy=>hF y ((a3 y).mp hy)
 exact zab (by omega)
def dI (P:Program) (w:World) (a:Addr) (ns:List Int):HO:=.ext fun h=>(a == sysModules)=false∧ns.length ≤ sizeLine∧∃ vs:List (Int × Value),vs.map (·.1)=ns∧h.DictOf (intKind P w) a vs
def putI (ns:List Int) (k:Int):List Int:=if k ∈ ns then ns else ns ++ [k]
theorem zr8 {P:Program} {w:World} {H:Hp} {h:Heap} {a:Addr} {ns:List Int} {vs:List (Int × Value)} (lo:(a == sysModules)=false) (z:ns.length ≤ sizeLine) (e:vs.map (·.1)=ns) (d:h.DictOf (intKind P w) a vs):ObjOk P w H h a (dI P w a ns):=by
 obtain ⟨o,es,ep,ho,r⟩:=id d
 refine ⟨⟨lo,z,vs,e,d⟩,⟨o,ho⟩,?_⟩
 rintro h1 h2 ⟨lo,z,vs,e,o,es,ep,ho,r⟩ k
 exact ⟨lo,z,vs,e,o,es,ep,k o ho,r⟩
theorem zir {vs:List (Int × Value)} {k:Int} {v:Value}:(stored vs k v).map (·.1)=putI (vs.map (·.1)) k:=by
 unfold stored putI
 have e:(vs.any fun kv=>kv.1=k)=true ↔ k ∈ vs.map (·.1):=by
  rw [y24,y09]
  exact ⟨fun ⟨x,hx,z⟩=>⟨x,hx,of_decide_eq_true z⟩,fun ⟨x,hx,z⟩=>⟨x,hx,decide_eq_true z⟩⟩
 by_cases h:k ∈ vs.map (·.1)
 ·rw [if_pos (e.mpr h),if_pos h,keys_map_store]
 ·rw [if_neg (fun z=>h (e.mp z)),if_neg h,y15]
  rfl
section
variable {X:Cx}
def tDNewI (P:Program) (w:World):TE:=fun _ H Q=>∀ p H',New H p (dI P w p []) H'→Q (.ref p) H'
theorem zqa {pos:Pos}:PE X (.Dict [] [] pos) (tDNewI X.prog X.w):=fun pins s σ H Q I h =>
 wpAny_Dict_empty ⟨.ref s.heap.objs.size,_,I.laid (a:=s.heap.objs.size) (o:=dI X.prog X.w s.heap.objs.size []) (t':=s.toks) (fun _ _ q=>y0b _ q) (y05 _) (zr8 (beq_eq_false_iff_ne.mpr (y1j I.big)) (y1k _) rfl (Heap.DictOf.new s.heap)),rfl,h _ _ (.mk' (I.hok.fresh (y05 _)) _)⟩
def sDPutI (P:Program) (w:World) (td ty tv:TE):TS:=fun D σ H=>tv σ H fun v H1=>td σ H1 fun x H2=>ty σ H2 fun y H3=>∃ a ns k,x=.ref a∧y=.int k∧H3 a=some (dI P w a ns)∧ns.length < sizeLine ∧
 ∀ H4,H4=upd H3 a (dI P w a (putI ns k))→D.nx σ H4
theorem zp4 {o i value:Expr} {pos pos':Pos} {td ty tv:TE} (ho:PE X o td) (hi:PE X i ty) (hv:PE X value tv) (hs:swapsWith value (some (.Subscript o i pos')) pos.line X.env=pure false) :
  PS X (.Assign [.Subscript o i pos'] value pos) (sDPutI X.prog X.w td ty tv):=by
 intro pins s σ H D I h
 refine wpAny_Assign_Subscript (thn (hv pins s σ H _ I h) fun r s1 ⟨v,H1,I1,rv,q1⟩=>thn (ho pins s1 σ H1 _ I1 q1) fun u s2 ⟨x,H2,I2,rx,q2⟩=>thn (hi pins s2 σ H2 _ I2 q2) fun iv s3 ⟨y,H3,I3,ry,a,ns,k,ex,ey,e,hl,q3⟩=>?_) hs
 subst ex ey
 obtain rfl:u=Value.ref a:=rx
 obtain ⟨t,rfl⟩:=ry
 obtain ⟨⟨lo,hz,vs,ek,dd⟩,_⟩:=I3.hok _ _ e
 have hzx:vs.length ≤ sizeLine:=by rw [← y00 (f:=(·.1)) (as:=vs),ek];exact hz
 refine wpAny_setItem_pairs (knd:=intKind X.prog X.w) (k:=k) (hsz:=hzx) (by show Value.isInt k (.int k t)=true;unfold Value.isInt;simp) dd fun h' dd' ss=>?_
 have he:∃ q,h'.get? a=some q:=let ⟨q,_,_,hq,_⟩:=dd';⟨q,hq⟩
 refine ⟨σ,_,zdc I3 (by rw [e];exact True.intro) ss he (zr8 lo ?_ (by rw [zir,ek]) dd'),q3 _ rfl⟩
 unfold putI
 split
 ·exact hz
 ·rw [y0c,y17];omega
end
def rSortD (P:Program) (w:World):List V→Hp→VK→Prop:=fun xs H Q=>∃ (p:Addr) (ns:List Int),xs=[.ref p]∧H p=some (dI P w p ns)∧ns.length < 64∧∀ (ms:List Int),ms.Pairwise (· < ·)→(∀ k,k ∈ ms ↔ k ∈ ns)→∀ L H',New H L (.lst (ms.map V.int)) H'→Q (.ref L) H'
theorem zec {X:Cx} (hc:X.calm=true):CallR X (.builtin "sorted") (rSortD X.prog X.w):=by
 infer_instance
 obtain ⟨p,ns,rfl,hx,hz,q⟩:=h
 obtain ⟨u,rfl,rx⟩:=vals1 r
 cases (show u=Value.ref p from rx)
 obtain ⟨⟨lo,_,vs,ek,x⟩,_⟩:=I.hok p _ hx
 refine ziv (I.ok.hd hc) lo x ek hz fun L vs ms n h' tk a1 a2 a3 le hat k=>?_
 have vl:Vals (ms.map V.int) vs:=zdt a1
 have nf:H L=none:=I.hok.fresh le
 refine ⟨.ref L,_,I.laid (t':=tk) (o:=.lst (ms.map V.int)) k le ⟨?_,vs,n,vl,hat⟩,rfl,q ms a2 a3 L _ (New.mk' nf _)⟩
 rw [y00]
 have nd:ms.Nodup:=a2.imp fun h=>by omega
 have:ms.length ≤ ns.length:=nd.length_le_of_subset fun y hy=>(a3 y).mp hy
 exact zab (by omega)
open PyProof.Rows.LSm
def rAnyT (K:Frag):List V→Hp→VK→Prop:=fun xs H Q=>∃ (p:Addr) (bs:List Bool),xs=[.ref p]∧SqT K H p (bs.map V.bl)∧Q (.bl (bs.any id)) H
theorem zij {X:Cx} (hc:X.calm=true):CallR X (.builtin "any") (rAnyT X.K):=by
 infer_instance
 obtain ⟨p,bs,rfl,hx,q⟩:=h
 obtain ⟨u,rfl,rx⟩:=vals1 r
 cases (show u=Value.ref p from rx)
 obtain ⟨vs,rv,hl,hz⟩:=I.tuple hx
 have hb:=zg4 rv
 have hlt:p < s.heap.objs.size:=by obtain ⟨_,e,_⟩:=hl;exact y0g e
 refine call_any_walk (wpAny_pyIter_tuple hl ?_)
 refine ⟨s.heap.objs.size,[s.heap.objs.size,p],[s.heap.objs.size],vs.toArray.size,_,_,fun i=>(bs[i]?).getD false,rfl,Walks.tuple (A:=X.A.in1) (I.ok.hd hc) _ p (y0n hlt) vs.toArray,
  ⟨⟨_,y0m _ rfl,rfl,rfl⟩,hl.push _⟩,fun i v s' Q' E' hP hQ=>?_,fun h' tk hk=>?_⟩
 ·obtain ⟨b,e,rfl⟩:=hb.get i v (by simpa using hP)
  simp only [e,y1q] at hQ
  exact wpAny_truthy_bool hQ
 ·have e:((List.range vs.toArray.size).any fun i=>(bs[i]?).getD false)=bs.any id:=by
   rw [y06,hb.length];exact range_any bs
  rw [e]
  exact ⟨.bl _,H,I.kept (kept_iter hk),rfl,q⟩
theorem zg3 {X:Cx} (K:Frag) (hc:X.calm=true) (h:X.K=K:=by rfl):CallR X (.builtin "any") (rAnyT K):=h ▸ zij hc
end L2
namespace SM
open PySem PySem.Spec PyProof.Rows L2 SS
def upT (m:Tm) (ls s t:List Nat):List Nat:=(List.range m.n).filter fun k=>ls.any fun l=>s.any fun x=>t.any fun y=>m.go l x y == k
theorem zdu {m:Tm} {ls s t:List Nat}:Rising (upT m ls s t):=List.Pairwise.filter _ y1z
theorem zri {m:Tm} {ls s t:List Nat} {k:Nat} (h:k ∈ upT m ls s t):k < m.n:=y0k.mp (y32.mp h).1
def SetGT (m:Tm) (s:List Nat):Prop:=Rising s∧∀ x ∈ s,x < m.n
theorem SetGT.len {m:Tm} {s:List Nat} (h:SetGT m s):s.length ≤ m.n:=zlc h.1 h.2
theorem zsf {m:Tm} {ls s t:List Nat} {k:Nat} (ok:m.Ok) (hl:∀ l ∈ ls,l < 2 ^ m.w) (hs:SetGT m s) (ht:SetGT m t):k ∈ upT m ls s t ↔ ∃ l ∈ ls,∃ x ∈ s,∃ y ∈ t,m.go l x y=k:=by
 unfold upT
 rw [y32,y24,y0k]
 constructor
 ·rintro ⟨_,l,hl,h⟩
  obtain ⟨x,hx,h⟩:=y24.mp h
  obtain ⟨y,hy,e⟩:=y24.mp h
  exact ⟨l,hl,x,hx,y,hy,by simpa using e⟩
 ·rintro ⟨l,h1,x,hx,y,hy,rfl⟩
  exact ⟨ok.go_lt (hl l h1) (hs.2 x hx) (ht.2 y hy),l,h1,y24.mpr ⟨x,hx,y24.mpr ⟨y,hy,by simp⟩⟩⟩
theorem zmd {m:Tm} {ls s t ms:List Nat} (ok:m.Ok) (hl:∀ l ∈ ls,l < 2 ^ m.w) (hs:SetGT m s) (ht:SetGT m t) (h1:Rising ms) (h2:∀ k,k ∈ ms ↔ ∃ l ∈ ls,∃ x ∈ s,∃ y ∈ t,m.go l x y=k):ms=upT m ls s t :=
 zfz h1 zdu fun k=>(h2 k).trans (zsf ok hl hs ht).symm
abbrev twoL (l t:Nat):List Nat:=[put0 l t,put0 l t + 2 ^ t]
def dropTT (m:Tm) (t:Nat):TTh:=⟨m.w - 1,fun a b=>(List.range (2 ^ (m.w - 1))).map fun l=>upT m (twoL l t) a b,fun s=>s.any m.fin⟩
theorem zjx {m:Tm} {t l:Nat} (ok:m.Ok) (ht:t < m.w) (hl:l < 2 ^ (m.w - 1)):∀ x ∈ twoL l t,x < 2 ^ m.w:=by
 have:=put_lt m.w (by have:=ok.wid;omega) t ht l hl
 intro x hx
 simp only [y0f,y1y,or_false] at hx
 rcases hx with rfl | rfl
 ·exact y3r (y2x _ _) this
 ·exact this
theorem dropTT_step {m:Tm} {t:Nat} {a b:List Nat}:((dropTT m t).com a b).length=2 ^ (dropTT m t).w∧∀ u ∈ (dropTT m t).com a b,SetGT m u:=by
 refine ⟨by simp [dropTT],fun u hu=>?_⟩
 obtain ⟨l,_,rfl⟩:=y09.mp hu
 exact ⟨zdu,fun k hk=>zri hk⟩
theorem setG0 {m:Tm} (ok:m.Ok):SetGT m [0]:=⟨by simp [Rising],fun x hx=>by cases y07.mp hx;exact ok.pos⟩
def zgd:Sp:=fun vs H Q _=>∃ (a b:Addr) (l:List Nat) (ns:List V) (g:Nat→V),vs=[.ref a,.ref b]∧H a=some (.tup (l.map nV))∧l.length ≤ 100∧H b=some (.tup ns)∧(∀ r ∈ l,ns[r]?=some (g r))∧RenQ l g H Q
def zj5:Sp:=fun vs H Q _=>∃ (a b c d:Addr) (m:Tm) (ls s t:List Nat),vs=[.ref a,.ref b,.ref c,.ref d]∧RepT H a m∧m.Ok∧m.n ≤ 6∧H b=some (.tup (ls.map nV))∧H c=some (.tup (s.map nV))∧H d=some (.tup (t.map nV))∧(∀ l ∈ ls,l < 2 ^ m.w)∧ls.length ≤ 2∧SetGT m s∧SetGT m t ∧
 ∀ p H',Same H H'→H' p=some (.tup ((upT m ls s t).map nV))→Q (.ref p) H'
def zeq (N C:Addr) (Pt:Addr) (qt:Z3) (Pd:Addr) (qd:Z3):Sp:=fun vs H Q E=>∃ (a:Addr) (m:Tm) (t:Int),vs=[.ref a,.int t]∧TabOk H Pt qt∧TabOk H Pd qd∧RepT H a m∧m.Ok∧m.n ≤ 6 ∧
 (¬ (0 ≤ t∧t < m.w)→∀ e H',Same H H'→H' e=none→E (.ref N) (some e) H')∧(0 ≤ t∧t < m.w→TreeR C (dropTT m t.toNat) [0] H Q E)
def zho:Sp:=fun vs H Q _=>∃ (l t:Nat),vs=[nV t,nV l]∧l < 16∧t < 3∧∀ p H',Same H H'→H' p=some (.lst ((twoL l t).map nV))→Q (.ref p) H'
theorem both_eq:∀ t,t < 3→∀ l,l < 16→(l / 2 ^ t * 2 ^ t * 2 + l % 2 ^ t)=put0 l t:=by decide +kernel
def zj3:Sp:=fun vs H Q _=>∃ (a c d:Addr) (m:Tm) (t l:Nat) (s1 s2:List Nat),vs=[.ref a,nV t,nV l,.ref c,.ref d]∧RepT H a m∧m.Ok∧m.n ≤ 6∧t < m.w∧l < 2 ^ (m.w - 1)∧H c=some (.tup (s1.map nV))∧H d=some (.tup (s2.map nV))∧SetGT m s1∧SetGT m s2 ∧
 ∀ p H',Same H H'→H' p=some (.tup ((upT m (twoL l t) s1 s2).map nV))→Q (.ref p) H'
def PutN (ns:List Int) (F:List Nat):Prop:=ns.Nodup∧∀ k,k ∈ ns ↔ k ∈ F.map fun n:Nat=>(n:Int)
theorem PutN.nil:PutN [] []:=⟨y2r,fun k=>Iff.rfl⟩
theorem PutN.put {ns:List Int} {F:List Nat} (h:PutN ns F) (z:Nat):PutN (putI ns (z:Int)) (F ++ [z]):=by
 unfold putI
 by_cases hz:(z:Int) ∈ ns
 ·rw [if_pos hz]
  refine ⟨h.1,fun k=>?_⟩
  rw [y15,y0i,← h.2 k]
  exact ⟨.inl,fun x=>x.elim id fun y=>by cases y07.mp y;exact hz⟩
 ·rw [if_neg hz]
  refine ⟨y3a.mpr ⟨h.1,by simp,fun a ha b hb e=>?_⟩,fun k=>?_⟩
  ·rw [y07.mp hb] at e
   exact hz (e ▸ ha)
  ·rw [y15,y0i,y0i,← h.2 k]
   rfl
theorem PutN.len {ns:List Int} {F:List Nat} {n:Nat} (h:PutN ns F) (lt:∀ z ∈ F,z < n):ns.length ≤ n:=by
 have:=h.1.length_le_of_subset (l₂:=(List.range n).map fun n:Nat=>(n:Int)) fun y hy=>by
  obtain ⟨z,hz,rfl⟩:=y09.mp ((h.2 y).mp hy)
  exact y09.mpr ⟨z,y0k.mpr (lt z hz),rfl⟩
 rwa [y00,y0t] at this
theorem zjy {P:Program} {w:World} {H:Hp} {a c:Addr} {ys:List NRow} (e:H a=some (dN P w c ys)) (o:HO):TupS H (upd H a o):=fun b xs hb=>by
 have ne:b ≠ a:=fun z=>by
  subst z
  rw [hb] at e
  have z:HO.tup xs=dN P w c ys:=Option.some.inj e
  unfold dN at z
  cases z
 rw [zal ne];exact hb
def k2 (p:List Nat × Nat):List Key2:=[.inr (keyL p.1),.inl (.inl (p.2:Int))]
theorem k2_inj {p q:List Nat × Nat} (h:k2 p=k2 q):p=q:=by
 obtain ⟨S,r⟩:=p
 obtain ⟨S',r'⟩:=q
 simp only [k2,List.cons.injEq,Sum.inr.injEq,Sum.inl.injEq,and_true] at h
 rw [zbo _ _ h.1,show r=r' by omega]
def PLine (H:Hp) (v:V) (p:List Nat × Nat):Prop:=∃ c q,v=.ref c∧H c=some (.tup [.ref q,nV p.2])∧H q=some (.tup (p.1.map nV))
theorem PLine.ts {H H':Hp} {v:V} {p:List Nat × Nat} (x:PLine H v p) (ts:TupS H H'):PLine H' v p:=by
 obtain ⟨c,q,e,h1,h2⟩:=x
 exact ⟨c,q,e,ts _ _ h1,ts _ _ h2⟩
theorem zi6 {H:Hp} {c q:Addr} {p:List Nat × Nat} (h1:H c=some (.tup [.ref q,nV p.2])) (h2:H q=some (.tup (p.1.map nV))):NestAt H c (k2 p) :=
 ⟨_,h1,.cons ⟨q,rfl,by rw [zd7];exact h2⟩ (.cons rfl .nil)⟩
theorem zse {ps:List (List Nat × Nat)}:∀ {ys:List NRow},ys.map (·.1)=ps.map k2→∀ p,(valN ys (k2 p)).isSome=decide (p ∈ ps):=by
 induction ps with
 | nil =>
  intro ys e p
  cases ys with
  | nil=>rfl
  | cons y r=>simp at e
 | cons q qs ih =>
  intro ys e p
  cases ys with
  | nil=>simp at e
  | cons y r =>
   rw [y0u,y0u,List.cons.injEq] at e
   have z:=ih e.2 p
   unfold valN at z ⊢
   rw [y27,e.1]
   by_cases h:q=p
   ·subst h;simp
   ·rw [decide_eq_false (fun z=>h (k2_inj z))]
    rw [z]
    by_cases h2:p ∈ qs
    ·simp [h2]
    ·have h':¬ p=q:=fun e=>h e.symm
     simp [h2,h']
def setTT (m m3:Tm) (t:Nat):TTh:=⟨m.w - 1,fun p q=>(List.range (2 ^ (m.w - 1))).map fun l=>m3.go l (p.headD 0) (q.headD 0) :: upT m (twoL l t) p.tail q.tail,fun _=>true⟩
variable {m m3:Tm} {t:Nat}
theorem zb8 (o:m.Ok) (o3:m3.Ok) (h3:m.w - 1=m3.w) {p:List Nat} (r:RchT (setTT m m3 t) [0,0] p):∃ z S,p=z :: S∧z < m3.n∧SetGT m S:=by
 refine RchT.all (G:=fun p=>∃ z S,p=z :: S∧z < m3.n∧SetGT m S) ⟨0,[0],rfl,o3.pos,setG0 o⟩ ?_ r
 rintro _ _ ⟨z,S,rfl,hz,hS⟩ ⟨z',S',rfl,hz',hS'⟩ u hu
 obtain ⟨l,hl,rfl⟩:=y09.mp hu
 have hl:=y0k.mp hl
 exact ⟨_,_,rfl,o3.go_lt (by rw [← h3];exact hl) hz hz',zdu,fun k hk=>zri hk⟩
theorem zq8 {S:List Nat} (r:RchT (dropTT m t) [0] S):∃ p,RchT (setTT m m3 t) [0,0] p∧p.tail=S:=by
 induction r with
 | first=>exact ⟨_,.first,rfl⟩
 | @next a b u ra rb hu iha ihb =>
  obtain ⟨p,rp,rfl⟩:=iha
  obtain ⟨q,rq,rfl⟩:=ihb
  obtain ⟨l,hl,rfl⟩:=y09.mp hu
  exact ⟨_,.next rp rq (y09.mpr ⟨l,hl,rfl⟩),rfl⟩
theorem zj7 {fs:List (List Nat)} (F:TAll (dropTT m t) [0] fs) (Rd:TRed (xplT (dropTT m t) fs) m3) {p:List Nat} (r:RchT (setTT m m3 t) [0,0] p):∃ z S,p=z :: S∧S ∈ fs∧z < m3.n∧m3.fin z=S.any m.fin:=by
 obtain ⟨R,B⟩:=Rd.bis
 have key:∃ z S,p=z :: S∧S ∈ fs∧R (nOf fs S) z:=by
  induction r with
  | first =>
   refine ⟨0,[0],rfl,y0a F.hd,?_⟩
   have:=zhy F.nd (y04.mp F.hd).1
   rw [zod F.hd] at this
   rw [this]
   exact B.zero
  | @next a b u ra rb hu iha ihb =>
   obtain ⟨z,S,rfl,mS,rr⟩:=iha
   obtain ⟨z',S',rfl,mS',rr'⟩:=ihb
   obtain ⟨l,hl,rfl⟩:=y09.mp hu
   have hl':=y0k.mp hl
   have hu:upT m (twoL l t) S S' ∈ (dropTT m t).com S S':=y09.mpr ⟨l,hl,rfl⟩
   refine ⟨_,_,rfl,F.clo _ mS _ mS' _ hu,?_⟩
   have g:=B.go _ _ _ _ l rr rr' hl'
   rw [zin F (zbb mS) (zbb mS') hl'] at g
   have e:((dropTT m t).com S S').getD l []=upT m (twoL l t) S S':=by
    show (((List.range (2 ^ (m.w - 1))).map _).getD l [])=_
    rw [y03,y02,y0j hl']
    rfl
   rw [e] at g
   exact g
 obtain ⟨z,S,rfl,mS,rr⟩:=key
 refine ⟨z,S,rfl,mS,(B.lt _ _ rr).2,?_⟩
 rw [← B.fin _ _ rr,zph (zbb mS)]
 rfl
abbrev tls (ls:List (List Nat)):List (List Nat):=ls.map List.tail
theorem zsi (o:m.Ok) (o3:m3.Ok) (h3:m.w - 1=m3.w) (n6:m.n ≤ 6) {ls:List (List Nat)} (S:TSome (setTT m m3 t) [0,0] ls):(unlike (tls ls)).length ≤ 64:=by
 have:=zdm (ys:=subs m.n) (za7 (tls ls)) fun s hs=>by
  obtain ⟨p,hp,rfl⟩:=y09.mp ((zbk s (tls ls)).mp hs)
  obtain ⟨z,S',rfl,_,hS⟩:=zb8 o o3 h3 (S.come p hp)
  exact zee _ _ hS.1 hS.2
 rw [zjz] at this
 exact y13 this (y2q (n:=2) (by decide) n6)
def Told48 (m:Tm) (t:Int) (ks:List Bool) (fm:Option Tm):Prop :=
 (¬ (0 ≤ t∧t < m.w)∧ks=true :: List.replicate 9 false∧fm=none) ∨
 ((0 ≤ t∧t < m.w)∧∃ fs,fs.length ≤ 30∧TFndT (dropTT m t.toNat) [0] fs (alls fs.length)∧ks=[]∧∃ m',fm=some m'∧TRed (xplT (dropTT m t.toNat) fs) m') ∨
 ((0 ≤ t∧t < m.w)∧∃ fs,30 < fs.length∧TSome (dropTT m t.toNat) [0] fs∧ks=false :: true :: List.replicate 8 false∧fm=none)
theorem zc6 {ks:List Bool} (h:Told48 m (t:Int) ks (some m3)):ks=[]∧TCan2 m3∧m.w - 1=m3.w∧∀ ls,TSome (setTT m m3 t) [0,0] ls→(unlike (tls ls)).length ≤ 30∧∀ p ∈ ls,∃ z S,p=z :: S∧z < m3.n∧m3.fin z=S.any m.fin:=by
 rcases h with ⟨_,_,e⟩ | ⟨_,fs,hf,F,rfl,m',e,rd⟩ | ⟨_,_,_,_,_,e⟩
 ·cases e
 ·cases e
  obtain ⟨R,B⟩:=rd.bis
  refine ⟨rfl,rd.can,B.w,fun ls S=>⟨?_,fun p hp=>?_⟩⟩
  ·have:=zdm (ys:=fs) (za7 (tls ls)) fun s hs=>by
    obtain ⟨p,hp,rfl⟩:=y09.mp ((zbk s (tls ls)).mp hs)
    obtain ⟨z,S',rfl,hS,_⟩:=zj7 F.all rd (S.come p hp)
    exact hS
   omega
  ·obtain ⟨z,S',rfl,_,hz,e⟩:=zj7 F.all rd (S.come p hp)
   exact ⟨z,S',rfl,hz,e⟩
 ·cases e
theorem zel {ks:List Bool} (h:Told48 m (t:Int) ks none) (ht:t < m.w) (o:m.Ok):ks=false :: true :: List.replicate 8 false ∧
  ∀ ls,TSome (setTT m (oneT (m.w - 1)) t) [0,0] ls→(TAll (setTT m (oneT (m.w - 1)) t) [0,0] ls∨40 < ls.length)→30 < (unlike (tls ls)).length:=by
 rcases h with ⟨h,_⟩ | ⟨_,_,_,_,_,m',e,_⟩ | ⟨_,fs,hf,S,rfl,_⟩
 ·exact absurd ⟨by omega,by omega⟩ h
 ·cases e
 ·refine ⟨rfl,fun ls L hl=>?_⟩
  have o3:(oneT (m.w - 1)).Ok:=zrs (by have:=o.wid;omega)
  rcases hl with hl | hl
  ·have:=zdm (ys:=unlike (tls ls)) S.nd fun s hs=>(zbk s (tls ls)).mpr (by
    obtain ⟨p,rp,e⟩:=zq8 (m3:=oneT (m.w - 1)) (S.come s hs)
    exact y09.mpr ⟨p,hl.mem rp,e⟩)
   omega
  ·have nd:(tls ls).Nodup:=by
    refine y20.mpr (L.nd.imp_of_mem fun {a b} ha hb ne e=>ne ?_)
    obtain ⟨x,X,rfl,hx,_⟩:=zb8 o o3 rfl (L.come a ha)
    obtain ⟨y,Y,rfl,hy,_⟩:=zb8 o o3 rfl (L.come b hb)
    have e:X=Y:=e
    have hx:x < 1:=hx
    have hy:y < 1:=hy
    rw [e,show x=0 by omega,show y=0 by omega]
   rw [zhd nd,y00]
   omega
theorem zk6 {ks:List Bool} {T:Int} {fm:Option Tm} (h:Told48 m T ks fm) (hT:¬ (0 ≤ T∧T < m.w)):ks=true :: List.replicate 9 false:=by
 rcases h with ⟨_,e,_⟩ | ⟨h,_⟩ | ⟨h,_⟩
 ·exact e
 ·exact absurd h hT
 ·exact absurd h hT
abbrev dec (p:List Nat):List Nat × Nat:=(p.tail,p.headD 0)
theorem dec_inj {p q:List Nat} (hp:p ≠ []) (hq:q ≠ []) (e:dec p=dec q):p=q:=by
 cases p with
 | nil=>exact absurd rfl hp
 | cons x p =>
  cases q with
  | nil=>exact absurd rfl hq
  | cons y q =>
   have e1:p=q:=congrArg Prod.fst e
   have e2:x=y:=congrArg Prod.snd e
   rw [e1,e2]
theorem zpk {ls:List (List Nat)} {ys:List NRow} (h:ys.map (·.1)=ls.map fun p=>k2 (dec p)) (ne:∀ p ∈ ls,p ≠ []) {u:List Nat} (hu:u ≠ []):(valN ys (k2 (dec u))).isSome=decide (u ∈ ls):=by
 rw [zse (ps:=ls.map dec) (by rw [h,y0v];rfl) (dec u)]
 congr 1
 refine propext ⟨fun z=>?_,fun z=>y09.mpr ⟨u,z,rfl⟩⟩
 obtain ⟨p,hp,e⟩:=y09.mp z
 rw [← dec_inj (ne p hp) hu e]
 exact hp
def SLine (H:Hp) (v:V) (p:List Nat):Prop:=PLine H v (dec p)
theorem SLine.ts {H H':Hp} {v:V} {p:List Nat} (x:SLine H v p) (ts:TupS H H'):SLine H' v p:=PLine.ts x ts
def SSt (P:Program) (w:World) (H:Hp) (p kd:Addr) (TT:TTh) (fs:List (List Nat)) (D:List Nat→Prop) (n:Nat):Prop:=∃ (rs:List V) (ls:List (List Nat)) (ys:List NRow),H p=some (.lst rs)∧Paired (SLine H) rs ls∧H kd=some (dN P w kd ys)∧Keys H ys∧(ys.map (·.1)=ls.map fun p=>k2 (dec p))∧ExtT TT [0,0] fs ls D n
def zhk:Sp:=fun vs H Q _=>∃ (a c:Addr) (m m3:Tm) (t:Nat),vs=[.ref a,nV t,.ref c]∧RepT H a m∧RepT H c m3∧m.Ok∧m3.Ok∧m.n ≤ 6∧t < m.w∧m.w - 1=m3.w ∧
 ∀ p rs ls H',Same H H'→H' p=some (.lst rs)→Paired (SLine H') rs ls→TSome (setTT m m3 t) [0,0] ls→(TAll (setTT m m3 t) [0,0] ls∨40 < ls.length)→ls.length ≤ 400→Q (.ref p) H'
def zeo (Pt:Addr) (qt:Z3) (Pd:Addr) (qd:Z3):Sp:=fun vs H Q _=>∃ (a:Addr) (m:Tm) (t:Int),vs=[.ref a,.int t]∧TabOk H Pt qt∧TabOk H Pd qd∧RepT H a m∧m.Ok∧m.n ≤ 6 ∧
 ∀ p l v ks fm H',Same H H'→H' p=some (.tup [.ref l,v])→H' l=some (.lst (ks.map V.bl))→FndT H' v fm→Told48 m t ks fm→Q (.ref p) H'
def zfv (Pt:Addr) (qt:Z3) (Pr:Addr) (qr:Z3) (Pd:Addr) (qd:Z3):Sp:=fun vs H Q _=>∃ (a:Addr) (m:Tm) (t:Nat),vs=[.ref a,nV t]∧TabOk H Pt qt∧TabOk H Pr qr∧TabOk H Pd qd∧RepT H a m∧m.Ok∧m.n ≤ 6∧t < m.w∧∀ H',Same H H'→Q (.bl true) H'
section
variable {X:Cx} {H:Hp}
theorem zlq {k:Nat} {a b:Addr} {xs ys:List V} (hx:SqL X.K H a xs) (hy:SqL X.K H b ys) (hl:xs.length=ys.length) (e:Nat→Bool) (he:∀ j (h1:j < xs.length) (h2:j < ys.length),EqOk X k H xs[j] ys[j] (e j)) :
  NeOk X (k + 1) H (.ref a) (.ref b) (!(List.range xs.length).all e):=fun pins σ s A u v hu I rx ry=>by
 cases (show u=Value.ref a from rx)
 cases (show v=Value.ref b from ry)
 obtain ⟨us,r1,p1,_⟩:=I.list hx
 obtain ⟨vs,r2,p2,_⟩:=I.list hy
 have l1:=r1.length
 have l2:=r2.length
 have q:=SeqAt.RcNeAt.lists (A:=A) (e:=e) p1.isList p2.isList (by rw [y06,y06];omega) (by omega) fun j h1 h2=>by
  rw [y06] at h1 h2
  obtain ⟨g1,q1⟩:=r1.at h1
  obtain ⟨g2,q2⟩:=r2.at h2
  exact he j g1 g2 pins σ s A.in1 _ _ (by show A.units + 1 + k < cLine;omega) I (by simpa using q1) (by simpa using q2)
 rw [y06,← l1] at q
 exact q
theorem ztb {a b:Addr} {bs:List Bool} (ha:H a=some (.lst (bs.map V.bl))) (hb:H b=some (.lst (bs.map V.bl))):NeOk X 8 H (.ref a) (.ref b) false:=by
 have r:=zlq (X:=X) (k:=7) (.of ha) (.of hb) rfl (fun _=>true) fun j h1 h2=>by
  have hj:j < bs.length:=by rw [y00] at h1;exact h1
  have e:(bs.map V.bl)[j]=V.bl bs[j]:=List.getElem_map ..
  rw [e]
  have z:=zcq (X:=X) (k:=7) (H:=H) (x:=V.bl bs[j]) (y:=V.bl bs[j]) rfl rfl
  rw [show eqV (V.bl bs[j]) (V.bl bs[j])=true by simp [eqV]] at z
  exact z
 have e:(!(List.range (bs.map V.bl).length).all fun _=>true)=false:=by simp
 rw [e] at r
 exact r
end
end SM
namespace PySem
open AutoSeq1
theorem ze8 (l b:Addr) (items items2:Array Value) (n n2:Nat) (dd:Option Addr) (sl:Z8) (hs0:¬(!items.isEmpty && Builtin.List.listTooLong (items.size + items2.size))=true) (hs1:items.size ≤ sizeLine) (hs2:items.size + items2.size ≤ sizeLine + 1) :
  Meets (Builtin.«list.extend» ⟨[.ref l,.ref b],[]⟩) (fun _ R s=>s.heap.get? l=some { cls:=.type "list",dict:=none,data:=.seq items n,slots:=#[] }∧s.heap.get? b=some { cls:=.type "tuple",dict:=dd,data:=.seq items2 n2,slots:=sl }∧R (.ok (.ret Value.none)) { s with heap:=s.heap.update l (Obj.mapSeq fun x=>x ++ items2),toks:=s.toks }) :=
 .of_wp fun pg wd Ar Re st0 hyp=>by
  obtain ⟨hp0,ga,dr,tks,ost⟩:=st0
  obtain ⟨el,eb,fin⟩:=hyp
  have s1:=idx_int
  have s2:=AutoSeq1.sub_tuple_tuple
  have s3:=AutoSeq1.sub_list_list
  have s4:=AutoSeq1.sub_tuple_list
  have s5:=AutoSeq1.sub_list_tuple
  have fit:(items ++ items2).size ≤ sizeLine + 1:=by rw [Array.size_append];omega
  wp_walk using (wpAny_updateSeq el rfl (hz:=hs1) (_hz':=fit)),wpAny_loadPart' el,wpAny_loadPart' eb
  exact ⟨_,rfl,fin⟩
end PySem
namespace L2
open PySem PySem.Spec PyProof.Rows PySem.W PySem.Calls
def rExtendT (K:Frag):V→List V→Hp→VK→Prop:=fun x vs H Q=>∃ l b xs zs,x=.ref l∧vs=[.ref b]∧H l=some (.lst xs)∧SqT K H b zs∧xs.length + zs.length ≤ sizeLine∧Q .non (upd H l (.lst (xs ++ zs)))
theorem zls {X:Cx}:MtM X "list.extend" (rExtendT X.K):=by
 intro pins s σ H x vs v us Q I rx rv h
 obtain ⟨l,b,xs,zs,rfl,rfl,hH,hB,hz,q⟩:=h
 cases rx
 obtain ⟨u,rfl,ru⟩:=rv.one
 cases ru
 obtain ⟨z,its,n,r,hl,e⟩:=I.lstM hH
 obtain ⟨its2,r2,⟨⟨c2,dd2,da2,sl2⟩,e2,hc2,n2,hd2⟩,_⟩:=I.tuple hB
 simp only at hc2 hd2
 subst hc2 hd2
 have hl2:=r2.length
 have hsz:its.toArray.size + its2.toArray.size ≤ sizeLine:=by rw [y06,y06];omega
 have hlong:¬ (!its.toArray.isEmpty && Builtin.List.listTooLong (its.toArray.size + its2.toArray.size))=true:=by
  rw [notLongL hsz,y3p]
  exact y0l
 refine call_meets F.slot_list_extend ⟨_,e,rfl⟩ F.entry_list_extend (F.args_list_extend_2 _ _)
  (ze8 l b its.toArray its2.toArray n n2 dd2 sl2 hlong (by rw [y06];omega) (by omega)) ⟨e,e2,?_⟩
 refine ⟨.non,_,I.lset (its':=its ++ its2) hH e (by simp) (r.append r2) ?_,rfl,q⟩
 rw [y0c]
 omega
theorem zi7 {X:Cx} (K:Frag) (h:X.K=K:=by rfl):MtM X "list.extend" (rExtendT K):=h ▸ zls
end L2
set_option maxHeartbeats 4000000
namespace L2
open PySem
theorem fit1 {P:List Value→Prop} (h:∀ a,P [a]):∀ us:List Value,us.length=1→P us
 | [_],_=>h _
theorem fit2 {P:List Value→Prop} (h:∀ a b,P [a,b]):∀ us:List Value,us.length=2→P us
 | [_,_],_=>h _ _
theorem fit3 {P:List Value→Prop} (h:∀ a b c,P [a,b,c]):∀ us:List Value,us.length=3→P us
 | [_,_,_],_=>h _ _ _
theorem fit4 {P:List Value→Prop} (h:∀ a b c d,P [a,b,c,d]):∀ us:List Value,us.length=4→P us
 | [_,_,_,_],_=>h _ _ _ _
theorem fit5 {P:List Value→Prop} (h:∀ a b c d e,P [a,b,c,d,e]):∀ us:List Value,us.length=5→P us
 | [_,_,_,_,_],_=>h _ _ _ _ _
end L2
namespace K48
open PySem PySem.Spec PyProof.Rows L2 SS SM
local macro_rules | `(tactic| trivial)=>`(tactic| simp only [tDNewN,tSeq,gName,tAsg,iTup,zdi,zrm,y1v,List.set_cons_succ,V.ref.injEq,exists_eq_left',exists_eq',rInDc,rLenD,sDPut,tIfS,tTest,tOp,tNext,tNil,tCons,tCB,zfn,V.bl.injEq,List.cons.injEq,and_true,true_and,exists_and_left,if_true,tDGet,tYes,tDNewTN,iList,rLenT,tCallV,tCall,y0s,rNeI,tRet,cxK,zgj,rIxL,V.int.injEq,rIxT,rCatN,tC,rI0,iRng1,tTupN,rCatTN,ipCatT,tAug,Option.some.injEq,and_assoc,rLen,rMaxL,tLam,tCallA,tLstN,rIndex,tBM,tyV,tDrop,rAppend])
def top (i:Nat):Stmt:=PySem.Challenge.pw_setsays_k48_tree_dropped.main.body.getD i (.Pass ⟨0,0,0,0⟩)
abbrev veM:List Value:=[.type "ValueError",.type "Exception",.type "BaseException",.type "object"]
structure Txt (K:Frag) (mg:Z1) (cTooGreat cSayError:Addr) (cs:List Addr):Prop where
 b_isinstance:mg "isinstance"=none
 b_tuple:mg "tuple"=none
 b_list:mg "list"=none
 b_int:mg "int"=none
 b_bool:mg "bool"=none
 b_len:mg "len"=none
 b_all:mg "all"=none
 b_max:mg "max"=none
 b_sum:mg "sum"=none
 b_range:mg "range"=none
 b_zip:mg "zip"=none
 b_set:mg "set"=none
 b_sorted:mg "sorted"=none
 b_any:mg "any"=none
 g_MOST_TREE_COME_TO:GlV mg "MOST_TREE_COME_TO" (.int 30)
 b_ValueError:mg "ValueError"=none
 m_TooGreat:mg "TooGreat"=some (.ref cTooGreat)
 m_SayError:mg "SayError"=some (.ref cSayError)
 m_NoWidth:mg "NoWidth"=some (.ref (cs.getD 0 0))
 m_NoText:mg "NoText"=some (.ref (cs.getD 1 0))
 m_NoFrame:mg "NoFrame"=some (.ref (cs.getD 2 0))
 m_NoSaying:mg "NoSaying"=some (.ref (cs.getD 3 0))
 m_NoRow:mg "NoRow"=some (.ref (cs.getD 4 0))
 m_NoTree:mg "NoTree"=some (.ref (cs.getD 5 0))
 m_NoNumber:mg "NoNumber"=some (.ref (cs.getD 6 0))
 m_NoLine:mg "NoLine"=some (.ref (cs.getD 7 0))
 k_SayError:KSup K cSayError
 kx:KExc K cTooGreat
 ms:PySem.W.mroIn K cTooGreat (.ref cSayError)=some true
 i1:PySem.W.kitOne K (.ref cTooGreat) (.ref cTooGreat)=some true
 iV:PySem.W.kitOne K (.ref cTooGreat) (.type "ValueError")=some true
 iN:∀ j,j < 8→PySem.W.kitOne K (.ref cTooGreat) (.ref (cs.getD j 0))=some false
 kxN:KExc K (cs.getD 0 0)
 msN:PySem.W.mroIn K (cs.getD 0 0) (.ref cSayError)=some true
 i1N:PySem.W.kitOne K (.ref (cs.getD 0 0)) (.ref (cs.getD 0 0))=some true
 iVN:PySem.W.kitOne K (.ref (cs.getD 0 0)) (.type "ValueError")=some true
 iTN:PySem.W.kitOne K (.ref (cs.getD 0 0)) (.ref cTooGreat)=some false
 iNN:∀ j,j < 7→PySem.W.kitOne K (.ref (cs.getD 0 0)) (.ref (cs.getD (j + 1) 0))=some false
 x_NoWidth:PySem.W.excIn K (cs.getD 0 0) veM "ValueError.__new__"=true
 x_TooGreat:PySem.W.excIn K cTooGreat veM "ValueError.__new__"=true
seal PE PT PW PA PS PSs
section
variable {P:Program} {w:World} {K:Frag} {mg:Z1} {base:Heap} {cTooGreat cSayError:Addr} {cs:List Addr}
abbrev s_numbered:Stmt:=top 13
theorem sc_numbered:FnScope ["marks","numbers","mark"] ["marks"] (defScope s_numbered):=⟨rfl,rfl,rfl,by decide +kernel,rfl,by decide +kernel,by decide +kernel⟩
theorem zi5 (T:Txt K mg cTooGreat cSayError cs) (d:Dfn K mg "numbered" s_numbered ["marks"]):Cal P w K mg base 1 "numbered" ["marks"] zc7:=by
 refine d.cal sc_numbered (fun vs H Q E h=>?_) (fun f cdv A outer s H vs Q E hr h=>?_)
 ·rcases h with ⟨a,bs,rfl,_⟩ | ⟨a,rs,ms,rfl,_⟩ <;> rfl
 have hu:=zfq hr 8 (by decide)
 rcases h with ⟨a,bs,rfl,ea,h100,q⟩ | ⟨a,rs,ms,rfl,ea,pr,h100,q⟩
 ·refine ⟨_,(zac (zan (i:=1) sc_numbered.nd rfl (Or.inr rfl) zp8) (zac (za5 PassesOwn.never rfl (za8 K (pv 0)) (zah (i:=2) sc_numbered.nd (by rfl) (Or.inl (by rfl))) (zae (zb1 (zax (zcx hu) (pv 2) (pv 1) (by with_unfolding_all rfl)) (zae (zcw hu (pv 1) (pv 2) (zau zl3 (by rfl) T.b_len boot_len (pa_c (pv 1) zaa)) rfl)) za2))) (zae (zar (zas ["mark"] [(1,"numbers")] (CompOk.of rfl (by rfl) (by rfl)) (by rfl) (za8 K (pv 0)) (fun _ _ _ _ _=>(zah (i:=0) (show List.Nodup (["mark","numbers"]:List Str) by decide +kernel) (by rfl) (Or.inl (by rfl)))) (fun _ _ _ _ _=>za4) (fun _ _ _ _ _=>(zdl hu (pv 1) (pv 0) (fun _ _=>rfl)))))))),?_⟩
  refine zba [some (.ref a),none,none] rfl ?_
  trivial
  refine fun p H1 n1=>⟨⟨_,.of (n1.g _ _ ea)⟩,zdq (K:=K) (a:=a) (xs:=bs.map V.bl) (fun i σ H'=>Same H H'∧(∃ v2,σ=[some (.ref a),some (.ref p),v2])∧H' p=some (.dK (tabF keyB 0 (news [] (bs.take i))))) ⟨n1.g,⟨none,rfl⟩,n1.at'⟩ (fun i σ H' _ z=>.of (z.1 _ _ ea)) ?_ ?_⟩
  ·rintro i y σ H' hy ⟨g,⟨v2,rfl⟩,ep⟩
   rw [y02] at hy
   obtain ⟨x,ex,rfl⟩:=y0z.mp hy
   have en:=zhx ex
   have hnl:=zcz (bs.take i) []
   rw [y0y,y2h] at hnl
   trivial
   refine ⟨_,DGet.b ep,?_⟩
   by_cases hx:x ∈ news [] (bs.take i)
   ·rw [show valV (tabF keyB 0 (news [] (bs.take i))) (.inl (blI x))=_ from zcn zeh hx]
    exact iteF ⟨g,by rw [en,zkh hx];exact ep⟩
   ·rw [show valV (tabF keyB 0 (news [] (bs.take i))) (.inl (blI x))=_ from zdf zeh hx]
    refine iteT ⟨_,ep,_,DPut.b ep (by rw [zb2];exact small1000 (by omega)),g.wr n1.nil _,?_⟩
    rw [zam,en,zgm hx]
    exact congrArg (fun z=>some (HO.dK z)) (zed zeh hx)
  ·rintro σ H' ⟨g,⟨v2,rfl⟩,ep⟩
   rw [y00,y0r (y05 _)] at ep
   simp only [tRet,iTup,zdi,zgj,V.ref.injEq,exists_eq_left']
   refine ⟨⟨_,.of (g _ _ ea)⟩,zf7 (K:=K) (a:=a) (xs:=bs.map V.bl) (fun σ=>∃ v,σ=[v,some (.ref p)]) (fun y=>match y with | .bl x=>nV (nOf (news [] bs) x) | v=>v) (by rw [y00];omega) (.of (g _ _ ea)) ⟨_,rfl⟩ ?_ ?_⟩
   ·rintro D i σ H2 x hi hm hx gg hD hD' ⟨v,rfl⟩
    obtain ⟨r,mr,rfl⟩:=y09.mp hm
    have tv:valV (tabF keyB 0 (news [] bs)) (.inl (blI r))=_:=zcn zeh ((za0 bs [] r).mpr (.inr mr))
    have z:=DGet.b (b:=r) (gg _ _ ep)
    rw [tv] at z
    trivial
    exact ⟨_,z,zcr (by rw [y00];omega) hx hD hD' gg ⟨_,rfl⟩ rfl⟩
   intro D H3 hD g3 eD
   exact q D (bs.map (nOf (news [] bs))) H3 (g.free hD) (g.trans g3) (by rw [eD,y0v,y0v];rfl) (zrt bs)
 ·have hlr:=SS.Paired.len pr
  refine ⟨_,(zac (zan (i:=1) sc_numbered.nd rfl (Or.inr rfl) ze0) (zac (za5 PassesOwn.never rfl (zaz K (pv 0)) (zah (i:=2) sc_numbered.nd (by rfl) (Or.inl (by rfl))) (zae (zb1 (zax (zcx hu) (pv 2) (pv 1) (by with_unfolding_all rfl)) (zae (zcw hu (pv 1) (pv 2) (zau zo8 (by rfl) T.b_len boot_len (pa_c (pv 1) zaa)) rfl)) za2))) (zae (zar (zas ["mark"] [(1,"numbers")] (CompOk.of rfl (by rfl) (by rfl)) (by rfl) (zaz K (pv 0)) (fun _ _ _ _ _=>(zah (i:=0) (show List.Nodup (["mark","numbers"]:List Str) by decide +kernel) (by rfl) (Or.inl (by rfl)))) (fun _ _ _ _ _=>za4) (fun _ _ _ _ _=>(zdl hu (pv 1) (pv 0) (fun _ _=>rfl)))))))),?_⟩
  refine zba [some (.ref a),none,none] rfl ?_
  trivial
  refine fun p H1 n1=>⟨⟨_,.of (n1.g _ _ ea)⟩,zcp (K:=K) (a:=a) (xs:=rs) (fun i σ H'=>Same H H'∧(∃ v2,σ=[some (.ref a),some (.ref p),v2])∧H' p=some (.dT (tabF keyL 0 (news [] (ms.take i))))) ⟨n1.g,⟨none,rfl⟩,n1.at'⟩ (fun i σ H' _ z=>.of (z.1 _ _ ea)) ?_ ?_⟩
  ·rintro i y σ H' hy ⟨g,⟨v2,rfl⟩,ep⟩
   obtain ⟨x,ex,t,rfl,et⟩:=SS.Paired.at pr hy
   have en:=zhx ex
   have hnl:=zcz (ms.take i) []
   rw [y0y,y2h] at hnl
   have et':H' t=some (.tup ((keyL x).map kV)):=by rw [zd7];exact g _ _ et
   trivial
   refine ⟨_,DGet.t ep et',?_⟩
   by_cases hx:x ∈ news [] (ms.take i)
   ·rw [show valV (tabF keyL 0 (news [] (ms.take i))) (keyL x)=_ from zcn zbo hx]
    exact iteF ⟨g,by rw [en,zkh hx];exact ep⟩
   ·rw [show valV (tabF keyL 0 (news [] (ms.take i))) (keyL x)=_ from zdf zbo hx]
    refine iteT ⟨_,ep,_,DPut.t ep et' (by rw [zb2];exact small1000 (by omega)),g.wr n1.nil _,?_⟩
    rw [zam,en,zgm hx]
    exact congrArg (fun z=>some (HO.dT z)) (zed zbo hx)
  ·rintro σ H' ⟨g,⟨v2,rfl⟩,ep⟩
   rw [y0r (by omega)] at ep
   simp only [tRet,iList,zdi,zgj,V.ref.injEq,exists_eq_left']
   refine ⟨⟨_,.of (g _ _ ea)⟩,ci_list (K:=K) (a:=a) (xs:=rs) (fun σ=>∃ v,σ=[v,some (.ref p)]) (fun i=>nV (nOf (news [] ms) (ms.getD i []))) (by omega) (.of (g _ _ ea)) ⟨_,rfl⟩ ?_ ?_⟩
   ·rintro D i σ H2 x hi hx gg hD hD' ⟨v,rfl⟩
    obtain ⟨r,er,t,rfl,et⟩:=SS.Paired.at pr hx
    have tv:valV (tabF keyL 0 (news [] ms)) (keyL r)=_:=zcn zbo ((za0 ms [] r).mpr (.inr (y0a er)))
    have et':H2 t=some (.tup ((keyL r).map kV)):=by rw [zd7];exact gg _ _ (g _ _ et)
    have z:=DGet.t (gg _ _ ep) et'
    rw [tv] at z
    trivial
    refine ⟨_,z,cstep (zab (by omega)) hi hD' (by simp) ⟨gg.wr hD _,⟨_,rfl⟩,?_⟩⟩
    rw [y2s,y15,List.map_singleton,y03,er,y1q]
   intro D H3 hD g3 eD
   refine q D (ms.map (nOf (news [] ms))) H3 (g.free hD) (g.trans g3) ?_ (zrt ms)
   rw [eD,hlr]
   congr 2
   refine List.ext_getElem (by simp) fun i h1 h2=>?_
   simp only [y00,y0t] at h1
   simp [y03,y01 h1]
abbrev s_sorts_by:Stmt:=top 14
theorem sc_sorts_by:FnScope ["ends","part_further","sorts","finer"] ["ends","part_further"] (defScope s_sorts_by):=⟨rfl,rfl,rfl,by decide +kernel,rfl,by decide +kernel,by decide +kernel⟩
theorem zi3 (T:Txt K mg cTooGreat cSayError cs) (d:Dfn K mg "sorts_by" s_sorts_by ["ends","part_further"]) (C_numbered:Cal P w K mg base 1 "numbered" ["marks"] zc7):Cal P w K mg base 5 "sorts_by" ["ends","part_further"] (zer P w K mg base):=by
 refine d.cal sc_sorts_by (fun vs H Q E h=>?_) (fun f cdv A outer s H vs Q E hr h=>?_)
 ·obtain ⟨e,f,fd,bs,R,J,Nx,mu,rfl,_⟩:=h
  rfl
 obtain ⟨e,pf,fd,bs,R,J,Nx,mu,rfl,ee,hb,ef,cl,hR,hRs,hJ0,hJl,hnx,q⟩:=h
 have hu:=zfq hr 8 (by decide)
 refine ⟨_,(zac (zan (i:=2) sc_sorts_by.nd rfl (Or.inl rfl) (zao C_numbered hr (by omega) (by rfl) (pa_c (pv 0) zaa))) (zac (zan (i:=3) sc_sorts_by.nd rfl (Or.inl rfl) (zb9 P w K mg base 1 4 1 (zge R J Nx) hr (by omega) (pa_c (pv 2) zaa))) (zac (zef PassesOwn.never (zax (zs5 K hu) (pv 3) (pv 2) (nomark _)) (zac (zan (i:=2) sc_sorts_by.nd rfl (Or.inl rfl) (pv 3)) (zae (zan (i:=3) sc_sorts_by.nd rfl (Or.inl rfl) (zb9 P w K mg base 1 4 1 (zge R J Nx) hr (by omega) (pa_c (pv 2) zaa)))))) (zae (zar (pv 2)))))),?_⟩
 refine zba [some (.ref e),some (.ref pf),none,none] rfl ?_
 trivial
 refine .inl ⟨e,bs,rfl,ee,hb,fun D1 ns H1 hD1 g1 e1 N1=>?_⟩
 refine ⟨pf,rfl,fd,g1 _ _ ef,g1 _ _ ef,cl.mono g1.frz,rfl,D1,ns,rfl,hRs _ _ g1 hR,e1,hJ0 ns N1,fun D2 fs H2 hD2 g2 e2 N2=>?_⟩
 refine ⟨fun mm σ H'=>∃ (ns fs:List Nat) (D1 D2:Addr),mm=mu ns∧Same H H'∧σ=[some (.ref e),some (.ref pf),some (.ref D1),some (.ref D2)]∧H' D1=some (.lst (ns.map nV))∧H' D2=some (.lst (fs.map nV))∧J ns∧Nx ns fs,
  ⟨_,ns,fs,D1,D2,rfl,g1.trans g2,rfl,g2 _ _ e1,e2,hJ0 ns N1,N2⟩,?_⟩
 rintro mm σ H' ⟨ns,fs,D1,D2,rfl,g,rfl,e1,e2,S,N⟩
 obtain ⟨S',dn⟩:=hnx ns fs S N
 trivial
 refine ⟨fs.map fun (n:Nat)=>(n:Int),.of (by rw [← zkk];exact e2),ns.map fun (n:Nat)=>(n:Int),.of (by rw [← zkk];exact e1),?_⟩
 by_cases hn:fs=ns
 ·rw [decide_eq_true (by rw [hn])]
  refine iteF ?_
  exact q D1 ns H' g e1 S (hn ▸ N)
 ·rw [decide_eq_false (fun z=>hn (zd6 z))]
  refine iteT ⟨fun σ' H''=>∃ m',m' < mu ns∧_,fun σ' H'' z=>z,?_⟩
  refine ⟨pf,rfl,fd,g _ _ ef,g _ _ ef,cl.mono g.frz,rfl,D2,fs,rfl,hRs _ _ g hR,e2,S',fun D3 fs' H3 hD3 g3 e3 N3=>⟨mu fs,dn hn,fs,rfl,g.trans g3,fs',D2,D3,rfl,g3 _ _ e2,e3,S',N3⟩⟩
abbrev s_renamed:Stmt:=top 12
theorem zdw:FnScope ["rooms","numbers"] ["rooms","numbers"] (defScope s_renamed):=⟨rfl,rfl,rfl,by decide +kernel,rfl,by decide +kernel,by decide +kernel⟩
theorem znt (T:Txt K mg cTooGreat cSayError cs) (d:Dfn K mg "renamed" s_renamed ["rooms","numbers"]):Cal P w K mg base 1 "renamed" ["rooms","numbers"] zdg:=by
 refine d.cal zdw (fun vs H Q E h=>?_) (fun f cdv A outer s H vs Q E hr h=>?_)
 ·rcases h with ⟨a,b,l,ns,g,rfl,_⟩ | ⟨a,b,l,ns,g,rfl,_⟩ | ⟨a,b,l,ns,g,rfl,_⟩ <;> rfl
 rcases h with h | h | h
 ·obtain ⟨a,b,l,ns,g,rfl,ea,h100,eb,hv,q⟩:=h
  refine ⟨_,(zae (zar (za6 zag (by rfl) T.b_tuple boot_tuple (pa_c (zas ["room"] [(1,"numbers")] (CompOk.of rfl (by rfl) (by rfl)) (by rfl) (za8 K (pv 0)) (fun _ _ _ _ _=>(zah (i:=0) (show List.Nodup (["room","numbers"]:List Str) by decide +kernel) (by rfl) (Or.inl (by rfl)))) (fun _ _ _ _ _=>za4) (fun _ _ _ _ _=>(zaq (za3 K) (pv 1) (pv 0) (fun _ _=>rfl)))) zaa)))),?_⟩
  refine zba [some (.ref a),some (.ref b)] rfl ?_
  trivial
  refine ⟨⟨_,.of ea⟩,zf7 (K:=K) (a:=a) (xs:=l.map nV) (fun σ=>∃ v,σ=[v,some (.ref b)]) (fun y=>match y with | .int z=>g z.toNat | v=>v) (by rw [y00];omega) (.of ea) ⟨_,rfl⟩ ?_ ?_⟩
  ·rintro D i σ H' x hi hm hx gg hD hD' ⟨v,rfl⟩
   obtain ⟨r,mr,rfl⟩:=y09.mp hm
   trivial
   exact ⟨_,.of (gg _ _ eb),_,zai (hv r mr),zcr (by rw [y00];omega) hx hD hD' gg ⟨_,rfl⟩ rfl⟩
  intro D H1 hD g1 eD
  have eD':H1 D=some (.lst (l.map g)):=by rw [eD,y0v];rfl
  exact ⟨_,rfl,_,.inl ⟨.of eD',fun t H2 n2=>q t H2 (g1.trans n2.g) n2.at'⟩⟩
 ·obtain ⟨a,b,l,ns,g,rfl,ea,h100,eb,hv,q⟩:=h
  refine ⟨_,(zae (zar (za6 zag (by rfl) T.b_tuple boot_tuple (pa_c (zas ["room"] [(1,"numbers")] (CompOk.of rfl (by rfl) (by rfl)) (by rfl) (zaz K (pv 0)) (fun _ _ _ _ _=>(zah (i:=0) (show List.Nodup (["room","numbers"]:List Str) by decide +kernel) (by rfl) (Or.inl (by rfl)))) (fun _ _ _ _ _=>za4) (fun _ _ _ _ _=>(zaq (zaj K) (pv 1) (pv 0) (fun _ _=>rfl)))) zaa)))),?_⟩
  refine zba [some (.ref a),some (.ref b)] rfl ?_
  trivial
  refine ⟨⟨_,.of ea⟩,zo3 (K:=K) (a:=a) (xs:=l.map nV) (fun σ=>∃ v,σ=[v,some (.ref b)]) (fun y=>match y with | .int z=>g z.toNat | v=>v) (by rw [y00];omega) (.of ea) ⟨_,rfl⟩ ?_ ?_⟩
  ·rintro D i σ H' x hi hm hx gg hD hD' ⟨v,rfl⟩
   obtain ⟨r,mr,rfl⟩:=y09.mp hm
   trivial
   exact ⟨_,.of (gg _ _ eb),_,zai (hv r mr),zcr (by rw [y00];omega) hx hD hD' gg ⟨_,rfl⟩ rfl⟩
  intro D H1 hD g1 eD
  have eD':H1 D=some (.lst (l.map g)):=by rw [eD,y0v];rfl
  exact ⟨_,rfl,_,.inl ⟨.of eD',fun t H2 n2=>q t H2 (g1.trans n2.g) n2.at'⟩⟩
 ·obtain ⟨a,b,l,kvs,g,rfl,ea,h100,eb,hv,q⟩:=h
  have hu:=zfq hr 8 (by decide)
  refine ⟨_,(zae (zar (za6 zag (by rfl) T.b_tuple boot_tuple (pa_c (zas ["room"] [(1,"numbers")] (CompOk.of rfl (by rfl) (by rfl)) (by rfl) (zaz K (pv 0)) (fun _ _ _ _ _=>(zah (i:=0) (show List.Nodup (["room","numbers"]:List Str) by decide +kernel) (by rfl) (Or.inl (by rfl)))) (fun _ _ _ _ _=>za4) (fun _ _ _ _ _=>(zdl hu (pv 1) (pv 0) (fun _ _=>rfl)))) zaa)))),?_⟩
  refine zba [some (.ref a),some (.ref b)] rfl ?_
  trivial
  refine ⟨⟨_,.of ea⟩,zo3 (K:=K) (a:=a) (xs:=l.map nV) (fun σ=>∃ v,σ=[v,some (.ref b)]) (fun y=>match y with | .int z=>g z.toNat | v=>v) (by rw [y00];omega) (.of ea) ⟨_,rfl⟩ ?_ ?_⟩
  ·rintro D i σ H' x hi hm hx gg hD hD' ⟨v,rfl⟩
   obtain ⟨r,mr,rfl⟩:=y09.mp hm
   have z:=DGet.n (n:=(r:Int)) (gg _ _ eb)
   rw [hv r mr] at z
   trivial
   exact ⟨_,z,zcr (by rw [y00];omega) hx hD hD' gg ⟨_,rfl⟩ rfl⟩
  intro D H1 hD g1 eD
  have eD':H1 D=some (.lst (l.map g)):=by rw [eD,y0v];rfl
  exact ⟨_,rfl,_,.inl ⟨.of eD',fun t H2 n2=>q t H2 (g1.trans n2.g) n2.at'⟩⟩
abbrev s_pairs_up_to:Stmt:=top 22
theorem zfl:FnScope ["most"] ["most"] (defScope s_pairs_up_to):=⟨rfl,rfl,rfl,by decide +kernel,rfl,by decide +kernel,by decide +kernel⟩
theorem zln (T:Txt K mg cTooGreat cSayError cs) (d:Dfn K mg "pairs_up_to" s_pairs_up_to ["most"]):Cal P w K mg base 1 "pairs_up_to" ["most"] zdv:=by
 refine d.cal zfl (fun vs H Q E h=>?_) (fun f cdv A outer s H vs Q E hr h=>?_)
 ·obtain ⟨m,rfl,_⟩:=h
  rfl
 obtain ⟨m,rfl,h30,q⟩:=h
 refine ⟨_,(zae (zar (zap ze2 (zas ["left"] [(0,"most")] (CompOk.of rfl (by rfl) (by rfl)) (by rfl) (zaw (by rfl) T.b_range (pa_c (pv 0) zaa)) (fun _ _ _ _ _=>(zah (i:=0) (show List.Nodup (["left","most"]:List Str) by decide +kernel) (by rfl) (Or.inl (by rfl)))) (fun _ _ _ _ _=>za4) (fun _ _ _ _ _=>(zay (pa_c (pv 0) (pa_c (pv 1) zaa))))) (zas ["right"] [(0,"most")] (CompOk.of rfl (by rfl) (by rfl)) (by rfl) (zaw (by rfl) T.b_range (pa_c (zap zbe (pv 0) zad) zaa)) (fun _ _ _ _ _=>(zah (i:=0) (show List.Nodup (["right","most"]:List Str) by decide +kernel) (by rfl) (Or.inl (by rfl)))) (fun _ _ _ _ _=>za4) (fun _ _ _ _ _=>(zay (pa_c (pv 1) (pa_c (pv 0) zaa)))))))),?_⟩
 refine zba [some (nV m)] rfl ?_
 trivial
 refine ⟨by omega,by omega,?_⟩
 rw [show ((m:Nat):Int).toNat=m from rfl]
 refine zdd (n:=m) (fun σ=>∃ v,σ=[v,some (nV m)]) (fun j y H=>Line H y [j,m]) (by omega) ⟨_,rfl⟩ (fun i H' hi gg=>hi) (fun H' gg=>y05 _) ?_ ?_
 ·rintro D i ys σ H1 x H1' hi gg hD hD' hl hy ⟨v,rfl⟩ ⟨rfl,rfl⟩
  simp only [tTupN,gName,tNil,tCons,tYes,zdi,zfn,y1v,if_true]
  refine ⟨zab (by simp),fun t H3 n3=>zbi (fun j y H H' ts z=>z.ts ts) (by omega) hi hD (n3.g _ _ hD') hl hy n3.g.tups (gg.trans n3.g) ⟨_,rfl⟩ ⟨t,rfl,?_⟩⟩
  rw [n3.at',y2p];rfl
 intro D1 ys1 H1 hD1 g1 eD1 hl1 hy1
 refine ⟨by omega,by omega,?_⟩
 rw [show ((m:Int) + 1).toNat=m + 1 by omega]
 refine zdd (n:=m + 1) (fun σ=>∃ v,σ=[v,some (nV m)]) (fun j y H=>Line H y [m,j]) (by omega) ⟨_,rfl⟩ (fun i H' hi gg=>hi) (fun H' gg=>y05 _) ?_ ?_
 ·rintro D i ys σ H2 x H2' hi gg hD hD' hl hy ⟨v,rfl⟩ ⟨rfl,rfl⟩
  simp only [tTupN,gName,tNil,tCons,tYes,zdi,zfn,y1v,if_true]
  refine ⟨zab (by simp),fun t H3 n3=>zbi (fun j y H H' ts z=>z.ts ts) (by omega) hi hD (n3.g _ _ hD') hl hy n3.g.tups (gg.trans n3.g) ⟨_,rfl⟩ ⟨t,rfl,?_⟩⟩
  rw [n3.at',y2p];rfl
 intro D2 ys2 H2 hD2 g2 eD2 hl2 hy2
 refine ⟨D1,rfl,D2,rfl,ys1,g2 _ _ eD1,ys2,eD2,zab (by omega),fun p H3 n3=>q p (ys1 ++ ys2) H3 ((g1.trans g2).free n3.nil) (g1.trans (g2.trans n3.g)) n3.at' ?_⟩
 refine zbn (by simp [ups,hl1,hl2]) fun j x y e1 e2=>?_
 unfold ups at e2
 by_cases hj:j < m
 ·rw [y0o (by omega)] at e1
  rw [y15,y0o (by simp;omega),y0v,y02,y0j hj] at e2
  cases e2
  exact (hy1 j x e1).ts (g2.trans n3.g).tups
 ·rw [y0p (by omega)] at e1
  rw [y15,y0p (by simp;omega),y0v,y02] at e2
  simp only [y00,y0t] at e2
  rw [hl1] at e1
  have hk:j - m < m + 1:=by have:=(y04.mp e1).1;omega
  rw [y0j hk] at e2
  cases e2
  exact (hy2 _ x e1).ts n3.g.tups
abbrev s_tree_mark:Stmt:=top 25
theorem sc_tree_mark:FnScope ["machine","room","sorts","mark","ways"] ["machine","room","sorts"] (defScope s_tree_mark):=⟨rfl,rfl,rfl,by decide +kernel,rfl,by decide +kernel,by decide +kernel⟩
theorem zqj (T:Txt K mg cTooGreat cSayError cs) (d:Dfn K mg "tree_mark" s_tree_mark ["machine","room","sorts"]) (C_renamed:Cal P w K mg base 1 "renamed" ["rooms","numbers"] zdg):Cal P w K mg base 2 "tree_mark" ["machine","room","sorts"] zj1:=by
 refine d.cal sc_tree_mark (fun vs H Q E h=>?_) (fun f cdv A outer s H vs Q E hr h=>?_)
 ·obtain ⟨a,b,m,i,ns,rfl,_⟩:=h
  rfl
 obtain ⟨a,b,m,i,ns,rfl,rm,ok,hi,eb,hns,q⟩:=h
 obtain ⟨b1,c1,ts,ea,eb1,pr,ec⟩:=id rm
 have h30:m.n ≤ 30:=ok.few
 have hps:1 ≤ 2 ^ m.w∧2 ^ m.w ≤ 16:=zbu (by have:=ok.wid;omega)
 refine ⟨_,(zac (zan (i:=3) sc_tree_mark.nd rfl (Or.inl rfl) (zay (pa_c (zaq (za3 K) (pv 2) (pv 1) (fun _ _=>rfl)) zaa))) (zac (za5 PassesOwn.never rfl (za8 K (zaq (zaj K) (pv 0) zad (fun _ _=>rfl))) (zah (i:=4) sc_tree_mark.nd (by rfl) (Or.inl (by rfl))) (zae (zm2 (i:=3) sc_tree_mark.nd rfl (Or.inl rfl) (zap (znl K) (zao C_renamed hr (by omega) (by rfl) (pa_c (zaq (zaj K) (pv 4) (pv 1) (fun _ _=>rfl)) (pa_c (pv 2) zaa))) (za6 zag (by rfl) T.b_tuple boot_tuple (pa_c (zas ["rights"] [(2,"sorts"),(1,"room")] (CompOk.of rfl (by rfl) (by rfl)) (by rfl) (za8 K (pv 4)) (fun _ _ _ _ _=>(zah (i:=0) (show List.Nodup (["rights","sorts","room"]:List Str) by decide +kernel) (by rfl) (Or.inl (by rfl)))) (fun _ _ _ _ _=>za4) (fun _ _ _ _ _=>(zaq (za3 K) (pv 1) (zaq (zaj K) (pv 0) (pv 2) (fun _ _=>rfl)) (fun _ _=>rfl)))) zaa))) (zqw K)))) (zae (zar (pv 3))))),?_⟩
 refine zba [some (.ref a),some (nV i),some (.ref b),none,none] rfl ?_
 trivial
 refine ⟨_,.of eb,_,zai (by rw [y02,zd9 (by rw [hns];exact hi)];rfl),zab (by simp),fun p0 H0 n0=>⟨_,.of (n0.g _ _ ea),_,zai (j:=1) rfl,b1,rfl,⟨_,.of (n0.g _ _ eb1)⟩,?_⟩⟩
 refine zdq (K:=K) (a:=b1) (xs:=ts) (fun j σ H'=>Same H H'∧∃ (p:Addr) (v4:Option V),σ=[some (.ref a),some (nV i),some (.ref b),some (.ref p),v4]∧H' p=some (.tup ((ix ns i :: (m.ways.take j).flatMap fun t=>(t.getD i []).map (ix ns) ++ t.map fun r=>ix ns (r.getD i 0)).map nV))) ⟨n0.g,p0,none,rfl,n0.at'⟩ (fun j σ H' _ z=>.of (z.1 _ _ eb1)) ?_ ?_
 ·rintro j y σ H' hy ⟨g,p,v4,rfl,ep⟩
  have hj:j < m.ways.length:=by rw [← SS.Paired.len pr];exact (y04.mp hy).1
  have ew:=y01 hj
  obtain ⟨v,ev,u,rs,rfl,eu,pu⟩:=Paired.at2 pr ew
  rw [ev] at hy
  cases hy
  have hwm:=y0q hj
  generalize m.ways[j]=t at ew pu hwm
  have htl:t.length=m.n:=ok.tab t hwm
  have hi':i < t.length:=by rw [htl];exact hi
  have er:t[i]?=some t[i]:=y01 hi'
  obtain ⟨v,evr,u2,rfl,eu2⟩:=Paired.at2 pu er
  have hri:t.getD i []=t[i]:=by rw [y03,er];rfl
  have hil:t[i].length=m.n:=ok.line t hwm _ (y0q hi')
  have hir:∀ r ∈ t[i],r < m.n:=ok.room t hwm _ (y0q hi')
  have hrl:rs.length=m.n:=by rw [SS.Paired.len pu,htl]
  trivial
  refine ⟨_,rfl,_,.of (g _ _ eu),_,zai evr,.inl ⟨u2,b,t[i],ns.map nV,(fun r=>nV (ix ns r)),rfl,g _ _ eu2,by rw [hil];exact y13 h30 (by decide),g _ _ eb,(fun r hr=>by rw [y02,zd9 (by rw [hns];exact hir r hr)];rfl),fun p1 H1 g1 e1=>⟨⟨_,.of (g1 _ _ (g _ _ eu))⟩,?_⟩⟩⟩
  have g01:=g.trans g1
  refine zdd (n:=m.n) (fun σ=>∃ v,σ=[v,some (.ref b),some (nV i)]) (fun k y H=>y=nV (ix ns ((t.getD k []).getD i 0))) (y13 h30 (by decide)) ⟨_,rfl⟩ (fun k H2 hk gg=>⟨_,rs[k]'(by rw [hrl];exact hk),.of (gg _ _ (g01 _ _ eu)),y01 _⟩) (fun H2 gg=>⟨_,.of (gg _ _ (g01 _ _ eu)),y3m hrl⟩) ?_ ?_
  ·rintro D k ys σ H2 x H2' hk gg hD hD' hl hy ⟨v,rfl⟩ ⟨rfl,yx⟩
   have ex:=yx _ (.of (gg _ _ (g01 _ _ eu)))
   obtain ⟨row,erow,qa,rfl,eqa⟩:=SS.Paired.at pu ex
   have hrow:=y0a erow
   have hrwl:row.length=m.n:=ok.line t hwm row hrow
   have ei:row[i]?=some (row.getD i 0):=by rw [y03,y01 (show i < row.length by rw [hrwl];exact hi)];rfl
   have hri2:row.getD i 0 < m.n:=ok.room t hwm row hrow _ (y0a ei)
   have hgk:t.getD k []=row:=by rw [y03,erow];rfl
   have a1:atI (row.map nV) ((i:Nat):Int)=some (nV (row.getD i 0)):=zai (by rw [y02,ei];rfl)
   have a2:atI (ns.map nV) ((row.getD i 0:Nat):Int)=some (nV (ix ns (row.getD i 0))):=zai (by rw [y02,zd9 (by rw [hns];exact hri2)];rfl)
   trivial
   exact ⟨_,.of ((g01.trans gg) _ _ eqa),_,a1,_,_,rfl,.of ((g01.trans gg) _ _ eb),_,a2,zbi (fun j y H H' ts z=>z) (y13 h30 (by decide)) hk hD hD' hl hy (Same.refl _).tups gg ⟨_,rfl⟩ (by rw [hgk])⟩
  intro D ys H2 hD g2 eD hl hy
  have eD':H2 D=some (.lst ((t.map fun r=>ix ns (r.getD i 0)).map nV)):=by
   rw [eD]
   congr 2
   refine y16 fun k=>?_
   by_cases hk:k < m.n
   ·have hk':k < t.length:=by rw [htl];exact hk
    rw [y01 (show k < ys.length by rw [hl];exact hk),hy k _ (y01 (show k < ys.length by rw [hl];exact hk)),y02,y02,y03 (l:=t),y01 hk']
    rfl
   ·rw [y0e (by rw [hl];exact y1c hk),y0e (by rw [y00,y00,htl];exact y1c hk)]
  refine ⟨D,rfl,_,.inl ⟨.of eD',fun t2 H3 n3=>?_⟩⟩
  have g23:=g2.trans n3.g
  have n0':0 < m.n:=ok.pos
  have ne1:t[i].map (fun r=>nV (ix ns r)) ≠ []:=y44 (by rw [y00,hil];exact n0')
  have ne2:(t.map fun r=>ix ns (r.getD i 0)).map nV ≠ []:=y44 (by rw [y00,y00,htl];exact n0')
  refine ⟨p1,rfl,_,.of (g23 _ _ e1),_,.of n3.at',ne1,ne2,zab (by rw [y00,y00,y00];omega),fun p2 H4 n4=>⟨p,rfl,_,.of ((g1.trans (g23.trans n4.g)) _ _ ep),_,.of n4.at',by simp,(fun z=>ne1 (List.append_eq_nil_iff.mp z).1),?_,fun p3 H5 n5=>?_⟩⟩
  ·have hfl:=zgt (c:=60) (f:=fun t=>(t.getD i []).map (ix ns) ++ t.map fun r=>ix ns (r.getD i 0)) (m.ways.take j) fun t' ht'=>by
    have hm:=y2g ht'
    have l1:t'.length=m.n:=ok.tab t' hm
    have l2:(t'.getD i []).length=m.n:=by
     have hh:i < t'.length:=by rw [l1];exact hi
     rw [y03,y01 hh]
     exact ok.line t' hm _ (y0q hh)
    rw [y0c,y00,y00,l1,l2];omega
   have hwl:m.ways.length=2 ^ m.w:=ok.len
   rw [y0y] at hfl
   rw [y00,y10,y0c,y00,y00,y00]
   have hb2:min j m.ways.length * 60 ≤ 16 * 60:=Nat.mul_le_mul_right 60 (by omega)
   exact y13 (show _ ≤ 2000 by omega) (by decide)
  ·refine ⟨g01.trans (g23.trans (n4.g.trans n5.g)),?_⟩
   rw [n5.at',y1e,ew,y1f,y1r,y1o,y2y,y0s,hri]
   simp
 ·rintro σ H' ⟨g,p,v4,rfl,ep⟩
  rw [SS.Paired.len pr,y0r (y05 _)] at ep
  simp only [tRet,zdi,zfn]
  exact q p H' g ep
abbrev s_tree_finer_sorts:Stmt:=top 26
theorem zc8:FnScope ["machine","sorts"] ["machine","sorts"] (defScope s_tree_finer_sorts):=⟨rfl,rfl,rfl,by decide +kernel,rfl,by decide +kernel,by decide +kernel⟩
theorem znq (T:Txt K mg cTooGreat cSayError cs) (d:Dfn K mg "tree_finer_sorts" s_tree_finer_sorts ["machine","sorts"]) (C_tree_mark:Cal P w K mg base 2 "tree_mark" ["machine","room","sorts"] zj1) (C_numbered:Cal P w K mg base 1 "numbered" ["marks"] zc7):Cal P w K mg base 3 "tree_finer_sorts" ["machine","sorts"] zhi:=by
 refine d.cal zc8 (fun vs H Q E h=>?_) (fun f cdv A outer s H vs Q E hr h=>?_)
 ·obtain ⟨a,b,m,ns,rfl,_⟩:=h
  rfl
 obtain ⟨a,b,m,ns,rfl,rm,ok,eb,hns,q⟩:=h
 have h30:m.n ≤ 30:=ok.few
 refine ⟨_,(zae (zar (zao C_numbered hr (by omega) (by rfl) (pa_c (zas ["room"] [(0,"machine"),(1,"sorts")] (CompOk.of rfl (by rfl) (by rfl)) (by rfl) (zaw (by rfl) T.b_range (pa_c (zau (zak K) (by rfl) T.b_len boot_len (pa_c (pv 1) zaa)) zaa)) (fun _ _ _ _ _=>(zah (i:=0) (show List.Nodup (["room","machine","sorts"]:List Str) by decide +kernel) (by rfl) (Or.inl (by rfl)))) (fun _ _ _ _ _=>za4) (fun _ _ _ _ _=>(zao C_tree_mark hr (by omega) (by rfl) (pa_c (pv 1) (pa_c (pv 0) (pa_c (pv 2) zaa)))))) zaa)))),?_⟩
 refine zba [some (.ref a),some (.ref b)] rfl ?_
 trivial
 refine ⟨_,.inl (.of eb),by rw [y00];omega,by rw [y00];omega,?_⟩
 rw [y00,show ((ns.length:Nat):Int).toNat=m.n from hns]
 refine zdd (n:=m.n) (fun σ=>∃ v,σ=[v,some (.ref a),some (.ref b)]) (fun j y H=>Line H y (tmark m ns j)) (by omega) ⟨_,rfl⟩ (fun i H' hi gg=>hi) (fun H' gg=>y05 _) ?_ ?_
 ·rintro D i ys σ H1 x H1' hi gg hD hD' hl hy ⟨v,rfl⟩ ⟨rfl,rfl⟩
  simp only [gName,tNil,tCons,tCall,tYes,zdi,zfn,y1v,y0s,if_true]
  rw [y2p]
  exact ⟨a,b,m,i,ns,rfl,rm.same gg,ok,hi,gg _ _ eb,hns,fun p H2 g2 e2=>zbi (fun j y H H' ts z=>z.ts ts) (by omega) hi hD (g2 _ _ hD') hl hy g2.tups (gg.trans g2) ⟨_,rfl⟩ ⟨p,rfl,e2⟩⟩
 intro D ys H1 hD g1 eD hl hy
 refine .inr ⟨D,ys,(List.range m.n).map (tmark m ns),rfl,eD,zbn (by rw [hl,y00,y0t]) (fun j x y e1 e2=>?_),by rw [y00,y0t];omega,fun D2 fs H2 hD2 g2 e2 N=>q D2 fs H2 (g1.free hD2) (g1.trans g2) e2 N⟩
 have hj:j < m.n:=by rw [← hl];exact (y04.mp e1).1
 rw [y02,y0j hj] at e2
 cases e2
 exact hy j x e1
abbrev s_tree_least:Stmt:=top 27
theorem sc_tree_least:FnScope ["machine","sorts","firsts","comings","ways"] ["machine"] (defScope s_tree_least):=⟨rfl,rfl,rfl,by decide +kernel,rfl,by decide +kernel,by decide +kernel⟩
abbrev qs_tree_least:List (Pos × Str):=[(⟨83,33,83,83⟩,"tree_least.<locals>.<lambda>")]
theorem znp {c Pt:Addr} (T:Txt K mg cTooGreat cSayError cs) (d:DfnC K mg "tree_least" s_tree_least ["machine"] c Pt) (kb:BltK base mg) (C_tree_finer_sorts:Cal P w K mg base 3 "tree_finer_sorts" ["machine","sorts"] zhi) (C_sorts_by:Cal P w K mg base 5 "sorts_by" ["ends","part_further"] (zer P w K mg base)) (C_renamed:Cal P w K mg base 1 "renamed" ["rooms","numbers"] zdg) :
  Cal P w K mg base 6 "tree_least" ["machine"] (zep Pt qs_tree_least):=by
 refine d.cal sc_tree_least (fun vs H Q E h=>?_) (fun f A outer s H vs Q E hr h=>?_)
 ·obtain ⟨a,m,rfl,_⟩:=h
  rfl
 obtain ⟨a,m,rfl,tab,rm,ok,q⟩:=h
 obtain ⟨b1,c1,ts,ea,eb1,pr,ec⟩:=id rm
 have h30:m.n ≤ 30:=ok.few
 have hps:1 ≤ 2 ^ m.w∧2 ^ m.w ≤ 16:=zbu (by have:=ok.wid;omega)
 refine ⟨_,(zac (zan (i:=1) sc_tree_least.nd rfl (Or.inr rfl) (zhv C_sorts_by hr (by omega) (by rfl) (fun _=>rfl) (pa_c (zaq (zaj K) (pv 0) zad (fun _ _=>rfl)) (pa_c (zrq (qs:=qs_tree_least) "tree_least.<locals>.<lambda>" rfl d.code kb (by rfl) (by rfl)) zaa)))) (zac (zan (i:=2) sc_tree_least.nd rfl (Or.inr rfl) (zas ["sort"] [(1,"sorts")] (CompOk.of rfl (by rfl) (by rfl)) (by rfl) (zaw (by rfl) T.b_range (pa_c (zap zbe (zau (zjo K rfl) (by rfl) T.b_max boot_max (pa_c (pv 1) zaa)) zad) zaa)) (fun _ _ _ _ _=>(zah (i:=0) (show List.Nodup (["sort","sorts"]:List Str) by decide +kernel) (by rfl) (Or.inl (by rfl)))) (fun _ _ _ _ _=>za4) (fun _ _ _ _ _=>(zck K PySem.F.plainAttrs_list PySem.F.slot_list_index PySem.F.type_list_index (zn0 K) (pv 1) (pa_c (pv 0) zaa))))) (zac (zan (i:=3) sc_tree_least.nd rfl (Or.inl rfl) (zat zaa)) (zac (za5 PassesOwn.never rfl (za8 K (zaq (zaj K) (pv 0) zad (fun _ _=>rfl))) (zah (i:=4) sc_tree_least.nd (by rfl) (Or.inr (by rfl))) (zae (zbz (zck K PySem.F.plainAttrs_list PySem.F.slot_list_append PySem.F.type_list_append za9 (pv 3) (pa_c (za6 zag (by rfl) T.b_tuple boot_tuple (pa_c (zas ["left"] [(1,"sorts"),(2,"firsts"),(4,"ways")] (CompOk.of rfl (by rfl) (by rfl)) (by rfl) (zaz K (pv 2)) (fun _ _ _ _ _=>(zah (i:=0) (show List.Nodup (["left","sorts","firsts","ways"]:List Str) by decide +kernel) (by rfl) (Or.inl (by rfl)))) (fun _ _ _ _ _=>za4) (fun _ _ _ _ _=>(zao C_renamed hr (by omega) (by rfl) (pa_c (zao C_renamed hr (by omega) (by rfl) (pa_c (pv 2) (pa_c (zaq (zaj K) (pv 3) (pv 0) (fun _ _=>rfl)) zaa))) (pa_c (pv 1) zaa))))) zaa)) zaa))))) (zae (zar (zay (pa_c (zaq (zaj K) (pv 0) zad (fun _ _=>rfl)) (pa_c (za6 zag (by rfl) T.b_tuple boot_tuple (pa_c (pv 3) zaa)) (pa_c (zao C_renamed hr (by omega) (by rfl) (pa_c (pv 2) (pa_c (zaq (zaj K) (pv 0) zad (fun _ _=>rfl)) zaa))) zaa)))))))))),?_⟩
 refine zba [some (.ref a),none,none,none,none] rfl ?_
 trivial
 refine ⟨_,.of ea,_,zai (j:=2) rfl,tab,fun fl H1 M Hq ad=>?_⟩
 have gq:Same H Hq:=M.old.trans ad.up
 obtain ⟨fdl,efl⟩:=M.fn
 have cl:CloH P w K mg base 4 Hq fl 1 (zge (fun H=>RepT H a m) (TSorts m) (TNx m)):=by
  refine M.clo_e (own:=["coarser"]) (ps:=["coarser"]) (cap:=["machine"]) (cv:=[.ref a]) (k:=3) (Same.refl _) ad ⟨rfl,rfl,rfl,by decide +kernel,rfl,by decide +kernel,by decide +kernel,by decide +kernel⟩ (y05 _) (.cons ⟨0,rfl,rfl,.inl rfl⟩ .nil) (fun cl ct cd pm=>L2.fit1 fun _=>rfl) ?_
  rintro clo c' A' outer' s' H' vs Q' hr hcl fz fz2 hl ⟨b,ns,rfl,hR,eb,S,q'⟩
  refine ⟨_,(zao C_tree_finer_sorts hr (by omega) (by rfl) (pa_c (pv 1) (pa_c (pv 0) zaa))),?_⟩
  refine rd_se [some (.ref b),some (.ref a)] rfl ?_
  simp only [tNil,tCons,tCall,zdi,zfn,y0s]
  exact ⟨a,b,m,ns,rfl,RepT.ts hR (SameN.tups hcl.n),ok,hcl.n _ _ eb (fun _ _ z=>nomatch z),S.len,fun D5 fs H5 hD5 g5 eD5 N5 hnone=>q' D5 fs (mixL clo H' H5) (zff hD5 eD5 hnone) (zdo g5) (zkj hnone _ _ eD5) N5⟩
 refine ⟨c1,fl,fdl,m.ends,(fun H=>RepT H a m),TSorts m,TNx m,(fun ns=>m.n * m.n - ns.sum),rfl,gq _ _ ec,by show m.n ≤ 100;omega,ad.up _ _ efl,cl,rm.same gq,(fun H1 H2 g z=>z.same g),(fun ns N=>zhe N),(fun ns S=>by rw [S.len];omega),(fun ns fs S N=>?_),fun D5 ns H5' g5' eD5' S N5=>?_⟩
 ·obtain ⟨S',ref,_⟩:=zek ok S N
  refine ⟨S',fun hn=>?_⟩
  obtain ⟨m1,m2⟩:=ziq S S' ref hn
  show m.n * m.n - fs.sum < m.n * m.n - ns.sum
  omega
 have g5:=M.old.trans (ad.same g5')
 have eD5:=ad.keep g5' eD5' (fun _ _ z=>nomatch z)
 dsimp only
 generalize dropX _ H5'=H5 at g5 eD5 ⊢
 have hnl:ns.length=m.n:=S.len
 have hn0:0 < m.n:=ok.pos
 refine ⟨_,rfl,ns.map fun (n:Nat)=>(n:Int),.of (by rw [← zkk];exact eD5),by rw [y00,hnl];exact hn0,fun M' mM hM=>?_⟩
 obtain ⟨Mn,mMn,rfl⟩:=y09.mp mM
 have hMl:∀ x ∈ ns,x ≤ Mn:=fun x mx=>by have:=hM _ (y09.mpr ⟨x,mx,rfl⟩);omega
 have St:=tst_of ok S N5 mMn hMl
 have hMb:Mn < m.n:=by
  obtain ⟨i,hi,ei⟩:=zth mMn
  have:=S.srt.le i hi
  omega
 have mem:∀ s,s ≤ Mn→s ∈ ns:=(zh7 S.srt mMn hMl).2
 refine ⟨by omega,by omega,?_⟩
 rw [show ((Mn:Int) + 1).toNat=Mn + 1 by omega]
 refine zo0 (fun σ=>∃ v,σ=[v,some (.ref D5)]) (fun i=>nV (ns.idxOf i)) (by omega) ⟨_,rfl⟩ ?_ ?_
 ·rintro D6 i σ H6 hi gg hD6 hD6' ⟨v,rfl⟩
  trivial
  refine ⟨.inl ⟨_,.of (gg _ _ eD5)⟩,ns.map fun (n:Nat)=>(n:Int),.of (by rw [← zkk];exact gg _ _ eD5),y09.mpr ⟨i,mem i (by omega),by omega⟩,by rw [y00];omega,?_⟩
  refine zjj (by omega) hi hD6 hD6' gg ⟨_,rfl⟩ ?_
  rw [show (0:Int) + (i:Int)=((i:Nat):Int) by omega,zku]
 intro D6 H6 hD6 g6 eD6
 have eD6':H6 D6=some (.lst (((List.range (Mn + 1)).map fun s=>ns.idxOf s).map nV)):=by rw [eD6,y0v];rfl
 refine ⟨by decide,fun pc H7 n7=>?_⟩
 have g07:Same H H7:=g5.trans (g6.trans n7.g)
 have hpc:H pc=none:=(g5.trans g6).free n7.nil
 have nD5:D5 ≠ pc:=zaf (g6 _ _ eD5) n7.nil
 have nD6:D6 ≠ pc:=zaf eD6' n7.nil
 refine ⟨_,.of (g07 _ _ ea),_,zai (j:=1) rfl,b1,rfl,⟨_,.of (g07 _ _ eb1)⟩,?_⟩
 have Flt:∀ s,s < Mn + 1→ns.idxOf s < m.n:=fun s hs=>(St.first s hs).1
 have hfl:((List.range (Mn + 1)).map fun s=>ns.idxOf s).length=Mn + 1:=by rw [y00,y0t]
 have hfm:∀ r ∈ ((List.range (Mn + 1)).map fun s=>ns.idxOf s),r < m.n:=fun r hr=>by
  obtain ⟨s',hs,rfl⟩:=y09.mp hr
  exact Flt s' (y0k.mp hs)
 refine zdq (K:=K) (a:=b1) (xs:=ts) (fun j σ H'=>Same H H'∧TupS H7 H'∧(∃ v4,σ=[some (.ref a),some (.ref D5),some (.ref D6),some (.ref pc),v4])∧H' D5=some (.lst (ns.map nV))∧H' D6=some (.lst (((List.range (Mn + 1)).map fun s=>ns.idxOf s).map nV)) ∧
  ∃ rc,H' pc=some (.lst rc)∧Paired (Tab H') rc ((List.range j).map fun l=>(List.range (Mn + 1)).map fun a'=>(List.range (Mn + 1)).map fun b'=>ix ns (m.go l (ns.idxOf a') (ns.idxOf b'))))
  ⟨g07,TupS.refl _,⟨_,rfl⟩,(g6.trans n7.g) _ _ eD5,n7.g _ _ eD6',[],n7.at',.nil⟩ (fun j σ H' _ z=>.of (z.1 _ _ eb1)) ?_ ?_
 ·rintro j y σ H' hy ⟨g,tsP,⟨v4,rfl⟩,e5,e6,rc,ep,prc⟩
  have hj:j < m.ways.length:=by rw [← SS.Paired.len pr];exact (y04.mp hy).1
  have hj2:j < 2 ^ m.w:=by rw [← ok.len];exact hj
  have ew:=y01 hj
  obtain ⟨v,ev,u,rs,rfl,eu,pu⟩:=Paired.at2 pr ew
  rw [ev] at hy
  cases hy
  have hwm:=y0q hj
  generalize m.ways[j]=tb at ew pu hwm
  have htl:tb.length=m.n:=ok.tab tb hwm
  have hrcl:=SS.Paired.len prc
  rw [y00,y0t] at hrcl
  trivial
  refine ⟨.inl ⟨_,.of ep⟩,⟨_,.of e6⟩,zdd (n:=Mn + 1) (fun σ=>∃ v,σ=[v,some (.ref D5),some (.ref D6),some (.ref u)]) (fun a' y H=>Line H y ((List.range (Mn + 1)).map fun b'=>ix ns (m.go j (ns.idxOf a') (ns.idxOf b')))) (by omega) ⟨_,rfl⟩ (fun k H2 hk gg=>⟨_,nV (ns.idxOf k),.of (gg _ _ e6),by rw [y02,y02,y0j hk];rfl⟩) (fun H2 gg=>⟨_,.of (gg _ _ e6),by rw [y00,hfl];exact y05 _⟩) ?_ ?_⟩
  ·rintro D k ys σ H2 x H2' hk gg hD hD' hl hy ⟨v,rfl⟩ ⟨rfl,yx⟩
   have ex:=yx _ (.of (gg _ _ e6))
   rw [y02,y02,y0j hk] at ex
   cases ex
   have hFk:=Flt k hk
   have hkt:ns.idxOf k < tb.length:=by omega
   have er:=y01 hkt
   obtain ⟨v,evr,u2,rfl,eu2⟩:=Paired.at2 pu er
   have hrwl:tb[ns.idxOf k].length=m.n:=ok.line tb hwm _ (y0q hkt)
   have hrr:∀ r ∈ tb[ns.idxOf k],r < m.n:=ok.room tb hwm _ (y0q hkt)
   have goe:∀ x,x < m.n→(tb[ns.idxOf k]).getD x 0=m.go j (ns.idxOf k) x:=fun x hx=>by
    have z:=(zem ok ew hj2 hFk hx).1
    rw [y03,er] at z
    rw [y03]
    rw [show tb[ns.idxOf k][x]?=some (m.go j (ns.idxOf k) x) from z];rfl
   have gA:=g.trans gg
   trivial
   refine ⟨_,.of (gA _ _ eu),_,zai evr,.inr (.inl ⟨D6,u2,_,tb[ns.idxOf k].map nV,(fun r=>nV ((tb[ns.idxOf k]).getD r 0)),rfl,gg _ _ e6,by rw [hfl];omega,gA _ _ eu2,(fun r hr=>?_),fun p1 H3 g3 e3=>.inl ⟨p1,D5,((List.range (Mn + 1)).map fun s=>ns.idxOf s).map (fun r=>(tb[ns.idxOf k]).getD r 0),ns.map nV,(fun r=>nV (ix ns r)),rfl,?_,by rw [y00,hfl];omega,(gg.trans g3) _ _ e5,(fun r hr=>?_),fun p2 H4 g4 e4=>zbi (fun j y H H' ts z=>z.ts ts) (by omega) hk hD ((g3.trans g4) _ _ hD') hl hy (g3.trans g4).tups (gg.trans (g3.trans g4)) ⟨_,rfl⟩ ⟨p2,rfl,?_⟩⟩⟩)⟩
   ·have:=hfm r hr
    show (tb[ns.idxOf k].map nV)[r]?=some (nV ((tb[ns.idxOf k]).getD r 0))
    rw [y02,y03,y01 (show r < tb[ns.idxOf k].length by omega)];rfl
   ·rw [e3];simp only [y0v];rfl
   ·obtain ⟨x,hx,rfl⟩:=y09.mp hr
    have hxn:=hfm x hx
    have:(tb[ns.idxOf k]).getD x 0 < m.n:=by rw [goe x hxn];exact ok.go_lt hj2 hFk hxn
    rw [y02,zd9 (by omega)];rfl
   ·rw [e4,y0v,y0v,y0v]
    congr 2
    refine y1d fun b' hb'=>?_
    show nV (ix ns ((tb[ns.idxOf k]).getD (ns.idxOf b') 0))=nV (ix ns (m.go j (ns.idxOf k) (ns.idxOf b')))
    rw [goe _ (Flt b' (y0k.mp hb'))]
  intro D ys H2 hD g2 eD hl hy
  refine ⟨D,rfl,_,.inl ⟨.of eD,fun t2 H3 n3=>⟨_,(g2.trans n3.g) _ _ ep,small1000 (by have:=ok.len;omega),?_⟩⟩⟩
  have g23:=g2.trans n3.g
  have tsA:TupS H' (upd H3 pc (.lst (rc ++ [.ref t2]))):=g23.tups.trans (TupS.wr (g23 _ _ ep) _)
  have tsB:TupS H2 (upd H3 pc (.lst (rc ++ [.ref t2]))):=n3.g.tups.trans (TupS.wr (g23 _ _ ep) _)
  refine ⟨(g.trans g23).wr hpc _,tsP.trans tsA,by rw [zal nD5];exact g23 _ _ e5,by rw [zal nD6];exact g23 _ _ e6,rc ++ [.ref t2],zam,?_⟩
  rw [show List.range (j + 1)=List.range j ++ [j] from y2s,y15,y0u,y2o]
  refine SM.Paired.snoc (L2.Paired.mapP prc fun _ _ z=>z.ts tsA) ⟨t2,ys,rfl,TupS.wr (g23 _ _ ep) _ _ _ n3.at',?_⟩
  refine zbn (by rw [hl,y00,y0t]) fun k x y e1 e2=>?_
  have hk:k < Mn + 1:=by rw [← hl];exact (y04.mp e1).1
  rw [y02,y0j hk] at e2
  cases e2
  exact (hy k x e1).ts tsB
 ·rintro σ H' ⟨g,tsP,⟨v4,rfl⟩,e5,e6,rc,ep,prc⟩
  rw [SS.Paired.len pr,ok.len] at prc
  trivial
  refine ⟨_,.of (g _ _ ea),_,zd2,_,.inl ⟨.of ep,fun t1 H8 n8=>⟨_,.of ((g.trans n8.g) _ _ ea),_,zai (j:=2) rfl,.inr (.inl ⟨D6,c1,_,m.ends.map V.bl,(fun r=>.bl (m.fin r)),rfl,n8.g _ _ e6,by rw [hfl];omega,(g.trans n8.g) _ _ ec,(fun r hr=>by rw [y02,Tm.fin_at (hfm r hr)];rfl),fun p9 H9 g9 e9=>⟨zab (by simp),fun pt H10 n10=>?_⟩⟩)⟩⟩⟩
  have gB:=n8.g.trans (g9.trans n10.g)
  refine q pt ns (Mn + 1) H10 (g.trans gB) ⟨t1,p9,rc,n10.at',(g9.trans n10.g) _ _ n8.at',?_,?_⟩ St (by omega) (by omega)
  ·exact L2.Paired.mapP prc fun _ _ z=>z.ts gB.tups
  ·rw [n10.g _ _ e9]
   simp only [quo,mkT,y0v]
   rfl
end
end K48
namespace L2
def FnNd (N:List Str):Prop:=N.Nodup
instance (N:List Str):Decidable (FnNd N):=inferInstanceAs (Decidable N.Nodup)
end L2
namespace K48
open PySem PySem.Spec PyProof.Rows L2 SS SM
local macro_rules | `(tactic| trivial)=>`(tactic| simp only [cxK,tRet,tNil,tCons,tCB,iTup,zdi,zgj,V.ref.injEq,List.cons.injEq,and_true,exists_eq_left',exists_and_left,tOp,gName,rIxT,tYes,zfn,y1v,V.int.injEq,if_true,tLstN,cxP,cxW,tSeq,tAsg,zrm,List.set_cons_succ,rExtendT,tC,tDrop,tCall,tBM,tyV,y0s,true_and,and_assoc,rSortF,iRng1,exists_eq',rAppend,tDGet,tTupN,tDNewTN,tDisp,tPairs,rLen,tTest,rI,rI0,iList,V.bl.injEq,tCallV,rIxL,rInDc,sDPut,tIfS,tNext,ipI,tAug,Option.some.injEq,tDisp1T,tLam,tCallA,tDef,tAndV,tNotV,V.ty.injEq,tChain,tCallAE,tB,tNot,rAnyT,tTry,rIsX,rIsXT,rCatN,tDisp1N,gNil,gCons,gTup,rNotInN,sDPutN,rEq,rd_ii,tOr,rNe,rAll,rNeM,rRepN,rSetN,rEqD,rAny,rCatTE,rSlTN,tNoPart,tPart,tSl,rSum,rSlLN,tUn,rU,tDNewI,sDPutI,rSortD])
seal PE PT PW PA PS PSs
section
variable {P:Program} {w:World} {K:Frag} {mg:Z1} {base:Heap} {cTooGreat cSayError:Addr} {cs:List Addr}
theorem zqm (T:Txt K mg cTooGreat cSayError cs) (d:Dfn K mg "renamed" s_renamed ["rooms","numbers"]):Cal P w K mg base 1 "renamed" ["rooms","numbers"] zgd:=by
 refine d.cal zdw (fun vs H Q E h=>?_) (fun f cdv A outer s H vs Q E hr h=>?_)
 ·obtain ⟨a,b,l,ns,g,rfl,_⟩:=h
  rfl
 obtain ⟨a,b,l,ns,g,rfl,ea,h100,eb,hv,q⟩:=h
 refine ⟨_,(zae (zar (za6 zag (by rfl) T.b_tuple boot_tuple (pa_c (zas ["room"] [(1,"numbers")] (CompOk.of rfl (by rfl) (by rfl)) (by rfl) (za8 K (pv 0)) (fun _ _ _ _ _=>(zah (i:=0) (show List.Nodup (["room","numbers"]:List Str) by decide +kernel) (by rfl) (Or.inl (by rfl)))) (fun _ _ _ _ _=>za4) (fun _ _ _ _ _=>(zaq (zaj K) (pv 1) (pv 0) (fun _ _=>rfl)))) zaa)))),?_⟩
 refine zba [some (.ref a),some (.ref b)] rfl ?_
 trivial
 refine ⟨⟨_,.of ea⟩,zf7 (K:=K) (a:=a) (xs:=l.map nV) (fun σ=>∃ v,σ=[v,some (.ref b)]) (fun y=>match y with | .int z=>g z.toNat | v=>v) (by rw [y00];omega) (.of ea) ⟨_,rfl⟩ ?_ ?_⟩
 ·rintro D i σ H' x hi hm hx gg hD hD' ⟨v,rfl⟩
  obtain ⟨r,mr,rfl⟩:=y09.mp hm
  trivial
  exact ⟨_,.of (gg _ _ eb),_,zai (hv r mr),zcr (by rw [y00];omega) hx hD hD' gg ⟨_,rfl⟩ rfl⟩
 intro D H1 hD g1 eD
 have eD':H1 D=some (.lst (l.map g)):=by rw [eD,y0v];rfl
 exact ⟨_,rfl,_,.inl ⟨.of eD',fun t H2 n2=>q t H2 (g1.trans n2.g) n2.at'⟩⟩
abbrev s_rooms_above:Stmt:=top 29
theorem sc_rooms_above:FnScope ["machine","letters","lefts","rights","found","letter","left"] ["machine","letters","lefts","rights"] (defScope s_rooms_above):=⟨rfl,rfl,rfl,by decide +kernel,rfl,by decide +kernel,by decide +kernel⟩
theorem zqo (T:Txt K mg cTooGreat cSayError cs) (d:Dfn K mg "rooms_above" s_rooms_above ["machine","letters","lefts","rights"]) (C_renamed:Cal P w K mg base 1 "renamed" ["rooms","numbers"] zgd):Cal P w K mg base 2 "rooms_above" ["machine","letters","lefts","rights"] zj5:=by
 refine d.cal sc_rooms_above (fun vs H Q E h=>?_) (fun f cdv A outer s H vs Q E hr h=>?_)
 ·obtain ⟨a,b,c,d,m,ls,s,t,rfl,_⟩:=h
  rfl
 obtain ⟨a,b,c,d',m,ls,s,t,rfl,⟨b1,c1,ts1,ea,eb1,pr1,ec1⟩,ok,hn6,eb,ec,ed,hls,hl2,gs,gt,q⟩:=h
 have lens:=gs.len
 have lent:=gt.len
 refine ⟨_,(zac (zan (i:=4) sc_rooms_above.nd rfl (Or.inl rfl) (zat zaa)) (zac (za5 PassesOwn.never rfl (za8 K (pv 1)) (zah (i:=5) sc_rooms_above.nd (by rfl) (Or.inl (by rfl))) (zae (za5 PassesOwn.never rfl (za8 K (pv 2)) (zah (i:=6) sc_rooms_above.nd (by rfl) (Or.inl (by rfl))) (zae (zbz (zck K PySem.F.plainAttrs_list PySem.F.slot_list_extend PySem.F.type_list_extend (zi7 K) (pv 4) (pa_c (zao C_renamed hr (by omega) (by rfl) (pa_c (pv 3) (pa_c (zaq (zaj K) (zaq (zaj K) (zaq (zaj K) (pv 0) zad (fun _ _=>rfl)) (pv 5) (fun _ _=>rfl)) (pv 6) (fun _ _=>rfl)) zaa))) zaa))))))) (zae (zar (za6 zag (by rfl) T.b_tuple boot_tuple (pa_c (zau (zeb rfl) (by rfl) T.b_sorted (by rfl) (pa_c (za6 (zih rfl) (by rfl) T.b_set (by rfl) (pa_c (pv 4) zaa)) zaa)) zaa)))))),?_⟩
 refine zba [some (.ref a),some (.ref b),some (.ref c),some (.ref d'),none,none,none] rfl ?_
 trivial
 refine ⟨zab (by simp),fun p0 H0 n0=>⟨⟨_,.of (n0.g _ _ eb)⟩,?_⟩⟩
 have hps:∀ l ∈ ls,∀ x ∈ s,∃ (p q:Addr) (rs:List V) (ln:List Nat),ts1[l]?=some (.ref p)∧H p=some (.tup rs)∧rs[x]?=some (.ref q)∧H q=some (.tup (ln.map nV))∧∀ y ∈ t,(ln.map nV)[y]?=some (nV (m.go l x y)):=fun l hl x hx=>by
  obtain ⟨tb,r,e1,e2,e3,_⟩:=ok.at (hls l hl) (gs.2 x hx) ok.pos
  obtain ⟨v,ev,p,rs,rfl,ep,pp⟩:=Paired.at2 pr1 e1
  obtain ⟨v,ev2,q,rfl,eq⟩:=Paired.at2 pp e2
  refine ⟨p,q,rs,r,ev,ep,ev2,eq,fun y hy=>?_⟩
  obtain ⟨tb',r',f1,f2,f3,_⟩:=ok.at (hls l hl) (gs.2 x hx) (gt.2 y hy)
  rw [e1] at f1
  cases f1
  rw [e2] at f2
  cases f2
  rw [y02,f3]
  rfl
 have flat1:∀ l':List Nat,∀ l,(l'.flatMap fun x=>t.map fun y=>m.go l x y).length ≤ l'.length * 6:=fun l' l=>zgt l' fun x _=>by rw [y00];omega
 have flat2:∀ l':List Nat,(l'.flatMap fun l=>s.flatMap fun x=>t.map fun y=>m.go l x y).length ≤ l'.length * 36:=fun l'=>zgt l' fun l _=>by have:=flat1 s l;omega
 refine zdq (K:=K) (a:=b) (xs:=ls.map nV) (fun i σ H'=>Same H H'∧∃ v5 v6:Option V,σ=[some (.ref a),some (.ref b),some (.ref c),some (.ref d'),some (.ref p0),v5,v6]∧H' p0=some (.lst (((ls.take i).flatMap fun l=>s.flatMap fun x=>t.map fun y=>m.go l x y).map nV))) ⟨n0.g,none,none,rfl,n0.at'⟩ (fun i σ H' _ z=>.of (z.1 _ _ eb)) ?_ ?_
 ·rintro i y σ H' hy ⟨g,v5,v6,rfl,e0⟩
  rw [y02] at hy
  obtain ⟨l,el,rfl⟩:=y0z.mp hy
  have ml:=y0a el
  have hi:i < ls.length:=(y04.mp el).1
  trivial
  have f2:=flat2 (ls.take i)
  rw [y0y] at f2
  refine ⟨⟨_,.of (g _ _ ec)⟩,?_⟩
  refine zdq (K:=K) (a:=c) (xs:=s.map nV) (fun j σ H'=>Same H H'∧∃ v6:Option V,σ=[some (.ref a),some (.ref b),some (.ref c),some (.ref d'),some (.ref p0),some (nV l),v6]∧H' p0=some (.lst ((((ls.take i).flatMap fun l=>s.flatMap fun x=>t.map fun y=>m.go l x y) ++ (s.take j).flatMap fun x=>t.map fun y=>m.go l x y).map nV))) ⟨g,v6,rfl,by rw [e0];simp⟩ (fun i σ H' _ z=>.of (z.1 _ _ ec)) ?_ ?_
  ·rintro j y σ H2 hy ⟨g2,v6,rfl,e2⟩
   rw [y02] at hy
   obtain ⟨x,ex,rfl⟩:=y0z.mp hy
   have mx:=y0a ex
   have hj:j < s.length:=(y04.mp ex).1
   obtain ⟨p1,q1,rs,ln,k1,k2,k3,k4,k5⟩:=hps l ml x mx
   trivial
   refine ⟨.inl ⟨_,.of e2⟩,_,.of (g2 _ _ ea),_,zai (j:=1) rfl,b1,rfl,_,.of (g2 _ _ eb1),_,zai k1,p1,rfl,_,.of (g2 _ _ k2),_,zai k3,d',q1,t,_,fun y=>nV (m.go l x y),rfl,g2 _ _ ed,by omega,g2 _ _ k4,k5,fun pp H3 g3 e3=>⟨pp,rfl,_,g3 _ _ e2,_,.of e3,zab ?_,(g2.trans g3).wr n0.nil _,?_⟩⟩
   ·have f1:=flat1 (s.take j) l
    rw [y0y] at f1
    rw [y00,y0c,y00]
    omega
   ·rw [zam,y1e,ex,y1f,y1r,← y12,y15 (l₂:=List.flatMap _ [x])]
    simp only [y1o,y2y,y0s,y0v]
    rfl
  ·rintro σ H2 ⟨g2,v6,rfl,e2⟩
   trivial
   refine ⟨g2,?_⟩
   rw [y00,y0r (y05 _)] at e2
   rw [e2,y1e,el,y1f,y1r]
   simp only [y1o,y2y,y0s]
 ·rintro σ H' ⟨g,v5,v6,rfl,e0⟩
  trivial
  rw [y00,y0r (y05 _)] at e0
  have fl:=flat2 ls
  generalize hF:(ls.flatMap fun l=>s.flatMap fun x=>t.map fun y=>m.go l x y)=F at e0 fl
  have memF:∀ k,k ∈ F ↔ ∃ l ∈ ls,∃ x ∈ s,∃ y ∈ t,m.go l x y=k:=fun k=>by
   rw [← hF]
   simp only [y1m,y09]
  have ltF:∀ k ∈ F,k < m.n:=fun k hk=>by
   obtain ⟨l,hl,x,hx,y,hy,rfl⟩:=(memF k).mp hk
   exact ok.go_lt (hls l hl) (gs.2 x hx) (gt.2 y hy)
  refine ⟨F.map fun k:Nat=>(k:Int),.of (by rw [e0,y0v];rfl),by rw [y00];omega,fun S hS=>⟨_,zam,(List.range m.n).map fun k:Nat=>(k:Int),by rw [y00,y0t];omega,(fun k hk=>?_),fun ms h1 h2 L H3 n3=>⟨_,.inl ⟨.of n3.at',fun p H4 n4=>?_⟩⟩⟩⟩
  ·obtain ⟨k',hk',rfl⟩:=y09.mp hk
   exact y09.mpr ⟨k',y0k.mpr (ltF k' hk'),rfl⟩
  have e4:(ms.map V.int)=((ms.map Int.toNat).map nV):=by
   rw [y0v]
   refine y1d fun k hk=>?_
   obtain ⟨k',_,rfl⟩:=y09.mp ((h2 k).mp hk)
   rfl
  have e5:ms.map Int.toNat=upT m ls s t:=by
   refine zmd ok hls gs gt ?_ fun k=>?_
   ·show List.Pairwise (· < ·) (ms.map Int.toNat)
    rw [y20]
    refine List.Pairwise.imp_of_mem (fun {x y} hx hy hxy=>?_) h1
    obtain ⟨x',_,rfl⟩:=y09.mp ((h2 x).mp hx)
    obtain ⟨y',_,rfl⟩:=y09.mp ((h2 y).mp hy)
    omega
   ·rw [y09,← memF k]
    constructor
    ·rintro ⟨z,hz,rfl⟩
     obtain ⟨k',hk',rfl⟩:=y09.mp ((h2 z).mp hz)
     exact hk'
    ·intro hk
     exact ⟨(k:Int),(h2 _).mpr (y09.mpr ⟨k,hk,rfl⟩),rfl⟩
  refine q p H4 (g.trans ((zbh hS _).trans (n3.g.trans n4.g))) ?_
  rw [← e5,← e4]
  exact n4.at'
abbrev s_ways_of:Stmt:=top 23
theorem sc_ways_of:FnScope ["comings","count","letter","ways","left"] ["comings","count","letter"] (defScope s_ways_of):=⟨rfl,rfl,rfl,by decide +kernel,rfl,by decide +kernel,by decide +kernel⟩
theorem znn (T:Txt K mg cTooGreat cSayError cs) (d:Dfn K mg "ways_of" s_ways_of ["comings","count","letter"]):Cal P w K mg base 1 "ways_of" ["comings","count","letter"] zen:=by
 refine d.cal sc_ways_of (fun vs H Q E h=>?_) (fun f cdv A outer s H vs Q E hr h=>?_)
 ·obtain ⟨a,kvs,n,l,L,rw',rfl,_⟩:=h
  rfl
 obtain ⟨a,kvs,n,l,L,rw',rfl,ea,h30,hl,hv,q⟩:=h
 have hu:=zfq hr 8 (by decide)
 refine ⟨_,(zac (zan (i:=3) sc_ways_of.nd rfl (Or.inl rfl) (zat zaa)) (zac (za5 PassesOwn.never rfl (zaw (by rfl) T.b_range (pa_c (pv 1) zaa)) (zah (i:=4) sc_ways_of.nd (by rfl) (Or.inr (by rfl))) (zae (zbz (zck K PySem.F.plainAttrs_list PySem.F.slot_list_append PySem.F.type_list_append za9 (pv 3) (pa_c (za6 zag (by rfl) T.b_tuple boot_tuple (pa_c (zas ["right"] [(2,"letter"),(0,"comings"),(4,"left")] (CompOk.of rfl (by rfl) (by rfl)) (by rfl) (zaw (by rfl) T.b_range (pa_c (pv 1) zaa)) (fun _ _ _ _ _=>(zah (i:=0) (show List.Nodup (["right","letter","comings","left"]:List Str) by decide +kernel) (by rfl) (Or.inl (by rfl)))) (fun _ _ _ _ _=>za4) (fun _ _ _ _ _=>(zaq (zaj K) (zdl hu (pv 2) (zay (pa_c (pv 3) (pa_c (pv 0) zaa))) (fun _ _=>rfl)) (pv 1) (fun _ _=>rfl)))) zaa)) zaa))))) (zae (zar (za6 zag (by rfl) T.b_tuple boot_tuple (pa_c (pv 3) zaa)))))),?_⟩
 refine zba [some (.ref a),some (nV n),some (nV l),none,none] rfl ?_
 trivial
 refine ⟨by decide,fun pw H1 n1=>⟨by omega,by omega,?_⟩⟩
 rw [show ((n:Nat):Int).toNat=n from rfl]
 have npa:a ≠ pw:=zaf ea n1.nil
 refine zb6 (fun i σ H'=>Same H H'∧(∃ v4,σ=[some (.ref a),some (nV n),some (nV l),some (.ref pw),v4])∧∃ rs,H' pw=some (.lst rs)∧Paired (Line H') rs ((List.range i).map fun i=>(List.range n).map fun j=>(rw' i j).getD l 0))
  ⟨n1.g,⟨_,rfl⟩,[],n1.at',.nil⟩ ?_ ?_
 ·rintro i σ H' hi ⟨g,⟨v4,rfl⟩,rs,ep,pr⟩
  have hrl:=SS.Paired.len pr
  rw [y00,y0t] at hrl
  trivial
  refine ⟨.inl ⟨_,.of ep⟩,by omega,by omega,?_⟩
  rw [show ((n:Nat):Int).toNat=n from rfl]
  refine zo0 (fun σ=>∃ v,σ=[v,some (nV l),some (.ref a),some (.int (0 + (i:Int)))]) (fun j=>nV ((rw' i j).getD l 0)) (by omega) ⟨_,rfl⟩ ?_ ?_
  ·rintro D j σ H2 hj gg hD hD' ⟨v,rfl⟩
   obtain ⟨v',hv1,⟨qa,rfl,eqa⟩,hv3⟩:=hv i j hi hj
   have at1:((rw' i j).map nV)[l]?=some (nV ((rw' i j).getD l 0)):=by rw [y02,y03,y01 (show l < (rw' i j).length by omega)];rfl
   trivial
   refine ⟨zab (by simp),fun tk H3 n3=>?_⟩
   have g3:=g.trans (gg.trans n3.g)
   have et2:H3 tk=some (.tup ((keyL [i,j]).map kV)):=by rw [n3.at',y2p,y2p];rfl
   have z:=DGet.t (g3 _ _ ea) et2
   rw [hv1] at z
   exact ⟨_,z,qa,rfl,_,.of (g3 _ _ eqa),_,zai at1,zjj (by omega) hj hD (n3.g _ _ hD') (gg.trans n3.g) ⟨_,rfl⟩ rfl⟩
  intro D H2 hD g2 eD
  have eD':H2 D=some (.lst (((List.range n).map fun j=>(rw' i j).getD l 0).map nV)):=by rw [eD,y0v];rfl
  refine ⟨D,rfl,_,.inl ⟨.of eD',fun t2 H3 n3=>⟨_,(g2.trans n3.g) _ _ ep,small1000 (by omega),?_⟩⟩⟩
  have g23:=g2.trans n3.g
  have tsA:TupS H' (upd H3 pw (.lst (rs ++ [.ref t2]))):=g23.tups.trans (TupS.wr (g23 _ _ ep) _)
  refine ⟨(g.trans g23).wr n1.nil _,rs ++ [.ref t2],zam,?_⟩
  rw [show List.range (i + 1)=List.range i ++ [i] from y2s,y15,y0u,y2o]
  exact SM.Paired.snoc (L2.Paired.mapP pr fun _ _ z=>z.ts tsA) ⟨t2,rfl,TupS.wr (g23 _ _ ep) _ _ _ n3.at'⟩
 ·rintro σ H' ⟨g,⟨v4,rfl⟩,rs,ep,pr⟩
  trivial
  exact ⟨_,.inl ⟨.of ep,fun t H2 n2=>q t H2 (g.trans n2.g) ⟨t,rs,rfl,n2.at',L2.Paired.mapP pr fun _ _ z=>z.ts n2.g.tups⟩⟩⟩
abbrev s_tree_explored:Stmt:=top 24
theorem sc_tree_explored:FnScope ["tracks","comings","first","is_end","most","numbers","found","known","at","pair","coming_here","thing","ways"] ["tracks","comings","first","is_end","most"] (defScope s_tree_explored):=⟨rfl,rfl,rfl,by decide +kernel,rfl,by decide +kernel,by decide +kernel⟩
theorem zqk (T:Txt K mg cTooGreat cSayError cs) (d:Dfn K mg "tree_explored" s_tree_explored ["tracks","comings","first","is_end","most"]) (C_pairs_up_to:Cal P w K mg base 1 "pairs_up_to" ["most"] zdv) (C_renamed:Cal P w K mg base 1 "renamed" ["rooms","numbers"] zdg) (C_ways_of:Cal P w K mg base 1 "ways_of" ["comings","count","letter"] zen) :
  Cal P w K mg base 5 "tree_explored" ["tracks","comings","first","is_end","most"] (zj2 P w K mg base):=by
 refine d.cal sc_tree_explored (fun vs H Q E h=>?_) (fun f cdv A outer s H vs Q E hr h=>?_)
 ·obtain ⟨fc,fe,fd,fd',R,x,mo,rfl,_⟩:=h
  rfl
 obtain ⟨fc,fe,fdc,fde,R,x,mo,rfl,ok,hmo,efc,efe,clc,cle,hR,hRs,q⟩:=h
 have hu:=zfq hr 8 (by decide)
 have h30:x.n ≤ 30:=ok.few
 have hps:1 ≤ 2 ^ x.w∧2 ^ x.w ≤ 16:=zbu (by have:=ok.wid;omega)
 refine ⟨_,(zac (zan (i:=5) sc_tree_explored.nd rfl (Or.inl rfl) (zs0 (zp5 (pv 2) zad zsx) rfl rfl (by simp) (by decide))) (zac (zan (i:=6) sc_tree_explored.nd rfl (Or.inr rfl) (zat (pa_c (pv 2) zaa))) (zac (zan (i:=7) sc_tree_explored.nd rfl (Or.inr rfl) ze0) (zac (zan (i:=8) sc_tree_explored.nd rfl (Or.inl rfl) zad) (zac (zef PassesOwn.never (zax zlk (pv 8) (zau (zak K) (by rfl) T.b_len boot_len (pa_c (pv 6) zaa)) (nomark _)) (zac (za5 PassesOwn.never rfl (zaz K (zao C_pairs_up_to hr (by omega) (by rfl) (pa_c (pv 8) zaa))) (zah (i:=9) sc_tree_explored.nd (by rfl) (Or.inl (by rfl))) (zac (zan (i:=10) sc_tree_explored.nd rfl (Or.inl rfl) (zb9 P w K mg base 1 4 2 (zit R x) hr (by omega) (pa_c (zaq (za3 K) (pv 6) (zaq (zaj K) (pv 9) zad (fun _ _=>rfl)) (fun _ _=>rfl)) (pa_c (zaq (za3 K) (pv 6) (zaq (zaj K) (pv 9) zad (fun _ _=>rfl)) (fun _ _=>rfl)) zaa)))) (zac (za5 PassesOwn.never rfl (zaz K (pv 10)) (zah (i:=11) sc_tree_explored.nd (by rfl) (Or.inl (by rfl))) (zae (zb1 (zax (zcx hu) (pv 11) (pv 5) (by with_unfolding_all rfl)) (zac (zcw hu (pv 5) (pv 11) (zau (zak K) (by rfl) T.b_len boot_len (pa_c (pv 6) zaa)) rfl) (zae (zbz (zck K PySem.F.plainAttrs_list PySem.F.slot_list_append PySem.F.type_list_append za9 (pv 6) (pa_c (pv 11) zaa))))) za2))) (zac (zb1 (zax zqf (zau (zak K) (by rfl) T.b_len boot_len (pa_c (pv 6) zaa)) (pv 4) (nomark _)) (zae zp2) za2) (zae (zcw hu (pv 7) (pv 9) (zao C_renamed hr (by omega) (by rfl) (pa_c (pv 10) (pa_c (pv 5) zaa))) rfl)))))) (zae (zm2 (i:=8) sc_tree_explored.nd rfl (Or.inl rfl) zad zr3)))) (zac (zm0 (i:=12) sc_tree_explored.nd rfl (Or.inl rfl) ["letter"] [(7,"known"),(6,"found")] (CompOk.of rfl (by rfl) (by rfl)) (by rfl) (zaw (by rfl) T.b_range (pa_c (zap zhw zad (pv 0)) zaa)) (fun _ _ _ _ _=>(zah (i:=0) (show List.Nodup (["letter","known","found"]:List Str) by decide +kernel) (by rfl) (Or.inl (by rfl)))) (fun _ _ _ _ _=>za4) (fun _ _ _ _ _=>(zao C_ways_of hr (by omega) (by rfl) (pa_c (pv 1) (pa_c (zau (zak K) (by rfl) T.b_len boot_len (pa_c (pv 2) zaa)) (pa_c (pv 0) zaa)))))) (zae (zar (zay (pa_c (pv 0) (pa_c (za6 zag (by rfl) T.b_tuple boot_tuple (pa_c (pv 12) zaa)) (pa_c (za6 zag (by rfl) T.b_tuple boot_tuple (pa_c (zas ["thing"] [(3,"is_end")] (CompOk.of rfl (by rfl) (by rfl)) (by rfl) (zaz K (pv 6)) (fun _ _ _ _ _=>(zah (i:=0) (show List.Nodup (["thing","is_end"]:List Str) by decide +kernel) (by rfl) (Or.inl (by rfl)))) (fun _ _ _ _ _=>za4) (fun _ _ _ _ _=>(zb9 P w K mg base 1 4 1 (zis R x) hr (by omega) (pa_c (pv 0) zaa)))) zaa)) zaa)))))))))))),?_⟩
 refine zba [some (nV x.w),some (.ref fc),some (nV 0),some (.ref fe),some (nV mo),none,none,none,none,none,none,none,none] rfl ?_
 trivial
 refine fun kd hkd=>⟨zam,[(keyI 0,V.int 0)],rfl,by decide,zab (by simp),fun pf H2 n2 pk H3 n3=>?_⟩
 generalize eH:upd (upd H kd (.dK [])) kd (.dK (mergeK [] [(keyI 0,V.int 0)]))=Hk2 at n2
 have gk:Same H Hk2:=by rw [← eH];exact ((Same.refl H).wr hkd _).wr hkd _
 have ek:Hk2 kd=some (.dK (tabF keyI 0 [0])):=by rw [← eH,zam];rfl
 have g3:Same H H3:=gk.trans (n2.g.trans n3.g)
 have nfk:kd ≠ pf:=zaf ek n2.nil
 have nkk:kd ≠ pk:=zaf (n2.g _ _ ek) n3.nil
 have nfp:pf ≠ pk:=zaf n2.at' n3.nil
 have hpf:H pf=none:=gk.free n2.nil
 have hpk:H pk=none:=(gk.trans n2.g).free n3.nil
 refine ⟨fun mm σ H'=>∃ (k:Nat) (fs:List Nat) (kvs:List (List Key × V)) (v9 v10 v11:Option V),mm=100 - k∧Same H H'∧σ=[some (nV x.w),some (.ref fc),some (nV 0),some (.ref fe),some (nV mo),some (.ref kd),some (.ref pf),some (.ref pk),some (nV k),v9,v10,v11,none]∧H' kd=some (.dK (tabF keyI 0 fs))∧H' pf=some (.lst (fs.map nV))∧H' pk=some (.dT kvs)∧KnT x fs H' (alls k) kvs∧TFnd x fs (alls k)∧k ≤ fs.length,
  ⟨100,0,[0],[],none,none,none,rfl,g3,rfl,(n2.g.trans n3.g) _ _ ek,n3.g _ _ n2.at',n3.at',⟨rfl,fun p hp=>(nomatch hp)⟩,TFnd.start ok.pos,by decide⟩,?_⟩
 rintro mm σ H' ⟨k,fs,kvs,v9,v10,v11,rfl,g,rfl,ek',ef',ep',kn,F,hk⟩
 have hfl:fs.length ≤ x.n:=zb4 F.nd F.rm
 trivial
 refine ⟨_,.inl (.of ef'),?_⟩
 rw [y00]
 by_cases hlt:k < fs.length
 ·rw [decide_eq_true (by omega)]
  refine iteT ⟨fun σ' H''=>∃ m',m' < 100 - k∧_,fun σ' H'' z=>z,?_⟩
  refine ⟨k,rfl,by omega,fun D rs H1 hD g1 eD pr1=>⟨D,rfl,⟨_,.of eD⟩,?_⟩⟩
  have hkk:k * k ≤ 900:=y13 (Nat.mul_le_mul (show k ≤ 30 by omega) (show k ≤ 30 by omega)) (by decide)
  have hal:=zg7 k
  have hul:=zio k
  have hrl:=SS.Paired.len pr1
  rw [y00] at hrl
  have nkD:kd ≠ D:=zaf ek' hD
  have nfD:pf ≠ D:=zaf ef' hD
  have npD:pk ≠ D:=zaf ep' hD
  refine zcp (K:=K) (a:=D) (xs:=rs) (fun j σ H''=>Same H H''∧TupS H1 H''∧(∃ v9 v10 v11,σ=[some (nV x.w),some (.ref fc),some (nV 0),some (.ref fe),some (nV mo),some (.ref kd),some (.ref pf),some (.ref pk),some (nV k),v9,v10,v11,none])∧H'' D=some (.lst rs)∧∃ (fs:List Nat) (kvs:List (List Key × V)),H'' kd=some (.dK (tabF keyI 0 fs))∧H'' pf=some (.lst (fs.map nV))∧H'' pk=some (.dT kvs)∧KnT x fs H'' (alls k ++ (ups k).take j) kvs∧TFnd x fs (alls k ++ (ups k).take j)∧k < fs.length)
   ⟨g.trans g1,TupS.refl _,⟨_,_,_,rfl⟩,eD,fs,kvs,g1 _ _ ek',g1 _ _ ef',g1 _ _ ep',by rw [y2v,y0s];exact kn.ts g1.tups,by rw [y2v,y0s];exact F,hlt⟩ (fun j σ H'' _ z=>.of z.2.2.2.1) ?_ ?_
  ·rintro j y σ H'' hy ⟨g2,ts,⟨w9,w10,w11,rfl⟩,eD2,fs2,kvs2,ek2,ef2,ep2,kn2,F2,hk2⟩
   obtain ⟨ll,el,tp,rfl,etp⟩:=SS.Paired.at pr1 hy
   rw [y02] at el
   obtain ⟨p,eup,rfl⟩:=y0z.mp el
   obtain ⟨i,i'⟩:=p
   have hjl:=(y04.mp eup).1
   have hmem:=ups_mem.mp (y0a eup)
   have etp2:=ts _ _ etp
   have hi:i < fs2.length:=by have:=hmem.1;show i < fs2.length;omega
   have hi':i' < fs2.length:=by have:=hmem.2.1;omega
   have hri:=F2.rm _ (zca hi)
   have hri':=F2.rm _ (zca hi')
   trivial
   refine ⟨fc,rfl,fdc,g2 _ _ efc,_,.of etp2,_,zd2,_,_,rfl,.of ef2,_,zai (by rw [y02,zd9 hi];rfl),?_⟩
   refine ⟨_,.of etp2,_,zai (j:=1) rfl,_,_,rfl,.of ef2,_,zai (by rw [y02,zd9 hi'];rfl),g2 _ _ efc,clc.mono g2.frz,rfl,ix fs2 i,ix fs2 i',rfl,hRs _ _ g2 hR,hri,hri',fun D2 H3' hD2 g3' eD2'=>⟨D2,rfl,⟨_,.of eD2'⟩,?_⟩⟩
   have F':=F2.step ok hi hi'
   have hfl':(news fs2 (x.com (ix fs2 i) (ix fs2 i'))).length ≤ x.n:=zb4 F'.nd F'.rm
   have hcl:(x.com (ix fs2 i) (ix fs2 i')).length=2 ^ x.w:=zjk
   have hfl2:fs2.length ≤ x.n:=zb4 F2.nd F2.rm
   obtain ⟨tl,etl⟩:=zbx (x.com (ix fs2 i) (ix fs2 i')) fs2
   have nkD2:kd ≠ D2:=zaf ek2 hD2
   have nfD2:pf ≠ D2:=zaf ef2 hD2
   have npD2:pk ≠ D2:=zaf ep2 hD2
   have nDD2:D ≠ D2:=zaf eD2 hD2
   refine zcp (K:=K) (a:=D2) (xs:=(x.com (ix fs2 i) (ix fs2 i')).map nV) (fun j2 σ Ha=>Same H Ha∧TupS H3' Ha∧(∃ v11,σ=[some (nV x.w),some (.ref fc),some (nV 0),some (.ref fe),some (nV mo),some (.ref kd),some (.ref pf),some (.ref pk),some (nV k),some (.ref tp),some (.ref D2),v11,none])∧Ha D=some (.lst rs)∧Ha D2=some (.lst ((x.com (ix fs2 i) (ix fs2 i')).map nV))∧Ha kd=some (.dK (tabF keyI 0 (news fs2 ((x.com (ix fs2 i) (ix fs2 i')).take j2))))∧Ha pf=some (.lst ((news fs2 ((x.com (ix fs2 i) (ix fs2 i')).take j2)).map nV))∧Ha pk=some (.dT kvs2))
    ⟨g2.trans g3',TupS.refl _,⟨_,rfl⟩,g3' _ _ eD2,eD2',g3' _ _ ek2,g3' _ _ ef2,g3' _ _ ep2⟩ (fun j2 σ Ha _ z=>.of z.2.2.2.2.1) ?_ ?_
   ·rintro j2 y σ Ha hy2 ⟨ga,tsa,⟨v11',rfl⟩,eDa,eD2a,eka,efa,epa⟩
    rw [y02] at hy2
    obtain ⟨u,eu,rfl⟩:=y0z.mp hy2
    have hnl:=zcz ((x.com (ix fs2 i) (ix fs2 i')).take j2) fs2
    rw [y0y] at hnl
    trivial
    refine ⟨_,DGet.n (n:=(u:Int)) eka,?_⟩
    by_cases hin:u ∈ news fs2 ((x.com (ix fs2 i) (ix fs2 i')).take j2)
    ·rw [show valV (tabF keyI 0 _) (.inl (u:Int))=_ from zcn zeg hin]
     refine iteF ?_
     rw [zcy eu,zkh hin]
     exact ⟨ga,tsa,eDa,eD2a,eka,efa,epa⟩
    ·rw [show valV (tabF keyI 0 _) (.inl (u:Int))=_ from zdf zeg hin]
     rw [zcy eu,zgm hin]
     generalize news fs2 ((x.com (ix fs2 i) (ix fs2 i')).take j2)=ds at hin eka efa hnl
     have ef3:∀ o,upd Ha kd o pf=some (.lst (ds.map nV)):=fun o=>by rw [zal (Ne.symm nfk)];exact efa
     refine iteT ⟨_,.inl (.of efa),_,DPut.n (n:=(u:Int)) eka (by rw [zb2];exact small1000 (by omega)),.inl ⟨_,.of (ef3 _)⟩,_,ef3 _,by rw [y00];exact small1000 (by omega),?_⟩
     have ep:putK (tabF keyI 0 ds) (.inl (u:Int)) (V.int ((ds.map nV).length:Int))=tabF keyI 0 (ds ++ [u]):=by
      rw [← zed zeg hin,zb2,y00];rfl
     have tsA:TupS Ha (upd (upd Ha kd (.dK (putK (tabF keyI 0 ds) (.inl (u:Int)) (V.int ((ds.map nV).length:Int))))) pf (.lst (ds.map nV ++ [nV u]))):=(TupS.wrK eka _).trans (TupS.wr (ef3 _) _)
     exact ⟨(ga.wr hkd _).wr hpf _,tsa.trans tsA,by rw [zal (Ne.symm nfD),zal (Ne.symm nkD)];exact eDa,by rw [zal (Ne.symm nfD2),zal (Ne.symm nkD2)];exact eD2a,by rw [zal nfk,zam,ep],by rw [zam,y15];rfl,by rw [zal (Ne.symm nfp),zal (Ne.symm nkk)];exact epa⟩
   ·rintro σ Ha ⟨ga,tsa,⟨v11',rfl⟩,eDa,eD2a,eka,efa,epa⟩
    rw [y00,y0r (y05 _)] at eka efa
    trivial
    refine ⟨_,.inl (.of efa),?_⟩
    rw [y00,decide_eq_false (by omega)]
    have etpA:Ha tp=some (.tup ((keyL (pL (i,i'))).map kV)):=by rw [zd7];exact tsa _ _ (g3'.tups _ _ etp2)
    refine iteF (.inr (.inr ⟨D2,kd,x.com (ix fs2 i) (ix fs2 i'),_,(fun r=>nV (nOf (news fs2 (x.com (ix fs2 i) (ix fs2 i'))) r)),rfl,eD2a,by omega,eka,(fun r hr=>zcn zeg ((za0 _ _ _).mpr (.inr hr))),fun p Hb gb eb=>?_⟩))
    have hkl:=kn2.len
    rw [y0c,y0y] at hkl
    refine ⟨_,DPut.t (gb _ _ epa) (gb _ _ etpA) (by rw [hkl];exact small1000 (by omega)),?_⟩
    have tsC:TupS Hb (upd Hb pk (.dT (putK kvs2 (keyL (pL (i,i'))) (.ref p)))):=TupS.wrT (gb _ _ epa) _
    have tsB:TupS Ha (upd Hb pk (.dT (putK kvs2 (keyL (pL (i,i'))) (.ref p)))):=gb.tups.trans tsC
    have et1:(ups k).take (j + 1)=(ups k).take j ++ [(i,i')]:=by rw [y1e,eup,y1f]
    refine ⟨(ga.trans gb).wr hpk _,ts.trans (g3'.tups.trans (tsa.trans tsB)),by rw [zal (Ne.symm npD)];exact gb _ _ eDa,news fs2 (x.com (ix fs2 i) (ix fs2 i')),by rw [zal nkk];exact gb _ _ eka,by rw [zal nfp];exact gb _ _ efa,_,zam,?_,by rw [et1,← y12];exact F',by rw [etl,y0c];omega⟩
    rw [et1,← y12]
    refine KnT.put ((kn2.more F2 etl).ts (g3'.tups.trans (tsa.trans tsB))) (zhc eup) ⟨p,rfl,?_⟩
    rw [etl,zh1 hi,zh1 hi',← etl]
    have:=tsC _ _ eb
    rw [y0v]
    exact this
  ·rintro σ H'' ⟨g2,ts,⟨w9,w10,w11,rfl⟩,eD2,fs2,kvs2,ek2,ef2,ep2,kn2,F2,hk2⟩
   rw [hrl,y0r (y05 _),← zcd] at kn2 F2
   have hfl2:fs2.length ≤ x.n:=zb4 F2.nd F2.rm
   trivial
   exact ⟨_,rfl,_,rfl,100 - (k + 1),by omega,k + 1,rfl,g2,rfl,fs2,ek2,ef2,kvs2,ep2,kn2,F2,by omega⟩
 ·rw [decide_eq_false (by omega)]
  have hk:k=fs.length:=by omega
  subst hk
  refine iteF ?_
  have hpi:(1 * 2 ^ ((x.w:Nat):Int).toNat:Int)=((2 ^ x.w:Nat):Int):=by simp
  have hpw:(1 * 2 ^ ((x.w:Nat):Int).toNat:Int).toNat=2 ^ x.w:=by rw [hpi];exact y1u _
  refine ⟨⟨by omega,by have:=ok.wid;omega,by decide⟩,by rw [hpi];omega,by rw [hpi];omega,?_⟩
  rw [hpw]
  refine zdd (n:=2 ^ x.w) (fun σ=>∃ v,σ=[v,some (.ref pk),some (.ref pf)]) (fun l y H=>Tab H y ((List.range fs.length).map fun i=>(List.range fs.length).map fun j=>nOf fs (x.go l (ix fs i) (ix fs j)))) (by omega) ⟨_,rfl⟩ (fun i H' hi gg=>hi) (fun H' gg=>y05 _) ?_ ?_
  ·rintro D i ys σ H1 y H1' hi gg hD hD' hl hy ⟨v,rfl⟩ ⟨rfl,rfl⟩
   trivial
   rw [y2p]
   refine ⟨_,.inl (.of (gg _ _ ef')),pk,kvs,fs.length,i,2 ^ x.w,(fun a b=>(x.com (ix fs a) (ix fs b)).map (nOf fs)),by rw [y00],gg _ _ ep',by omega,hi,(fun a b ha hb=>?_),fun p H2 g2 t2=>zbi (fun j y H H' ts z=>z.ts ts) (by omega) hi hD (g2 _ _ hD') hl hy g2.tups (gg.trans g2) ⟨_,rfl⟩ ?_⟩
   ·obtain ⟨v,e1,l1⟩:=kn.2 (a,b) (alls_mem.mpr ⟨ha,hb⟩)
    exact ⟨v,e1,l1.ts gg.tups,by rw [y00];exact zjk⟩
   ·have:((List.range fs.length).map fun a=>(List.range fs.length).map fun b=>((x.com (ix fs a) (ix fs b)).map (nOf fs)).getD i 0)=(List.range fs.length).map fun a=>(List.range fs.length).map fun b=>nOf fs (x.go i (ix fs a) (ix fs b)) :=
     y1d fun a _=>y1d fun b _=>zrc hi
    rw [this] at t2
    exact t2
  intro D ys H1 hD g1 eD hl hy
  refine ⟨D,rfl,_,.inl ⟨.of eD,fun t1 H2 n2'=>⟨⟨_,.of ((g1.trans n2'.g) _ _ ef')⟩,?_⟩⟩⟩
  have g12:=g1.trans n2'.g
  refine zdd (n:=fs.length) (fun σ=>∃ v,σ=[v,some (.ref fe)]) (fun j y H=>y=.bl (x.fin (ix fs j))) (by omega) ⟨_,rfl⟩ (fun i H5 hi gg=>⟨_,nV (ix fs i),.of (gg _ _ (g12 _ _ ef')),by rw [y02,zd9 hi];rfl⟩) (fun H5 gg=>⟨_,.of (gg _ _ (g12 _ _ ef')),by rw [y00];exact y05 _⟩) ?_ ?_
  ·rintro D' i ys' σ H5 y H5' hi gg hD' hD'' hl' hy' ⟨v,rfl⟩ ⟨rfl,yx⟩
   have ex:=yx _ (.of (gg _ _ (g12 _ _ ef')))
   rw [y02,zd9 hi] at ex
   cases ex
   have gg':=g.trans (g12.trans gg)
   simp only [tCallV,gName,tNil,tCons,tYes,zdi,y1v,exists_and_left,if_true]
   exact ⟨fe,rfl,fde,gg' _ _ efe,gg' _ _ efe,cle.mono gg'.frz,rfl,ix fs i,rfl,hRs _ _ gg' hR,F.rm _ (zca hi),fun H6 g6=>zbi (fun j y H H' ts z=>z) (by omega) hi hD' (g6 _ _ hD'') hl' hy' g6.tups (gg.trans g6) ⟨_,rfl⟩ rfl⟩
  intro D' ys' H5 hD' g5 eD' hl' hy'
  have eE:ys'=((List.range fs.length).map fun i=>x.fin (ix fs i)).map V.bl:=by
   refine y16 fun j=>?_
   by_cases hj:j < fs.length
   ·rw [y01 (show j < ys'.length by omega),hy' j _ (y01 (show j < ys'.length by omega)),y02,y02,y0j hj]
    rfl
   ·rw [y0e (by omega),y0e (by rw [y00,y00,y0t];omega)]
  refine ⟨D',rfl,_,.inl ⟨.of eD',fun t2 H6 n6=>⟨zab (by simp),fun t3 H7 n7=>?_⟩⟩⟩
  have gA:=n2'.g.trans (g5.trans (n6.g.trans n7.g))
  refine q t3 fs H7 (g.trans (g1.trans gA)) ⟨t1,t2,ys,n7.at',(g5.trans (n6.g.trans n7.g)) _ _ n2'.at',?_,?_⟩ F
  ·refine zbn (by rw [hl];simp [xpl,mkT]) fun l v y e1 e2=>?_
   have hl2:l < 2 ^ x.w:=by rw [← hl];exact (y04.mp e1).1
   simp only [xpl,mkT,y02,y0j hl2] at e2
   cases e2
   exact (hy l v e1).ts gA.tups
  ·rw [n7.g _ _ n6.at',eE]
   rfl
theorem zi4 (T:Txt K mg cTooGreat cSayError cs) (d:Dfn K mg "renamed" s_renamed ["rooms","numbers"]):Cal P w K mg base 1 "renamed" ["rooms","numbers"] zes:=by
 refine d.cal zdw (fun vs H Q E h=>?_) (fun f cdv A outer s H vs Q E hr h=>?_)
 ·obtain ⟨a,b,rs,ls,fs,rfl,_⟩:=h
  rfl
 obtain ⟨a,b,rs,ls,fs,rfl,ea,pr,h16,eb,hin,q⟩:=h
 have hu:=zfq hr 8 (by decide)
 have hrl:=SS.Paired.len pr
 refine ⟨_,(zae (zar (za6 zag (by rfl) T.b_tuple boot_tuple (pa_c (zas ["room"] [(1,"numbers")] (CompOk.of rfl (by rfl) (by rfl)) (by rfl) (zaz K (pv 0)) (fun _ _ _ _ _=>(zah (i:=0) (show List.Nodup (["room","numbers"]:List Str) by decide +kernel) (by rfl) (Or.inl (by rfl)))) (fun _ _ _ _ _=>za4) (fun _ _ _ _ _=>(zdl hu (pv 1) (pv 0) (fun _ _=>rfl)))) zaa)))),?_⟩
 refine zba [some (.ref a),some (.ref b)] rfl ?_
 trivial
 refine ⟨⟨_,.of ea⟩,zdd (n:=ls.length) (fun σ=>∃ v,σ=[v,some (.ref b)]) (fun j y H=>y=nV (nOf fs (ls.getD j []))) (by omega) ⟨_,rfl⟩ (fun i H' hi gg=>⟨_,rs[i]'(by omega),.of (gg _ _ ea),y01 _⟩) (fun H' gg=>⟨_,.of (gg _ _ ea),by omega⟩) ?_ ?_⟩
 ·rintro D i ys σ H1 x H1' hi gg hD hD' hl hy ⟨v,rfl⟩ ⟨rfl,yx⟩
  have ex:=yx _ (.of (gg _ _ ea))
  obtain ⟨l,el,t,rfl,et⟩:=SS.Paired.at pr ex
  have et2:=gg _ _ et
  rw [← zd7] at et2
  have z:=DGet.t (gg _ _ eb) et2
  rw [zcn zbo (hin l (y0a el))] at z
  trivial
  refine ⟨_,z,zbi (fun j y H H' ts z=>z) (by omega) hi hD hD' hl hy (Same.refl _).tups gg ⟨_,rfl⟩ ?_⟩
  rw [y03,el];rfl
 intro D ys H1 hD g1 eD hl hy
 have eD':H1 D=some (.lst ((ls.map (nOf fs)).map nV)):=by
  rw [eD]
  congr 2
  refine y16 fun j=>?_
  by_cases hj:j < ls.length
  ·rw [y01 (show j < ys.length by omega),hy j _ (y01 (show j < ys.length by omega)),y02,y02,y03,y01 hj]
   rfl
  ·rw [y0e (by omega),y0e (by rw [y00,y00];omega)]
 exact ⟨_,rfl,_,.inl ⟨.of eD',fun t H2 n2=>q t H2 (g1.trans n2.g) n2.at'⟩⟩
theorem znr (T:Txt K mg cTooGreat cSayError cs) (d:Dfn K mg "tree_explored" s_tree_explored ["tracks","comings","first","is_end","most"]) (C_pairs_up_to:Cal P w K mg base 1 "pairs_up_to" ["most"] zdv) (C_renamed:Cal P w K mg base 1 "renamed" ["rooms","numbers"] zes) (C_ways_of:Cal P w K mg base 1 "ways_of" ["comings","count","letter"] zen) :
  CalE P w K mg base 5 "tree_explored" ["tracks","comings","first","is_end","most"] (zhj cTooGreat P w K mg base):=by
 refine d.calE sc_tree_explored (fun vs H Q E h=>?_) (fun f cdv A outer s H vs Q E hr h R=>?_)
 ·obtain ⟨a,fc,fe,fd,fd',Th,G,Rh,t0,mo,rfl,_⟩:=h
  rfl
 obtain ⟨a,fc,fe,fdc,fde,Th,G,Rh,t0,mo,rfl,hmo,hmo0,ea,efc,efe,clc,cle,hR,hRs,hw,hG0,hst,q,qx⟩:=h
 have hu:=zfq hr 8 (by decide)
 have hps:1 ≤ 2 ^ Th.w∧2 ^ Th.w ≤ 16:=zbu (by omega)
 have good:∀ {fs:List (List Nat)} {dn:List (Nat × Nat)},TFndT Th t0 fs dn→∀ t ∈ fs,G t:=fun f t ht=>RchT.all hG0 (fun a b ha hb u hu=>(hst a b ha hb).2 u hu) (f.rch t ht)
 refine ⟨_,(zac (zan (i:=5) sc_tree_explored.nd rfl (Or.inl rfl) (znd hu (pv 2) zad)) (zac (zan (i:=6) sc_tree_explored.nd rfl (Or.inr rfl) (zat (pa_c (pv 2) zaa))) (zac (zan (i:=7) sc_tree_explored.nd rfl (Or.inr rfl) ze0) (zac (zan (i:=8) sc_tree_explored.nd rfl (Or.inl rfl) zad) (zac (zef PassesOwn.leaving (zax zlk (pv 8) (zau (zak K) (by rfl) T.b_len boot_len (pa_c (pv 6) zaa)) (nomark _)) (zac (za5 PassesOwn.leaving rfl (zaz K (zao C_pairs_up_to hr (by omega) (by rfl) (pa_c (pv 8) zaa))) (zah (i:=9) sc_tree_explored.nd (by rfl) (Or.inl (by rfl))) (zac (zan (i:=10) sc_tree_explored.nd rfl (Or.inl rfl) (zb9 P w K mg base 1 4 2 (zgg Rh Th G) hr (by omega) (pa_c (zaq (za3 K) (pv 6) (zaq (zaj K) (pv 9) zad (fun _ _=>rfl)) (fun _ _=>rfl)) (pa_c (zaq (za3 K) (pv 6) (zaq (zaj K) (pv 9) zad (fun _ _=>rfl)) (fun _ _=>rfl)) zaa)))) (zac (za5 PassesOwn.leaving rfl (zaz K (pv 10)) (zah (i:=11) sc_tree_explored.nd (by rfl) (Or.inl (by rfl))) (zae (zb1 (zax (zcx hu) (pv 11) (pv 5) (by with_unfolding_all rfl)) (zac (zcw hu (pv 5) (pv 11) (zau (zak K) (by rfl) T.b_len boot_len (pa_c (pv 6) zaa)) rfl) (zae (zbz (zck K PySem.F.plainAttrs_list PySem.F.slot_list_append PySem.F.type_list_append za9 (pv 6) (pa_c (pv 11) zaa))))) za2))) (zac (zb1 (zax zqf (zau (zak K) (by rfl) T.b_len boot_len (pa_c (pv 6) zaa)) (pv 4) (nomark _)) (zae (zhu R rfl (by rfl) T.m_TooGreat T.x_TooGreat F.excBase_ValueError (pa_c zrp zaa))) za2) (zae (zcw hu (pv 7) (pv 9) (zao C_renamed hr (by omega) (by rfl) (pa_c (pv 10) (pa_c (pv 5) zaa))) rfl)))))) (zae (zm2 (i:=8) sc_tree_explored.nd rfl (Or.inl rfl) zad zr3)))) (zac (zm0 (i:=12) sc_tree_explored.nd rfl (Or.inl rfl) ["letter"] [(7,"known"),(6,"found")] (CompOk.of rfl (by rfl) (by rfl)) (by rfl) (zaw (by rfl) T.b_range (pa_c (zap zhw zad (pv 0)) zaa)) (fun _ _ _ _ _=>(zah (i:=0) (show List.Nodup (["letter","known","found"]:List Str) by decide +kernel) (by rfl) (Or.inl (by rfl)))) (fun _ _ _ _ _=>za4) (fun _ _ _ _ _=>(zao C_ways_of hr (by omega) (by rfl) (pa_c (pv 1) (pa_c (zau (zak K) (by rfl) T.b_len boot_len (pa_c (pv 2) zaa)) (pa_c (pv 0) zaa)))))) (zae (zar (zay (pa_c (pv 0) (pa_c (za6 zag (by rfl) T.b_tuple boot_tuple (pa_c (pv 12) zaa)) (pa_c (za6 zag (by rfl) T.b_tuple boot_tuple (pa_c (zas ["thing"] [(3,"is_end")] (CompOk.of rfl (by rfl) (by rfl)) (by rfl) (zaz K (pv 6)) (fun _ _ _ _ _=>(zah (i:=0) (show List.Nodup (["thing","is_end"]:List Str) by decide +kernel) (by rfl) (Or.inl (by rfl)))) (fun _ _ _ _ _=>za4) (fun _ _ _ _ _=>(zb9 P w K mg base 1 4 1 (zgf Rh Th G) hr (by omega) (pa_c (pv 0) zaa)))) zaa)) zaa)))))))))))),?_⟩
 refine zba [some (nV Th.w),some (.ref fc),some (.ref a),some (.ref fe),some (nV mo),none,none,none,none,none,none,none,none] rfl ?_
 trivial
 refine fun kd Hk nk=>⟨nk.at',keyL t0,by rw [zd7];exact nk.g _ _ ea,zab (by simp),fun pf H2 n2 pk H3 n3=>?_⟩
 generalize eH:upd Hk kd (.dT [(keyL t0,V.int 0)])=Hk2 at n2
 have gk:Same H Hk2:=by rw [← eH];exact nk.g.wr nk.nil _
 have ek:Hk2 kd=some (.dT (tabF keyL 0 [t0])):=by rw [← eH,zam];rfl
 have g3:Same H H3:=gk.trans (n2.g.trans n3.g)
 have nfk:kd ≠ pf:=zaf ek n2.nil
 have nkk:kd ≠ pk:=zaf (n2.g _ _ ek) n3.nil
 have nfp:pf ≠ pk:=zaf n2.at' n3.nil
 have hkd:H kd=none:=nk.nil
 have hpf:H pf=none:=gk.free n2.nil
 have hpk:H pk=none:=(gk.trans n2.g).free n3.nil
 refine ⟨fun mm σ H'=>∃ (k:Nat) (fs:List (List Nat)) (rf:List V) (kvs:List (List Key × V)) (v9 v10 v11:Option V),mm=100 - k∧Same H H'∧σ=[some (nV Th.w),some (.ref fc),some (.ref a),some (.ref fe),some (nV mo),some (.ref kd),some (.ref pf),some (.ref pk),some (nV k),v9,v10,v11,none]∧H' kd=some (.dT (tabF keyL 0 fs))∧H' pf=some (.lst rf)∧Paired (Line H') rf fs∧H' pk=some (.dT kvs)∧KnY Th fs H' (alls k) kvs∧TFndT Th t0 fs (alls k)∧k ≤ fs.length∧fs.length ≤ mo,
  ⟨100,0,[t0],[.ref a],[],none,none,none,rfl,g3,rfl,(n2.g.trans n3.g) _ _ ek,n3.g _ _ n2.at',.cons ⟨a,rfl,g3 _ _ ea⟩ .nil,n3.at',⟨rfl,fun p hp=>(nomatch hp)⟩,TFndT.start,by simp,hmo0⟩,?_⟩
 rintro mm σ H' ⟨k,fs,rf,kvs,v9,v10,v11,rfl,g,rfl,ek',ef',prf,ep',kn,F,hk,hfm⟩
 have hrf:=SS.Paired.len prf
 trivial
 refine ⟨_,.inl (.of ef'),?_⟩
 by_cases hlt:k < fs.length
 ·rw [decide_eq_true (by omega)]
  refine iteT ⟨fun σ' H''=>∃ m',m' < 100 - k∧_,fun σ' H'' z=>z,?_⟩
  refine ⟨k,rfl,by omega,fun D rs H1 hD g1 eD pr1=>⟨D,rfl,⟨_,.of eD⟩,?_⟩⟩
  have hkk:k * k ≤ 900:=y13 (Nat.mul_le_mul (show k ≤ 30 by omega) (show k ≤ 30 by omega)) (by decide)
  have hal:=zg7 k
  have hul:=zio k
  have hrl:=SS.Paired.len pr1
  rw [y00] at hrl
  have nkD:kd ≠ D:=zaf ek' hD
  have nfD:pf ≠ D:=zaf ef' hD
  have npD:pk ≠ D:=zaf ep' hD
  refine zcp (K:=K) (a:=D) (xs:=rs) (fun j σ H''=>Same H H''∧TupS H1 H''∧(∃ v9 v10 v11,σ=[some (nV Th.w),some (.ref fc),some (.ref a),some (.ref fe),some (nV mo),some (.ref kd),some (.ref pf),some (.ref pk),some (nV k),v9,v10,v11,none])∧H'' D=some (.lst rs)∧∃ (fs:List (List Nat)) (rf:List V) (kvs:List (List Key × V)),H'' kd=some (.dT (tabF keyL 0 fs))∧H'' pf=some (.lst rf)∧Paired (Line H'') rf fs∧H'' pk=some (.dT kvs)∧KnY Th fs H'' (alls k ++ (ups k).take j) kvs∧TFndT Th t0 fs (alls k ++ (ups k).take j)∧k < fs.length∧fs.length ≤ mo)
   ⟨g.trans g1,TupS.refl _,⟨_,_,_,rfl⟩,eD,fs,rf,kvs,g1 _ _ ek',g1 _ _ ef',L2.Paired.mapP prf (fun _ _ z=>z.ts g1.tups),g1 _ _ ep',by rw [y2v,y0s];exact kn.ts g1.tups,by rw [y2v,y0s];exact F,hlt,hfm⟩ (fun j σ H'' _ z=>.of z.2.2.2.1) ?_ ?_
  ·rintro j y σ H'' hy ⟨g2,ts,⟨w9,w10,w11,rfl⟩,eD2,fs2,rf2,kvs2,ek2,ef2,prf2,ep2,kn2,F2,hk2,hfm2⟩
   obtain ⟨ll,el,tp,rfl,etp⟩:=SS.Paired.at pr1 hy
   rw [y02] at el
   obtain ⟨p,eup,rfl⟩:=y0z.mp el
   obtain ⟨i,i'⟩:=p
   have hjl:=(y04.mp eup).1
   have hmem:=ups_mem.mp (y0a eup)
   have etp2:=ts _ _ etp
   have hi:i < fs2.length:=by have:=hmem.1;show i < fs2.length;omega
   have hi':i' < fs2.length:=by have:=hmem.2.1;omega
   obtain ⟨va,eva,ta,rfl,eta⟩:=Paired.at2 prf2 (zfp hi)
   obtain ⟨vb,evb,tb,rfl,etb⟩:=Paired.at2 prf2 (zfp hi')
   have hGa:=good F2 _ (zcl hi)
   have hGb:=good F2 _ (zcl hi')
   trivial
   refine ⟨fc,rfl,fdc,g2 _ _ efc,_,.of etp2,_,zd2,_,_,rfl,.of ef2,_,zai eva,?_⟩
   refine ⟨_,.of etp2,_,zai (j:=1) rfl,_,_,rfl,.of ef2,_,zai evb,g2 _ _ efc,clc.mono g2.frz,rfl,ta,tb,iy fs2 i,iy fs2 i',rfl,hRs _ _ g2 hR,eta,etb,hGa,hGb,fun D2 rs2 H3' hD2 g3' eD2' pr2=>⟨D2,rfl,⟨_,.of eD2'⟩,?_⟩⟩
   have F':=F2.step hi hi'
   obtain ⟨hcl,hcG⟩:=hst _ _ hGa hGb
   obtain ⟨tl,etl⟩:=zbx (Th.com (iy fs2 i) (iy fs2 i')) fs2
   have hpl:=SS.Paired.len pr2
   generalize eC:Th.com (iy fs2 i) (iy fs2 i')=C at F' hcl hcG etl pr2 hpl
   have nkD2:kd ≠ D2:=zaf ek2 hD2
   have nfD2:pf ≠ D2:=zaf ef2 hD2
   have npD2:pk ≠ D2:=zaf ep2 hD2
   have nDD2:D ≠ D2:=zaf eD2 hD2
   refine zcp (K:=K) (a:=D2) (xs:=rs2) (fun j2 σ Ha=>Same H Ha∧TupS H3' Ha∧(∃ v11,σ=[some (nV Th.w),some (.ref fc),some (.ref a),some (.ref fe),some (nV mo),some (.ref kd),some (.ref pf),some (.ref pk),some (nV k),some (.ref tp),some (.ref D2),v11,none])∧Ha D=some (.lst rs)∧Ha D2=some (.lst rs2)∧Ha pk=some (.dT kvs2)∧∃ rsj,Ha kd=some (.dT (tabF keyL 0 (news fs2 (C.take j2))))∧Ha pf=some (.lst rsj)∧Paired (Line Ha) rsj (news fs2 (C.take j2)))
    ⟨g2.trans g3',TupS.refl _,⟨_,rfl⟩,g3' _ _ eD2,eD2',g3' _ _ ep2,rf2,g3' _ _ ek2,g3' _ _ ef2,L2.Paired.mapP prf2 (fun _ _ z=>z.ts g3'.tups)⟩ (fun j2 σ Ha _ z=>.of z.2.2.2.2.1) ?_ ?_
   ·rintro j2 y σ Ha hy2 ⟨ga,tsa,⟨v11',rfl⟩,eDa,eD2a,epa,rsj,eka,efa,prj⟩
    obtain ⟨u,eu,tu,rfl,etu⟩:=SS.Paired.at pr2 hy2
    have etu1:=tsa _ _ etu
    have etu2:Ha tu=some (.tup ((keyL u).map kV)):=by rw [zd7];exact etu1
    have hjl:=SS.Paired.len prj
    have hnl:=zcz (C.take j2) fs2
    rw [y0y] at hnl
    trivial
    refine ⟨_,DGet.t eka etu2,?_⟩
    by_cases hin:u ∈ news fs2 (C.take j2)
    ·rw [zcn zbo hin]
     refine iteF ?_
     rw [zcy eu,zkh hin]
     exact ⟨ga,tsa,eDa,eD2a,epa,eka,rsj,efa,prj⟩
    ·rw [zdf zbo hin]
     have ef3:∀ o,upd Ha kd o pf=some (.lst rsj):=fun o=>by rw [zal (Ne.symm nfk)];exact efa
     refine iteT ⟨_,.inl (.of efa),_,DPut.t eka etu2 (by rw [zb2];exact small1000 (by omega)),.inl ⟨_,.of (ef3 _)⟩,_,ef3 _,small1000 (by omega),?_⟩
     rw [zcy eu,zgm hin]
     generalize news fs2 (C.take j2)=ds at hin eka prj hjl hnl
     have ep:putK (tabF keyL 0 ds) (keyL u) (V.int (rsj.length:Int))=tabF keyL 0 (ds ++ [u]):=by
      rw [← zed zbo hin,zb2,hjl]
     have tsA:TupS Ha (upd (upd Ha kd (.dT (putK (tabF keyL 0 ds) (keyL u) (V.int (rsj.length:Int))))) pf (.lst (rsj ++ [.ref tu]))):=(TupS.wrT eka _).trans (TupS.wr (ef3 _) _)
     refine ⟨(ga.wr hkd _).wr hpf _,tsa.trans tsA,by rw [zal (Ne.symm nfD),zal (Ne.symm nkD)];exact eDa,by rw [zal (Ne.symm nfD2),zal (Ne.symm nkD2)];exact eD2a,by rw [zal (Ne.symm nfp),zal (Ne.symm nkk)];exact epa,by rw [zal nfk,zam,ep],rsj ++ [.ref tu],zam,SM.Paired.snoc (L2.Paired.mapP prj fun _ _ z=>z.ts tsA) ⟨tu,rfl,tsA _ _ etu1⟩⟩
   ·rintro σ Ha ⟨ga,tsa,⟨v11',rfl⟩,eDa,eD2a,epa,rsj,eka,efa,prj⟩
    rw [hpl,y0r (y05 _)] at eka prj
    have hjl2:=SS.Paired.len prj
    have hnl':=zcz C fs2
    trivial
    refine ⟨_,.inl (.of efa),?_⟩
    by_cases h2:mo < (news fs2 C).length
    ·rw [decide_eq_true (by omega)]
     exact iteT ⟨zab (by simp),fun a0 n0=>qx _ F'.some h2 a0 Ha ga n0⟩
    rw [decide_eq_false (by omega)]
    have etpA:Ha tp=some (.tup ((keyL (pL (i,i'))).map kV)):=by rw [zd7];exact tsa _ _ (g3'.tups _ _ etp2)
    refine iteF ⟨D2,kd,rs2,C,news fs2 C,rfl,eD2a,L2.Paired.mapP pr2 (fun _ _ z=>z.ts tsa),by omega,eka,(fun l hl=>(za0 _ _ _).mpr (.inr hl)),fun p Hb gb eb=>?_⟩
    have hkl:=kn2.len
    rw [y0c,y0y] at hkl
    refine ⟨_,DPut.t (gb _ _ epa) (gb _ _ etpA) (by rw [hkl];exact small1000 (by omega)),?_⟩
    have tsC:TupS Hb (upd Hb pk (.dT (putK kvs2 (keyL (pL (i,i'))) (.ref p)))):=TupS.wrT (gb _ _ epa) _
    have tsB:TupS Ha (upd Hb pk (.dT (putK kvs2 (keyL (pL (i,i'))) (.ref p)))):=gb.tups.trans tsC
    have et1:(ups k).take (j + 1)=(ups k).take j ++ [(i,i')]:=by rw [y1e,eup,y1f]
    refine ⟨(ga.trans gb).wr hpk _,ts.trans (g3'.tups.trans (tsa.trans tsB)),by rw [zal (Ne.symm npD)];exact gb _ _ eDa,news fs2 C,by rw [zal nkk];exact gb _ _ eka,rsj,by rw [zal nfp];exact gb _ _ efa,L2.Paired.mapP prj (fun _ _ z=>z.ts tsB),_,zam,?_,by rw [et1,← y12];exact F',by rw [etl,y0c];omega,by omega⟩
    rw [et1,← y12]
    refine KnY.put ((kn2.more F2 etl).ts (g3'.tups.trans (tsa.trans tsB))) (zhc eup) ⟨p,rfl,?_⟩
    rw [etl,zh0 hi,zh0 hi',← etl,eC]
    exact tsC _ _ eb
  ·rintro σ H'' ⟨g2,ts,⟨w9,w10,w11,rfl⟩,eD2,fs2,rf2,kvs2,ek2,ef2,prf2,ep2,kn2,F2,hk2,hfm2⟩
   rw [hrl,y0r (y05 _),← zcd] at kn2 F2
   trivial
   exact ⟨_,rfl,_,rfl,100 - (k + 1),by omega,k + 1,rfl,g2,rfl,fs2,ek2,rf2,ef2,prf2,kvs2,ep2,kn2,F2,by omega,hfm2⟩
 ·rw [decide_eq_false (by omega)]
  have hk:k=fs.length:=by omega
  subst hk
  refine iteF ?_
  have hall:=F.all
  have hGs:=good F
  have hlen:∀ a ∈ fs,∀ b ∈ fs,(Th.com a b).length=2 ^ Th.w:=fun a ha b hb=>(hst a b (hGs a ha) (hGs b hb)).1
  have hpi:(1 * 2 ^ ((Th.w:Nat):Int).toNat:Int)=((2 ^ Th.w:Nat):Int):=by simp
  have hpw:(1 * 2 ^ ((Th.w:Nat):Int).toNat:Int).toNat=2 ^ Th.w:=by rw [hpi];exact y1u _
  refine ⟨⟨by omega,by omega,by decide⟩,by rw [hpi];omega,by rw [hpi];omega,?_⟩
  rw [hpw]
  refine zdd (n:=2 ^ Th.w) (fun σ=>∃ v,σ=[v,some (.ref pk),some (.ref pf)]) (fun l y H=>Tab H y (fs.map fun a=>fs.map fun b=>nOf fs ((Th.com a b).getD l []))) (by omega) ⟨_,rfl⟩ (fun i H' hi gg=>hi) (fun H' gg=>y05 _) ?_ ?_
  ·rintro D i ys σ H1 y H1' hi gg hD hD' hl hy ⟨v,rfl⟩ ⟨rfl,rfl⟩
   trivial
   rw [y2p]
   refine ⟨_,.inl (.of (gg _ _ ef')),pk,kvs,fs.length,i,2 ^ Th.w,(fun a b=>(Th.com (iy fs a) (iy fs b)).map (nOf fs)),by rw [hrf],gg _ _ ep',by omega,hi,(fun a b ha hb=>?_),fun p H2 g2 t2=>zbi (fun j y H H' ts z=>z.ts ts) (by omega) hi hD (g2 _ _ hD') hl hy g2.tups (gg.trans g2) ⟨_,rfl⟩ ?_⟩
   ·obtain ⟨v,e1,l1⟩:=kn.2 (a,b) (alls_mem.mpr ⟨ha,hb⟩)
    exact ⟨v,e1,l1.ts gg.tups,by rw [y00];exact hlen _ (zcl ha) _ (zcl hb)⟩
   ·rw [tabY (fun a ha b hb=>by rw [hlen a ha b hb];exact hi)] at t2
    exact t2
  intro D ys H1 hD g1 eD hl hy
  refine ⟨D,rfl,_,.inl ⟨.of eD,fun t1 H2 n2'=>⟨⟨_,.of ((g1.trans n2'.g) _ _ ef')⟩,?_⟩⟩⟩
  have g12:=g1.trans n2'.g
  refine zdd (n:=fs.length) (fun σ=>∃ v,σ=[v,some (.ref fe)]) (fun j y H=>y=.bl (Th.fin (fs.getD j []))) (by omega) ⟨_,rfl⟩ (fun i H5 hi gg=>⟨_,rf[i]'(by omega),.of (gg _ _ (g12 _ _ ef')),y01 _⟩) (fun H5 gg=>⟨_,.of (gg _ _ (g12 _ _ ef')),by omega⟩) ?_ ?_
  ·rintro D' i ys' σ H5 y H5' hi gg hD' hD'' hl' hy' ⟨v,rfl⟩ ⟨rfl,yx⟩
   have ex:=yx _ (.of (gg _ _ (g12 _ _ ef')))
   obtain ⟨l,el,tl,rfl,etl⟩:=SS.Paired.at prf ex
   have gg':=g.trans (g12.trans gg)
   simp only [tCallV,gName,tNil,tCons,tYes,zdi,y1v,exists_and_left,if_true]
   refine ⟨fe,rfl,fde,gg' _ _ efe,gg' _ _ efe,cle.mono gg'.frz,rfl,tl,l,rfl,hRs _ _ gg' hR,(g12.trans gg) _ _ etl,hGs l (y0a el),fun H6 g6=>zbi (fun j y H H' ts z=>z) (by omega) hi hD' (g6 _ _ hD'') hl' hy' g6.tups (gg.trans g6) ⟨_,rfl⟩ ?_⟩
   rw [y03,el];rfl
  intro D' ys' H5 hD' g5 eD' hl' hy'
  have eE:ys'=(fs.map Th.fin).map V.bl:=by
   refine y16 fun j=>?_
   by_cases hj:j < fs.length
   ·rw [y01 (show j < ys'.length by omega),hy' j _ (y01 (show j < ys'.length by omega)),y02,y02,y03,y01 hj]
    rfl
   ·rw [y0e (by omega),y0e (by rw [y00,y00];omega)]
  refine ⟨D',rfl,_,.inl ⟨.of eD',fun t2 H6 n6=>⟨zab (by simp),fun t3 H7 n7=>?_⟩⟩⟩
  have gA:=n2'.g.trans (g5.trans (n6.g.trans n7.g))
  refine q fs F hfm t3 H7 (g.trans (g1.trans gA)) ⟨t1,t2,ys,n7.at',(g5.trans (n6.g.trans n7.g)) _ _ n2'.at',?_,?_⟩
  ·refine zbn (by rw [hl];simp [xplT]) fun l v y e1 e2=>?_
   have hl2:l < 2 ^ Th.w:=by rw [← hl];exact (y04.mp e1).1
   simp only [xplT,y02,y0j hl2] at e2
   cases e2
   exact (hy l v e1).ts gA.tups
  ·rw [n7.g _ _ n6.at',eE]
   rfl
abbrev s_tree_reduced:Stmt:=top 28
theorem sc_tree_reduced:FnScope ["machine","comings","rooms"] ["machine"] (defScope s_tree_reduced):=⟨rfl,rfl,rfl,by decide +kernel,rfl,by decide +kernel,by decide +kernel⟩
abbrev qs_tree_reduced:List (Pos × Str):=[(⟨91,4,92,57⟩,"tree_reduced.<locals>.comings"),(⟨94,60,94,89⟩,"tree_reduced.<locals>.<lambda>")]
theorem zs6 {c Pt Pr:Addr} (T:Txt K mg cTooGreat cSayError cs) (d:DfnC K mg "tree_reduced" s_tree_reduced ["machine"] c Pr) (kb:BltK base mg) (C_tree_explored:Cal P w K mg base 5 "tree_explored" ["tracks","comings","first","is_end","most"] (zj2 P w K mg base)) (C_tree_least:Cal P w K mg base 6 "tree_least" ["machine"] (zep Pt qs_tree_least)) :
  Cal P w K mg base 7 "tree_reduced" ["machine"] (zmk Pt qs_tree_least Pr qs_tree_reduced):=by
 refine d.cal sc_tree_reduced (fun vs H Q E h=>?_) (fun f A outer s H vs Q E hr h=>?_)
 ·obtain ⟨a,m,rfl,_⟩:=h
  rfl
 obtain ⟨a,m,rfl,tl,tr,rm,ok,q⟩:=h
 obtain ⟨b1,c1,ts,ea,eb1,pr,ec⟩:=id rm
 have h30:m.n ≤ 30:=ok.few
 have hps:1 ≤ 2 ^ m.w∧2 ^ m.w ≤ 16:=zbu (by have:=ok.wid;omega)
 refine ⟨_,(zac (zm1 (qs:=qs_tree_reduced) "tree_reduced.<locals>.comings" (j:=1) rfl d.code kb (by rfl) (by rfl) sc_tree_reduced.nd rfl rfl) (zac (zan (i:=2) sc_tree_reduced.nd rfl (Or.inl rfl) (zau (zak K) (by rfl) T.b_len boot_len (pa_c (zaq (zaj K) (pv 0) zad (fun _ _=>rfl)) zaa))) (zae (zar (zao C_tree_least hr (by omega) (by rfl) (pa_c (zhv C_tree_explored hr (by omega) (by rfl) (fun _=>rfl) (pa_c (zaq (zaj K) (pv 0) zad (fun _ _=>rfl)) (pa_c (pv 1) (pa_c zad (pa_c (zrq (qs:=qs_tree_reduced) "tree_reduced.<locals>.<lambda>" rfl d.code kb (by rfl) (by rfl)) (pa_c (pv 2) zaa)))))) zaa)))))),?_⟩
 refine zba [some (.ref a),none,none] rfl ?_
 trivial
 refine ⟨tr,fun f1 H1 M1=>?_⟩
 refine ⟨_,.of (M1.old _ _ ea),_,zai (j:=2) rfl,c1,rfl,_,.inr (.of (M1.old _ _ ec)),_,.of (M1.old _ _ ea),_,zd2,tr.same M1.old,fun f2 H2 M2 Hq ad=>?_⟩
 have g2:Same H H2:=M1.old.trans M2.old
 have gq:Same H Hq:=g2.trans ad.up
 obtain ⟨fd1,ef1⟩:=M1.fn
 obtain ⟨fd2,ef2⟩:=M2.fn
 have clc:CloH P w K mg base 4 Hq f1 2 (zit (fun H=>RepT H a m) m):=by
  refine M1.clo_sM (own:=["left","right"]) (ps:=["left","right"]) (cap:=["machine"]) (cv:=[.ref a]) (k:=3) M2.old ad ⟨rfl,rfl,rfl,rfl,by decide +kernel,by decide +kernel,by decide +kernel,by decide +kernel⟩ (y05 _) (.cons ⟨0,rfl,rfl,.inl rfl⟩ .nil) (fun cl ct cd pm=>L2.fit2 fun _ _=>rfl) ?_
  rintro clo c' A' outer' s' H' vs Q' hr hcl fz fz2 hl ⟨l,r,rfl,hR,hl1,hr1,q'⟩
  refine ⟨_,(zae (zar (zas ["ways"] [(1,"right"),(0,"left")] (CompOk.of rfl (by rfl) (by rfl)) (by rfl) (za8 K (zaq (zaj K) (pv 2) zad (fun _ _=>rfl))) (fun _ _ _ _ _=>(zah (i:=0) (show List.Nodup (["ways","right","left"]:List Str) by decide +kernel) (by rfl) (Or.inl (by rfl)))) (fun _ _ _ _ _=>za4) (fun _ _ _ _ _=>(zaq (zaj K) (zaq (zaj K) (pv 0) (pv 2) (fun _ _=>rfl)) (pv 1) (fun _ _=>rfl)))))),?_⟩
  refine zba [some (nV l),some (nV r),some (.ref a)] rfl ?_
  trivial
  obtain ⟨b1',c1',ts',ea',eb1',pr',ec'⟩:=RepT.ts hR (SameN.tups hcl.n)
  have htl:ts'.length=2 ^ m.w:=by rw [SS.Paired.len pr',ok.len]
  refine ⟨_,.of ea',_,zai (j:=1) rfl,b1',rfl,⟨_,.of eb1'⟩,zdd (n:=2 ^ m.w) (fun σ=>∃ v,σ=[v,some (nV r),some (nV l)]) (fun j y H=>y=nV (m.go j l r)) (by omega) ⟨_,rfl⟩ (fun i H5 hi gg=>⟨_,ts'[i]'(by omega),.of (gg _ _ eb1'),y01 _⟩) (fun H5 gg=>⟨_,.of (gg _ _ eb1'),by omega⟩) ?_ ?_⟩
  ·rintro D i ys σ H5 y H5' hi gg hD hD' hll hy ⟨v,rfl⟩ ⟨rfl,yx⟩
   have ex:=yx _ (.of (gg _ _ eb1'))
   obtain ⟨p,p2,rs,ln,z1,z2,z3,z4,z5⟩:=RepT.row pr' ok hi hl1 hr1
   rw [z1] at ex
   cases ex
   trivial
   exact ⟨_,.of (gg _ _ z2),_,zai z3,_,rfl,_,.of (gg _ _ z4),_,zai z5,zbi (fun j y H H' ts z=>z) (by omega) hi hD hD' hll hy (Same.refl _).tups gg ⟨_,rfl⟩ rfl⟩
  intro D ys H5 hD g5 eD hll hy hn
  have eY:ys=(m.com l r).map nV:=by
   refine y16 fun j=>?_
   by_cases hj:j < 2 ^ m.w
   ·rw [y01 (show j < ys.length by omega),hy j _ (y01 (show j < ys.length by omega)),y02,Tm.com,y02,y0j hj]
    rfl
   ·rw [y0e (by omega),y0e (by rw [y00,zjk];omega)]
  rw [eY] at eD
  exact q' D (mixL clo H' H5) (zff hD eD hn) (zdo g5) (zkj hn _ _ eD)
 have cle:CloH P w K mg base 4 Hq f2 1 (zis (fun H=>RepT H a m) m):=by
  refine M2.clo_e (own:=["room"]) (ps:=["room"]) (cap:=["machine"]) (cv:=[.ref a]) (k:=3) (Same.refl _) ad ⟨rfl,rfl,rfl,by decide +kernel,rfl,by decide +kernel,by decide +kernel,by decide +kernel⟩ (y05 _) (.cons ⟨0,rfl,rfl,.inl rfl⟩ .nil) (fun cl ct cd pm=>L2.fit1 fun _=>rfl) ?_
  rintro clo c' A' outer' s' H' vs Q' hr hcl fz fz2 hl ⟨r,rfl,hR,hr1,q'⟩
  refine ⟨_,(zaq (zaj K) (zaq (zaj K) (pv 1) zad (fun _ _=>rfl)) (pv 0) (fun _ _=>rfl)),?_⟩
  refine rd_se [some (nV r),some (.ref a)] rfl ?_
  trivial
  obtain ⟨b1',c1',ts',ea',eb1',pr',ec'⟩:=RepT.ts hR (SameN.tups hcl.n)
  exact ⟨_,.of ea',_,zai (j:=2) rfl,c1',rfl,_,.of ec',_,zai (by rw [y02,Tm.fin_at hr1];rfl),fun hn=>q' _ (zdo (Same.refl _))⟩
 refine ⟨f1,f2,fd1,fd2,(fun H=>RepT H a m),m,m.n,by rw [y00];rfl,ok,y05 _,(M2.old.trans ad.up) _ _ ef1,ad.up _ _ ef2,clc,cle,rm.same gq,(fun H1 H2 g z=>z.same g),fun p fs H5 g5 rp F=>?_⟩
 have g5':=g2.trans (ad.same g5)
 have rp':RepT (dropX _ H5) p (xpl m fs):=rp.ts fun b xs e=>ad.keep g5 e (fun _ _ z=>nomatch z)
 dsimp only
 exact ⟨p,xpl m fs,rfl,tl.same g5',rp',zl8 ok F,fun p2 ns k H6 g6 r6 S k0 kn=>q p2 _ H6 (g5'.trans g6) r6 (zsh ok F S k0 (by rw [zpf] at kn;exact kn))⟩
abbrev s_is_whole:Stmt:=top 16
theorem ziw:FnScope ["thing"] ["thing"] (defScope s_is_whole):=⟨rfl,rfl,rfl,by decide +kernel,rfl,by decide +kernel,by decide +kernel⟩
theorem zlo (T:Txt K mg cTooGreat cSayError cs) (d:Dfn K mg "is_whole" s_is_whole ["thing"]):Cal P w K mg base 1 "is_whole" ["thing"] zfw:=by
 refine d.cal ziw (fun vs H Q E h=>?_) (fun f cdv A outer s H vs Q E hr h=>?_)
 ·obtain ⟨r,rfl,_⟩:=h
  rfl
 obtain ⟨r,rfl,q⟩:=h
 refine ⟨_,(zae (zar (zke (zau zbr (by rfl) T.b_isinstance boot_isinstance (pa_c (pv 0) (pa_c (zbv (v:=.ty "int") (by rfl) T.b_int boot_int (by rfl)) zaa))) (zm9 (zna (zau zbr (by rfl) T.b_isinstance boot_isinstance (pa_c (pv 0) (pa_c (zbv (v:=.ty "bool") (by rfl) T.b_bool boot_bool (by rfl)) zaa)))))))),?_⟩
 refine zba [some (.int r)] rfl ?_
 trivial
 exact ⟨_,.int r,by decide,iteT ⟨_,.int r,by decide,q⟩⟩
abbrev s_is_below:Stmt:=top 17
theorem zix:FnScope ["thing","bound"] ["thing","bound"] (defScope s_is_below):=⟨rfl,rfl,rfl,by decide +kernel,rfl,by decide +kernel,by decide +kernel⟩
theorem znv (T:Txt K mg cTooGreat cSayError cs) (d:Dfn K mg "is_below" s_is_below ["thing","bound"]) (C_is_whole:Cal P w K mg base 1 "is_whole" ["thing"] zfw):Cal P w K mg base 2 "is_below" ["thing","bound"] zhp:=by
 refine d.cal zix (fun vs H Q E h=>?_) (fun f cdv A outer s H vs Q E hr h=>?_)
 ·obtain ⟨r,n,rfl,_⟩:=h
  rfl
 obtain ⟨r,n,rfl,q⟩:=h
 refine ⟨_,(zae (zar (zke (zao C_is_whole hr (by omega) (by rfl) (pa_c (pv 0) zaa)) (zm9 (zkd op_le zlk zad (pv 0) (pv 1)))))),?_⟩
 refine zba [some (.int r),some (.int n)] rfl ?_
 trivial
 refine ⟨r,rfl,_,rfl,iteT ?_⟩
 by_cases h0:0 ≤ r
 ·rw [decide_eq_true h0]
  refine iteT ?_
  rw [show decide (r < n)=decide (0 ≤ r∧r < n) by simp [h0]]
  exact q
 ·rw [decide_eq_false h0]
  refine iteF ?_
  rw [show decide (0 ≤ r∧r < n)=false by simp [h0]] at q
  exact q
abbrev s_both_letters:Stmt:=top 19
theorem sc_both_letters:FnScope ["letter","track","above","without"] ["letter","track"] (defScope s_both_letters):=⟨rfl,rfl,rfl,by decide +kernel,rfl,by decide +kernel,by decide +kernel⟩
theorem zs8 (T:Txt K mg cTooGreat cSayError cs) (d:Dfn K mg "both_letters" s_both_letters ["letter","track"]):Cal P w K mg base 1 "both_letters" ["letter","track"] zmn:=by
 refine d.cal sc_both_letters (fun vs H Q E h=>?_) (fun f cdv A outer s H vs Q E hr h=>?_)
 ·obtain ⟨l,t,rfl,_⟩:=h
  rfl
 obtain ⟨l,t,rfl,hl,ht,q⟩:=h
 refine ⟨_,(zac (zan (i:=2) sc_both_letters.nd rfl (Or.inl rfl) (zap op_shr (pv 0) (pv 1))) (zac (zan (i:=3) sc_both_letters.nd rfl (Or.inl rfl) (zap zbe (pv 0) (zap zhw (pv 2) (pv 1)))) (zae (zar (zay (pa_c (pv 3) (pa_c (zap zbe (pv 3) (zap zhw zad (pv 1))) zaa))))))),?_⟩
 refine zba [some (nV l),some (nV t),none,none] rfl ?_
 trivial
 rw [y1u]
 have ep:((2:Int) ^ t)=((2 ^ t:Nat):Int):=by push_cast;rfl
 have ed:(l:Int) / (2:Int) ^ t=((l / 2 ^ t:Nat):Int):=by rw [ep];rfl
 have le:l / 2 ^ t ≤ l:=Nat.div_le_self _ _
 have e1:(l:Int) + (l:Int) / (2:Int) ^ t * (2:Int) ^ t=((put0 l t:Nat):Int):=by
  rw [ed,ep];unfold put0;push_cast;rfl
 have e2:(l:Int) + (l:Int) / (2:Int) ^ t * (2:Int) ^ t + 1 * (2:Int) ^ t=((put0 l t + 2 ^ t:Nat):Int):=by
  rw [e1,ep,Int.one_mul];push_cast;rfl
 refine ⟨by omega,⟨by omega,by omega,?_⟩,⟨by omega,by omega,by decide⟩,zab (by simp),fun p H' n=>?_⟩
 ·rw [ed]
  show (l / 2 ^ t:Nat) < 2 ^ 64
  exact y3r le (y22 hl (by decide))
 ·rw [e2,e1] at n
  exact q p H' n
abbrev s_tree_dropped:Stmt:=top 30
theorem sc_tree_dropped:FnScope ["machine","track","letters","comings","is_end"] ["machine","track"] (defScope s_tree_dropped):=⟨rfl,rfl,rfl,by decide +kernel,rfl,by decide +kernel,by decide +kernel⟩
abbrev qs_tree_dropped:List (Pos × Str):=[(⟨106,4,107,78⟩,"tree_dropped.<locals>.comings"),(⟨109,4,110,46⟩,"tree_dropped.<locals>.is_end")]
theorem zi2 {c Pd Pt:Addr} (T:Txt K mg cTooGreat cSayError cs) (d:DfnC K mg "tree_dropped" s_tree_dropped ["machine","track"] c Pd) (kb:BltK base mg) (C_is_below:Cal P w K mg base 2 "is_below" ["thing","bound"] zhp) (C_both_letters:Cal P w K mg base 1 "both_letters" ["letter","track"] zmn) (C_rooms_above:Cal P w K mg base 2 "rooms_above" ["machine","letters","lefts","rights"] zj5) (C_renamed:Cal P w K mg base 1 "renamed" ["rooms","numbers"] zgd)
  (C_tree_exploredX:CalE P w K mg base 5 "tree_explored" ["tracks","comings","first","is_end","most"] (zhj cTooGreat P w K mg base)) (C_tree_least:Cal P w K mg base 6 "tree_least" ["machine"] (zep Pt qs_tree_least)) :
  CalE P w K mg base 8 "tree_dropped" ["machine","track"] (zeq (cs.getD 0 0) cTooGreat Pt qs_tree_least Pd qs_tree_dropped):=by
 refine d.calE sc_tree_dropped (fun vs H Q E h=>?_) (fun f A outer s H vs Q E hr h R=>?_)
 ·obtain ⟨a,m,t,rfl,_⟩:=h
  rfl
 obtain ⟨a,m,t,rfl,tl,tp,rm,ok,hn6,qn,qt⟩:=h
 obtain ⟨b1,c1,ts1,ea,eb1,pr1,ec1⟩:=id rm
 have hw3:=ok.wid
 refine ⟨_,(zac (zb1 (zdk (zc3 (zao C_is_below hr (by omega) (by rfl) (pa_c (pv 1) (pa_c (zaq (zaj K) (pv 0) zad (fun _ _=>rfl)) zaa))))) (zae (zhu R rfl (by rfl) T.m_NoWidth T.x_NoWidth F.excBase_ValueError (pa_c zrp zaa))) za2) (zac (zan (i:=2) sc_tree_dropped.nd rfl (Or.inr rfl) (zas ["letter"] [(1,"track")] (CompOk.of rfl (by rfl) (by rfl)) (by rfl) (zaw (by rfl) T.b_range (pa_c (zap zhw zad (zap zf1 (zaq (zaj K) (pv 0) zad (fun _ _=>rfl)) zad)) zaa)) (fun _ _ _ _ _=>(zah (i:=0) (show List.Nodup (["letter","track"]:List Str) by decide +kernel) (by rfl) (Or.inl (by rfl)))) (fun _ _ _ _ _=>za4) (fun _ _ _ _ _=>(zao C_both_letters hr (by omega) (by rfl) (pa_c (pv 0) (pa_c (pv 1) zaa)))))) (zac (zm1 (qs:=qs_tree_dropped) "tree_dropped.<locals>.comings" (j:=3) rfl d.code kb (by rfl) (by rfl) sc_tree_dropped.nd rfl rfl) (zac (zm1 (qs:=qs_tree_dropped) "tree_dropped.<locals>.is_end" (j:=4) rfl d.code kb (by rfl) (by rfl) sc_tree_dropped.nd rfl rfl) (zae (zar (zao C_tree_least hr (by omega) (by rfl) (pa_c (zlj R C_tree_exploredX hr (by omega) (by rfl) (fun _=>rfl) (pa_c (zap zf1 (zaq (zaj K) (pv 0) zad (fun _ _=>rfl)) zad) (pa_c (pv 3) (pa_c (zay (pa_c zad zaa)) (pa_c (pv 4) (pa_c (zfo (by rfl) T.g_MOST_TREE_COME_TO) zaa)))))) zaa)))))))),?_⟩
 refine zba [some (.ref a),some (.int t),none,none,none] rfl ?_
 trivial
 refine ⟨_,.of ea,_,zd2,t,_,rfl,?_⟩
 by_cases hb:0 ≤ t∧t < m.w
 ·rw [decide_eq_true hb]
  refine ⟨_,rfl,iteF ?_⟩
  obtain ⟨tn,rfl⟩:∃ n:Nat,t=(n:Int):=⟨t.toNat,by omega⟩
  have qt':TreeR cTooGreat (dropTT m tn) [0] H Q E:=qt hb
  have ht:tn < m.w:=by omega
  have hps:1 ≤ 2 ^ (m.w - 1)∧2 ^ (m.w - 1) ≤ 16:=zbu (by omega)
  have h1000:2 ^ (m.w - 1) ≤ 1000:=y13 hps.2 (by decide)
  have hz:((1:Int) * 2 ^ (((m.w:Nat):Int) - 1).toNat)=((2 ^ (m.w - 1):Nat):Int):=by
   rw [Int.one_mul,show (((m.w:Nat):Int) - 1).toNat=m.w - 1 by omega];exact zsy _
  refine ⟨_,.of ea,_,zd2,_,rfl,⟨by omega,by omega,by decide⟩,by rw [hz];omega,by rw [hz];omega,?_⟩
  rw [hz,y1u]
  refine zdd (n:=2 ^ (m.w - 1)) (fun σ=>∃ v,σ=[v,some (nV tn)]) (fun j y H=>Line H y (twoL j tn)) h1000 ⟨none,by simp [stB]⟩ (fun i H' hi gg=>hi) (fun H' gg=>y05 _) ?_ ?_
  ·rintro D i ys σ H1 x H1' hi gg hD hD' hll hy ⟨v,rfl⟩ ⟨rfl,rfl⟩
   simp only [gName,tNil,tCons,tCall,tYes,zdi,zfn,y1v,y0s,if_true]
   refine ⟨i,tn,by simp,by omega,by omega,fun p H2 n2=>zbi (fun j y H H' ts z=>z.ts ts) h1000 hi hD (n2.g _ _ hD') hll hy n2.g.tups (gg.trans n2.g) ⟨_,rfl⟩ ⟨p,rfl,n2.at'⟩⟩
  intro D ys H1 hD g1 eD hll hy
  refine ⟨tp.same g1,fun f1 H2 M1=>⟨tp.same (g1.trans M1.old),fun f2 H3 M2=>⟨_,.of ((g1.trans (M1.old.trans M2.old)) _ _ ea),_,zd2,_,rfl,zab (by simp),fun t0 H4 n4 Hq ad=>?_⟩⟩⟩
  have g14:Same H1 H4:=M1.old.trans (M2.old.trans n4.g)
  have g4:Same H H4:=g1.trans g14
  have gq:Same H Hq:=g4.trans ad.up
  have g1q:Same H1 Hq:=g14.trans ad.up
  obtain ⟨fd1,ef1⟩:=M1.fn
  obtain ⟨fd2,ef2⟩:=M2.fn
  have pl:Paired (Line H1) ys ((List.range (2 ^ (m.w - 1))).map fun l=>twoL l tn):=by
   refine zbn (by rw [hll,y00,y0t]) fun j v l e1 e2=>?_
   have hj:j < 2 ^ (m.w - 1):=by rw [← hll];exact (y04.mp e1).1
   rw [y02,y0j hj] at e2
   cases e2
   exact hy j v e1
  have clc:CloH P w K mg base 4 Hq f1 2 (zgg (fun H=>RepT H a m∧H D=some (.lst ys)∧Paired (Line H) ys ((List.range (2 ^ (m.w - 1))).map fun l=>twoL l tn)) (dropTT m tn) (SetGT m)):=by
   refine M1.clo_sM (own:=["lefts","rights"]) (ps:=["lefts","rights"]) (cap:=["machine","letters"]) (cv:=[.ref a,.ref D]) (k:=3) (M2.old.trans n4.g) ad ⟨rfl,rfl,rfl,rfl,by decide +kernel,by decide +kernel,by decide +kernel,by decide +kernel⟩ (y05 _) (.cons ⟨0,rfl,rfl,.inl rfl⟩ (.cons ⟨2,rfl,rfl,.inl rfl⟩ .nil)) (fun cl ct cd pm=>L2.fit2 fun _ _=>rfl) ?_
   rintro clo c' A' outer' s' H' vs Q' hr hcl fz fz2 hl ⟨pa,pb,s1,s2,rfl,⟨hR1,hR2,hR3⟩,eta,etb,gs1,gs2,q'⟩
   refine ⟨_,(zae (zar (zas ["both"] [(2,"machine"),(0,"lefts"),(1,"rights")] (CompOk.of rfl (by rfl) (by rfl)) (by rfl) (zaz K (pv 3)) (fun _ _ _ _ _=>(zah (i:=0) (show List.Nodup (["both","machine","lefts","rights"]:List Str) by decide +kernel) (by rfl) (Or.inl (by rfl)))) (fun _ _ _ _ _=>za4) (fun _ _ _ _ _=>(zao C_rooms_above hr (by omega) (by rfl) (pa_c (pv 1) (pa_c (pv 0) (pa_c (pv 2) (pa_c (pv 3) zaa))))))))),?_⟩
   refine zba [some (.ref pa),some (.ref pb),some (.ref a),some (.ref D)] rfl ?_
   trivial
   have hR1':=hR1.ts (SameN.tups hcl.n)
   have eD':=hcl.n _ _ hR2 (fun _ _ z=>nomatch z)
   have pl':=L2.Paired.mapP hR3 (fun _ _ z=>z.ts (SameN.tups hcl.n))
   have eta':=hcl.n _ _ eta (fun _ _ z=>nomatch z)
   have etb':=hcl.n _ _ etb (fun _ _ z=>nomatch z)
   refine ⟨⟨_,.of eD'⟩,zdd (n:=2 ^ (m.w - 1)) (fun σ=>∃ v,σ=[v,some (.ref a),some (.ref pa),some (.ref pb)]) (fun j y H=>Line H y (upT m (twoL j tn) s1 s2)) h1000 ⟨_,rfl⟩ (fun i H5 hi gg=>⟨_,ys[i]'(by rw [hll];exact hi),.of (gg _ _ eD'),y01 _⟩) (fun H5 gg=>⟨_,.of (gg _ _ eD'),y3m hll⟩) ?_ ?_⟩
   ·rintro D2 i zs σ H5 y H5' hi gg hD hD' hll2 hy2 ⟨v,rfl⟩ ⟨rfl,yx⟩
    have ex:=yx _ (.of (gg _ _ eD'))
    obtain ⟨l,el,p,rfl,ep⟩:=SS.Paired.at pl' ex
    rw [y02,y0j hi] at el
    cases el
    simp only [gName,tNil,tCons,tCall,tYes,zdi,zfn,y1v,y0s,if_true]
    exact ⟨a,p,pa,pb,m,twoL i tn,s1,s2,rfl,hR1'.same gg,ok,hn6,gg _ _ ep,gg _ _ eta',gg _ _ etb',zjx ok ht hi,by simp,gs1,gs2,fun p' H6 g6 e6=>zbi (fun j y H H' ts z=>z.ts ts) h1000 hi hD (g6 _ _ hD') hll2 hy2 g6.tups (gg.trans g6) ⟨_,rfl⟩ ⟨p',rfl,e6⟩⟩
   intro D2 zs H5 hD2 g5 eD2 hll2 hy2 hn
   refine q' D2 zs (mixL clo H' H5) (zff hD2 eD2 hn) (zdo g5) (zkj hn _ _ eD2) ?_
   refine zbn (by rw [hll2];simp [dropTT]) fun j v l e1 e2=>?_
   have hj:j < 2 ^ (m.w - 1):=by rw [← hll2];exact (y04.mp e1).1
   have e2':((List.range (2 ^ (m.w - 1))).map fun l=>upT m (twoL l tn) s1 s2)[j]?=some l:=e2
   rw [y02,y0j hj] at e2'
   cases e2'
   obtain ⟨p,rfl,ep⟩:=hy2 j v e1
   exact ⟨p,rfl,zkj hn _ _ ep⟩
  have cle:CloH P w K mg base 4 Hq f2 1 (zgf (fun H=>RepT H a m∧H D=some (.lst ys)∧Paired (Line H) ys ((List.range (2 ^ (m.w - 1))).map fun l=>twoL l tn)) (dropTT m tn) (SetGT m)):=by
   refine M2.clo_s (own:=["rooms"]) (ps:=["rooms"]) (cap:=["machine"]) (cv:=[.ref a]) (k:=3) n4.g ad ⟨rfl,rfl,rfl,by decide +kernel,rfl,by decide +kernel,by decide +kernel,by decide +kernel⟩ (y05 _) (.cons ⟨0,rfl,rfl,.inl rfl⟩ .nil) (fun cl ct cd pm=>L2.fit1 fun _=>rfl) ?_
   rintro clo c' A' outer' s' H' vs Q' hr hcl fz fz2 hl ⟨pa,s1,rfl,⟨hR1,hR2,hR3⟩,et,gs1,q'⟩
   refine ⟨_,(zae (zar (zau (zg3 K rfl) (by rfl) T.b_any boot_any (pa_c (zao C_renamed hr (by omega) (by rfl) (pa_c (pv 0) (pa_c (zaq (zaj K) (pv 1) zad (fun _ _=>rfl)) zaa))) zaa)))),?_⟩
   refine zba [some (.ref pa),some (.ref a)] rfl ?_
   trivial
   have hR1':=hR1.ts (SameN.tups hcl.n)
   have et':=hcl.n _ _ et (fun _ _ z=>nomatch z)
   obtain ⟨b1',c1',rs1',ea',eb1',pr',ec1'⟩:=id hR1'
   refine ⟨_,.of ea',_,zai (j:=2) rfl,pa,c1',s1,_,fun x=>V.bl (m.fin x),rfl,et',by have:=gs1.len;omega,ec1',fun x hx=>by rw [y02,Tm.fin_at (gs1.2 x hx)];rfl,fun p H5 g5 e5=>⟨p,rfl,s1.map m.fin,.of (by rw [e5,y0v];rfl),fun hn=>?_⟩⟩
   have:=q' (mixL clo H' H5) (zdo g5)
   rw [List.any_map]
   exact this
  have good:∀ fs,TFndT (dropTT m tn) [0] fs (alls fs.length)→∀ a ∈ fs,∀ b ∈ fs,((dropTT m tn).com a b).length=2 ^ (dropTT m tn).w:=fun fs F a _ b _=>dropTT_step.1
  have hw':(dropTT m tn).w ≤ 3:=by show m.w - 1 ≤ 3;omega
  refine ⟨t0,f1,f2,fd1,fd2,dropTT m tn,SetGT m,(fun H=>RepT H a m∧H D=some (.lst ys)∧Paired (Line H) ys ((List.range (2 ^ (m.w - 1))).map fun l=>twoL l tn)),[0],30,?_,y05 _,by decide,ad.up _ _ n4.at',((M2.old.trans n4.g).trans ad.up) _ _ ef1,(n4.g.trans ad.up) _ _ ef2,clc,cle,⟨rm.same gq,g1q _ _ eD,L2.Paired.mapP pl fun _ _ z=>z.ts g1q.tups⟩,(fun H5 H6 g z=>⟨z.1.same g,g _ _ z.2.1,L2.Paired.mapP z.2.2 fun _ _ y=>y.ts g.tups⟩),hw',setG0 ok,(fun _ _ _ _=>dropTT_step),(fun fs F hl p H5 g5 rp=>?_),fun fs F hl e H5 g5 n5=>qt'.2 fs F hl e _ (g4.trans (ad.same g5)) (zlz n5)⟩
  ·show [V.int (((m.w:Nat):Int) - 1),V.ref f1,V.ref t0,V.ref f2,V.int 30]=[V.int (((m.w - 1:Nat)):Int),V.ref f1,V.ref t0,V.ref f2,nV 30]
   rw [show (((m.w - 1:Nat)):Int)=((m.w:Nat):Int) - 1 by omega]
   rfl
  have okx:=zma (T:=dropTT m tn) hw' F.all hl (good fs F)
  have g5':=g4.trans (ad.same g5)
  have rp':RepT (dropX _ H5) p (xplT (dropTT m tn) fs):=rp.ts fun b xs e=>ad.keep g5 e (fun _ _ z=>nomatch z)
  dsimp only
  exact ⟨p,_,rfl,tl.same g5',rp',okx,fun p2 ns k H6 g6 r6 S k0 kn=>qt'.1 fs F hl okx p2 _ H6 (g5'.trans g6) r6 (zpl hw' F hl (good fs F) S k0 (by rw [zju] at kn;exact kn))⟩
 ·rw [decide_eq_false hb]
  exact ⟨_,rfl,iteT ⟨zab (by simp),fun a0 n0=>qn hb a0 H (Same.refl _) n0⟩⟩
abbrev s_law_told:Stmt:=top 39
theorem sc_law_told:FnScope ["_law_machine_here","_law_track","_law_kinds","_law_found","e"] ["_law_machine_here","_law_track"] (defScope s_law_told):=⟨rfl,rfl,rfl,by decide +kernel,rfl,by decide +kernel,by decide +kernel⟩
theorem zno {Pt Pd:Addr} (T:Txt K mg cTooGreat cSayError cs) (d:Dfn K mg "_law_told" s_law_told ["_law_machine_here","_law_track"]) (C_tree_dropped:CalE P w K mg base 8 "tree_dropped" ["machine","track"] (zeq (cs.getD 0 0) cTooGreat Pt qs_tree_least Pd qs_tree_dropped)) :
  Cal P w K mg base 9 "_law_told" ["_law_machine_here","_law_track"] (zeo Pt qs_tree_least Pd qs_tree_dropped):=by
 refine d.cal sc_law_told (fun vs H Q E h=>?_) (fun f cdv A outer s H vs Q E hr h=>?_)
 ·obtain ⟨a,m,t,rfl,_⟩:=h
  rfl
 obtain ⟨a,m,t,rfl,tl,td,rm,ok,hn6,q⟩:=h
 refine ⟨_,(zac (zan (i:=2) sc_law_told.nd rfl (Or.inl rfl) (zat zaa)) (zac (zan (i:=3) sc_law_told.nd rfl (Or.inl rfl) pe_non) (zac (zsu C_tree_dropped hr (by omega) (by rfl) (pa_c (pv 0) (pa_c (pv 1) zaa)) (by rfl) T.m_SayError T.k_SayError rfl rfl rfl sc_law_told.nd (i:=3) rfl (Or.inl rfl) (j:=4) rfl rfl fun _=>(zac (zan (i:=2) sc_law_told.nd rfl (Or.inl rfl) (zat (pa_c (zau (zbq K) (by rfl) T.b_isinstance boot_isinstance (pa_c (pv 4) (pa_c (zfo (v:=V.ref _) (by rfl) ⟨_,T.m_NoWidth,rfl⟩) zaa))) (pa_c (zau (zbq K) (by rfl) T.b_isinstance boot_isinstance (pa_c (pv 4) (pa_c (zfo (v:=V.ref _) (by rfl) ⟨_,T.m_TooGreat,rfl⟩) zaa))) (pa_c (zau (zbq K) (by rfl) T.b_isinstance boot_isinstance (pa_c (pv 4) (pa_c (zfo (v:=V.ref _) (by rfl) ⟨_,T.m_NoText,rfl⟩) zaa))) (pa_c (zau (zbq K) (by rfl) T.b_isinstance boot_isinstance (pa_c (pv 4) (pa_c (zfo (v:=V.ref _) (by rfl) ⟨_,T.m_NoFrame,rfl⟩) zaa))) zaa)))))) (zac (zan (i:=2) sc_law_told.nd rfl (Or.inl rfl) (zap ze2 (pv 2) (zat (pa_c (zau (zbq K) (by rfl) T.b_isinstance boot_isinstance (pa_c (pv 4) (pa_c (zfo (v:=V.ref _) (by rfl) ⟨_,T.m_NoSaying,rfl⟩) zaa))) (pa_c (zau (zbq K) (by rfl) T.b_isinstance boot_isinstance (pa_c (pv 4) (pa_c (zfo (v:=V.ref _) (by rfl) ⟨_,T.m_NoRow,rfl⟩) zaa))) (pa_c (zau (zbq K) (by rfl) T.b_isinstance boot_isinstance (pa_c (pv 4) (pa_c (zfo (v:=V.ref _) (by rfl) ⟨_,T.m_NoTree,rfl⟩) zaa))) zaa)))))) (zae (zan (i:=2) sc_law_told.nd rfl (Or.inl rfl) (zap ze2 (pv 2) (zat (pa_c (zau (zbq K) (by rfl) T.b_isinstance boot_isinstance (pa_c (pv 4) (pa_c (zfo (v:=V.ref _) (by rfl) ⟨_,T.m_NoNumber,rfl⟩) zaa))) (pa_c (zau (zbq K) (by rfl) T.b_isinstance boot_isinstance (pa_c (pv 4) (pa_c (zfo (v:=V.ref _) (by rfl) ⟨_,T.m_NoLine,rfl⟩) zaa))) (pa_c (zna (zau (zl4 K) (by rfl) T.b_isinstance boot_isinstance (pa_c (pv 4) (pa_c (zbv (v:=.ty "ValueError") (by rfl) T.b_ValueError (by rfl) (by rfl)) zaa)))) zaa)))))))))) (zae (zar (zay (pa_c (pv 2) (pa_c (pv 3) zaa)))))))),?_⟩
 refine zba [some (.ref a),some (.int t),none,none,none] rfl ?_
 trivial
 refine ⟨zab (by simp),fun l0 H0 n0=>?_⟩
 have el0:H0 l0=some (.lst (([]:List Bool).map V.bl)):=n0.at'
 refine ⟨a,m,t,rfl,tl.same n0.g,td.same n0.g,rm.same n0.g,ok,hn6,fun hne e H1 g1 _ a' ea'=>?_,fun hin=>⟨fun fs F hf ok' p m' H1 g1 r1 rd=>⟨zab (by simp),fun p2 H2 n2=>?_⟩,fun fs S hf e H1 g1 _ a' ea'=>?_⟩⟩
 ·cases ea'
  refine ⟨_,rfl,T.msN,fun H3 g3 ee=>?_⟩
  have fin:Told48 m t [true,false,false,false,false,false,false,false,false,false] none:=.inl ⟨hne,rfl,rfl⟩
  have kx:=T.kxN
  have z0:=T.i1N
  have z1:=T.iTN
  refine ⟨_,ee,kx,_,z0,_,ee,kx,_,z1,_,ee,kx,_,T.iNN 0 (by decide),_,ee,kx,_,T.iNN 1 (by decide),zab (by simp),fun p1 Ha na=>?_⟩
  have ea:=na.g _ _ ee
  refine ⟨_,ea,kx,_,T.iNN 2 (by decide),_,ea,kx,_,T.iNN 3 (by decide),_,ea,kx,_,T.iNN 4 (by decide),zab (by simp),fun p2 Hb nb=>⟨_,nb.g _ _ na.at',_,nb.at',zab (by simp),fun p3 Hc nc=>?_⟩⟩
  have ec:=(nb.g.trans nc.g) _ _ ea
  refine ⟨_,ec,kx,_,T.iNN 5 (by decide),_,ec,kx,_,T.iNN 6 (by decide),_,ec,kx,_,T.iVN,zab (by simp),fun p4 Hd nd=>⟨_,nd.g _ _ nc.at',_,nd.at',zab (by simp),fun p5 He ne'=>⟨⟨_,rfl⟩,zab (by simp),fun p6 Hf nf=>?_⟩⟩⟩
  refine q p6 p5 .non _ none Hf (n0.g.trans (g1.trans (g3.trans (na.g.trans (nb.g.trans (nc.g.trans (nd.g.trans (ne'.g.trans nf.g)))))))) nf.at' ?_ rfl fin
  exact nf.g _ _ ne'.at'
 ·exact q p2 l0 (.ref p) [] (some m') H2 (n0.g.trans (g1.trans n2.g)) n2.at' ((g1.trans n2.g) _ _ el0) ⟨p,rfl,r1.same n2.g⟩ (.inr (.inl ⟨hin,fs,hf,F,rfl,m',rfl,rd⟩))
 ·cases ea'
  refine ⟨_,rfl,T.ms,fun H3 g3 ee=>?_⟩
  have fin:Told48 m t [false,true,false,false,false,false,false,false,false,false] none:=.inr (.inr ⟨hin,fs,hf,S,rfl,rfl⟩)
  have kx:=T.kx
  have z0:=T.iN 0 (by decide)
  have z1:=T.i1
  refine ⟨_,ee,kx,_,z0,_,ee,kx,_,z1,_,ee,kx,_,T.iN 1 (by decide),_,ee,kx,_,T.iN 2 (by decide),zab (by simp),fun p1 Ha na=>?_⟩
  have ea:=na.g _ _ ee
  refine ⟨_,ea,kx,_,T.iN 3 (by decide),_,ea,kx,_,T.iN 4 (by decide),_,ea,kx,_,T.iN 5 (by decide),zab (by simp),fun p2 Hb nb=>⟨_,nb.g _ _ na.at',_,nb.at',zab (by simp),fun p3 Hc nc=>?_⟩⟩
  have ec:=(nb.g.trans nc.g) _ _ ea
  refine ⟨_,ec,kx,_,T.iN 6 (by decide),_,ec,kx,_,T.iN 7 (by decide),_,ec,kx,_,T.iV,zab (by simp),fun p4 Hd nd=>⟨_,nd.g _ _ nc.at',_,nd.at',zab (by simp),fun p5 He ne'=>⟨⟨_,rfl⟩,zab (by simp),fun p6 Hf nf=>?_⟩⟩⟩
  refine q p6 p5 .non _ none Hf (n0.g.trans (g1.trans (g3.trans (na.g.trans (nb.g.trans (nc.g.trans (nd.g.trans (ne'.g.trans nf.g)))))))) nf.at' ?_ rfl fin
  exact nf.g _ _ ne'.at'
abbrev s_law_sets:Stmt:=top 38
theorem sc_law_sets:FnScope ["_law_machine_here","_law_track","_law_found","_law_pairs","_law_known","_law_at","_law_k","_law_left","_law_right_here","_law_letter","_law_some","_law_pair"] ["_law_machine_here","_law_track","_law_found"] (defScope s_law_sets):=⟨rfl,rfl,rfl,by decide +kernel,rfl,by decide +kernel,by decide +kernel⟩
theorem zns (T:Txt K mg cTooGreat cSayError cs) (d:Dfn K mg "_law_sets" s_law_sets ["_law_machine_here","_law_track","_law_found"]) (C_law_set:Cal P w K mg base 2 "_law_set" ["_law_machine_here","_law_track","_law_letter","_law_left","_law_right_here"] zj3):Cal P w K mg base 3 "_law_sets" ["_law_machine_here","_law_track","_law_found"] zhk:=by
 refine d.cal sc_law_sets (fun vs H Q E h=>?_) (fun f cdv A outer s H vs Q E hr h=>?_)
 ·obtain ⟨a,c,m,m3,t,rfl,_⟩:=h
  rfl
 obtain ⟨a,c,m,m3,t,rfl,rm,rm3,ok,o3,hn6,ht,hw3,q⟩:=h
 obtain ⟨b1,c1,rs1,ea,eb1,pr1,ec1⟩:=id rm
 obtain ⟨b3,c3,rs3,ec,eb3,pr3,ec3⟩:=id rm3
 have hu:=zfq hr 8 (by decide)
 have hwid:=ok.wid
 have hps:1 ≤ 2 ^ (m.w - 1)∧2 ^ (m.w - 1) ≤ 4:=⟨y3q,by have:2 ^ (m.w - 1) ≤ 2 ^ 2:=y2q (by decide) (by omega);omega⟩
 have hpw:2 ^ m.w=2 ^ (m.w - 1) * 2:=by rw [← y3i];congr 1;omega
 have htl1:rs1.length=2 ^ m.w:=by rw [SS.Paired.len pr1,ok.len]
 generalize eT:setTT m m3 t=TT at q
 refine ⟨_,(zac (zan (i:=3) sc_law_sets.nd rfl (Or.inl rfl) (zat (pa_c (zay (pa_c (zay (pa_c zad zaa)) (pa_c zad zaa))) zaa))) (zac (zan (i:=4) sc_law_sets.nd rfl (Or.inl rfl) (zne hu (zay (pa_c (zay (pa_c zad zaa)) (pa_c zad zaa))) zcg)) (zac (zan (i:=5) sc_law_sets.nd rfl (Or.inl rfl) zad) (zac (zef PassesOwn.never (zax zlk (pv 5) (zau (zak K) (by rfl) T.b_len boot_len (pa_c (pv 3) zaa)) (nomark _)) (zac (za5 PassesOwn.never rfl (zaw (by rfl) T.b_range (pa_c (zap zbe (pv 5) zad) zaa)) (zah (i:=6) sc_law_sets.nd (by rfl) (Or.inl (by rfl))) (zae (za5 PassesOwn.never rfl (zaz K (zat (pa_c (zay (pa_c (zaq (za3 K) (pv 3) (pv 6) (fun _ _=>rfl)) (pa_c (zaq (za3 K) (pv 3) (pv 5) (fun _ _=>rfl)) zaa))) (pa_c (zay (pa_c (zaq (za3 K) (pv 3) (pv 5) (fun _ _=>rfl)) (pa_c (zaq (za3 K) (pv 3) (pv 6) (fun _ _=>rfl)) zaa))) zaa)))) (zez K (n:=2) rfl (zbm (zah (i:=7) sc_law_sets.nd (by rfl) (Or.inl (by rfl))) (zbm (zah (i:=8) sc_law_sets.nd (by rfl) (Or.inl (by rfl))) zey))) (zae (za5 PassesOwn.never rfl (zaw (by rfl) T.b_range (pa_c (zap zb0 (zau (zak K) (by rfl) T.b_len boot_len (pa_c (zaq (zaj K) (pv 0) zad (fun _ _=>rfl)) zaa)) zad) zaa)) (zah (i:=9) sc_law_sets.nd (by rfl) (Or.inl (by rfl))) (zac (zan (i:=10) sc_law_sets.nd rfl (Or.inl rfl) (zao C_law_set hr (by omega) (by rfl) (pa_c (pv 0) (pa_c (pv 1) (pa_c (pv 9) (pa_c (zaq (zaj K) (pv 7) zad (fun _ _=>rfl)) (pa_c (zaq (zaj K) (pv 8) zad (fun _ _=>rfl)) zaa))))))) (zac (zan (i:=11) sc_law_sets.nd rfl (Or.inl rfl) (zay (pa_c (pv 10) (pa_c (zaq (zaj K) (zaq (zaj K) (zaq (zaj K) (zaq (zaj K) (pv 2) zad (fun _ _=>rfl)) (pv 9) (fun _ _=>rfl)) (zaq (zaj K) (pv 7) zad (fun _ _=>rfl)) (fun _ _=>rfl)) (zaq (zaj K) (pv 8) zad (fun _ _=>rfl)) (fun _ _=>rfl)) zaa)))) (zae (zb1 (zax (znj hu) (pv 11) (pv 4) (by with_unfolding_all rfl)) (zac (zp3 hu (pv 4) (pv 11) zcg rfl) (zae (zbz (zck K PySem.F.plainAttrs_list PySem.F.slot_list_append PySem.F.type_list_append za9 (pv 3) (pa_c (pv 11) zaa))))) za2))))))))) (zac (zb1 (zax zqf (zau (zak K) (by rfl) T.b_len boot_len (pa_c (pv 3) zaa)) zad (nomark _)) (zae (zar (pv 3))) za2) (zae (zan (i:=5) sc_law_sets.nd rfl (Or.inl rfl) (zap zbe (pv 5) zad)))))) (zae (zar (pv 3))))))),?_⟩
 refine zba [some (.ref a),some (nV t),some (.ref c),none,none,none,none,none,none,none,none,none] rfl ?_
 trivial
 refine ⟨zab (by simp),fun q0 G0 n0=>⟨zab (by simp),fun t0 G1 n1=>⟨zab (by simp),fun p G2 n2 kd G3 n3=>⟨zab (by simp),fun q1 G4 n4=>⟨zab (by simp),fun t1 G5 n5=>⟨(n4.g.trans n5.g) _ _ n3.at',k2 ([0],0),zi6 (p:=([0],0)) n5.at' (n5.g _ _ n4.at'),fun H4 eH4=>?_⟩⟩⟩⟩⟩⟩
 have g35:Same G2 G5:=n3.g.trans (n4.g.trans n5.g)
 have g05:Same H G5:=n0.g.trans (n1.g.trans (n2.g.trans g35))
 have npk:p ≠ kd:=zaf n2.at' n3.nil
 have hkd:H kd=none:=(n0.g.trans (n1.g.trans n2.g)).free n3.nil
 have hpn:H p=none:=(n0.g.trans n1.g).free n2.nil
 have g4:Same H H4:=by rw [eH4];exact g05.wr hkd _
 have ts4:TupS G5 H4:=by rw [eH4];exact zjy ((n4.g.trans n5.g) _ _ n3.at') _
 have ep4:H4 p=some (.lst [.ref t0]):=by rw [eH4,zal npk];exact g35 _ _ n2.at'
 have ek4:H4 kd=some (dN P w kd [(k2 ([0],0),t1,.bl true)]):=by rw [eH4];exact zam
 have pl4:SLine H4 (.ref t0) [0,0]:=⟨t0,q0,rfl,ts4 _ _ ((n2.g.trans g35) _ _ n1.at'),ts4 _ _ ((n1.g.trans (n2.g.trans g35)) _ _ n0.at')⟩
 have kk4:Keys H4 [(k2 ([0],0),t1,V.bl true)]:=fun y hy=>by
  rw [y07.mp hy]
  exact (zi6 (p:=([0],0)) n5.at' (n5.g _ _ n4.at')).ts ts4
 clear eH4
 refine ⟨fun mm σ H'=>∃ (i:Nat) (v6 v7 v8 v9 v10 v11:Option V) (rs:List V) (ls:List (List Nat)) (ys:List NRow),mm=100 - i∧Same H H'∧σ=[some (.ref a),some (nV t),some (.ref c),some (.ref p),some (.ref kd),some (nV i),v6,v7,v8,v9,v10,v11]∧H' p=some (.lst rs)∧Paired (SLine H') rs ls∧H' kd=some (dN P w kd ys)∧Keys H' ys∧(ys.map (·.1)=ls.map fun p=>k2 (dec p))∧TSome TT [0,0] ls∧ls[0]?=some [0,0]∧CloT TT ls i∧ls.length ≤ 40,
  ⟨100,0,none,none,none,none,none,none,[.ref t0],[[0,0]],_,rfl,g4,rfl,ep4,.cons pl4 .nil,ek4,kk4,rfl,zmg,rfl,zo4,by decide⟩,?_⟩
 rintro mm σ H' ⟨i,v6,v7,v8,v9,v10,v11,rs,ls,ys,rfl,g,rfl,ep,pr,ek,kk,eys,ts,hd,cl,hll⟩
 have hrl:=SS.Paired.len pr
 trivial
 refine ⟨_,.inl (.of ep),?_⟩
 by_cases hlt:i < ls.length
 ·rw [decide_eq_true (by omega)]
  refine iteT ⟨fun σ' H''=>∃ m',m' < 100 - i∧_,fun σ' H'' z=>z,?_⟩
  refine ⟨by omega,by omega,?_⟩
  rw [show ((i:Int) + 1).toNat=i + 1 by omega]
  have shp:∀ x (hx:x < ls.length),∃ z S,ls[x]?=some (z :: S)∧z < m3.n∧SetGT m S∧RchT TT [0,0] (z :: S):=fun x hx=>by
   have r:=ts.come _ (y0q hx)
   rw [← eT] at r
   obtain ⟨z,S,e,h1,h2⟩:=zb8 ok o3 hw3 r
   rw [eT] at r
   exact ⟨z,S,by rw [y01 hx,e],h1,h2,e ▸ r⟩
  obtain ⟨z2,S2,eli,hz2,hS2,hR2⟩:=shp i hlt
  refine zb6 (fun k σ H''=>Same H H''∧(∃ v6 v7 v8 v9 v10 v11,σ=[some (.ref a),some (nV t),some (.ref c),some (.ref p),some (.ref kd),some (nV i),v6,v7,v8,v9,v10,v11])∧SSt P w H'' p kd TT ls (DoneT TT ls i k) (40 + 8 * k))
   ⟨g,⟨_,_,_,_,_,_,rfl⟩,rs,ls,ys,ep,pr,ek,kk,eys,.start ts cl hll⟩ ?_ ?_
  ·rintro k σ H'' hk ⟨g2,⟨v6,v7,v8,v9,v10,v11,rfl⟩,rs',ls',ys',ep2,pr',ek2,kk2,eys2,ex2⟩
   obtain ⟨z1,S1,elk,hz1,hS1,hR1⟩:=shp k (by omega)
   have elk2:=(ex2.at (show k < ls.length by omega)).trans elk
   have eli2:=(ex2.at hlt).trans eli
   obtain ⟨v,evk,u1,w1,rfl,et1,ew1⟩:=Paired.at2 pr' elk2
   obtain ⟨v,evi,u2,w2,rfl,et2,ew2⟩:=Paired.at2 pr' eli2
   have evk':atI rs' (0 + (k:Int))=some (.ref u1):=by rw [y2p];exact zai evk
   trivial
   refine ⟨_,.of ep2,_,evk',_,.of ep2,_,zai evi,zab (by simp),fun q1 H5 n5=>⟨_,.of (n5.g _ _ ep2),_,zai evi,_,.of (n5.g _ _ ep2),_,evk',zab (by simp),fun q2 H6 n6=>⟨zab (by simp),fun D H7 n7=>?_⟩⟩⟩
   have g57:Same H'' H7:=n5.g.trans (n6.g.trans n7.g)
   have g27:=g2.trans g57
   have npD:p ≠ D:=zaf ((n5.g.trans n6.g) _ _ ep2) n7.nil
   have nkD:kd ≠ D:=zaf ((n5.g.trans n6.g) _ _ ek2) n7.nil
   generalize eDD:(fun j u=>DoneT TT ls i k u∨(1 ≤ j∧u ∈ TT.com (z1 :: S1) (z2 :: S2))∨(2 ≤ j∧u ∈ TT.com (z2 :: S2) (z1 :: S1)):Nat→List Nat→Prop)=DD
   have each:∀ (j:Nat) (yv:V),([V.ref q1,V.ref q2]:List V)[j]?=some yv→∃ (q u1 u2 w1 w2:Addr) (z1 z2:Nat) (S1 S2:List Nat),yv=.ref q∧H7 q=some (.tup [.ref u1,.ref u2])∧H7 u1=some (.tup [.ref w1,nV z1])∧H7 w1=some (.tup (S1.map nV))∧H7 u2=some (.tup [.ref w2,nV z2])∧H7 w2=some (.tup (S2.map nV))∧z1 < m3.n∧z2 < m3.n∧SetGT m S1∧SetGT m S2∧RchT TT [0,0] (z1 :: S1)∧RchT TT [0,0] (z2 :: S2)∧∀ u,DD (j + 1) u→DD j u∨u ∈ TT.com (z1 :: S1) (z2 :: S2):=by
    intro j yv h
    rcases j with _ | _ | j
    ·cases h
     refine ⟨q1,u1,u2,w1,w2,z1,z2,S1,S2,rfl,(n6.g.trans n7.g) _ _ n5.at',g57 _ _ et1,g57 _ _ ew1,g57 _ _ et2,g57 _ _ ew2,hz1,hz2,hS1,hS2,hR1,hR2,?_⟩
     rw [← eDD]
     rintro u (z | z | z)
     ·exact .inl (.inl z)
     ·exact .inr z.2
     ·omega
    ·cases h
     refine ⟨q2,u2,u1,w2,w1,z2,z1,S2,S1,rfl,n7.g _ _ n6.at',g57 _ _ et2,g57 _ _ ew2,g57 _ _ et1,g57 _ _ ew1,hz2,hz1,hS2,hS1,hR2,hR1,?_⟩
     rw [← eDD]
     rintro u (z | z | z)
     ·exact .inl (.inl z)
     ·exact .inl (.inr (.inl ⟨by omega,z.2⟩))
     ·exact .inr z.2
    ·simp at h
   refine ⟨⟨_,.of n7.at'⟩,?_⟩
   refine zcp (K:=K) (a:=D) (xs:=[.ref q1,.ref q2]) (fun j σ H8=>Same H H8∧TupS H7 H8∧H8 D=some (.lst [.ref q1,.ref q2])∧(∃ v6 v7 v8 v9 v10 v11,σ=[some (.ref a),some (nV t),some (.ref c),some (.ref p),some (.ref kd),some (nV i),v6,v7,v8,v9,v10,v11])∧SSt P w H8 p kd TT ls (DD j) (40 + 8 * k + 4 * j))
    ⟨g27,TupS.refl _,n7.at',⟨_,_,_,_,_,_,rfl⟩,rs',ls',ys',g57 _ _ ep2,L2.Paired.mapP pr' (fun _ _ z=>z.ts g57.tups),g57 _ _ ek2,kk2.ts g57.tups,eys2,ex2.weak (by rw [← eDD];rintro u (z | z | z);exact z;omega;omega) (by omega)⟩ (fun j σ H8 _ z=>.of z.2.2.1) ?_ ?_
   ·rintro j yv σ H8 hj ⟨g8,ts8,eD,⟨v6,v7,v8,v9,v10,v11,rfl⟩,rs3',ls3,ys3,ep3,pr3',ek3,kk3,eys3,ex3⟩
    have hj2:j < 2:=(y04.mp hj).1
    obtain ⟨q3,u1,u2,w1,w2,z1,z2,S1,S2,rfl,eq3,eu1,ew1,eu2,ew2,hz1,hz2,hS1,hS2,hA1,hA2,hDD⟩:=each j yv hj
    trivial
    refine ⟨_,.of (ts8 _ _ eq3),rfl,_,_,rfl,_,_,rfl,rfl,_,.of (g8 _ _ ea),_,zai (j:=1) rfl,b1,rfl,_,.inr (.of (g8 _ _ eb1)),⟨by decide,by decide⟩,by omega,by omega,?_⟩
    rw [htl1,show (((2 ^ m.w:Nat):Int) / 2).toNat=2 ^ (m.w - 1) by omega]
    refine zb6 (fun l σ H9=>Same H H9∧TupS H7 H9∧H9 D=some (.lst [.ref q1,.ref q2])∧(∃ v9 v10 v11,σ=[some (.ref a),some (nV t),some (.ref c),some (.ref p),some (.ref kd),some (nV i),v6,some (.ref u1),some (.ref u2),v9,v10,v11])∧SSt P w H9 p kd TT ls (fun u=>DD j u∨∃ l',l' < l∧u=m3.go l' z1 z2 :: upT m (twoL l' t) S1 S2) (40 + 8 * k + 4 * j + l))
     ⟨g8,ts8,eD,⟨_,_,_,rfl⟩,rs3',ls3,ys3,ep3,pr3',ek3,kk3,eys3,ex3.weak (by rintro u (z | ⟨l',z,_⟩);exact z;omega) (by omega)⟩ ?_ ?_
    ·rintro l σ H9 hl ⟨g9,ts9,eD9,⟨v9',v10',v11',rfl⟩,rs4,ls4,ys4,ep4,pr4,ek4,kk4,eys4,ex4⟩
     have hl3:l < 2 ^ m3.w:=by rw [← hw3];exact hl
     have hll4:=ex4.len
     have hrl4:=SS.Paired.len pr4
     have hyl:ys4.length=ls4.length:=by have:=congrArg List.length eys4;rwa [y00,y00] at this
     obtain ⟨s1,s2,rsC,lnC,i1,i2,i3,i4,i5⟩:=RepT.row pr3 o3 hl3 hz1 hz2
     have at3:atI rs3 (0 + (l:Int))=some (.ref s1):=by rw [y2p];exact zai i1
     trivial
     refine ⟨_,.of (ts9 _ _ eu1),_,zd2,_,.of (ts9 _ _ eu2),_,zd2,a,w1,w2,m,t,l,S1,S2,by simp,rm.same g9,ok,hn6,ht,hl,ts9 _ _ ew1,ts9 _ _ ew2,hS1,hS2,fun ps H10 g10 eps=>?_⟩
     have g910:=g9.trans g10
     have ts10:=ts9.trans g10.tups
     refine ⟨_,.of (g910 _ _ ec),_,zai (j:=1) rfl,b3,rfl,_,.of (g910 _ _ eb3),_,at3,_,.of (ts10 _ _ eu1),_,zai (j:=1) rfl,s1,rfl,_,_,rfl,.of (g910 _ _ i2),_,zai i3,_,.of (ts10 _ _ eu2),_,zai (j:=1) rfl,s2,rfl,_,_,rfl,.of (g910 _ _ i4),_,zai i5,zab (by simp),fun t5 H11 n11=>?_⟩
     generalize eu:m3.go l z1 z2 :: upT m (twoL l t) S1 S2=u
     have une:u ≠ []:=by rw [← eu];intro z;cases z
     have sl5:SLine H11 (.ref t5) u:=by rw [← eu];exact ⟨t5,ps,rfl,n11.at',n11.g _ _ eps⟩
     have nest5:NestAt H11 t5 (k2 (dec u)):=by rw [← eu];exact zi6 n11.at' (n11.g _ _ eps)
     have reach:RchT TT [0,0] u:=by rw [← eT] at hA1 hA2 ⊢;rw [← eu];exact .next hA1 hA2 (y09.mpr ⟨l,y0k.mpr hl,rfl⟩)
     have dn:∀ v,(DD j v∨∃ l',l' < l + 1∧v=m3.go l' z1 z2 :: upT m (twoL l' t) S1 S2)→(DD j v∨∃ l',l' < l∧v=m3.go l' z1 z2 :: upT m (twoL l' t) S1 S2)∨v=u:=by
      rintro v (z | ⟨l',z1,z2⟩)
      ·exact .inl (.inl z)
      ·by_cases hll':l' < l
       ·exact .inl (.inr ⟨l',hll',z2⟩)
       ·have:l'=l:=by omega
        subst this
        exact .inr (z2.trans eu)
     have gA:Same H9 H11:=g10.trans n11.g
     have neq:∀ p ∈ ls4,p ≠ []:=fun p hp=>by
      have r:=ex4.some.come p hp
      rw [← eT] at r
      obtain ⟨z,S,rfl,_⟩:=zb8 ok o3 hw3 r
      intro z;cases z
     have hval:=zpk eys4 neq une
     refine ⟨ys4,gA _ _ ek4,kk4.ts gA.tups,_,nest5,?_⟩
     by_cases hin:u ∈ ls4
     ·rw [decide_eq_true hin] at hval
      rw [hval]
      exact iteF ⟨g9.trans gA,ts9.trans gA.tups,gA _ _ eD9,rs4,ls4,ys4,gA _ _ ep4,L2.Paired.mapP pr4 (fun _ _ z=>z.ts gA.tups),gA _ _ ek4,kk4.ts gA.tups,eys4,(ex4.inn hin).weak dn (by omega)⟩
     ·rw [decide_eq_false hin] at hval
      rw [hval]
      have vn:valN ys4 (k2 (dec u))=none:=by
       cases q:valN ys4 (k2 (dec u)) with
       | none=>rfl
       | some v=>rw [q] at hval;cases hval
      refine iteT ⟨ys4,gA _ _ ek4,kk4.ts gA.tups,_,nest5,vn,small1000 (by omega),fun HC eHC=>?_⟩
      have nn:p ≠ kd:=npk
      have epC:HC p=some (.lst rs4):=by rw [eHC,zal nn];exact gA _ _ ep4
      have eDC:HC D=some (.lst [.ref q1,.ref q2]):=by rw [eHC,zal (Ne.symm nkD)];exact gA _ _ eD9
      have ekC:HC kd=some (dN P w kd (ys4 ++ [(k2 (dec u),t5,.bl true)])):=by rw [eHC];exact zam
      have tC:TupS H11 HC:=by rw [eHC];exact zjy (gA _ _ ek4) _
      have gC:Same H HC:=by rw [eHC];exact (g9.trans gA).wr hkd _
      clear eHC
      refine ⟨.inl ⟨_,.of epC⟩,_,epC,small1000 (by omega),?_⟩
      have tsA:TupS H11 (upd HC p (.lst (rs4 ++ [.ref t5]))):=tC.trans (TupS.wr epC _)
      refine ⟨gC.wr hpn _,(ts9.trans gA.tups).trans tsA,by rw [zal (Ne.symm npD)];exact eDC,rs4 ++ [.ref t5],ls4 ++ [u],ys4 ++ [(k2 (dec u),t5,.bl true)],zam,SM.Paired.snoc (L2.Paired.mapP pr4 fun _ _ z=>z.ts (gA.tups.trans tsA)) (sl5.ts tsA),by rw [zal (Ne.symm nn)];exact ekC,fun y hy=>?_,by rw [y15,y15,eys4];rfl,(ex4.new reach hin).weak dn (by omega)⟩
      rcases y0i.mp hy with hy | hy
      ·exact (kk4.ts (gA.tups.trans tsA)) y hy
      ·rw [y07.mp hy]
       exact nest5.ts tsA
    ·rintro σ H9 ⟨g9,ts9,eD9,⟨v9',v10',v11',rfl⟩,rs4,ls4,ys4,ep4,pr4,ek4,kk4,eys4,ex4⟩
     exact ⟨g9,ts9,eD9,⟨_,_,_,_,_,_,rfl⟩,rs4,ls4,ys4,ep4,pr4,ek4,kk4,eys4,ex4.weak (fun u z=>by
      rcases hDD u z with z | z
      ·exact .inl z
      ·rw [← eT] at z
       obtain ⟨l,hl,rfl⟩:=y09.mp z
       exact .inr ⟨l,y0k.mp hl,rfl⟩) (by omega)⟩
   ·rintro σ H8 ⟨g8,ts8,eD,⟨v6,v7,v8,v9,v10,v11,rfl⟩,rs3',ls3,ys3,ep3,pr3',ek3,kk3,eys3,ex3⟩
    exact ⟨g8,⟨_,_,_,_,_,_,rfl⟩,rs3',ls3,ys3,ep3,pr3',ek3,kk3,eys3,ex3.weak (by
     rw [← eDD]
     rintro u (z | ⟨x,a',b',hx,ea',eb',z⟩)
     ·exact .inl (.inl z)
     ·by_cases hxk:x < k
      ·exact .inl (.inr ⟨x,a',b',hxk,ea',eb',z⟩)
      ·have:x=k:=by omega
       subst this
       rw [elk] at ea'
       rw [eli] at eb'
       cases ea'
       cases eb'
       rcases z with z | z
       ·exact .inr (.inl ⟨by simp,z⟩)
       ·exact .inr (.inr ⟨by simp,z⟩)) (by simp;omega)⟩
  ·rintro σ H'' ⟨g2,⟨v6,v7,v8,v9,v10,v11,rfl⟩,rs',ls',ys',ep2,pr',ek2,kk2,eys2,ex2⟩
   have hrl2:=SS.Paired.len pr'
   have hl2:=ex2.len
   trivial
   refine ⟨_,.inl (.of ep2),?_⟩
   by_cases hgt:40 < ls'.length
   ·rw [decide_eq_true (by omega)]
    exact iteT (q p rs' ls' H'' g2 ep2 pr' ex2.some (.inr hgt) (by omega))
   ·rw [decide_eq_false (by omega)]
    refine iteF ?_
    exact ⟨100 - (i + 1),by omega,i + 1,rfl,g2,by omega,rs',ep2,ls',pr',ys',ek2,kk2,eys2,ex2.some,(ex2.at (by omega)).trans hd,ex2.clo hlt,by omega⟩
 ·rw [decide_eq_false (by omega)]
  exact iteF (q p rs ls H' g ep pr ts (.inl (cl.all ts hd (by omega))) (by omega))
abbrev s_law_cell_at:Stmt:=top 32
theorem zfm:FnScope ["_law_script","_law_k"] ["_law_script","_law_k"] (defScope s_law_cell_at):=⟨rfl,rfl,rfl,by decide +kernel,rfl,by decide +kernel,by decide +kernel⟩
theorem zs7 (T:Txt K mg cTooGreat cSayError cs) (d:Dfn K mg "_law_cell_at" s_law_cell_at ["_law_script","_law_k"]):Cal P w K mg base 1 "_law_cell_at" ["_law_script","_law_k"] (zmm K):=by
 refine d.cal zfm (fun vs H Q E h=>?_) (fun f cdv A outer s H vs Q E hr h=>?_)
 ·obtain ⟨a,ns,k,rfl,_⟩:=h
  rfl
 obtain ⟨a,ns,k,rfl,hS,h0,q⟩:=h
 refine ⟨_,(zac (zb1 (zax zlk (pv 1) (zau (zak K) (by rfl) T.b_len boot_len (pa_c (pv 0) zaa)) (nomark _)) (zae (zar (zaq (za3 K) (pv 0) (pv 1) (fun _ _=>rfl)))) za2) (zae (zar zad))),?_⟩
 refine zba [some (.ref a),some (.int k)] rfl ?_
 trivial
 refine ⟨_,.inl hS,ite2 (fun c=>?_) (fun _=>q 0)⟩
 have c':=of_decide_eq_true c
 rw [y00] at c'
 have hk:k.toNat < ns.length:=by omega
 have ek:k=((k.toNat:Nat):Int):=by omega
 have e:atI (ns.map V.int) ((k.toNat:Nat):Int)=some (.int ns[k.toNat]):=zai (by simp [hk])
 rw [← ek] at e
 exact ⟨_,hS,_,e,q _⟩
abbrev s_law_machine:Stmt:=top 33
theorem sc_law_machine:FnScope ["_law_number","_law_rooms","_law_width","_law_ways","_law_letter","_law_table","_law_one","_law_row","_law_other","_law_ends","_law_room"] ["_law_number","_law_rooms","_law_width"] (defScope s_law_machine):=⟨rfl,rfl,rfl,by decide +kernel,rfl,by decide +kernel,by decide +kernel⟩
theorem zqn (T:Txt K mg cTooGreat cSayError cs) (d:Dfn K mg "_law_machine" s_law_machine ["_law_number","_law_rooms","_law_width"]):Cal P w K mg base 1 "_law_machine" ["_law_number","_law_rooms","_law_width"] zj4:=by
 refine d.cal sc_law_machine (fun vs H Q E h=>?_) (fun f cdv A outer s H vs Q E hr h=>?_)
 ·obtain ⟨x,n,wd,rfl,_⟩:=h
  rfl
 obtain ⟨x,n,wd,rfl,hw,hn1,hn,q⟩:=h
 have hps:1 ≤ 2 ^ wd∧2 ^ wd ≤ 16:=zbu (by omega)
 have hat:atI [V.int 1,V.int 2,V.int 4,V.int 8] ((wd:Nat):Int)=some (nV (2 ^ wd)):=by
  have:wd=0∨wd=1∨wd=2∨wd=3:=by omega
  rcases this with rfl | rfl | rfl | rfl <;> exact zai rfl
 refine ⟨_,(zac (zan (i:=3) sc_law_machine.nd rfl (Or.inl rfl) (zat zaa)) (zac (za5 PassesOwn.never rfl (zaw (by rfl) T.b_range (pa_c (zaq (za3 K) (zat (pa_c zad (pa_c zad (pa_c zad (pa_c zad zaa))))) (pv 2) (fun _ _=>rfl)) zaa)) (zah (i:=4) sc_law_machine.nd (by rfl) (Or.inl (by rfl))) (zac (zan (i:=5) sc_law_machine.nd rfl (Or.inl rfl) (zat zaa)) (zac (za5 PassesOwn.never rfl (zaw (by rfl) T.b_range (pa_c (pv 1) zaa)) (zah (i:=6) sc_law_machine.nd (by rfl) (Or.inl (by rfl))) (zac (zan (i:=7) sc_law_machine.nd rfl (Or.inl rfl) (zat zaa)) (zac (za5 PassesOwn.never rfl (zaw (by rfl) T.b_range (pa_c (pv 1) zaa)) (zah (i:=8) sc_law_machine.nd (by rfl) (Or.inl (by rfl))) (zac (zan (i:=0) sc_law_machine.nd rfl (Or.inl rfl) (zap zb3 (zap zbe (zap zbe (zap zbe (zap zbe (zap ze1 (pv 0) zad) (zap ze1 zad (pv 4))) (zap ze1 zad (pv 6))) (pv 8)) zad) zad)) (zae (zbz (zck K PySem.F.plainAttrs_list PySem.F.slot_list_append PySem.F.type_list_append za9 (pv 7) (pa_c (zap zb3 (zap zb0 (pv 0) zad) (pv 1)) zaa)))))) (zae (zbz (zck K PySem.F.plainAttrs_list PySem.F.slot_list_append PySem.F.type_list_append za9 (pv 5) (pa_c (za6 zag (by rfl) T.b_tuple boot_tuple (pa_c (pv 7) zaa)) zaa))))))) (zae (zbz (zck K PySem.F.plainAttrs_list PySem.F.slot_list_append PySem.F.type_list_append za9 (pv 3) (pa_c (za6 zag (by rfl) T.b_tuple boot_tuple (pa_c (pv 5) zaa)) zaa))))))) (zac (zan (i:=9) sc_law_machine.nd rfl (Or.inl rfl) (zat zaa)) (zac (za5 PassesOwn.never rfl (zaw (by rfl) T.b_range (pa_c (pv 1) zaa)) (zah (i:=10) sc_law_machine.nd (by rfl) (Or.inl (by rfl))) (zac (zan (i:=0) sc_law_machine.nd rfl (Or.inl rfl) (zap zb3 (zap zbe (zap zbe (zap ze1 (pv 0) zad) (pv 10)) zad) zad)) (zae (zbz (zck K PySem.F.plainAttrs_list PySem.F.slot_list_append PySem.F.type_list_append za9 (pv 9) (pa_c (zi0 zqg (zap zb3 (zap zb0 (pv 0) zad) zad) zad (nomark _)) zaa)))))) (zae (zar (zay (pa_c (pv 2) (pa_c (za6 zag (by rfl) T.b_tuple boot_tuple (pa_c (pv 3) zaa)) (pa_c (za6 zag (by rfl) T.b_tuple boot_tuple (pa_c (pv 9) zaa)) zaa)))))))))),?_⟩
 refine zba [some (.int x),some (nV n),some (nV wd),none,none,none,none,none,none,none,none] rfl ?_
 trivial
 refine ⟨by decide,fun p H1 n1=>⟨zab (by simp),fun pl H2 n2=>⟨_,.of n2.at',_,hat,_,rfl,by omega,by omega,?_⟩⟩⟩
 rw [show ((2 ^ wd:Nat):Int).toNat=2 ^ wd from rfl]
 refine zb6 (fun i σ H'=>Same H H'∧(∃ v0 v4 v5 v6 v7 v8,σ=[some (.int v0),some (nV n),some (nV wd),some (.ref p),v4,v5,v6,v7,v8,none,none]) ∧
  ∃ rs tabs,H' p=some (.lst rs)∧Paired (Tab H') rs tabs∧tabs.length=i∧∀ t ∈ tabs,t.length=n∧∀ l ∈ t,l.length=n∧∀ r ∈ l,r < n) ⟨n1.g.trans n2.g,⟨x,none,none,none,none,none,rfl⟩,[],[],n2.g _ _ n1.at',.nil,rfl,fun _ h=>(nomatch h)⟩ ?_ ?_
 ·rintro i σ H' hi ⟨g,⟨v0,v4,v5,v6,v7,v8,rfl⟩,rs,tabs,ep,pr,ll,hg⟩
  trivial
  refine ⟨by decide,fun p2 H2 n2=>⟨by omega,by omega,?_⟩⟩
  rw [show ((n:Nat):Int).toNat=n from rfl]
  have ne2:p ≠ p2:=zaf ep n2.nil
  refine zb6 (fun j σ H''=>Same H H''∧TupS H2 H''∧(∃ v0 v6 v7 v8,σ=[some (.int v0),some (nV n),some (nV wd),some (.ref p),some (.int (0 + (i:Int))),some (.ref p2),v6,v7,v8,none,none])∧H'' p=some (.lst rs) ∧
   ∃ rs2 lines,H'' p2=some (.lst rs2)∧Paired (Line H'') rs2 lines∧lines.length=j∧∀ l ∈ lines,l.length=n∧∀ r ∈ l,r < n) ⟨g.trans n2.g,TupS.refl _,⟨_,_,_,_,rfl⟩,n2.g _ _ ep,[],[],n2.at',.nil,rfl,fun _ h=>(nomatch h)⟩ ?_ ?_
  ·rintro j σ H'' hj ⟨g2,ts,⟨v0,v6,v7,v8,rfl⟩,ep2,rs2,lines,e2,pr2,le,hr2⟩
   trivial
   refine ⟨by decide,fun p3 H3 n3=>⟨by omega,by omega,?_⟩⟩
   rw [show ((n:Nat):Int).toNat=n from rfl]
   have ne3:p ≠ p3:=zaf ep2 n3.nil
   have ne4:p2 ≠ p3:=zaf e2 n3.nil
   refine zb6 (fun k σ H4=>Same H H4∧TupS H3 H4∧(∃ v0 v8,σ=[some (.int v0),some (nV n),some (nV wd),some (.ref p),some (.int (0 + (i:Int))),some (.ref p2),some (.int (0 + (j:Int))),some (.ref p3),v8,none,none])∧H4 p=some (.lst rs)∧H4 p2=some (.lst rs2) ∧
    ∃ ln:List Nat,H4 p3=some (.lst (ln.map nV))∧ln.length=k∧∀ r ∈ ln,r < n) ⟨g2.trans n3.g,TupS.refl _,⟨_,_,rfl⟩,n3.g _ _ ep2,n3.g _ _ e2,[],n3.at',rfl,fun _ h=>(nomatch h)⟩ ?_ ?_
   ·rintro k σ H4 hk ⟨g3,ts3,⟨v0,v8,rfl⟩,ep3,ep32,ln,e3,lk,hr3⟩
    trivial
    refine ⟨.inr ⟨by decide,by decide⟩,.inl ⟨by decide,by decide⟩,.inl ⟨by decide,by decide⟩,by decide,.inl ⟨_,.of e3⟩,⟨by decide,by decide⟩,by omega,_,e3,by rw [y00];exact small1000 (by omega),?_⟩
    generalize (v0 * 48271 + 31 * (0 + (i:Int)) + 7 * (0 + (j:Int)) + (0 + (k:Int)) + 1) % 2147483629 / 64=r
    have r0:=y2j r (show (n:Int) ≠ 0 by omega)
    have r1:=y2m r (show (0:Int) < (n:Int) by omega)
    refine ⟨g3.wr (g2.free n3.nil) _,ts3.trans (TupS.wr e3 _),by rw [zal ne3];exact ep3,by rw [zal ne4];exact ep32,ln ++ [(r % (n:Int)).toNat],?_,by rw [y0c,y17,lk],fun x hx=>?_⟩
    ·rw [zam,y15]
     have er:r % (n:Int)=(((r % (n:Int)).toNat:Nat):Int):=by omega
     rw [er]
     rfl
    ·rcases y0i.mp hx with h | h
     ·exact hr3 x h
     ·rw [y07.mp h];omega
   ·rintro σ H4 ⟨g3,ts3,⟨v0,v8,rfl⟩,ep3,ep32,ln,e3,lk,hr3⟩
    trivial
    refine ⟨.inl ⟨_,.of ep32⟩,_,.inl ⟨.of e3,fun t H5 n5=>⟨_,n5.g _ _ ep32,?_,?_⟩⟩⟩
    ·have:=SS.Paired.len pr2
     exact small1000 (by omega)
    have tsA:TupS H'' (upd H5 p2 (.lst (rs2 ++ [.ref t]))):=(n3.g.tups.trans ts3).trans (n5.g.tups.trans (TupS.wr (n5.g _ _ ep32) _))
    refine ⟨(g3.trans n5.g).wr (g.free n2.nil) _,ts.trans tsA,by rw [zal ne2];exact n5.g _ _ ep3,rs2 ++ [.ref t],zam,lines ++ [ln],SM.Paired.snoc (L2.Paired.mapP pr2 fun _ _ z=>z.ts tsA) ⟨t,rfl,TupS.wr (n5.g _ _ ep32) _ _ _ n5.at'⟩,by rw [y0c,y17,le],fun l hl=>?_⟩
    rcases y0i.mp hl with h | h
    ·exact hr2 l h
    ·rw [y07.mp h]
     exact ⟨lk,hr3⟩
  ·rintro σ H'' ⟨g2,ts,⟨v0,v6,v7,v8,rfl⟩,ep2,rs2,lines,e2,pr2,le,hr2⟩
   trivial
   refine ⟨.inl ⟨_,.of ep2⟩,_,.inl ⟨.of e2,fun t H5 n5=>⟨_,n5.g _ _ ep2,?_,?_⟩⟩⟩
   ·have:=SS.Paired.len pr
    exact small1000 (by omega)
   have tsA:TupS H' (upd H5 p (.lst (rs ++ [.ref t]))):=(n2.g.tups.trans ts).trans (n5.g.tups.trans (TupS.wr (n5.g _ _ ep2) _))
   have tsB:TupS H'' (upd H5 p (.lst (rs ++ [.ref t]))):=n5.g.tups.trans (TupS.wr (n5.g _ _ ep2) _)
   refine ⟨(g2.trans n5.g).wr n1.nil _,rs ++ [.ref t],zam,tabs ++ [lines],SM.Paired.snoc (L2.Paired.mapP pr fun _ _ z=>z.ts tsA) ⟨t,rs2,rfl,TupS.wr (n5.g _ _ ep2) _ _ _ n5.at',L2.Paired.mapP pr2 fun _ _ z=>z.ts tsB⟩,by rw [y0c,y17,ll],fun l hl=>?_⟩
   rcases y0i.mp hl with h | h
   ·exact hg l h
   ·rw [y07.mp h]
    exact ⟨le,hr2⟩
 ·rintro σ H' ⟨g,⟨v0,v4,v5,v6,v7,v8,rfl⟩,rs,tabs,ep,pr,ll,hg⟩
  trivial
  refine ⟨by decide,fun p2 H2 n2=>⟨by omega,by omega,?_⟩⟩
  rw [show ((n:Nat):Int).toNat=n from rfl]
  have ne2:p ≠ p2:=zaf ep n2.nil
  refine zb6 (fun j σ H''=>Same H H''∧TupS H2 H''∧(∃ v0 v10,σ=[some (.int v0),some (nV n),some (nV wd),some (.ref p),v4,v5,v6,v7,v8,some (.ref p2),v10])∧H'' p=some (.lst rs) ∧
   ∃ bs:List Bool,H'' p2=some (.lst (bs.map V.bl))∧bs.length=j) ⟨g.trans n2.g,TupS.refl _,⟨_,_,rfl⟩,n2.g _ _ ep,[],n2.at',rfl⟩ ?_ ?_
  ·rintro j σ H'' hj ⟨g2,ts,⟨v0,v10,rfl⟩,ep2,bs,e2,le⟩
   trivial
   refine ⟨.inr ⟨by decide,by decide⟩,by decide,.inl ⟨_,.of e2⟩,⟨by decide,by decide⟩,by decide,_,e2,by rw [y00];exact small1000 (by omega),?_⟩
   exact ⟨g2.wr (g.free n2.nil) _,ts.trans (TupS.wr e2 _),by rw [zal ne2];exact ep2,bs ++ [_],by rw [zam,y15];rfl,by rw [y0c,y17,le]⟩
  ·rintro σ H'' ⟨g2,ts,⟨v0,v10,rfl⟩,ep2,bs,e2,le⟩
   trivial
   refine ⟨_,.inl ⟨.of ep2,fun t1 H4 n4=>⟨_,.inl ⟨.of (n4.g _ _ e2),fun t2 H5 n5=>⟨zab (by simp),fun t3 H6 n6=>?_⟩⟩⟩⟩⟩
   have gA:Same H'' H6:=n4.g.trans (n5.g.trans n6.g)
   refine q t3 ⟨wd,tabs,bs⟩ H6 (g2.trans gA) ⟨t1,t2,rs,n6.at',(n5.g.trans n6.g) _ _ n4.at',L2.Paired.mapP pr fun _ _ z=>z.ts ((n2.g.tups.trans ts).trans gA.tups),n6.g _ _ n5.at'⟩ ⟨?_,?_,?_,?_,?_,?_,?_⟩ rfl le
   ·exact hw
   ·show 0 < bs.length;omega
   ·show bs.length ≤ 30;omega
   ·exact ll
   ·intro t ht;show t.length=bs.length;rw [le];exact (hg t ht).1
   ·intro t ht l hl;show l.length=bs.length;rw [le];exact ((hg t ht).2 l hl).1
   ·intro t ht l hl r hr;show r < bs.length;rw [le];exact ((hg t ht).2 l hl).2 r hr
abbrev s_law_is_machine:Stmt:=top 34
theorem sc_law_is_machine:FnScope ["_law_found","_law_width","_law_rooms","_law_table","_law_row"] ["_law_found","_law_width"] (defScope s_law_is_machine):=⟨rfl,rfl,rfl,by decide +kernel,rfl,by decide +kernel,by decide +kernel⟩
theorem zlp (T:Txt K mg cTooGreat cSayError cs) (d:Dfn K mg "_law_is_machine" s_law_is_machine ["_law_found","_law_width"]):Cal P w K mg base 1 "_law_is_machine" ["_law_found","_law_width"] zfx:=by
 refine d.cal sc_law_is_machine (fun vs H Q E h=>?_) (fun f cdv A outer s H vs Q E hr h=>?_)
 ·obtain ⟨a,m,rfl,_⟩:=h
  rfl
 obtain ⟨a,m,rfl,⟨b,c,ts,ea,eb,pr,ec⟩,ok,q⟩:=h
 have hw:=ok.wid
 have hf:=ok.few
 have hpos:=ok.pos
 have htl:ts.length=2 ^ m.w:=by rw [SS.Paired.len pr,ok.len]
 have hat:atI [V.int 1,V.int 2,V.int 4,V.int 8] ((m.w:Nat):Int)=some (nV (2 ^ m.w)):=by
  generalize m.w=wd at hw
  have:wd=0∨wd=1∨wd=2∨wd=3:=by omega
  rcases this with rfl | rfl | rfl | rfl <;> exact zai rfl
 have at0:atI [nV m.w,V.ref b,V.ref c] 0=some (nV m.w):=zd2
 have at1:atI [nV m.w,V.ref b,V.ref c] 1=some (V.ref b):=zai (j:=1) rfl
 have at2:atI [nV m.w,V.ref b,V.ref c] 2=some (V.ref c):=zai (j:=2) rfl
 refine ⟨_,(zdx (zb1 (PW.pt (zgk (zdk (zc3 (zau zbr (by rfl) T.b_isinstance boot_isinstance (pa_c (pv 0) (pa_c (zbv (v:=.ty "tuple") (by rfl) T.b_tuple boot_tuple (by rfl)) zaa))))) (zgk (zax znk (zau (zak K) (by rfl) T.b_len boot_len (pa_c (pv 0) zaa)) zad (nomark _)) (zgk (zax znk (zaq (zaj K) (pv 0) zad (fun _ _=>rfl)) (pv 1) (nomark _)) (zf0 (zc3 (zau zbr (by rfl) T.b_isinstance boot_isinstance (pa_c (zaq (zaj K) (pv 0) zad (fun _ _=>rfl)) (pa_c (zbv (v:=.ty "bool") (by rfl) T.b_bool boot_bool (by rfl)) zaa))))))))) (zae (zar zcg)) za2) (zdx (zb1 (PW.pt (zgk (zdk (zc3 (zau zbr (by rfl) T.b_isinstance boot_isinstance (pa_c (zaq (zaj K) (pv 0) zad (fun _ _=>rfl)) (pa_c (zbv (v:=.ty "tuple") (by rfl) T.b_tuple boot_tuple (by rfl)) zaa))))) (zgk (zdk (zc3 (zau zbr (by rfl) T.b_isinstance boot_isinstance (pa_c (zaq (zaj K) (pv 0) zad (fun _ _=>rfl)) (pa_c (zbv (v:=.ty "tuple") (by rfl) T.b_tuple boot_tuple (by rfl)) zaa))))) (zf0 (zax zqg (zau (zak K) (by rfl) T.b_len boot_len (pa_c (zaq (zaj K) (pv 0) zad (fun _ _=>rfl)) zaa)) zad (nomark _)))))) (zae (zar zcg)) za2) (zdx (zb1 (PW.pt (zgk (zax znk (zau (zak K) (by rfl) T.b_len boot_len (pa_c (zaq (zaj K) (pv 0) zad (fun _ _=>rfl)) zaa)) (zaq (za3 K) (zat (pa_c zad (pa_c zad (pa_c zad (pa_c zad zaa))))) (pv 1) (fun _ _=>rfl)) (nomark _)) (zf0 (zdk (zc3 (zau (zcs K rfl) (by rfl) T.b_all boot_all (pa_c (zas ["_law_end"] [] (CompOk.of rfl (by rfl) (by rfl)) (by rfl) (za8 K (zaq (zaj K) (pv 0) zad (fun _ _=>rfl))) (fun _ _ _ _ _=>(zah (i:=0) (show List.Nodup (["_law_end"]:List Str) by decide +kernel) (by rfl) (Or.inl (by rfl)))) (fun _ _ _ _ _=>za4) (fun _ _ _ _ _=>(zau zbr (by rfl) T.b_isinstance boot_isinstance (pa_c (pv 0) (pa_c (zbv (v:=.ty "bool") (by rfl) T.b_bool boot_bool (by rfl)) zaa))))) zaa))))))) (zae (zar zcg)) za2) (zac (zan (i:=2) sc_law_is_machine.nd rfl (Or.inr rfl) (zau (zak K) (by rfl) T.b_len boot_len (pa_c (zaq (zaj K) (pv 0) zad (fun _ _=>rfl)) zaa))) (zac (za5 PassesOwn.never rfl (za8 K (zaq (zaj K) (pv 0) zad (fun _ _=>rfl))) (zah (i:=3) sc_law_is_machine.nd (by rfl) (Or.inl (by rfl))) (zac (zb1 (PW.pt (zgk (zdk (zc3 (zau zbr (by rfl) T.b_isinstance boot_isinstance (pa_c (pv 3) (pa_c (zbv (v:=.ty "tuple") (by rfl) T.b_tuple boot_tuple (by rfl)) zaa))))) (zf0 (zax znk (zau (zak K) (by rfl) T.b_len boot_len (pa_c (pv 3) zaa)) (pv 2) (nomark _))))) (zae (zar zcg)) za2) (zae (za5 PassesOwn.never rfl (za8 K (pv 3)) (zah (i:=4) sc_law_is_machine.nd (by rfl) (Or.inl (by rfl))) (zac (zb1 (PW.pt (zgk (zdk (zc3 (zau zbr (by rfl) T.b_isinstance boot_isinstance (pa_c (pv 4) (pa_c (zbv (v:=.ty "tuple") (by rfl) T.b_tuple boot_tuple (by rfl)) zaa))))) (zf0 (zax znk (zau (zak K) (by rfl) T.b_len boot_len (pa_c (pv 4) zaa)) (pv 2) (nomark _))))) (zae (zar zcg)) za2) (zae (zb1 (zdk (zc3 (zau (zcs K rfl) (by rfl) T.b_all boot_all (pa_c (zas ["_law_room"] [(2,"_law_rooms")] (CompOk.of rfl (by rfl) (by rfl)) (by rfl) (za8 K (pv 4)) (fun _ _ _ _ _=>(zah (i:=0) (show List.Nodup (["_law_room","_law_rooms"]:List Str) by decide +kernel) (by rfl) (Or.inl (by rfl)))) (fun _ _ _ _ _=>za4) (fun _ _ _ _ _=>(zke (zau zbr (by rfl) T.b_isinstance boot_isinstance (pa_c (pv 0) (pa_c (zbv (v:=.ty "int") (by rfl) T.b_int boot_int (by rfl)) zaa))) (zke (zna (zau zbr (by rfl) T.b_isinstance boot_isinstance (pa_c (pv 0) (pa_c (zbv (v:=.ty "bool") (by rfl) T.b_bool boot_bool (by rfl)) zaa)))) (zm9 (zkd op_le zlk zad (pv 0) (pv 1))))))) zaa)))) (zae (zar zcg)) za2))))))) (zae (zar zcg))))))),?_⟩
 refine zba [some (.ref a),some (nV m.w),none,none,none] rfl ?_
 refine ⟨fun σ' H'=>H=H'∧σ'=[some (.ref a),some (nV m.w),none,none,none],?_,?_⟩
 ·trivial
  refine ⟨_,.tup ea,by decide,iteF ⟨_,.inr (.of ea),?_⟩⟩
  rw [show (!decide (((([nV m.w,V.ref b,V.ref c]:List V).length:Nat):Int)=3))=false by simp]
  refine iteF ⟨_,.of ea,_,at0,rfl,?_⟩
  rw [show (!decide (nV m.w=nV m.w))=false by simp]
  exact iteF ⟨_,.of ea,_,at0,_,.int _,by decide,iteF trivial⟩
 rintro σ _ ⟨rfl,rfl⟩
 refine ⟨fun σ' H'=>H=H'∧σ'=[some (.ref a),some (nV m.w),none,none,none],?_,?_⟩
 ·trivial
  refine ⟨_,.of ea,_,at1,_,.tup eb,by decide,iteF ⟨_,.of ea,_,at2,_,.tup ec,by decide,iteF ⟨_,.of ea,_,at2,c,rfl,_,.inr (.of ec),?_⟩⟩⟩
  rw [y00,decide_eq_false (show ¬ ((m.ends.length:Nat):Int)=0 by omega)]
  exact iteF trivial
 rintro σ _ ⟨rfl,rfl⟩
 refine ⟨fun σ' H'=>Same H H'∧σ'=[some (.ref a),some (nV m.w),none,none,none],?_,?_⟩
 ·trivial
  refine ⟨_,.of ea,_,at1,b,rfl,_,.inr (.of eb),zab (by simp),fun pl H1 n1=>⟨_,.of n1.at',_,hat,rfl,?_⟩⟩
  rw [show (!decide (V.int ((ts.length:Nat):Int)=nV (2 ^ m.w)))=false by rw [htl];simp]
  refine iteF ⟨_,.of (n1.g _ _ ea),_,at2,c,rfl,⟨_,.of (n1.g _ _ ec)⟩,zf7 (K:=K) (a:=c) (xs:=m.ends.map V.bl) (fun σ=>∃ v,σ=[v]) (fun _=>.bl true) (by rw [y00];omega) (.of (n1.g _ _ ec)) ⟨_,rfl⟩ ?_ ?_⟩
  ·rintro D i σ H' x hi hm hx g hD hD' ⟨v,rfl⟩
   obtain ⟨z,mz,rfl⟩:=y09.mp hm
   trivial
   exact ⟨_,.bl z,by decide,zcr (by rw [y00];omega) hx hD hD' g ⟨_,rfl⟩ rfl⟩
  intro D H5 hD g5 e5
  have e5':H5 D=some (.lst ((m.ends.map fun _=>true).map V.bl)):=by rw [e5,y0v,y0v];rfl
  refine ⟨D,rfl,_,.of e5',?_⟩
  rw [show (m.ends.map fun _=>true).all id=true by rw [y4g];simp]
  exact iteF (n1.g.trans g5)
 rintro σ H5 ⟨g05,rfl⟩
 trivial
 refine ⟨_,.of (g05 _ _ ea),_,at2,c,rfl,_,.inr (.of (g05 _ _ ec)),_,.of (g05 _ _ ea),_,at1,b,rfl,⟨_,.of (g05 _ _ eb)⟩,?_⟩
 rw [y00]
 refine zdq (K:=K) (a:=b) (xs:=ts) (fun i σ H'=>Same H H'∧∃ v3 v4,σ=[some (.ref a),some (nV m.w),some (.int ((m.ends.length:Nat):Int)),v3,v4]) ⟨g05,_,_,rfl⟩ (fun i σ H' _ z=>.of (z.1 _ _ eb)) ?_ ?_
 ·rintro i y σ H' hy ⟨g,v3,v4,rfl⟩
  obtain ⟨t,et,u,us,rfl,eu,pu⟩:=SS.Paired.at pr hy
  have mt:=y0a et
  have hul:us.length=m.ends.length:=by rw [SS.Paired.len pu];exact ok.tab t mt
  trivial
  refine ⟨_,.tup (g _ _ eu),by decide,iteF ⟨_,.inr (.of (g _ _ eu)),?_⟩⟩
  rw [show (!decide (((us.length:Nat):Int)=((m.ends.length:Nat):Int)))=false by rw [hul];simp]
  refine iteF ⟨⟨_,.of (g _ _ eu)⟩,?_⟩
  refine zdq (K:=K) (a:=u) (xs:=us) (fun i σ H'=>Same H H'∧∃ v4,σ=[some (.ref a),some (nV m.w),some (.int ((m.ends.length:Nat):Int)),some (.ref u),v4]) ⟨g,_,rfl⟩ (fun i σ H' _ z=>.of (z.1 _ _ eu)) ?_ ?_
  ·rintro j y σ H'' hy ⟨g2,v4,rfl⟩
   obtain ⟨l,el,u2,rfl,eu2⟩:=SS.Paired.at pu hy
   have ml:=y0a el
   have hll:=ok.line t mt l ml
   trivial
   refine ⟨_,.tup (g2 _ _ eu2),by decide,iteF ⟨_,.inr (.of (g2 _ _ eu2)),?_⟩⟩
   rw [y00,hll,show (!decide (((m.ends.length:Nat):Int)=((m.ends.length:Nat):Int)))=false by simp]
   refine iteF ⟨⟨_,.of (g2 _ _ eu2)⟩,zf7 (K:=K) (a:=u2) (xs:=l.map nV) (fun σ=>∃ v,σ=[v,some (.int ((m.ends.length:Nat):Int))]) (fun _=>.bl true) (by rw [y00];omega) (.of (g2 _ _ eu2)) ⟨_,rfl⟩ ?_ ?_⟩
   ·rintro D i σ H' x hi hm hx g hD hD' ⟨v,rfl⟩
    obtain ⟨z,mz,rfl⟩:=y09.mp hm
    have hz:=ok.room t mt l ml z mz
    trivial
    refine ⟨_,.int _,by decide,iteT ⟨_,.int _,by decide,iteT ?_⟩⟩
    rw [decide_eq_true (show (0:Int) ≤ (z:Int) by omega),decide_eq_true (show (z:Int) < ((m.ends.length:Nat):Int) by omega)]
    exact iteT (zcr (by rw [y00];omega) hx hD hD' g ⟨_,rfl⟩ rfl)
   intro D2 H6 hD2 g6 e6
   have e6':H6 D2=some (.lst ((l.map fun _=>true).map V.bl)):=by rw [e6,y0v,y0v];rfl
   refine ⟨D2,rfl,_,.of e6',?_⟩
   rw [show (l.map fun _=>true).all id=true by rw [y4g];simp]
   exact iteF (g2.trans g6)
  ·rintro σ H'' ⟨g2,v4,rfl⟩
   exact ⟨g2,_,_,rfl⟩
 ·rintro σ H' ⟨g,v3,v4,rfl⟩
  simp only [tC,tRet]
  exact q H' g
abbrev s_law_right:Stmt:=top 40
theorem sc_law_right:FnScope ["_law_machine_here","_law_track","_law_kinds","_law_found","_law_beside","_law_pairs"] ["_law_machine_here","_law_track"] (defScope s_law_right):=⟨rfl,rfl,rfl,by decide +kernel,rfl,by decide +kernel,by decide +kernel⟩
theorem zlm {Pt Pr Pd:Addr} (T:Txt K mg cTooGreat cSayError cs) (d:Dfn K mg "_law_right" s_law_right ["_law_machine_here","_law_track"])
  (C_law_told:Cal P w K mg base 9 "_law_told" ["_law_machine_here","_law_track"] (zeo Pt qs_tree_least Pd qs_tree_dropped))
  (C_law_is_machine:Cal P w K mg base 1 "_law_is_machine" ["_law_found","_law_width"] zfx)
  (C_tree_reduced:Cal P w K mg base 7 "tree_reduced" ["machine"] (zmk Pt qs_tree_least Pr qs_tree_reduced))
  (C_law_sets:Cal P w K mg base 3 "_law_sets" ["_law_machine_here","_law_track","_law_found"] zhk) :
  Cal P w K mg base 10 "_law_right" ["_law_machine_here","_law_track"] (zfv Pt qs_tree_least Pr qs_tree_reduced Pd qs_tree_dropped):=by
 refine d.cal sc_law_right (fun vs H Q E h=>?_) (fun f cdv A outer s H vs Q E hr h=>?_)
 ·obtain ⟨a,m,t,rfl,_⟩:=h
  rfl
 obtain ⟨a,m,t,rfl,tl,tr,td,rm,ok,hn6,ht,q⟩:=h
 have hu:=zfq hr 8 (by decide)
 have hw3:=ok.wid
 refine ⟨_,(zac (zrn (zao C_law_told hr (by omega) (by rfl) (pa_c (pv 0) (pa_c (pv 1) zaa))) (zez K (n:=2) rfl (zbm (zah (i:=2) sc_law_right.nd (by rfl) (Or.inl (by rfl))) (zbm (zah (i:=3) sc_law_right.nd (by rfl) (Or.inr (by rfl))) zey)))) (zac (zan (i:=4) sc_law_right.nd rfl (Or.inl rfl) (pv 3)) (zdx (zb1 (zax (zkg hu) (pv 2) (zat zaa) (nomark _)) (zae (zan (i:=4) sc_law_right.nd rfl (Or.inl rfl) (zay (pa_c (zap zf1 (zaq (zaj K) (pv 0) zad (fun _ _=>rfl)) zad) (pa_c (za6 zag (by rfl) T.b_tuple boot_tuple (pa_c (zap zi1 (zat (pa_c (zay (pa_c (zay (pa_c zad zaa)) zaa)) zaa)) (zap zb0 (zau (zak K) (by rfl) T.b_len boot_len (pa_c (zaq (zaj K) (pv 0) zad (fun _ _=>rfl)) zaa)) zad)) zaa)) (pa_c (zay (pa_c zcg zaa)) zaa)))))) (zae (zb1 (PW.pt (zgk (zdk (zc3 (zao C_law_is_machine hr (by omega) (by rfl) (pa_c (pv 3) (pa_c (zap zf1 (zaq (zaj K) (pv 0) zad (fun _ _=>rfl)) zad) zaa))))) (zf0 (zax (zkg hu) (zao C_tree_reduced hr (by omega) (by rfl) (pa_c (pv 3) zaa)) (pv 3) (nomark _))))) (zae (zar zcg)) za2))) (zac (zan (i:=5) sc_law_right.nd rfl (Or.inl rfl) (zao C_law_sets hr (by omega) (by rfl) (pa_c (pv 0) (pa_c (pv 1) (pa_c (pv 4) zaa))))) (zdx (zb1 (zax zqf (zau zg2 (by rfl) T.b_len boot_len (pa_c (za6 (zg1 rfl hu) (by rfl) T.b_set (by rfl) (pa_c (zas ["_law_some","_law_room"] [] (CompOk.of rfl (by rfl) (by rfl)) (by rfl) (zaz K (pv 5)) (fun _ _ _ _ _=>(zez K (n:=2) rfl (zbm (zah (i:=0) (show List.Nodup (["_law_some","_law_room"]:List Str) by decide +kernel) (by rfl) (Or.inl (by rfl))) (zbm (zah (i:=1) (show List.Nodup (["_law_some","_law_room"]:List Str) by decide +kernel) (by rfl) (Or.inl (by rfl))) zey)))) (fun _ _ _ _ _=>za4) (fun _ _ _ _ _=>(pv 0))) zaa)) zaa)) zad (nomark _)) (zae (zar (zi0 (op_eqD hu) (pv 2) (zap ze2 (zat (pa_c zcg (pa_c zcg zaa))) (zap zi1 (zat (pa_c zcg zaa)) zad)) (nomark _)))) za2) (zac (zb1 (zax (zkg hu) (pv 2) (zat zaa) (nomark _)) (zae (zar zcg)) za2) (zae (zar (zau (zcs K rfl) (by rfl) T.b_all boot_all (pa_c (zas ["_law_some","_law_room"] [(3,"_law_found"),(0,"_law_machine_here")] (CompOk.of rfl (by rfl) (by rfl)) (by rfl) (zaz K (pv 5)) (fun _ _ _ _ _=>(zez K (n:=2) rfl (zbm (zah (i:=0) (show List.Nodup (["_law_some","_law_room","_law_found","_law_machine_here"]:List Str) by decide +kernel) (by rfl) (Or.inl (by rfl))) (zbm (zah (i:=1) (show List.Nodup (["_law_some","_law_room","_law_found","_law_machine_here"]:List Str) by decide +kernel) (by rfl) (Or.inl (by rfl))) zey)))) (fun _ _ _ _ _=>za4) (fun _ _ _ _ _=>(zi0 zqg (zaq (zaj K) (zaq (zaj K) (pv 2) zad (fun _ _=>rfl)) (pv 1) (fun _ _=>rfl)) (zau (zik K rfl) (by rfl) T.b_any boot_any (pa_c (zas ["_law_one"] [(3,"_law_machine_here")] (CompOk.of rfl (by rfl) (by rfl)) (by rfl) (za8 K (pv 0)) (fun _ _ _ _ _=>(zah (i:=0) (show List.Nodup (["_law_one","_law_machine_here"]:List Str) by decide +kernel) (by rfl) (Or.inl (by rfl)))) (fun _ _ _ _ _=>za4) (fun _ _ _ _ _=>(zaq (zaj K) (zaq (zaj K) (pv 1) zad (fun _ _=>rfl)) (pv 0) (fun _ _=>rfl)))) zaa)) (nomark _)))) zaa)))))))))),?_⟩
 refine zba [some (.ref a),some (nV t),none,none,none,none] rfl ?_
 trivial
 refine ⟨a,m,(t:Int),rfl,tl,td,rm,ok,hn6,fun p l v ks fm H1 g1 ep el hf tld=>?_⟩
 have rm1:=rm.same g1
 obtain ⟨b1,c1,ts1,ea,eb1,pr1,ec1⟩:=id rm1
 have bfl:∀ bs:List Bool,(bs.map V.bl).all flatV=true:=fun bs=>by
  rw [y1n]
  intro x hx
  obtain ⟨z,_,rfl⟩:=y09.mp hx
  rfl
 have hpw:2 ^ m.w=2 ^ (m.w - 1) * 2:=by rw [← y3i];congr 1;omega
 have hp4:1 ≤ 2 ^ (m.w - 1)∧2 ^ (m.w - 1) ≤ 4:=⟨y3q,by have:2 ^ (m.w - 1) ≤ 2 ^ 2:=y2q (by decide) (by omega);omega⟩
 have htl1:ts1.length=2 ^ m.w:=by rw [SS.Paired.len pr1,ok.len]
 refine ⟨p,rfl,_,.of ep,rfl,_,_,rfl,_,_,rfl,rfl,?_⟩
 refine ⟨fun σ' H'=>∃ (c:Addr) (m3:SM.Tm),Same H1 H'∧σ'=[some (.ref a),some (nV t),some (.ref l),some v,some (.ref c),none]∧RepT H' c m3∧m3.Ok∧m.w - 1=m3.w∧(fm=none→m3=oneT (m.w - 1))∧(∀ m',fm=some m'→v=.ref c∧m'=m3),?_,?_⟩
 ·trivial
  refine ⟨zab (by simp),fun p1 H2 n2=>⟨_,zru (n2.g _ _ el) n2.at',?_⟩⟩
  cases fm with
  | none =>
   obtain ⟨rfl,_⟩:=zel tld ht ok
   rw [show (!(List.map V.bl (false :: true :: List.replicate 8 false)).isEmpty)=true from rfl]
   refine iteT ⟨_,.of (n2.g _ _ ea),_,zd2,_,rfl,zab (by simp),fun t1 H3 n3=>⟨zab (by simp),fun t2 H4 n4=>⟨zab (by simp),fun l5 H5 n5=>?_⟩⟩⟩
   have g15:Same H1 H5:=n2.g.trans (n3.g.trans (n4.g.trans n5.g))
   refine ⟨_,.of (g15 _ _ ea),_,zai (j:=1) rfl,b1,rfl,_,.inr (.of (g15 _ _ eb1)),⟨by decide,by decide⟩,_,n5.at',by omega,by omega,zab (by simp;omega),fun l6 H6 n6=>⟨_,.inl ⟨.of n6.at',fun t7 H7 n7=>⟨zab (by simp),fun t8 H8 n8=>⟨zab (by simp),fun t9 H9 n9=>?_⟩⟩⟩⟩⟩
   have g59:Same H5 H9:=n6.g.trans (n7.g.trans (n8.g.trans n9.g))
   refine ⟨g15.trans g59,oneT (m.w - 1),⟨t7,t8,_,?_,(n8.g.trans n9.g) _ _ n7.at',?_,n9.g _ _ n8.at'⟩,zrs (by omega),rfl,fun _=>rfl,fun m' e=>nomatch e⟩
   ·rw [n9.at']
    show some (HO.tup [V.int ((m.w:Int) - 1),_,_])=some (HO.tup [V.int ((m.w - 1:Nat):Int),_,_])
    rw [show ((m.w - 1:Nat):Int)=(m.w:Int) - 1 by omega]
   rw [htl1,show (((2 ^ m.w:Nat):Int) / 2).toNat=2 ^ (m.w - 1) by omega]
   exact zka ⟨t2,_,rfl,(n5.g.trans g59) _ _ n4.at',.cons ⟨t1,rfl,(n4.g.trans (n5.g.trans g59)) _ _ n3.at'⟩ .nil⟩ _
  | some m3 =>
   obtain ⟨rfl,can,h3,_⟩:=zc6 tld
   obtain ⟨c,rfl,rc⟩:=hf
   rw [show (!(List.map V.bl []).isEmpty)=false from rfl]
   refine iteF ⟨_,.of (n2.g _ _ ea),_,zd2,_,rfl,c,m3,?_,rc.same n2.g,can.ok,fun H3 g3=>⟨true,rfl,iteF ?_⟩⟩
   ·show [V.ref c,V.int ((m.w:Int) - 1)]=[V.ref c,V.int (m3.w:Int)]
    rw [show (m3.w:Int)=(m.w:Int) - 1 by omega]
   have g13:Same H1 H3:=n2.g.trans g3
   refine ⟨c,m3,rfl,tl.same (g1.trans g13),tr.same (g1.trans g13),rc.same g13,can.ok,fun p m' H4 g4 r4 rd=>?_⟩
   obtain ⟨R,B⟩:=rd.bis
   cases zmh B can rd.can
   have rc4:=rc.same (g13.trans g4)
   exact ⟨_,ne_tm r4 rc4,iteF ⟨g13.trans g4,c,rfl,m3,rc4,can.ok,h3,fun e=>(nomatch e),fun m' e=>by cases e;exact ⟨rfl,rfl⟩⟩⟩
 ·rintro σ' H2 ⟨c,m3,g2,rfl,rc,o3,h3,f1,f2⟩
  trivial
  refine ⟨a,c,m,m3,t,rfl,rm1.same g2,rc,ok,o3,hn6,ht,h3,fun p rs ls H3 g3 ep3 pr3 S hl hlen=>?_⟩
  have g13:Same H1 H3:=g2.trans g3
  have hrl:=SS.Paired.len pr3
  refine ⟨fun σ' H'=>Same H3 H'∧σ'=[some (.ref a),some (nV t),some (.ref l),some v,some (.ref c),some (.ref p)]∧∃ m',fm=some m',?_,?_⟩
  ·trivial
   refine ⟨⟨_,.of ep3⟩,zdd (n:=rs.length) (fun σ=>∃ v0 v1,σ=[v0,v1]) (fun j y H=>∃ t,ls[j]?=some t∧∃ bb,y=.ref bb∧H bb=some (.tup (t.tail.map nV))) (by omega) ⟨_,_,rfl⟩ (fun i H5 hi gh=>⟨_,rs[i],.of (gh _ _ ep3),y01 hi⟩) (fun H5 gh=>⟨_,.of (gh _ _ ep3),y05 _⟩) ?_ ?_⟩
   ·rintro D i ys σ H5 x H5' hi gh hD hD' hl' hy' ⟨v0,v1,rfl⟩ ⟨rfl,yx⟩
    have ex:=yx _ (.of (gh _ _ ep3))
    obtain ⟨t,et,tp,tq,rfl,etp,etq⟩:=SS.Paired.at pr3 ex
    trivial
    exact ⟨_,.of (gh _ _ etp),rfl,_,_,rfl,_,_,rfl,rfl,zbi (fun j y H H' ts z=>let ⟨t,e1,a,e2,ea⟩:=z;⟨t,e1,a,e2,ts _ _ ea⟩) (by omega) hi hD hD' hl' hy' (Same.refl _).tups gh ⟨_,_,rfl⟩ ⟨_,et,tq,rfl,gh _ _ etq⟩⟩
   intro D ys H5 hD g5 eD hyl hy'
   have few:(unlike ((tls ls).map k1)).length ≤ 64:=by rw [zfu fun x y=>zoc];exact zsi ok o3 h3 hn6 S
   refine ⟨D,rfl,ys,.of eD,(tls ls).map k1,zbn (by rw [y00,y00];omega) (fun j y kk e1 e2=>?_),by omega,fun a2 ha2=>⟨_,zam,by omega,?_⟩⟩
   ·obtain ⟨t,e3,bb,rfl,ebb⟩:=hy' j y e1
    rw [y02,y02,e3] at e2
    cases e2
    exact ⟨bb,rfl,zta ebb⟩
   have g36:=g5.trans (zbh ha2 (setC a2 (unlike ((tls ls).map k1)).length))
   have g6:=g13.trans g36
   have el6:=g6 _ _ el
   generalize upd H5 a2 (setC a2 (unlike ((tls ls).map k1)).length)=H6 at g36 g6 el6 ⊢
   have eln:(unlike ((tls ls).map k1)).length=(unlike (tls ls)).length:=zfu (fun x y=>zoc) _
   cases fm with
   | none =>
    cases f1 rfl
    obtain ⟨rfl,big⟩:=zel tld ht ok
    have:=big ls S hl
    rw [decide_eq_true (by omega)]
    refine iteT ⟨zab (by simp),fun l1 H7 n7=>⟨zab (by simp),fun l2 H8 n8=>⟨_,n8.at',by decide,by decide,zab (by simp),fun l3 H9 n9=>⟨_,(n8.g.trans n9.g) _ _ n7.at',_,n9.at',zab (by simp),fun l4 Ha na=>?_⟩⟩⟩⟩
    have gg:Same H6 Ha:=n7.g.trans (n8.g.trans (n9.g.trans na.g))
    refine ⟨_,(zle (.of (gg _ _ el6)) (.of na.at') (bfl _) rfl).up (by omega),?_⟩
    exact q Ha (g1.trans (g6.trans gg))
   | some m' =>
    obtain ⟨rfl,rfl⟩:=f2 m' rfl
    obtain ⟨rfl,can,_,few2⟩:=zc6 tld
    obtain ⟨few3,ends⟩:=few2 ls S
    rw [decide_eq_false (by omega)]
    exact iteF ⟨g36,m',rfl⟩
  rintro σ' H6 ⟨g36,rfl,m',rfl⟩
  obtain ⟨rfl,rfl⟩:=f2 m' rfl
  obtain ⟨rfl,can,_,few2⟩:=zc6 tld
  obtain ⟨_,ends⟩:=few2 ls S
  have g6:=g13.trans g36
  have el6:=g6 _ _ el
  trivial
  refine ⟨zab (by simp),fun l1 H7 n7=>⟨_,zru (n7.g _ _ el6) n7.at',?_⟩⟩
  rw [show (!(List.map V.bl []).isEmpty)=false from rfl]
  have g37:=g36.trans n7.g
  have g17:=g6.trans n7.g
  obtain ⟨b3,c3,ts3,e3a,e3b,pr3c,e3c⟩:=rc.same (g3.trans g37)
  have ep7:=g37 _ _ ep3
  have pr7:=L2.Paired.mapP pr3 fun _ _ z=>z.ts g37.tups
  refine iteF ⟨⟨_,.of ep7⟩,zdd (n:=rs.length) (fun σ=>∃ v0 v1,σ=[v0,v1,some (.ref c),some (.ref a)]) (fun j y H=>y=.bl true) (by omega) ⟨_,_,rfl⟩ (fun i H8 hi gh=>⟨_,rs[i],.of (gh _ _ ep7),y01 hi⟩) (fun H8 gh=>⟨_,.of (gh _ _ ep7),y05 _⟩) ?_ ?_⟩
  ·rintro D2 i zs σ H8 x H8' hi gh hD2 hD2' hl' hy2 ⟨v0,v1,rfl⟩ ⟨rfl,yx⟩
   have ex:=yx _ (.of (gh _ _ ep7))
   obtain ⟨u,eu,tp,tq,rfl,etp,etq⟩:=SS.Paired.at pr7 ex
   obtain ⟨z,S',rfl,hz,efin⟩:=ends u (y0a eu)
   obtain ⟨_,_,e',_,gS⟩:=zb8 ok can.ok h3 (S.come _ (y0a eu))
   cases e'
   have lS:=gS.len
   have etp':H7 tp=some (.tup [.ref tq,nV z]):=etp
   have etq':H7 tq=some (.tup (S'.map nV)):=etq
   trivial
   refine ⟨_,.of (gh _ _ etp'),rfl,_,_,rfl,_,_,rfl,rfl,_,.of (gh _ _ e3a),_,zai (j:=2) rfl,c3,rfl,_,_,rfl,.of (gh _ _ e3c),_,zai (by rw [y02,Tm.fin_at hz];rfl),?_⟩
   refine ⟨tq,rfl,⟨_,.of (gh _ _ etq')⟩,zf7 (K:=K) (a:=tq) (xs:=S'.map nV) (fun σ=>∃ v,σ=[v,some (.ref a)]) (fun x=>match x with | .int r=>V.bl (m.fin r.toNat) | _=>.non) (by rw [y00];omega) (.of (gh _ _ etq')) ⟨_,rfl⟩ ?_ ?_⟩
   ·rintro D3 j σ H9 x hj mx hx gg hD3 hD3' ⟨v,rfl⟩
    obtain ⟨r,mr,rfl⟩:=y09.mp mx
    have gH:=g17.trans (gh.trans gg)
    trivial
    exact ⟨_,.of (gH _ _ ea),_,zai (j:=2) rfl,c1,rfl,_,.of (gH _ _ ec1),_,zai (by rw [y02,Tm.fin_at (gS.2 r mr)];rfl),zcr (by rw [y00];omega) hx hD3 hD3' gg ⟨_,rfl⟩ rfl⟩
   intro D3 H9 hD3 g9 eD3
   refine ⟨_,rfl,S'.map m.fin,.of (by rw [eD3,y0v,y0v];rfl),rfl,?_⟩
   rw [show decide (V.bl (m'.fin z)=V.bl ((S'.map m.fin).any id))=true by rw [efin,List.any_map];exact decide_eq_true rfl]
   exact zbi (fun j y H H' ts z=>z) (by omega) hi hD2 (g9 _ _ hD2') hl' hy2 g9.tups (gh.trans g9) ⟨_,_,rfl⟩ rfl
  intro D2 zs H8 hD2 g8 eD2 hzl hz
  refine ⟨_,rfl,zs.map fun _=>true,.of ?_,?_⟩
  ·rw [eD2,y0v]
   congr 2
   refine (List.map_id zs).symm.trans (y1d fun y hy=>?_)
   obtain ⟨j,hj,rfl⟩:=y1g hy
   exact hz j _ (y01 hj)
  ·rw [show ((zs.map fun _=>true).all id)=true by simp]
   exact q H8 (g1.trans (g17.trans g8))
abbrev s_law_round:Stmt:=top 35
theorem sc_law_round:FnScope ["_law_machine_here","_law_number","_law_width","_law_ways","_law_ends","_law_rooms","_law_table","_law_one"] ["_law_machine_here","_law_number"] (defScope s_law_round):=⟨rfl,rfl,rfl,by decide +kernel,rfl,by decide +kernel,by decide +kernel⟩
theorem zll (T:Txt K mg cTooGreat cSayError cs) (d:Dfn K mg "_law_round" s_law_round ["_law_machine_here","_law_number"]):Cal P w K mg base 1 "_law_round" ["_law_machine_here","_law_number"] zhl:=by
 refine d.cal sc_law_round (fun vs H Q E h=>?_) (fun f cdv A outer s H vs Q E hr h=>?_)
 ·obtain ⟨a,m,x,rfl,_⟩:=h
  rfl
 obtain ⟨a,m,x,rfl,⟨b,c,ts,ea,eb,pr,ec⟩,ok,q⟩:=h
 have hpos:=ok.pos
 have hf:=ok.few
 have hps:1 ≤ 2 ^ m.w∧2 ^ m.w ≤ 16:=zbu (by have:=ok.wid;omega)
 have htl:ts.length=2 ^ m.w:=by rw [SS.Paired.len pr,ok.len]
 refine ⟨_,(zac (zrn (pv 0) (zez K (n:=3) rfl (zbm (zah (i:=2) sc_law_round.nd (by rfl) (Or.inl (by rfl))) (zbm (zah (i:=3) sc_law_round.nd (by rfl) (Or.inl (by rfl))) (zbm (zah (i:=4) sc_law_round.nd (by rfl) (Or.inl (by rfl))) zey))))) (zac (zan (i:=5) sc_law_round.nd rfl (Or.inr rfl) (zau (zak K) (by rfl) T.b_len boot_len (pa_c (pv 4) zaa))) (zac (zan (i:=6) sc_law_round.nd rfl (Or.inl rfl) (zat zaa)) (zac (za5 PassesOwn.never rfl (zaw (by rfl) T.b_range (pa_c (pv 5) zaa)) (zah (i:=7) sc_law_round.nd (by rfl) (Or.inr (by rfl))) (zae (zbz (zck K PySem.F.plainAttrs_list PySem.F.slot_list_append PySem.F.type_list_append za9 (pv 6) (pa_c (za6 zag (by rfl) T.b_tuple boot_tuple (pa_c (zas ["_law_other"] [(5,"_law_rooms"),(1,"_law_number"),(7,"_law_one")] (CompOk.of rfl (by rfl) (by rfl)) (by rfl) (zaw (by rfl) T.b_range (pa_c (pv 5) zaa)) (fun _ _ _ _ _=>(zah (i:=0) (show List.Nodup (["_law_other","_law_rooms","_law_number","_law_one"]:List Str) by decide +kernel) (by rfl) (Or.inl (by rfl)))) (fun _ _ _ _ _=>za4) (fun _ _ _ _ _=>(zap zb3 (zap zbe (zap zbe (zap zbe (pv 3) (pv 0)) zad) (zap zb3 (pv 2) zad)) (pv 1)))) zaa)) zaa))))) (zae (zar (zay (pa_c (pv 2) (pa_c (zap zqi (zay (pa_c (za6 zag (by rfl) T.b_tuple boot_tuple (pa_c (pv 6) zaa)) zaa)) (zkc (zpt K) (pv 3) (zm4 zad) zm5)) (pa_c (pv 4) zaa)))))))))),?_⟩
 refine zba [some (.ref a),some (.int x),none,none,none,none,none,none] rfl ?_
 trivial
 refine ⟨_,.of ea,rfl,_,_,rfl,_,_,rfl,_,_,rfl,rfl,c,rfl,_,.inr (.of ec),by decide,fun pt H1 n1=>⟨by omega,by rw [y00];omega,?_⟩⟩
 rw [y00,show ((m.ends.length:Nat):Int).toNat=m.ends.length from rfl]
 refine zb6 (fun i σ H'=>Same H H'∧(∃ v7,σ=[some (.ref a),some (.int x),some (nV m.w),some (.ref b),some (.ref c),some (nV m.ends.length),some (.ref pt),v7])∧∃ rs lines,H' pt=some (.lst rs)∧Paired (Line H') rs lines∧lines.length=i∧∀ l ∈ lines,l.length=m.n∧∀ r ∈ l,r < m.n)
  ⟨n1.g,⟨_,rfl⟩,[],[],n1.at',.nil,rfl,fun _ h=>(nomatch h)⟩ ?_ ?_
 ·rintro i σ H' hi ⟨g,⟨v7,rfl⟩,rs,lines,ep,prl,hll,hg⟩
  trivial
  have hrl:=SS.Paired.len prl
  refine ⟨.inl ⟨_,.of ep⟩,by omega,by omega,?_⟩
  rw [show ((m.ends.length:Nat):Int).toNat=m.ends.length from rfl]
  refine zo0 (fun σ=>∃ v,σ=[v,some (nV m.ends.length),some (.int x),some (.int (0 + (i:Int)))]) (fun j=>.int ((0 + (i:Int) + (0 + (j:Int)) + 1 + x % 3) % (m.ends.length:Int))) (by omega) ⟨_,rfl⟩ ?_ ?_
  ·rintro D j σ H2 hj gg hD hD' ⟨v,rfl⟩
   trivial
   exact ⟨by decide,by omega,zjj (by omega) hj hD hD' gg ⟨_,rfl⟩ rfl⟩
  intro D H2 hD g2 eD
  have md:∀ z:Int,0 ≤ z % (m.ends.length:Int)∧z % (m.ends.length:Int) < (m.ends.length:Int):=fun z=>⟨y2j z (by omega),y2m z (by omega)⟩
  have eD':H2 D=some (.lst (((List.range m.ends.length).map fun j:Nat=>((0 + (i:Int) + (0 + (j:Int)) + 1 + x % 3) % (m.ends.length:Int)).toNat).map nV)):=by
   rw [eD,y0v]
   refine congrArg (fun l=>some (HO.lst l)) (y1d fun j _=>?_)
   show V.int _=V.int _
   rw [Int.toNat_of_nonneg (md _).1]
  refine ⟨D,rfl,_,.inl ⟨.of eD',fun t2 H3 n3=>⟨_,(g2.trans n3.g) _ _ ep,small1000 (by omega),?_⟩⟩⟩
  have g23:=g2.trans n3.g
  have tsA:TupS H' (upd H3 pt (.lst (rs ++ [.ref t2]))):=g23.tups.trans (TupS.wr (g23 _ _ ep) _)
  refine ⟨(g.trans g23).wr n1.nil _,rs ++ [.ref t2],zam,_,SM.Paired.snoc (L2.Paired.mapP prl fun _ _ z=>z.ts tsA) ⟨t2,rfl,TupS.wr (g23 _ _ ep) _ _ _ n3.at'⟩,by rw [y0c,y17,hll],fun l hl=>?_⟩
  rcases y0i.mp hl with h | h
  ·exact hg l h
  ·rw [y07.mp h]
   refine ⟨by simp,fun r hr=>?_⟩
   obtain ⟨j,_,rfl⟩:=y09.mp hr
   have:=md (0 + (i:Int) + (0 + (j:Int)) + 1 + x % 3)
   show _ < m.ends.length
   omega
 ·rintro σ H' ⟨g,⟨v7,rfl⟩,rs,lines,ep,prl,hll,hg⟩
  trivial
  have sm:∀ n:Nat,n ≤ 1000→n ≤ sizeLine:=fun n h=>y1l (small1000 h)
  refine ⟨_,.inl ⟨.of ep,fun t H2 n2=>⟨zab (by simp),fun p1 H3 n3=>⟨_,.of ((g.trans (n2.g.trans n3.g)) _ _ eb),(fun z=>?_),fun p2 H4 n4=>⟨_,n4.g _ _ n3.at',_,n4.at',sm _ ?_,fun p3 H5 g5 e5=>⟨zab (by simp),fun p4 H6 n6=>?_⟩⟩⟩⟩⟩⟩
  ·have:=z.1
   rw [show (1:Int)=((1:Nat):Int) from rfl,HT.sIx_nat,y3j (by omega)] at this
   omega
  ·rw [show (1:Int)=((1:Nat):Int) from rfl,zia,y2b]
   simp
   omega
  ·rw [show (1:Int)=((1:Nat):Int) from rfl,zia] at e5
   have gA:=n2.g.trans (n3.g.trans (n4.g.trans (g5.trans n6.g)))
   have gB:=n3.g.trans (n4.g.trans (g5.trans n6.g))
   have okr:=zq6 ok hll hg
   refine q p4 ⟨m.w,lines :: m.ways.drop 1,m.ends⟩ H6 (g.trans gA) ⟨p3,c,_,n6.at',n6.g _ _ e5,?_,(g.trans gA) _ _ ec⟩ okr rfl rfl
   show Paired (Tab H6) (V.ref t :: ts.drop 1) (lines :: m.ways.drop 1)
   refine .cons ⟨t,rs,rfl,gB _ _ n2.at',L2.Paired.mapP prl fun _ _ z=>z.ts gA.tups⟩ ?_
   have dr:∀ {ts:List V} {ws:List (List (List Nat))},Paired (Tab H) ts ws→Paired (Tab H) (ts.drop 1) (ws.drop 1):=fun z=>by
    cases z with
    | nil=>exact .nil
    | cons _ h=>exact h
   exact L2.Paired.mapP (F:=Tab H) (dr pr) fun _ _ z=>z.ts (g.trans gA).tups
theorem zjb {ts:List (Addr × List (Pos × Str))} {a b:Addr} {q:Z3} (h:b ≠ a):((a,q) :: ts).lookup b=ts.lookup b:=by rw [y19,show (b == a)=false from beq_eq_false_iff_ne.mpr h]
theorem zn5 {ts:List (Addr × List (Pos × Str))} {a:Addr} {q:Z3}:((a,q) :: ts).lookup a=some q:=by simp [List.lookup]
abbrev s_law:Stmt:=top 41
theorem sc_law:FnScope ["_law_script","_law_number","_law_width","_law_rooms","_law_seed","_law_machine_here","_law_track","_law_far","_law_wrong"] ["_law_script"] (defScope s_law):=⟨rfl,rfl,rfl,by decide +kernel,rfl,by decide +kernel,by decide +kernel⟩
theorem ok_law {f Pt Pr Pd:Addr} {fd:FuncData} (T:Txt K mg cTooGreat cSayError cs) (n1:Pr ≠ Pt) (n2:Pd ≠ Pt) (n3:Pd ≠ Pr) (F:Fun K "law" "law" s_law f fd) (C_law_cell_at:Cal P w K mg base 1 "_law_cell_at" ["_law_script","_law_k"] (zmm K))
  (C_law_machine:Cal P w K mg base 1 "_law_machine" ["_law_number","_law_rooms","_law_width"] zj4) (C_law_round:Cal P w K mg base 1 "_law_round" ["_law_machine_here","_law_number"] zhl)
  (C_law_told:Cal P w K mg base 9 "_law_told" ["_law_machine_here","_law_track"] (zeo Pt qs_tree_least Pd qs_tree_dropped))
  (C_law_right:Cal P w K mg base 10 "_law_right" ["_law_machine_here","_law_track"] (zfv Pt qs_tree_least Pr qs_tree_reduced Pd qs_tree_dropped)) :
  FnOk P w K mg base CX0 11 f fd ["_law_script"] (zml K [(Pt,qs_tree_least),(Pr,qs_tree_reduced),(Pd,qs_tree_dropped)]):=by
 refine F.ok sc_law (fun vs H Q E h=>?_) (fun cdv A outer s H vs Q E hr h=>?_)
 ·obtain ⟨a,ns,rfl,_⟩:=h
  rfl
 obtain ⟨a,ns,rfl,hS,h63,hO,q⟩:=h
 have tl:TabOk H Pt qs_tree_least:=hO.tab zn5
 have tr:TabOk H Pr qs_tree_reduced:=hO.tab (by rw [zjb n1];exact zn5)
 have td:TabOk H Pd qs_tree_dropped:=hO.tab (by rw [zjb n2,zjb n3];exact zn5)
 have hu:=zfq hr 8 (by decide)
 refine ⟨_,(zac (zan (i:=1) sc_law.nd rfl (Or.inl rfl) (zap zb3 (zao C_law_cell_at hr (by omega) (by rfl) (pa_c (pv 0) (pa_c zad zaa))) (zap zrr zad zad))) (zac (zan (i:=2) sc_law.nd rfl (Or.inl rfl) (zap zbe zad (zap zb3 (pv 1) zad))) (zac (zan (i:=3) sc_law.nd rfl (Or.inl rfl) (zap zbe zad (zap zb3 (zap zb0 (pv 1) zad) (zaq (za3 K) (zat (pa_c zad (pa_c zad (pa_c zad zaa)))) (zap zf1 (pv 2) zad) (fun _ _=>rfl))))) (zac (zan (i:=4) sc_law.nd rfl (Or.inl rfl) (zap zb3 (zap zbe (zap ze1 (zau (zg0 K rfl) (by rfl) T.b_sum boot_sum (pa_c (zkc (zmo K) (pv 0) (zm4 zad) zm5) zaa)) zad) (zap zb0 (pv 1) zad)) zad)) (zac (zan (i:=5) sc_law.nd rfl (Or.inl rfl) (zao C_law_machine hr (by omega) (by rfl) (pa_c (pv 4) (pa_c (pv 3) (pa_c (pv 2) zaa))))) (zdx (zb1 (zax zqg (zap zb3 (zap zb0 (pv 1) zad) zad) zad (nomark _)) (zae (zan (i:=5) sc_law.nd rfl (Or.inl rfl) (zao C_law_round hr (by omega) (by rfl) (pa_c (pv 5) (pa_c (zap zb0 (pv 1) zad) zaa))))) za2) (zac (zan (i:=6) sc_law.nd rfl (Or.inl rfl) (zap zb3 (zap zb0 (pv 1) zad) (pv 2))) (zac (zan (i:=7) sc_law.nd rfl (Or.inl rfl) (zap zb3 (zap zb0 (pv 1) zad) (zap zrr zad zad))) (zac (za5 PassesOwn.never rfl (zaz K (zat (pa_c (pe_un zrj zad) (pa_c (pv 2) (pa_c (zap zf1 (pe_un zrj zad) (pv 7)) (pa_c (zap zbe (pv 2) (pv 7)) zaa)))))) (zah (i:=8) sc_law.nd (by rfl) (Or.inl (by rfl))) (zae (zb1 (zax (zkg hu) (zaq (zaj K) (zao C_law_told hr (by omega) (by rfl) (pa_c (pv 5) (pa_c (pv 8) zaa))) zad (fun _ _=>rfl)) (zap ze2 (zat (pa_c zcg zaa)) (zap zi1 (zat (pa_c zcg zaa)) zad)) (nomark _)) (zae (zar zcg)) za2))) (zae (zar (zao C_law_right hr (by omega) (by rfl) (pa_c (pv 5) (pa_c (pv 6) zaa)))))))))))))),?_⟩
 refine zba [some (.ref a),none,none,none,none,none,none,none,none] rfl ?_
 trivial
 refine ⟨a,ns,0,rfl,hS,by decide,fun c=>⟨⟨by decide,by decide,by decide⟩,_,rfl,by decide,by decide,?_⟩⟩
 have hh:=y2j c (show (10:Int) ^ Int.toNat 20 ≠ 0 by decide)
 generalize c % (10:Int) ^ Int.toNat 20=hd at hh
 have w0:=y2j hd (show (3:Int) ≠ 0 by decide)
 have w1:=y2m hd (show (0:Int) < 3 by decide)
 obtain ⟨wd,ewd⟩:∃ wd:Nat,1 + hd % 3=(wd:Int):=⟨(1 + hd % 3).toNat,by omega⟩
 rw [ewd]
 have hw2:1 ≤ wd∧wd ≤ 3:=by omega
 obtain ⟨k,hat,hk⟩:∃ k:Nat,atI [V.int 6,V.int 5,V.int 3] ((wd:Int) - 1)=some (nV k)∧(k=6∨k=5∨k=3):=by
  have:wd=1∨wd=2∨wd=3:=by omega
  rcases this with rfl | rfl | rfl
  ·exact ⟨6,zai (j:=0) rfl,.inl rfl⟩
  ·exact ⟨5,zai (j:=1) rfl,.inr (.inl rfl)⟩
  ·exact ⟨3,zai (j:=2) rfl,.inr (.inr rfl)⟩
 have kp:0 < ((k:Nat):Int):=by omega
 have r0:=y2j (hd / 3) (show ((k:Nat):Int) ≠ 0 by omega)
 have r1:=y2m (hd / 3) kp
 obtain ⟨n,en⟩:∃ n:Nat,1 + hd / 3 % ((k:Nat):Int)=(n:Int):=⟨(1 + hd / 3 % ((k:Nat):Int)).toNat,by omega⟩
 have hn:1 ≤ n∧n ≤ 6:=by omega
 refine ⟨⟨by decide,by decide⟩,zab (by simp),fun pl H1 m1=>⟨_,.of m1.at',_,hat,_,rfl,kp,_,m1.g.seq hS,fun pc H2 n2'=>?_⟩⟩
 rw [en]
 rw [zrb] at n2'
 refine ⟨_,.of n2'.at',.inr ⟨by decide,by decide⟩,⟨by decide,by decide⟩,by decide,_,n,wd,rfl,by omega,by omega,by omega,fun p1 t1 H3 g3 rt1 o1 ew1 en1=>?_⟩
 generalize ((cutL ns (some 1) none).sum * 48271 + hd / 18) % 2147483629=sd
 have g03:Same H H3:=m1.g.trans (n2'.g.trans g3)
 clear r0 r1 w0 w1 en ewd
 refine ⟨fun σ H'=>∃ p1 t1,Same H H'∧σ=[some (.ref a),some (.int hd),some (nV wd),some (nV n),some (.int sd),some (.ref p1),none,none,none]∧RepT H' p1 t1∧t1.Ok∧t1.w=wd∧t1.n ≤ 6,?_,?_⟩
 ·trivial
  refine ⟨⟨by decide,by decide⟩,by decide,ite2 (fun _=>?_) fun _=>⟨g03,t1,rt1,o1,ew1,by show t1.ends.length ≤ 6;omega⟩⟩
  refine ⟨⟨by decide,by decide⟩,p1,t1,_,rfl,rt1,o1,fun q1 s1 H7 g7 u1 v1 x1 y1=>?_⟩
  exact ⟨g03.trans g7,q1,rfl,s1,u1,v1,by omega,by rw [y1];show t1.ends.length ≤ 6;omega⟩
 rintro σ H4 ⟨p1,t1,g4,rfl,rt1,o1,ew1,en1⟩
 trivial
 have k0:=y2j (hd / 63) (show ((wd:Nat):Int) ≠ 0 by omega)
 have k1:=y2m (hd / 63) (show (0:Int) < ((wd:Nat):Int) by omega)
 obtain ⟨tk,etk⟩:∃ n:Nat,hd / 63 % ((wd:Nat):Int)=(n:Int):=⟨(hd / 63 % ((wd:Nat):Int)).toNat,by omega⟩
 rw [etk]
 have htk:tk < wd:=by omega
 clear k0 k1 etk
 have f0:=y2j (hd / 189) (show (10:Int) ^ Int.toNat 18 ≠ 0 by decide)
 generalize hd / 189 % (10:Int) ^ Int.toNat 18=fr at f0 ⊢
 refine ⟨⟨by decide,by decide⟩,by omega,⟨by decide,by decide⟩,⟨by decide,by decide,by decide⟩,by decide,zab (by simp),fun pw H5 n5=>⟨⟨_,.of n5.at'⟩,?_⟩⟩
 have far:∀ (j:Nat) (y:V),([V.int (-1),nV wd,V.int (-1 - fr),V.int (↑wd + fr)]:List V)[j]?=some y→∃ x:Int,y=.int x∧¬ (0 ≤ x∧x < (wd:Int)):=fun j y hy=>by
  rcases j with _ | _ | _ | _ | j
  ·cases hy;exact ⟨_,rfl,by omega⟩
  ·cases hy;exact ⟨_,rfl,by omega⟩
  ·cases hy;exact ⟨_,rfl,by omega⟩
  ·cases hy;exact ⟨_,rfl,by omega⟩
  ·simp at hy
 refine zcp (K:=K) (a:=pw) (xs:=[V.int (-1),nV wd,V.int (-1 - fr),V.int (↑wd + fr)]) (fun j σ H'=>Same H5 H'∧∃ v8,σ=[some (.ref a),some (.int hd),some (nV wd),some (nV n),some (.int sd),some (.ref p1),some (nV tk),some (.int fr),v8]) ⟨Same.refl _,_,rfl⟩ (fun j σ H' _ z=>.of (z.1 _ _ n5.at')) ?_ ?_
 ·rintro j y σ H6 hy ⟨g6,v8,rfl⟩
  obtain ⟨x,rfl,hx⟩:=far j y hy
  have g06:Same H H6:=g4.trans (n5.g.trans g6)
  trivial
  refine ⟨p1,t1,x,rfl,tl.same g06,td.same g06,rt1.same (n5.g.trans g6),o1,en1,fun p l v ks fm H7 g7 ep el hf tld=>?_⟩
  have eks:=zk6 tld (by rw [ew1];exact hx)
  subst eks
  refine ⟨p,rfl,_,.of ep,_,zd2,zab (by simp),fun l1 H8 n8=>⟨zab (by simp),fun l2 H9 n9=>⟨_,n9.at',by decide,by decide,zab (by simp),fun l3 Ha na=>⟨_,(n9.g.trans na.g) _ _ n8.at',_,na.at',zab (by simp),fun l4 Hb nb=>?_⟩⟩⟩⟩
  have gg:Same H7 Hb:=n8.g.trans (n9.g.trans (na.g.trans nb.g))
  refine ⟨_,ztb (bs:=true :: List.replicate 9 false) (gg _ _ el) nb.at',iteF ?_⟩
  exact g6.trans (g7.trans gg)
 ·rintro σ H6 ⟨g6,v8,rfl⟩
  have g06:Same H H6:=g4.trans (n5.g.trans g6)
  simp only [tRet,tNil,tCons,tCall,zdi,zfn,y0s]
  exact ⟨p1,t1,tk,rfl,tl.same g06,tr.same g06,td.same g06,rt1.same (n5.g.trans g6),o1,en1,by omega,fun H7 _=>q H7⟩
abbrev s_law_both:Stmt:=top 36
theorem sc_law_both:FnScope ["_law_track","_law_letter","_law_worth","_law_whole"] ["_law_track","_law_letter"] (defScope s_law_both):=⟨rfl,rfl,rfl,by decide +kernel,rfl,by decide +kernel,by decide +kernel⟩
theorem znu (T:Txt K mg cTooGreat cSayError cs) (d:Dfn K mg "_law_both" s_law_both ["_law_track","_law_letter"]):Cal P w K mg base 1 "_law_both" ["_law_track","_law_letter"] zho:=by
 refine d.cal sc_law_both (fun vs H Q E h=>?_) (fun f cdv A outer s H vs Q E hr h=>?_)
 ·obtain ⟨l,t,rfl,_⟩:=h
  rfl
 obtain ⟨l,t,rfl,hl,ht,q⟩:=h
 refine ⟨_,(zac (zan (i:=2) sc_law_both.nd rfl (Or.inl rfl) (zaq (za3 K) (zat (pa_c zad (pa_c zad (pa_c zad zaa)))) (pv 0) (fun _ _=>rfl))) (zac (zan (i:=3) sc_law_both.nd rfl (Or.inl rfl) (zap zbe (zap ze1 (zap ze1 (zap zb0 (pv 1) (pv 2)) (pv 2)) zad) (zap zb3 (pv 1) (pv 2)))) (zae (zar (zat (pa_c (pv 3) (pa_c (zap zbe (pv 3) (pv 2)) zaa))))))),?_⟩
 refine zba [some (nV t),some (nV l),none,none] rfl ?_
 trivial
 have hat:atI [V.int 1,V.int 2,V.int 4] ((t:Nat):Int)=some (nV (2 ^ t)):=by
  have:t=0∨t=1∨t=2:=by omega
  rcases this with rfl | rfl | rfl
  ·exact zai rfl
  ·exact zai rfl
  ·exact zai rfl
 refine ⟨zab (by simp),fun p1 H1 n1=>⟨_,.of n1.at',_,hat,?_⟩⟩
 have e:=both_eq t ht l hl
 have e1:(l:Int) / ((2 ^ t:Nat):Int) * ((2 ^ t:Nat):Int) * 2 + (l:Int) % ((2 ^ t:Nat):Int)=((put0 l t:Nat):Int):=by
  rw [← e]
  push_cast
  rfl
 have hp:0 < ((2 ^ t:Nat):Int)∧((2 ^ t:Nat):Int) < 8:=by
  have:t=0∨t=1∨t=2:=by omega
  rcases this with rfl | rfl | rfl <;> decide
 refine ⟨_,rfl,⟨by omega,by omega⟩,_,rfl,.inr ⟨by omega,by omega⟩,.inr ⟨by decide,by decide⟩,_,rfl,hp.1,_,rfl,zab (by simp),fun p H2 n2=>q p H2 (n1.g.trans n2.g) ?_⟩
 rw [n2.at',e1]
 rfl
abbrev s_law_set:Stmt:=top 37
theorem sc_law_set:FnScope ["_law_machine_here","_law_track","_law_letter","_law_left","_law_right_here","_law_found","_law_whole","_law_one","_law_other"] ["_law_machine_here","_law_track","_law_letter","_law_left","_law_right_here"] (defScope s_law_set):=⟨rfl,rfl,rfl,by decide +kernel,rfl,by decide +kernel,by decide +kernel⟩
theorem zql (T:Txt K mg cTooGreat cSayError cs) (d:Dfn K mg "_law_set" s_law_set ["_law_machine_here","_law_track","_law_letter","_law_left","_law_right_here"]) (C_law_both:Cal P w K mg base 1 "_law_both" ["_law_track","_law_letter"] zho):Cal P w K mg base 2 "_law_set" ["_law_machine_here","_law_track","_law_letter","_law_left","_law_right_here"] zj3:=by
 refine d.cal sc_law_set (fun vs H Q E h=>?_) (fun f cdv A outer s H vs Q E hr h=>?_)
 ·obtain ⟨a,c,d,m,t,l,s1,s2,rfl,_⟩:=h
  rfl
 obtain ⟨a,c,d',m,t,l,s1,s2,rfl,⟨b1,c1,ts1,ea,eb1,pr1,ec1⟩,ok,hn6,ht,hl,ec,ed,gs1,gs2,q⟩:=h
 have hw3:=ok.wid
 have lens:=gs1.len
 have lent:=gs2.len
 have h16:l < 16:=by have:2 ^ (m.w - 1) ≤ 2 ^ 2:=y2q (by decide) (by omega);omega
 refine ⟨_,(zac (zan (i:=5) sc_law_set.nd rfl (Or.inl rfl) zqa) (zac (za5 PassesOwn.never rfl (zaz K (zao C_law_both hr (by omega) (by rfl) (pa_c (pv 1) (pa_c (pv 2) zaa)))) (zah (i:=6) sc_law_set.nd (by rfl) (Or.inl (by rfl))) (zae (za5 PassesOwn.never rfl (za8 K (pv 3)) (zah (i:=7) sc_law_set.nd (by rfl) (Or.inl (by rfl))) (zae (za5 PassesOwn.never rfl (za8 K (pv 4)) (zah (i:=8) sc_law_set.nd (by rfl) (Or.inl (by rfl))) (zae (zp4 (pv 5) (zaq (zaj K) (zaq (zaj K) (zaq (zaj K) (zaq (zaj K) (pv 0) zad (fun _ _=>rfl)) (pv 6) (fun _ _=>rfl)) (pv 7) (fun _ _=>rfl)) (pv 8) (fun _ _=>rfl)) zcg rfl))))))) (zae (zar (za6 zag (by rfl) T.b_tuple boot_tuple (pa_c (zau (zec rfl) (by rfl) T.b_sorted (by rfl) (pa_c (pv 5) zaa)) zaa)))))),?_⟩
 refine zba [some (.ref a),some (nV t),some (nV l),some (.ref c),some (.ref d'),none,none,none,none] rfl ?_
 trivial
 refine fun p0 H0 n0=>⟨l,t,rfl,h16,by omega,fun pb H1 g1 epb=>⟨pb,rfl,⟨_,.of epb⟩,?_⟩⟩
 have g01:Same H H1:=n0.g.trans g1
 have go_lt:∀ l' ∈ twoL l t,∀ x ∈ s1,∀ y ∈ s2,m.go l' x y < m.n:=fun l' h x hx y hy=>ok.go_lt (zjx ok ht hl l' h) (gs1.2 x hx) (gs2.2 y hy)
 have fbnd:∀ (ls:List Nat),(∀ l' ∈ ls,l' ∈ twoL l t)→∀ z ∈ ls.flatMap (fun l=>s1.flatMap fun x=>s2.map fun y=>m.go l x y),z < m.n:=fun ls hls z hz=>by
  simp only [y1m,y09] at hz
  obtain ⟨l',h1,x,hx,y,hy,rfl⟩:=hz
  exact go_lt l' (hls l' h1) x hx y hy
 refine zcp (K:=K) (a:=pb) (xs:=(twoL l t).map nV) (fun i σ H'=>Same H H'∧H' pb=some (.lst ((twoL l t).map nV))∧∃ v6 v7 v8:Option V,σ=[some (.ref a),some (nV t),some (nV l),some (.ref c),some (.ref d'),some (.ref p0),v6,v7,v8]∧∃ ns,H' p0=some (dI P w p0 ns)∧PutN ns (((twoL l t).take i).flatMap fun l=>s1.flatMap fun x=>s2.map fun y=>m.go l x y))
  ⟨g01,epb,none,none,none,rfl,[],g1 _ _ n0.at',.nil⟩ (fun i σ H' _ z=>.of z.2.1) ?_ ?_
 ·rintro i y σ H' hy ⟨g,eb',v6,v7,v8,rfl,ns,e0,pn⟩
  rw [y02] at hy
  obtain ⟨l',el,rfl⟩:=y0z.mp hy
  have ml:=y0a el
  trivial
  refine ⟨⟨_,.of (g _ _ ec)⟩,?_⟩
  refine zdq (K:=K) (a:=c) (xs:=s1.map nV) (fun j σ H'=>Same H H'∧H' pb=some (.lst ((twoL l t).map nV))∧∃ v7 v8:Option V,σ=[some (.ref a),some (nV t),some (nV l),some (.ref c),some (.ref d'),some (.ref p0),some (nV l'),v7,v8]∧∃ ns,H' p0=some (dI P w p0 ns)∧PutN ns ((((twoL l t).take i).flatMap fun l=>s1.flatMap fun x=>s2.map fun y=>m.go l x y) ++ (s1.take j).flatMap fun x=>s2.map fun y=>m.go l' x y))
   ⟨g,eb',v7,v8,rfl,ns,e0,by simpa using pn⟩ (fun i σ H' _ z=>.of (z.1 _ _ ec)) ?_ ?_
  ·rintro j y σ H2 hy ⟨g2,eb2,v7,v8,rfl,ns2,e2,pn2⟩
   rw [y02] at hy
   obtain ⟨x,ex,rfl⟩:=y0z.mp hy
   have mx:=y0a ex
   trivial
   refine ⟨⟨_,.of (g2 _ _ ed)⟩,?_⟩
   refine zdq (K:=K) (a:=d') (xs:=s2.map nV) (fun k σ H'=>Same H H'∧H' pb=some (.lst ((twoL l t).map nV))∧∃ v8:Option V,σ=[some (.ref a),some (nV t),some (nV l),some (.ref c),some (.ref d'),some (.ref p0),some (nV l'),some (nV x),v8]∧∃ ns,H' p0=some (dI P w p0 ns)∧PutN ns ((((twoL l t).take i).flatMap fun l=>s1.flatMap fun x=>s2.map fun y=>m.go l x y) ++ ((s1.take j).flatMap (fun x=>s2.map fun y=>m.go l' x y) ++ (s2.take k).map fun y=>m.go l' x y)))
    ⟨g2,eb2,v8,rfl,ns2,e2,by simpa using pn2⟩ (fun i σ H' _ z=>.of (z.1 _ _ ed)) ?_ ?_
   ·rintro k y σ H3 hy ⟨g3,eb3,v8,rfl,ns3,e3,pn3⟩
    rw [y02] at hy
    obtain ⟨y,ey,rfl⟩:=y0z.mp hy
    have my:=y0a ey
    obtain ⟨q1,q2,rs,ln,k1,k2,k3,k4,k5⟩:=RepT.row pr1 ok (zjx ok ht hl l' ml) (gs1.2 x mx) (gs2.2 y my)
    trivial
    have hlen:ns3.length ≤ 6:=by
     refine y13 (pn3.len (n:=m.n) fun z hz=>?_) hn6
     rcases y0i.mp hz with hz | hz
     ·exact fbnd _ (fun l' h=>y2g h) z hz
     ·rcases y0i.mp hz with hz | hz
      ·simp only [y1m,y09] at hz
       obtain ⟨x',hx',y',hy',rfl⟩:=hz
       exact go_lt l' ml x' (y2g hx') y' hy'
      ·obtain ⟨y',hy',rfl⟩:=y09.mp hz
       exact go_lt l' ml x mx y' (y2g hy')
    refine ⟨_,.of (g3 _ _ ea),_,zai (j:=1) rfl,b1,rfl,_,.of (g3 _ _ eb1),_,zai k1,q1,rfl,_,.of (g3 _ _ k2),_,zai k3,q2,rfl,_,.of (g3 _ _ k4),_,zai k5,ns3,_,rfl,e3,small1000 (by omega),fun H4 e4=>?_⟩
    subst e4
    have nbp:pb ≠ p0:=zlr eb3 e3 (by intro z;cases z)
    refine ⟨g3.wr n0.nil _,by rw [zal nbp];exact eb3,_,zam,?_⟩
    rw [y1e,ey,y1f,y15,← y12,← y12,y12 (bs:=List.flatMap _ _)]
    exact pn3.put _
   ·rintro σ H3 ⟨g3,eb3,v8,rfl,ns3,e3,pn3⟩
    trivial
    refine ⟨g3,eb3,ns3,e3,?_⟩
    rw [y00,y0r (y05 _)] at pn3
    rw [y1e,ex,y1f,y1r]
    simpa using pn3
  ·rintro σ H2 ⟨g2,eb2,v7,v8,rfl,ns2,e2,pn2⟩
   trivial
   refine ⟨g2,eb2,ns2,e2,?_⟩
   rw [y00,y0r (y05 _)] at pn2
   rw [y1e,el,y1f,y1r]
   simpa using pn2
 ·rintro σ H' ⟨g,eb',v6,v7,v8,rfl,ns,e0,pn⟩
  trivial
  rw [y00,y0r (y05 _)] at pn
  have hlen:ns.length ≤ 6:=y13 (pn.len (n:=m.n) (fbnd _ fun l' h=>h)) hn6
  refine ⟨ns,e0,by omega,fun ms h1 h2 L H3 n3=>⟨_,.inl ⟨.of n3.at',fun p H4 n4=>?_⟩⟩⟩
  have mem:∀ k,k ∈ ms ↔ ∃ n:Nat,(∃ l' ∈ twoL l t,∃ x ∈ s1,∃ y ∈ s2,m.go l' x y=n)∧(n:Int)=k:=fun k=>by
   rw [h2 k,pn.2 k,y09]
   simp only [y1m,y09]
  have e4:(ms.map V.int)=((ms.map Int.toNat).map nV):=by
   rw [y0v]
   refine y1d fun k hk=>?_
   obtain ⟨k',_,rfl⟩:=(mem k).mp hk
   rfl
  have e5:ms.map Int.toNat=upT m (twoL l t) s1 s2:=by
   refine zmd ok (zjx ok ht hl) gs1 gs2 ?_ fun k=>?_
   ·show List.Pairwise (· < ·) (ms.map Int.toNat)
    rw [y20]
    refine List.Pairwise.imp_of_mem (fun {x y} hx hy hxy=>?_) h1
    obtain ⟨x',_,rfl⟩:=(mem x).mp hx
    obtain ⟨y',_,rfl⟩:=(mem y).mp hy
    omega
   ·rw [y09]
    constructor
    ·rintro ⟨z,hz,rfl⟩
     obtain ⟨k',hk',rfl⟩:=(mem z).mp hz
     exact hk'
    ·intro hk
     exact ⟨(k:Int),(mem _).mpr ⟨k,hk,rfl⟩,rfl⟩
  refine q p H4 (g.trans (n3.g.trans n4.g)) ?_
  rw [← e5,← e4]
  exact n4.at'
end
abbrev sp_law:=zml
section
variable {P:Program} {w:World} {K:Frag} {mg:Z1} {base:Heap} {f cTooGreat cSayError:Addr} {cs:List Addr} {fd:FuncData}
theorem all (T:Txt K mg cTooGreat cSayError cs) (d_renamed:Dfn K mg "renamed" s_renamed ["rooms","numbers"]) (d_numbered:Dfn K mg "numbered" s_numbered ["marks"]) (d_sorts_by:Dfn K mg "sorts_by" s_sorts_by ["ends","part_further"]) (d_is_whole:Dfn K mg "is_whole" s_is_whole ["thing"]) (d_is_below:Dfn K mg "is_below" s_is_below ["thing","bound"]) (d_both_letters:Dfn K mg "both_letters" s_both_letters ["letter","track"]) (d_pairs_up_to:Dfn K mg "pairs_up_to" s_pairs_up_to ["most"]) (d_ways_of:Dfn K mg "ways_of" s_ways_of ["comings","count","letter"]) (d_tree_explored:Dfn K mg "tree_explored" s_tree_explored ["tracks","comings","first","is_end","most"]) (d_tree_mark:Dfn K mg "tree_mark" s_tree_mark ["machine","room","sorts"]) (d_tree_finer_sorts:Dfn K mg "tree_finer_sorts" s_tree_finer_sorts ["machine","sorts"]) {c_tree_least t_tree_least:Addr} (d_tree_least:DfnC K mg "tree_least" s_tree_least ["machine"] c_tree_least t_tree_least) {c_tree_reduced t_tree_reduced:Addr} (d_tree_reduced:DfnC K mg "tree_reduced" s_tree_reduced ["machine"] c_tree_reduced t_tree_reduced) (d_rooms_above:Dfn K mg "rooms_above" s_rooms_above ["machine","letters","lefts","rights"]) {c_tree_dropped t_tree_dropped:Addr} (d_tree_dropped:DfnC K mg "tree_dropped" s_tree_dropped ["machine","track"] c_tree_dropped t_tree_dropped) (d_law_cell_at:Dfn K mg "_law_cell_at" s_law_cell_at ["_law_script","_law_k"]) (d_law_machine:Dfn K mg "_law_machine" s_law_machine ["_law_number","_law_rooms","_law_width"]) (d_law_is_machine:Dfn K mg "_law_is_machine" s_law_is_machine ["_law_found","_law_width"]) (d_law_round:Dfn K mg "_law_round" s_law_round ["_law_machine_here","_law_number"]) (d_law_both:Dfn K mg "_law_both" s_law_both ["_law_track","_law_letter"]) (d_law_set:Dfn K mg "_law_set" s_law_set ["_law_machine_here","_law_track","_law_letter","_law_left","_law_right_here"]) (d_law_sets:Dfn K mg "_law_sets" s_law_sets ["_law_machine_here","_law_track","_law_found"]) (d_law_told:Dfn K mg "_law_told" s_law_told ["_law_machine_here","_law_track"]) (d_law_right:Dfn K mg "_law_right" s_law_right ["_law_machine_here","_law_track"]) (n1:t_tree_reduced ≠ t_tree_least) (n2:t_tree_dropped ≠ t_tree_least) (n3:t_tree_dropped ≠ t_tree_reduced) (kb:BltK base mg) (F:Fun K "law" "law" s_law f fd) :
  FnOk P w K mg base CX0 11 f fd ["_law_script"] (sp_law K [(t_tree_least,qs_tree_least),(t_tree_reduced,qs_tree_reduced),(t_tree_dropped,qs_tree_dropped)]):=by
 have c1:=zi5 (P:=P) (w:=w) (base:=base) T d_numbered
 have c2:=zi3 T d_sorts_by c1
 have c3:=znt (P:=P) (w:=w) (base:=base) T d_renamed
 have c4:=zln (P:=P) (w:=w) (base:=base) T d_pairs_up_to
 have c5:=zqj T d_tree_mark c3
 have c6:=znq T d_tree_finer_sorts c5 c1
 have c7:=znp T d_tree_least kb c6 c2 c3
 have c8:=znn (P:=P) (w:=w) (base:=base) T d_ways_of
 have c9:=zqk T d_tree_explored c4 c3 c8
 have c10:=zs6 T d_tree_reduced kb c9 c7
 have e1:=zi4 (P:=P) (w:=w) (base:=base) T d_renamed
 have e2:=znr T d_tree_explored c4 e1 c8
 have e3:=zqm (P:=P) (w:=w) (base:=base) T d_renamed
 have e4:=zqo T d_rooms_above e3
 have e5:=zlo (P:=P) (w:=w) (base:=base) T d_is_whole
 have e6:=znv T d_is_below e5
 have e7:=zs8 (P:=P) (w:=w) (base:=base) T d_both_letters
 have e8:=zi2 T d_tree_dropped kb e6 e7 e4 e3 e2 c7
 have l1:=zs7 (P:=P) (w:=w) (base:=base) T d_law_cell_at
 have l2:=zqn (P:=P) (w:=w) (base:=base) T d_law_machine
 have l3:=zlp (P:=P) (w:=w) (base:=base) T d_law_is_machine
 have l4:=zll (P:=P) (w:=w) (base:=base) T d_law_round
 have l5:=znu (P:=P) (w:=w) (base:=base) T d_law_both
 have l6:=zql T d_law_set l5
 have l7:=zns T d_law_sets l6
 have l8:=zno T d_law_told e8
 have l9:=zlm T d_law_right l8 l3 c10 l7
 exact ok_law T n1 n2 n3 F l1 l2 l4 l8 l9
end
theorem txt_mk {K:Frag} {mg:Z1} {cTooGreat cSayError dd0 dd1 dd2 dd3 dd4 dd5 dd6 dd7:Addr} (h0:mg "isinstance"=none) (h1:mg "tuple"=none) (h2:mg "list"=none) (h3:mg "int"=none) (h4:mg "bool"=none) (h5:mg "len"=none) (h6:mg "all"=none) (h7:mg "max"=none) (h8:mg "sum"=none) (h9:mg "range"=none) (h10:mg "zip"=none) (h11:mg "set"=none) (h12:mg "sorted"=none) (h13:mg "any"=none) (h14:GlV mg "MOST_TREE_COME_TO" (.int 30)) (h15:mg "ValueError"=none) (h16:mg "TooGreat"=some (.ref cTooGreat)) (h17:mg "SayError"=some (.ref cSayError)) (h18:mg "NoWidth"=some (.ref dd0)) (h19:mg "NoText"=some (.ref dd1)) (h20:mg "NoFrame"=some (.ref dd2)) (h21:mg "NoSaying"=some (.ref dd3)) (h22:mg "NoRow"=some (.ref dd4)) (h23:mg "NoTree"=some (.ref dd5)) (h24:mg "NoNumber"=some (.ref dd6)) (h25:mg "NoLine"=some (.ref dd7)) (h26:KSup K cSayError) (h27:KExc K cTooGreat) (h28:PySem.W.mroIn K cTooGreat (.ref cSayError)=some true) (h29:PySem.W.kitOne K (.ref cTooGreat) (.ref cTooGreat)=some true) (h30:PySem.W.kitOne K (.ref cTooGreat) (.type "ValueError")=some true) (h31_0:PySem.W.kitOne K (.ref cTooGreat) (.ref dd0)=some false) (h31_1:PySem.W.kitOne K (.ref cTooGreat) (.ref dd1)=some false) (h31_2:PySem.W.kitOne K (.ref cTooGreat) (.ref dd2)=some false) (h31_3:PySem.W.kitOne K (.ref cTooGreat) (.ref dd3)=some false) (h31_4:PySem.W.kitOne K (.ref cTooGreat) (.ref dd4)=some false) (h31_5:PySem.W.kitOne K (.ref cTooGreat) (.ref dd5)=some false) (h31_6:PySem.W.kitOne K (.ref cTooGreat) (.ref dd6)=some false) (h31_7:PySem.W.kitOne K (.ref cTooGreat) (.ref dd7)=some false) (h32:KExc K dd0) (h33:PySem.W.mroIn K dd0 (.ref cSayError)=some true) (h34:PySem.W.kitOne K (.ref dd0) (.ref dd0)=some true) (h35:PySem.W.kitOne K (.ref dd0) (.type "ValueError")=some true) (h36:PySem.W.kitOne K (.ref dd0) (.ref cTooGreat)=some false) (h37_0:PySem.W.kitOne K (.ref dd0) (.ref dd1)=some false) (h37_1:PySem.W.kitOne K (.ref dd0) (.ref dd2)=some false) (h37_2:PySem.W.kitOne K (.ref dd0) (.ref dd3)=some false) (h37_3:PySem.W.kitOne K (.ref dd0) (.ref dd4)=some false) (h37_4:PySem.W.kitOne K (.ref dd0) (.ref dd5)=some false) (h37_5:PySem.W.kitOne K (.ref dd0) (.ref dd6)=some false) (h37_6:PySem.W.kitOne K (.ref dd0) (.ref dd7)=some false) (h38:PySem.W.excIn K dd0 veM "ValueError.__new__"=true) (h39:PySem.W.excIn K cTooGreat veM "ValueError.__new__"=true):∃ (qcTooGreat qcSayError:Addr) (cs:List Addr),Txt K mg qcTooGreat qcSayError cs :=
 ⟨cTooGreat,cSayError,[dd0,dd1,dd2,dd3,dd4,dd5,dd6,dd7],⟨h0,h1,h2,h3,h4,h5,h6,h7,h8,h9,h10,h11,h12,h13,h14,h15,h16,h17,h18,h19,h20,h21,h22,h23,h24,h25,h26,h27,h28,h29,h30,(fun j hj=>match j,hj with | 0,_=>h31_0 | 1,_=>h31_1 | 2,_=>h31_2 | 3,_=>h31_3 | 4,_=>h31_4 | 5,_=>h31_5 | 6,_=>h31_6 | 7,_=>h31_7 | _ + 8,h=>absurd h (by omega)),h32,h33,h34,h35,h36,(fun j hj=>match j,hj with | 0,_=>h37_0 | 1,_=>h37_1 | 2,_=>h37_2 | 3,_=>h37_3 | 4,_=>h37_4 | 5,_=>h37_5 | 6,_=>h37_6 | _ + 7,h=>absurd h (by omega)),h38,h39⟩⟩
end K48
open PySem PySem.W PyProof.Rows
set_option hygiene false in
local macro_rules
| `(tactic| exact_mod_cast $t)=>`(tactic| (dsimp only [L2.KOf];refine' L2.dfn_mk KX G ?a ?l ?c ?k (fun _ _ _ _ _ _ us hl=>match us,hl with | $t,_=>rfl);((case a=>k_is);(case l=>k_is);(case c=>k_is);(case k=>k_is))))
namespace PySem.W.Fast
theorem tw3037454180949211513 : True := trivial
theorem tw14270527675403219329 : True := trivial
theorem tw67698531629112572 : True := trivial
theorem tw17017299994802244617 : True := trivial
theorem tw17582198224078463932 : True := trivial
theorem tw15043484858406628276 : True := trivial
theorem tw17315342909552976086 : True := trivial
theorem tw14503701922338473745 : True := trivial
theorem tw10744416657855895232 : True := trivial
theorem tw9221785473704385274 : True := trivial
theorem tw6544100491239169067 : True := trivial
theorem tw4786026568780639991 : True := trivial
theorem tw17305299495891778641 : True := trivial
theorem tw2114570957267187879 : True := trivial
theorem tw4204224537511678999 : True := trivial
theorem tw240203489876205845 : True := trivial
theorem tw4869484963440609297 : True := trivial
theorem tw3064894151962413853 : True := trivial
theorem tw8432607764512139797 : True := trivial
theorem tw2986731634838310276 : True := trivial
theorem tw3466914338136174194 : True := trivial
theorem tw2152960441888299160 : True := trivial
theorem tw8377323186366285321 : True := trivial
theorem tw5765844023816672381 : True := trivial
theorem tw17187985845637416978 : True := trivial
theorem tw17602334449609427543 : True := trivial
theorem tw6866707601898905966 : True := trivial
theorem tw6620593540249482133 : True := trivial
theorem tw12564809780038641766 : True := trivial
theorem tw788425451335149569 : True := trivial
theorem tw1948972154658971611 : True := trivial
theorem tw380412334163943846 : True := trivial
theorem tw15567300706742685705 : True := trivial
theorem tw6357898095043545583 : True := trivial
theorem tw11790790520808068029 : True := trivial
theorem tw6418917441358004530 : True := trivial
theorem tw4145394339408333642 : True := trivial
theorem tw13764276355152748550 : True := trivial
theorem tw8151543353282154008 : True := trivial
theorem tw15715294225249843475 : True := trivial
theorem tw12197824067068602194 : True := trivial
theorem tw15288750163328044389 : True := trivial
theorem tw12308816154469562968 : True := trivial
theorem tw7730315419434071788 : True := trivial
theorem tw8114831762500189174 : True := trivial
theorem tw6099249664984406949 : True := trivial
theorem tw1866604119747910124 : True := trivial
theorem tw1963272779624467109 : True := trivial
theorem tw1508762817085753861 : True := trivial
theorem tw10587398323335984542 : True := trivial
theorem tw140143853539120786 : True := trivial
theorem tw10254657813394935363 : True := trivial
theorem tw3642702760469195427 : True := trivial
theorem tw16677339386710956788 : True := trivial
theorem tw15944839306168217483 : True := trivial
theorem tw251756112158037534 : True := trivial
theorem tw14570149030616213452 : True := trivial
theorem tw9006886649143629016 : True := trivial
theorem tw11711522017984283844 : True := trivial
theorem tw3918849146450633710 : True := trivial
theorem tw1774272789796092474 : True := trivial
theorem tw17464419130738922162 : True := trivial
theorem tw11479171464488857138 : True := trivial
theorem tw17156691537958782229 : True := trivial
theorem tw12706903440513820211 : True := trivial
theorem tw17640841872217203311 : True := trivial
theorem tw15153055347439649805 : True := trivial
theorem tw12211066301468908726 : True := trivial
theorem tw13764631659136934749 : True := trivial
theorem tw11268660300700587628 : True := trivial
theorem tw16538869043014784206 : True := trivial
theorem tw17660030824129398260 : True := trivial
theorem tw1457742886281447537 : True := trivial
theorem tw4747159628157612215 : True := trivial
theorem tw16311935855926119780 : True := trivial
theorem tw14063822834255171027 : True := trivial
theorem tw15318294215333984396 : True := trivial
theorem tw14500952201859846231 : True := trivial
theorem tw2202962479349603185 : True := trivial
theorem tw12319278084322724566 : True := trivial
theorem tw2099011650120677789 : True := trivial
theorem tw8347780296659466685 : True := trivial
theorem tw13712147337359864158 : True := trivial
theorem tw17423953333194459466 : True := trivial
theorem tw9836981138442116742 : True := trivial
theorem tw16518748576630469636 : True := trivial
theorem tw3446415323052178897 : True := trivial
theorem tw4814719455611816382 : True := trivial
theorem tw2618731486740655789 : True := trivial
theorem tw843603653112557702 : True := trivial
theorem tw8140816766169490591 : True := trivial
theorem tw10506501913433197885 : True := trivial
theorem tw13747005750589933465 : True := trivial
theorem tw6246092171953754274 : True := trivial
theorem tw3925604842987294228 : True := trivial
theorem tw8625625021941073431 : True := trivial
theorem tw11333151148882204854 : True := trivial
theorem tw821721659424433318 : True := trivial
theorem tw15595053422778099634 : True := trivial
theorem tw1699903513351659250 : True := trivial
theorem tw14460606714360703443 : True := trivial
theorem tw10451136858579204677 : True := trivial
theorem tw3666437571148677265 : True := trivial
theorem tw16657085568813057723 : True := trivial
theorem tw4403612788498054917 : True := trivial
theorem tw5334876062699159403 : True := trivial
theorem tw18281769231526461580 : True := trivial
theorem tw17442947396617425730 : True := trivial
theorem tw14119258146931177300 : True := trivial
theorem tw10763029324353426118 : True := trivial
theorem tw14119301641540445362 : True := trivial
theorem tw5643801255718975543 : True := trivial
theorem tw13565942844064732016 : True := trivial
theorem tw17529482516875794865 : True := trivial
theorem tw10879721355701213679 : True := trivial
theorem tw3490066700284753376 : True := trivial
theorem tw1885077230722679740 : True := trivial
theorem tw15288943686939394300 : True := trivial
theorem tw11802418245959401541 : True := trivial
theorem tw1126831394785439778 : True := trivial
theorem tw13826762503971176092 : True := trivial
theorem tw6105653247610026312 : True := trivial
theorem tw4781823815140378508 : True := trivial
theorem tw2249344582036200194 : True := trivial
theorem tw10813308596914224972 : True := trivial
theorem tw18413689170688721920 : True := trivial
theorem tw18225464810875166872 : True := trivial
theorem tw4301671431453374906 : True := trivial
theorem tw11282312687311785544 : True := trivial
theorem tw4083104979020082865 : True := trivial
theorem tw14800154131901654015 : True := trivial
theorem tw2996373749141782293 : True := trivial
theorem tw12962506365928358971 : True := trivial
theorem tw6750853188587109854 : True := trivial
theorem tw87635853707338078 : True := trivial
theorem tw9044562128212279701 : True := trivial
theorem tw16201714178442350687 : True := trivial
theorem tw2619936355996769413 : True := trivial
theorem tw15268371885525335931 : True := trivial
theorem tw6304545346931326876 : True := trivial
theorem tw9069059216692104546 : True := trivial
theorem tw17026484012339555850 : True := trivial
theorem tw1555286461820444029 : True := trivial
theorem tw16117510319754765647 : True := trivial
theorem tw13960806073032391393 : True := trivial
theorem tw8936532209995103598 : True := trivial
theorem tw8715336527873110917 : True := trivial
theorem tw13221297895273974093 : True := trivial
theorem tw14680956441089401054 : True := trivial
theorem tw13263354208681795895 : True := trivial
theorem tw9580048521748809662 : True := trivial
theorem tw11413815364043941048 : True := trivial
theorem tw2816486327817942008 : True := trivial
theorem tw10027711036198949843 : True := trivial
theorem tw3759179001757104527 : True := trivial
theorem tw9641102995581362430 : True := trivial
theorem tw12946718063503939173 : True := trivial
theorem tw364683950218128162 : True := trivial
theorem tw10971840764068856337 : True := trivial
theorem tw5090425920691001044 : True := trivial
theorem tw9682085197427244393 : True := trivial
theorem tw7371308986900358449 : True := trivial
theorem tw11303305917041922446 : True := trivial
theorem tw12518027143813663998 : True := trivial
theorem tw16538418669662641175 : True := trivial
theorem tw16111389979527307727 : True := trivial
theorem tw15809506543068893537 : True := trivial
theorem tw10877194951720333001 : True := trivial
theorem tw16774485480766938898 : True := trivial
theorem tw14918542146498782450 : True := trivial
theorem tw589164820352149106 : True := trivial
theorem tw2911747549694633946 : True := trivial
theorem tw14119382661891075168 : True := trivial
theorem tw12441173893457425489 : True := trivial
theorem tw6783879279875944244 : True := trivial
theorem tw15508490067240031147 : True := trivial
theorem tw14326298547032352231 : True := trivial
theorem tw9113006828489404555 : True := trivial
theorem tw8271592380805056577 : True := trivial
theorem tw2686585218844067359 : True := trivial
theorem tw9409129199520968501 : True := trivial
theorem tw12896883979510827210 : True := trivial
theorem tw13599926755171977652 : True := trivial
theorem tw1827315204520970927 : True := trivial
theorem tw13982488455811682860 : True := trivial
theorem tw1162896075688161735 : True := trivial
theorem tw1113310596421600090 : True := trivial
theorem tw6848058646325202713 : True := trivial
theorem tw2367067834758975555 : True := trivial
theorem tw18217105466087163050 : True := trivial
theorem tw15935644117057048449 : True := trivial
theorem tw4292859283667918283 : True := trivial
theorem tw18406253681291963627 : True := trivial
theorem tw7815629047982660284 : True := trivial
theorem tw14923316564013749263 : True := trivial
theorem tw9909679018495056156 : True := trivial
theorem tw3038350163259599333 : True := trivial
theorem tw5062863576574714570 : True := trivial
theorem tw15339319293806863495 : True := trivial
theorem tw4070207262483120175 : True := trivial
theorem tw18387588721331996973 : True := trivial
theorem tw3983941784016850637 : True := trivial
theorem tw8192039059983573411 : True := trivial
theorem tw17522514808895203111 : True := trivial
theorem tw7174610519783704294 : True := trivial
theorem tw17929127858421334299 : True := trivial
theorem tw14028177357358081028 : True := trivial
theorem tw4017906148418420640 : True := trivial
theorem tw4803113190224056269 : True := trivial
theorem tw4911301605687568844 : True := trivial
theorem tw4823965591091770881 : True := trivial
theorem tw2246329930646950602 : True := trivial
theorem tw17178703070077444194 : True := trivial
theorem tw5005707684068914088 : True := trivial
theorem tw12305182935245857683 : True := trivial
theorem tw14489150496436399161 : True := trivial
theorem tw10676266481042645300 : True := trivial
theorem tw10423427702217827149 : True := trivial
theorem tw398917011301265186 : True := trivial
theorem tw4331275073098281135 : True := trivial
theorem tw9733620086638672345 : True := trivial
theorem tw10882658300223246212 : True := trivial
theorem tw10646429786859010032 : True := trivial
theorem tw11406898167351083992 : True := trivial
theorem tw14862173404723770586 : True := trivial
theorem tw16390221736656408695 : True := trivial
theorem tw15022954413360842647 : True := trivial
theorem tw9663936853745984090 : True := trivial
theorem tw16259285133710465523 : True := trivial
theorem tw257208167212003593 : True := trivial
theorem tw17831027503240673045 : True := trivial
theorem tw16999373197893827657 : True := trivial
theorem tw12672599249324948519 : True := trivial
theorem tw7339133047074344468 : True := trivial
theorem tw17309963850124602019 : True := trivial
end PySem.W.Fast
set_option maxRecDepth 100000 in
set_option maxHeartbeats 0 in
theorem PySem.Challenge.cw_setsays_k48_tree_dropped_holds : PySem.Challenge.rw_setsays_k48_tree_dropped.Holds := by
 w_on; o_law; k_head; (case hw => w_witness2)
 k_fill
 refine L2.walk_ofT (l := PySem.Challenge.rw_setsays_k48_tree_dropped) (n := 63) (k := 11) (x := "_law_script") (CX := L2.CX0) (sp := K48.sp_law) rfl (by decide) rfl ⟨rfl, by decide, by decide⟩ (fun w h Y => PySem.W.km_in_of Y) ?F (fun _ _ _ a ns hl hO hS => ⟨a, ns, rfl, hS, hl, hO, fun _ => rfl⟩) fun _ _ _ _ z => z
 case F =>
  intro w mg fa h KX G hmg
  obtain ⟨cTooGreat, cSayError, cs, T⟩ : ∃ (cTooGreat cSayError : Addr) (cs : List Addr), K48.Txt (L2.KOf KX) mg cTooGreat cSayError cs := by
   dsimp only [L2.KOf]
   refine' K48.txt_mk (PySem.W.mg_none_of KX G ?t0) (PySem.W.mg_none_of KX G ?t1) (PySem.W.mg_none_of KX G ?t2) (PySem.W.mg_none_of KX G ?t3) (PySem.W.mg_none_of KX G ?t4) (PySem.W.mg_none_of KX G ?t5) (PySem.W.mg_none_of KX G ?t6) (PySem.W.mg_none_of KX G ?t7) (PySem.W.mg_none_of KX G ?t8) (PySem.W.mg_none_of KX G ?t9) (PySem.W.mg_none_of KX G ?t10) (PySem.W.mg_none_of KX G ?t11) (PySem.W.mg_none_of KX G ?t12) (PySem.W.mg_none_of KX G ?t13) (L2.glv_mk KX G ?t14 ?r14) (PySem.W.mg_none_of KX G ?t15) (PySem.W.mg_of KX G ?t16) (PySem.W.mg_of KX G ?t17) (PySem.W.mg_of KX G ?t18) (PySem.W.mg_of KX G ?t19) (PySem.W.mg_of KX G ?t20) (PySem.W.mg_of KX G ?t21) (PySem.W.mg_of KX G ?t22) (PySem.W.mg_of KX G ?t23) (PySem.W.mg_of KX G ?t24) (PySem.W.mg_of KX G ?t25) ⟨?t26a, ?t26b, ?t26c⟩ ⟨?t27a, ?t27b, ?t27c, ?t27d, ?t27e, ?t27f⟩ ?t28 ?t29 ?t30 ?t31_0 ?t31_1 ?t31_2 ?t31_3 ?t31_4 ?t31_5 ?t31_6 ?t31_7 ⟨?t32a, ?t32b, ?t32c, ?t32d, ?t32e, ?t32f⟩ ?t33 ?t34 ?t35 ?t36 ?t37_0 ?t37_1 ?t37_2 ?t37_3 ?t37_4 ?t37_5 ?t37_6 ?t38 ?t39
   (case t0 => k_is)
   (case t1 => k_is)
   (case t2 => k_is)
   (case t3 => k_is)
   (case t4 => k_is)
   (case t5 => k_is)
   (case t6 => k_is)
   (case t7 => k_is)
   (case t8 => k_is)
   (case t9 => k_is)
   (case t10 => k_is)
   (case t11 => k_is)
   (case t12 => k_is)
   (case t13 => k_is)
   (case t14 => k_is); (case r14 => exact ⟨_, rfl⟩)
   (case t15 => k_is)
   (case t16 => k_is)
   (case t17 => k_is)
   (case t18 => k_is)
   (case t19 => k_is)
   (case t20 => k_is)
   (case t21 => k_is)
   (case t22 => k_is)
   (case t23 => k_is)
   (case t24 => k_is)
   (case t25 => k_is)
   (case t26a => k_is); (case t26b => k_is); (case t26c => k_is)
   (case t27a => k_is); (case t27b => k_is); (case t27c => k_is); (case t27d => k_is); (case t27e => k_is); (case t27f => k_is)
   (case t28 => k_is)
   (case t29 => kit_is)
   (case t30 => kit_is)
   (case t31_0 => kit_is)
   (case t31_1 => kit_is)
   (case t31_2 => kit_is)
   (case t31_3 => kit_is)
   (case t31_4 => kit_is)
   (case t31_5 => kit_is)
   (case t31_6 => kit_is)
   (case t31_7 => kit_is)
   (case t32a => k_is); (case t32b => k_is); (case t32c => k_is); (case t32d => k_is); (case t32e => k_is); (case t32f => k_is)
   (case t33 => k_is)
   (case t34 => kit_is)
   (case t35 => kit_is)
   (case t36 => kit_is)
   (case t37_0 => kit_is)
   (case t37_1 => kit_is)
   (case t37_2 => kit_is)
   (case t37_3 => kit_is)
   (case t37_4 => kit_is)
   (case t37_5 => kit_is)
   (case t37_6 => kit_is)
   (case t38 => k_exc)
   (case t39 => k_exc)
  obtain ⟨c_tree_least, t_tree_least, c_tree_reduced, t_tree_reduced, c_tree_dropped, t_tree_dropped, d_tree_least, d_tree_reduced, d_tree_dropped, n_tree_least, n_tree_reduced, n_tree_dropped, ne_tree_reduced_tree_least, ne_tree_dropped_tree_least, ne_tree_dropped_tree_reduced⟩ : ∃ c_tree_least t_tree_least c_tree_reduced t_tree_reduced c_tree_dropped t_tree_dropped, L2.DfnC (L2.KOf KX) mg "tree_least" K48.s_tree_least ["machine"] c_tree_least t_tree_least ∧ L2.DfnC (L2.KOf KX) mg "tree_reduced" K48.s_tree_reduced ["machine"] c_tree_reduced t_tree_reduced ∧ L2.DfnC (L2.KOf KX) mg "tree_dropped" K48.s_tree_dropped ["machine", "track"] c_tree_dropped t_tree_dropped ∧ (L2.KOf KX).lookup t_tree_least = none ∧ (L2.KOf KX).lookup t_tree_reduced = none ∧ (L2.KOf KX).lookup t_tree_dropped = none ∧ t_tree_reduced ≠ t_tree_least ∧ t_tree_dropped ≠ t_tree_least ∧ t_tree_dropped ≠ t_tree_reduced := by
   dsimp only [L2.KOf]
   refine' ⟨_, _, _, _, _, _, L2.dfnc_mk KX G ?a0 ?l0 ?c0 ?k0 (L2.kcode_mk ?m0 ?x0 ?y0 ?z0 ?u0 ?v0 ?w0) (fun _ _ _ _ _ _ => L2.fit1 fun _ => rfl), L2.dfnc_mk KX G ?a1 ?l1 ?c1 ?k1 (L2.kcode_mk ?m1 ?x1 ?y1 ?z1 ?u1 ?v1 ?w1) (fun _ _ _ _ _ _ => L2.fit1 fun _ => rfl), L2.dfnc_mk KX G ?a2 ?l2 ?c2 ?k2 (L2.kcode_mk ?m2 ?x2 ?y2 ?z2 ?u2 ?v2 ?w2) (fun _ _ _ _ _ _ => L2.fit2 fun _ _ => rfl), ?n0, ?n1, ?n2, ?e0, ?e1, ?e2⟩
   (case a0 => k_is); (case l0 => k_is); (case c0 => k_is); (case k0 => k_is); (case m0 => k_is); (case x0 => rfl); (case y0 => rfl); (case z0 => rfl); (case u0 => rfl); (case v0 => rfl); (case w0 => decide)
   (case a1 => k_is); (case l1 => k_is); (case c1 => k_is); (case k1 => k_is); (case m1 => k_is); (case x1 => rfl); (case y1 => rfl); (case z1 => rfl); (case u1 => rfl); (case v1 => rfl); (case w1 => decide)
   (case a2 => k_is); (case l2 => k_is); (case c2 => k_is); (case k2 => k_is); (case m2 => k_is); (case x2 => rfl); (case y2 => rfl); (case z2 => rfl); (case u2 => rfl); (case v2 => rfl); (case w2 => decide)
   (case n0 => first | k_is | kernel_rfl)
   (case n1 => first | k_is | kernel_rfl)
   (case n2 => first | k_is | kernel_rfl)
   (case e0 => decide)
   (case e1 => decide)
   (case e2 => decide)
  have d_renamed : L2.Dfn (L2.KOf KX) mg "renamed" K48.s_renamed ["rooms", "numbers"] := by
   dsimp only [L2.KOf]
   refine' L2.dfn_mk KX G ?a ?l ?c ?k (fun _ _ _ _ _ _ => L2.fit2 fun _ _ => rfl)
   (case a => k_is); (case l => k_is); (case c => k_is); (case k => k_is)
  have d_numbered : L2.Dfn (L2.KOf KX) mg "numbered" K48.s_numbered ["marks"] := by
   dsimp only [L2.KOf]
   refine' L2.dfn_mk KX G ?a ?l ?c ?k (fun _ _ _ _ _ _ => L2.fit1 fun _ => rfl)
   (case a => k_is); (case l => k_is); (case c => k_is); (case k => k_is)
  have d_sorts_by : L2.Dfn (L2.KOf KX) mg "sorts_by" K48.s_sorts_by ["ends", "part_further"] := by
   dsimp only [L2.KOf]
   refine' L2.dfn_mk KX G ?a ?l ?c ?k (fun _ _ _ _ _ _ => L2.fit2 fun _ _ => rfl)
   (case a => k_is); (case l => k_is); (case c => k_is); (case k => k_is)
  have d_is_whole : L2.Dfn (L2.KOf KX) mg "is_whole" K48.s_is_whole ["thing"] := by
   dsimp only [L2.KOf]
   refine' L2.dfn_mk KX G ?a ?l ?c ?k (fun _ _ _ _ _ _ => L2.fit1 fun _ => rfl)
   (case a => k_is); (case l => k_is); (case c => k_is); (case k => k_is)
  have d_is_below : L2.Dfn (L2.KOf KX) mg "is_below" K48.s_is_below ["thing", "bound"] := by
   dsimp only [L2.KOf]
   refine' L2.dfn_mk KX G ?a ?l ?c ?k (fun _ _ _ _ _ _ => L2.fit2 fun _ _ => rfl)
   (case a => k_is); (case l => k_is); (case c => k_is); (case k => k_is)
  have d_both_letters : L2.Dfn (L2.KOf KX) mg "both_letters" K48.s_both_letters ["letter", "track"] := by
   dsimp only [L2.KOf]
   refine' L2.dfn_mk KX G ?a ?l ?c ?k (fun _ _ _ _ _ _ => L2.fit2 fun _ _ => rfl)
   (case a => k_is); (case l => k_is); (case c => k_is); (case k => k_is)
  have d_pairs_up_to : L2.Dfn (L2.KOf KX) mg "pairs_up_to" K48.s_pairs_up_to ["most"] := by
   dsimp only [L2.KOf]
   refine' L2.dfn_mk KX G ?a ?l ?c ?k (fun _ _ _ _ _ _ => L2.fit1 fun _ => rfl)
   (case a => k_is); (case l => k_is); (case c => k_is); (case k => k_is)
  have d_ways_of : L2.Dfn (L2.KOf KX) mg "ways_of" K48.s_ways_of ["comings", "count", "letter"] := by
   dsimp only [L2.KOf]
   refine' L2.dfn_mk KX G ?a ?l ?c ?k (fun _ _ _ _ _ _ => L2.fit3 fun _ _ _ => rfl)
   (case a => k_is); (case l => k_is); (case c => k_is); (case k => k_is)
  have d_tree_explored : L2.Dfn (L2.KOf KX) mg "tree_explored" K48.s_tree_explored ["tracks", "comings", "first", "is_end", "most"] := by
   dsimp only [L2.KOf]
   refine' L2.dfn_mk KX G ?a ?l ?c ?k (fun _ _ _ _ _ _ => L2.fit5 fun _ _ _ _ _ => rfl)
   (case a => k_is); (case l => k_is); (case c => k_is); (case k => k_is)
  have d_tree_mark : L2.Dfn (L2.KOf KX) mg "tree_mark" K48.s_tree_mark ["machine", "room", "sorts"] := by
   dsimp only [L2.KOf]
   refine' L2.dfn_mk KX G ?a ?l ?c ?k (fun _ _ _ _ _ _ => L2.fit3 fun _ _ _ => rfl)
   (case a => k_is); (case l => k_is); (case c => k_is); (case k => k_is)
  have d_tree_finer_sorts : L2.Dfn (L2.KOf KX) mg "tree_finer_sorts" K48.s_tree_finer_sorts ["machine", "sorts"] := by
   dsimp only [L2.KOf]
   refine' L2.dfn_mk KX G ?a ?l ?c ?k (fun _ _ _ _ _ _ => L2.fit2 fun _ _ => rfl)
   (case a => k_is); (case l => k_is); (case c => k_is); (case k => k_is)
  have d_rooms_above : L2.Dfn (L2.KOf KX) mg "rooms_above" K48.s_rooms_above ["machine", "letters", "lefts", "rights"] := by
   dsimp only [L2.KOf]
   refine' L2.dfn_mk KX G ?a ?l ?c ?k (fun _ _ _ _ _ _ => L2.fit4 fun _ _ _ _ => rfl)
   (case a => k_is); (case l => k_is); (case c => k_is); (case k => k_is)
  have d_law_cell_at : L2.Dfn (L2.KOf KX) mg "_law_cell_at" K48.s_law_cell_at ["_law_script", "_law_k"] := by
   dsimp only [L2.KOf]
   refine' L2.dfn_mk KX G ?a ?l ?c ?k (fun _ _ _ _ _ _ => L2.fit2 fun _ _ => rfl)
   (case a => k_is); (case l => k_is); (case c => k_is); (case k => k_is)
  have d_law_machine : L2.Dfn (L2.KOf KX) mg "_law_machine" K48.s_law_machine ["_law_number", "_law_rooms", "_law_width"] := by
   dsimp only [L2.KOf]
   refine' L2.dfn_mk KX G ?a ?l ?c ?k (fun _ _ _ _ _ _ => L2.fit3 fun _ _ _ => rfl)
   (case a => k_is); (case l => k_is); (case c => k_is); (case k => k_is)
  have d_law_is_machine : L2.Dfn (L2.KOf KX) mg "_law_is_machine" K48.s_law_is_machine ["_law_found", "_law_width"] := by
   dsimp only [L2.KOf]
   refine' L2.dfn_mk KX G ?a ?l ?c ?k (fun _ _ _ _ _ _ => L2.fit2 fun _ _ => rfl)
   (case a => k_is); (case l => k_is); (case c => k_is); (case k => k_is)
  have d_law_round : L2.Dfn (L2.KOf KX) mg "_law_round" K48.s_law_round ["_law_machine_here", "_law_number"] := by
   dsimp only [L2.KOf]
   refine' L2.dfn_mk KX G ?a ?l ?c ?k (fun _ _ _ _ _ _ => L2.fit2 fun _ _ => rfl)
   (case a => k_is); (case l => k_is); (case c => k_is); (case k => k_is)
  have d_law_both : L2.Dfn (L2.KOf KX) mg "_law_both" K48.s_law_both ["_law_track", "_law_letter"] := by
   dsimp only [L2.KOf]
   refine' L2.dfn_mk KX G ?a ?l ?c ?k (fun _ _ _ _ _ _ => L2.fit2 fun _ _ => rfl)
   (case a => k_is); (case l => k_is); (case c => k_is); (case k => k_is)
  have d_law_set : L2.Dfn (L2.KOf KX) mg "_law_set" K48.s_law_set ["_law_machine_here", "_law_track", "_law_letter", "_law_left", "_law_right_here"] := by
   dsimp only [L2.KOf]
   refine' L2.dfn_mk KX G ?a ?l ?c ?k (fun _ _ _ _ _ _ => L2.fit5 fun _ _ _ _ _ => rfl)
   (case a => k_is); (case l => k_is); (case c => k_is); (case k => k_is)
  have d_law_sets : L2.Dfn (L2.KOf KX) mg "_law_sets" K48.s_law_sets ["_law_machine_here", "_law_track", "_law_found"] := by
   dsimp only [L2.KOf]
   refine' L2.dfn_mk KX G ?a ?l ?c ?k (fun _ _ _ _ _ _ => L2.fit3 fun _ _ _ => rfl)
   (case a => k_is); (case l => k_is); (case c => k_is); (case k => k_is)
  have d_law_told : L2.Dfn (L2.KOf KX) mg "_law_told" K48.s_law_told ["_law_machine_here", "_law_track"] := by
   dsimp only [L2.KOf]
   refine' L2.dfn_mk KX G ?a ?l ?c ?k (fun _ _ _ _ _ _ => L2.fit2 fun _ _ => rfl)
   (case a => k_is); (case l => k_is); (case c => k_is); (case k => k_is)
  have d_law_right : L2.Dfn (L2.KOf KX) mg "_law_right" K48.s_law_right ["_law_machine_here", "_law_track"] := by
   dsimp only [L2.KOf]
   refine' L2.dfn_mk KX G ?a ?l ?c ?k (fun _ _ _ _ _ _ => L2.fit2 fun _ _ => rfl)
   (case a => k_is); (case l => k_is); (case c => k_is); (case k => k_is)
  have L : ∃ fd : FuncData, (∀ (s : Shared) (v : Value), BindsTo s fd ⟨[v], []⟩ [("_law_script", v)]) ∧ L2.Fun (L2.KOf KX) "law" "law" K48.s_law fa fd := by
   dsimp only [L2.KOf]
   refine' L2.law_mk KX G hmg ?a ?l ?c ?k ?b
   (case a => k_is); (case l => k_is); (case c => k_is); (case k => k_is)
   exact fun s u => .of_eq rfl
  obtain ⟨fd, hb, F⟩ := L
  exact ⟨fd, [(t_tree_least, K48.qs_tree_least), (t_tree_reduced, K48.qs_tree_reduced), (t_tree_dropped, K48.qs_tree_dropped)], hb, L2.ts_all (List.forall_mem_cons.mpr ⟨⟨d_tree_least.tab (by decide +kernel), n_tree_least⟩, (List.forall_mem_cons.mpr ⟨⟨d_tree_reduced.tab (by decide +kernel), n_tree_reduced⟩, (List.forall_mem_cons.mpr ⟨⟨d_tree_dropped.tab (by decide +kernel), n_tree_dropped⟩, fun _ z => nomatch z⟩)⟩)⟩), fun base _ _ kb => K48.all T d_renamed d_numbered d_sorts_by d_is_whole d_is_below d_both_letters d_pairs_up_to d_ways_of d_tree_explored d_tree_mark d_tree_finer_sorts d_tree_least d_tree_reduced d_rooms_above d_tree_dropped d_law_cell_at d_law_machine d_law_is_machine d_law_round d_law_both d_law_set d_law_sets d_law_told d_law_right ne_tree_reduced_tree_least ne_tree_dropped_tree_least ne_tree_dropped_tree_reduced kb F⟩
#print axioms PySem.Challenge.cw_setsays_k48_tree_dropped_holds
