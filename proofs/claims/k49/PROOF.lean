import PyProof.Rows.All
import Wide.All
import OpenK.AllK
import Wide.FinOn
import Lean
import PyProof.EqAt
import PyProof.EqKinds
import PyProof.TupleCall
import PyProof.CodeObjX
import PyProof.NeKinds
import PyProof.ZipIter
import PyProof.EnumStmt
import PyProof.EnumMake
import KE.KDictOf
import PyProof.AttrMissHeap
import PyProof.Rows.SeqMore2
import PyProof.Rows.MinMaxN
import PyProof.DefMake
import PyProof.DefStmt
import PySem.SetOps
import KE.KDictList
import PyProof.RaisesMany
import PyProof.ExcClass2
import PyProof.Rows.Own
import PyProof.Rows.CatchOwn
import PyProof.RulesDel
import KE.KIsAll
import PyProof.IsiH_list
import PyProof.ExcArgsOwn
import OpenK.KOwn
import PyProof.FString5
import PySem.Challenge.RW_setsays_k49_smallest_trees
set_option linter.all false
namespace SM
theorem pow_small {w : Nat} (h : w ≤ 4) : 1 ≤ 2 ^ w ∧ 2 ^ w ≤ 16 := by
  have : w = 0 ∨ w = 1 ∨ w = 2 ∨ w = 3 ∨ w = 4 := by omega
  rcases this with rfl | rfl | rfl | rfl | rfl <;> decide
end SM
set_option Elab.async false
set_option linter.all false
set_option maxRecDepth 100000
namespace SM
structure Tm where
  w : Nat
  ways : List (List (List Nat))
  ends : List Bool
abbrev Tm.n (m : Tm) : Nat := m.ends.length
structure Tm.Ok (m : Tm) : Prop where
  wid : m.w ≤ 3
  pos : 0 < m.ends.length
  few : m.ends.length ≤ 30
  len : m.ways.length = 2 ^ m.w
  tab : ∀ t ∈ m.ways, t.length = m.ends.length
  line : ∀ t ∈ m.ways, ∀ r ∈ t, r.length = m.ends.length
  room : ∀ t ∈ m.ways, ∀ r ∈ t, ∀ x ∈ r, x < m.ends.length
def Tm.go (m : Tm) (l a b : Nat) : Nat := ((m.ways.getD l []).getD a []).getD b 0
def Tm.fin (m : Tm) (r : Nat) : Bool := m.ends.getD r false
inductive Tr where
  | nil
  | node (l : Nat) (a b : Tr)
def Tr.size : Tr → Nat
  | .nil => 0
  | .node _ a b => 1 + a.size + b.size
def Tr.depth : Tr → Nat
  | .nil => 0
  | .node _ a b => 1 + max a.depth b.depth
def Tr.Let (n : Nat) : Tr → Prop
  | .nil => True
  | .node l a b => l < n ∧ a.Let n ∧ b.Let n
def Tr.up (z : Nat) (f : Nat → Nat → Nat → Nat) : Tr → Nat
  | .nil => z
  | .node l a b => f l (a.up z f) (b.up z f)
theorem Tm.Ok.at {m : Tm} (ok : m.Ok) {l a b : Nat} (hl : l < 2 ^ m.w) (ha : a < m.n) (hb : b < m.n) : ∃ t r, m.ways[l]? = some t ∧ t[a]? = some r ∧ r[b]? = some (m.go l a b) ∧ m.go l a b < m.n := by
  have h1 : l < m.ways.length := by rw [ok.len]; exact hl
  have e1 : m.ways[l]? = some m.ways[l] := List.getElem?_eq_getElem h1
  have m1 := List.getElem_mem h1
  have h2 : a < m.ways[l].length := by rw [ok.tab _ m1]; exact ha
  have e2 : m.ways[l][a]? = some m.ways[l][a] := List.getElem?_eq_getElem h2
  have m2 := List.getElem_mem h2
  have h3 : b < m.ways[l][a].length := by rw [ok.line _ m1 _ m2]; exact hb
  have e3 : m.ways[l][a][b]? = some m.ways[l][a][b] := List.getElem?_eq_getElem h3
  have eg : m.go l a b = m.ways[l][a][b] := by simp only [Tm.go, List.getD_eq_getElem?_getD, e1, Option.getD_some, e2, e3]
  exact ⟨_, _, e1, e2, by rw [eg]; exact e3, by rw [eg]; exact ok.room _ m1 _ m2 _ (List.getElem_mem h3)⟩
theorem Tm.Ok.go_lt {m : Tm} (ok : m.Ok) {l a b : Nat} (hl : l < 2 ^ m.w) (ha : a < m.n) (hb : b < m.n) : m.go l a b < m.n := let ⟨_, _, _, _, _, h⟩ := ok.at hl ha hb; h
theorem Tm.fin_at {m : Tm} {r : Nat} (hr : r < m.ends.length) : m.ends[r]? = some (m.fin r) := by
  unfold Tm.fin
  rw [List.getD_eq_getElem?_getD, List.getElem?_eq_getElem hr, Option.getD_some]
theorem Tr.up_lt {m : Tm} (ok : m.Ok) : ∀ t : Tr, t.Let (2 ^ m.w) → t.up 0 m.go < m.n
  | .nil, _ => ok.pos
  | .node l a b, h => ok.go_lt h.1 (Tr.up_lt ok a h.2.1) (Tr.up_lt ok b h.2.2)
end SM
set_option Elab.async false
set_option linter.all false
set_option maxRecDepth 100000
namespace SM
def Leads (m : Tm) (t : Tr) (r : Nat) : Prop := t.Let (2 ^ m.w) ∧ t.up 0 m.go = r
abbrev LRow := Nat × Nat × Tr
abbrev rms (es : List LRow) : List Nat := es.map (·.1)
structure LeastI (m : Tm) (es : List LRow) (top : Nat) : Prop where
  hd : es[0]? = some (0, 0, .nil)
  nd : (rms es).Nodup
  ok : ∀ e ∈ es, Leads m e.2.2 e.1 ∧ e.2.2.size = e.2.1 ∧ e.2.2.depth < es.length
  low : ∀ e ∈ es, e.2.1 ≤ top
  asc : es.Pairwise fun a b => a.2.1 ≤ b.2.1
  min : ∀ e ∈ es, ∀ t, Leads m t e.1 → e.2.1 ≤ t.size
  out : ∀ t r, Leads m t r → r ∉ rms es → top ≤ t.size
variable {m : Tm} {es : List LRow} {top : Nat}
theorem LeastI.start (ok : m.Ok) : LeastI m [(0, 0, .nil)] 0 := by
  refine ⟨rfl, by simp, ?_, ?_, by simp, ?_, fun _ _ _ _ => Nat.zero_le _⟩
  · intro e he
    cases List.mem_singleton.mp he
    exact ⟨⟨trivial, rfl⟩, rfl, by decide⟩
  · intro e he
    cases List.mem_singleton.mp he
    exact Nat.le_refl _
  · intro e he t _
    cases List.mem_singleton.mp he
    exact Nat.zero_le _
theorem LeastI.zero (h : LeastI m es top) : 0 ∈ rms es := List.mem_map.mpr ⟨_, List.mem_of_getElem? h.hd, rfl⟩
def Beyond (m : Tm) (es : List LRow) (l : Nat) (a b : LRow) : Prop := l < 2 ^ m.w ∧ a ∈ es ∧ b ∈ es ∧ m.go l a.1 b.1 ∉ rms es
theorem LeastI.beyond (h : LeastI m es top) : ∀ (t : Tr) (r : Nat), Leads m t r → r ∉ rms es → ∃ l a b, Beyond m es l a b ∧ 1 + a.2.1 + b.2.1 ≤ t.size
  | .nil, r, ⟨_, e⟩, hr => absurd (e ▸ h.zero) hr
  | .node l a b, r, ⟨⟨hl, ha, hb⟩, e⟩, hr => by
    by_cases h1 : a.up 0 m.go ∈ rms es
    · by_cases h2 : b.up 0 m.go ∈ rms es
      · obtain ⟨x, hx, ex⟩ := List.mem_map.mp h1
        obtain ⟨y, hy, ey⟩ := List.mem_map.mp h2
        have mx := h.min x hx a ⟨ha, ex.symm⟩
        have my := h.min y hy b ⟨hb, ey.symm⟩
        refine ⟨l, x, y, ⟨hl, hx, hy, ?_⟩, ?_⟩
        · rw [ex, ey]
          show m.go l (a.up 0 m.go) (b.up 0 m.go) ∉ rms es
          rw [show m.go l (a.up 0 m.go) (b.up 0 m.go) = r from e]
          exact hr
        · show 1 + x.2.1 + y.2.1 ≤ 1 + a.size + b.size
          omega
      · obtain ⟨l', x, y, hb', hs⟩ := LeastI.beyond h b _ ⟨hb, rfl⟩ h2
        exact ⟨l', x, y, hb', by show 1 + x.2.1 + y.2.1 ≤ 1 + a.size + b.size; omega⟩
    · obtain ⟨l', x, y, hb', hs⟩ := LeastI.beyond h a _ ⟨ha, rfl⟩ h1
      exact ⟨l', x, y, hb', by show 1 + x.2.1 + y.2.1 ≤ 1 + a.size + b.size; omega⟩
theorem LeastI.step (h : LeastI m es top) {l : Nat} {a b : LRow} (hb : Beyond m es l a b) (least : ∀ l' a' b', Beyond m es l' a' b' → 1 + a.2.1 + b.2.1 ≤ 1 + a'.2.1 + b'.2.1) :
    LeastI m (es ++ [(m.go l a.1 b.1, 1 + a.2.1 + b.2.1, .node l a.2.2 b.2.2)]) (1 + a.2.1 + b.2.1) := by
  obtain ⟨hl, ha, hb', hn⟩ := hb
  obtain ⟨⟨la, ea⟩, sa, da⟩ := h.ok a ha
  obtain ⟨⟨lb, eb⟩, sb, db⟩ := h.ok b hb'
  have lead : Leads m (.node l a.2.2 b.2.2) (m.go l a.1 b.1) := ⟨⟨hl, la, lb⟩, by show m.go l (a.2.2.up 0 m.go) (b.2.2.up 0 m.go) = _; rw [ea, eb]⟩
  have size : (Tr.node l a.2.2 b.2.2).size = 1 + a.2.1 + b.2.1 := by show 1 + a.2.2.size + b.2.2.size = _; rw [sa, sb]
  have up : top ≤ 1 + a.2.1 + b.2.1 := by have := h.out _ _ lead hn; omega
  refine ⟨?_, ?_, ?_, ?_, ?_, ?_, ?_⟩
  · rw [List.getElem?_append_left (List.getElem?_eq_some_iff.mp h.hd).1]; exact h.hd
  · rw [rms, List.map_append]
    refine List.nodup_append.mpr ⟨h.nd, by simp, fun x hx y hy e => ?_⟩
    rw [List.map_cons, List.map_nil, List.mem_singleton] at hy
    rw [hy] at e
    have e : x = m.go l a.1 b.1 := e
    exact hn (e ▸ hx)
  · intro e he
    rw [List.length_append]
    rcases List.mem_append.mp he with he | he
    · obtain ⟨h1, h2, h3⟩ := h.ok e he
      exact ⟨h1, h2, by simp; omega⟩
    · cases List.mem_singleton.mp he
      refine ⟨lead, size, ?_⟩
      show 1 + max a.2.2.depth b.2.2.depth < _
      simp
      omega
  · intro e he
    rcases List.mem_append.mp he with he | he
    · exact Nat.le_trans (h.low e he) up
    · cases List.mem_singleton.mp he
      exact Nat.le_refl _
  · refine List.pairwise_append.mpr ⟨h.asc, by simp, fun x hx y hy => ?_⟩
    cases List.mem_singleton.mp hy
    exact Nat.le_trans (h.low x hx) up
  · intro e he t ht
    rcases List.mem_append.mp he with he | he
    · exact h.min e he t ht
    · cases List.mem_singleton.mp he
      obtain ⟨l', a', b', hB, hs⟩ := h.beyond t _ ht hn
      exact Nat.le_trans (least l' a' b' hB) hs
  · intro t r ht hr
    have hr' : r ∉ rms es := fun z => hr (by rw [rms, List.map_append]; exact List.mem_append_left _ z)
    obtain ⟨l', a', b', hB, hs⟩ := h.beyond t r ht hr'
    exact Nat.le_trans (least l' a' b' hB) hs
theorem LeastI.whole (h : LeastI m es top) (no : ∀ l a b, ¬ Beyond m es l a b) {t : Tr} {r : Nat} (ht : Leads m t r) : r ∈ rms es := by
  by_cases hr : r ∈ rms es
  · exact hr
  · obtain ⟨l, a, b, hB, _⟩ := h.beyond t r ht hr
    exact absurd hB (no l a b)
theorem LeastI.room (h : LeastI m es top) (ok : m.Ok) {e : LRow} (he : e ∈ es) : e.1 < m.n := by
  obtain ⟨⟨h1, h2⟩, _⟩ := h.ok e he
  rw [← h2]; exact Tr.up_lt ok _ h1
theorem LeastI.len (h : LeastI m es top) (ok : m.Ok) : es.length ≤ m.n := by
  have : (rms es).length ≤ (List.range m.n).length := h.nd.length_le_of_subset fun x hx => by
    obtain ⟨e, he, rfl⟩ := List.mem_map.mp hx
    exact List.mem_range.mpr (h.room ok he)
  rwa [List.length_map, List.length_range] at this
structure SizeI (m : Tm) (kv : List (Nat × Nat)) : Prop where
  nd : (kv.map (·.1)).Nodup
  ok : ∀ e ∈ kv, ∃ t, Leads m t e.1 ∧ t.size = e.2
  lt : ∀ e ∈ kv, e.2 < 2 ^ kv.length
  zero : (0, 0) ∈ kv
theorem SizeI.start (ok : m.Ok) : SizeI m [(0, 0)] := by
  refine ⟨by simp, ?_, ?_, by simp⟩
  · intro e he
    cases List.mem_singleton.mp he
    exact ⟨.nil, ⟨trivial, rfl⟩, rfl⟩
  · intro e he
    cases List.mem_singleton.mp he
    decide
theorem SizeI.least {kv : List (Nat × Nat)} (h : SizeI m kv) (clo : ∀ l x y, l < 2 ^ m.w → x ∈ kv → y ∈ kv → ∃ z ∈ kv, z.1 = m.go l x.1 y.1 ∧ z.2 ≤ x.2 + y.2 + 1) : ∀ (t : Tr) (r : Nat), Leads m t r → ∃ z ∈ kv, z.1 = r ∧ z.2 ≤ t.size
  | .nil, r, ⟨_, e⟩ => ⟨(0, 0), h.zero, e, Nat.le_refl _⟩
  | .node l a b, r, ⟨⟨hl, ha, hb⟩, e⟩ => by
    obtain ⟨x, hx, ex, sx⟩ := SizeI.least h clo a _ ⟨ha, rfl⟩
    obtain ⟨y, hy, ey, sy⟩ := SizeI.least h clo b _ ⟨hb, rfl⟩
    obtain ⟨z, hz, ez, sz⟩ := clo l x y hl hx hy
    refine ⟨z, hz, by rw [ez, ex, ey]; exact e, ?_⟩
    show z.2 ≤ 1 + a.size + b.size
    omega
def putS (kv : List (Nat × Nat)) (r v : Nat) : List (Nat × Nat) := if r ∈ kv.map (·.1) then kv.map (fun e => if e.1 = r then (r, v) else e) else kv ++ [(r, v)]
theorem putS_keys {kv : List (Nat × Nat)} {r v : Nat} (h : r ∈ kv.map (·.1)) : (putS kv r v).map (·.1) = kv.map (·.1) := by
  unfold putS
  rw [if_pos h, List.map_map]
  refine List.map_congr_left fun e _ => ?_
  show (if e.1 = r then (r, v) else e).1 = e.1
  split
  · rename_i z; exact z.symm
  · rfl
theorem SizeI.put {kv : List (Nat × Nat)} (h : SizeI m kv) {l : Nat} {x y : Nat × Nat} (hl : l < 2 ^ m.w) (hx : x ∈ kv) (hy : y ∈ kv) (less : ∀ z ∈ kv, z.1 = m.go l x.1 y.1 → x.2 + y.2 + 1 < z.2) : SizeI m (putS kv (m.go l x.1 y.1) (x.2 + y.2 + 1)) := by
  obtain ⟨tx, ⟨lx, ex⟩, sx⟩ := h.ok x hx
  obtain ⟨ty, ⟨ly, ey⟩, sy⟩ := h.ok y hy
  have new : ∃ t, Leads m t (m.go l x.1 y.1) ∧ t.size = x.2 + y.2 + 1 := ⟨.node l tx ty, ⟨⟨hl, lx, ly⟩, by show m.go l (tx.up 0 m.go) (ty.up 0 m.go) = _; rw [ex, ey]⟩, by show 1 + tx.size + ty.size = _; omega⟩
  have n0 : m.go l x.1 y.1 ≠ 0 := fun z => by have := less (0, 0) h.zero z.symm; omega
  have b1 := h.lt x hx
  have b2 := h.lt y hy
  by_cases hr : m.go l x.1 y.1 ∈ kv.map (·.1)
  · refine ⟨by rw [putS_keys hr]; exact h.nd, ?_, ?_, ?_⟩
    · intro e he
      unfold putS at he
      rw [if_pos hr] at he
      obtain ⟨z, hz, rfl⟩ := List.mem_map.mp he
      split
      · exact new
      · exact h.ok z hz
    · intro e he
      unfold putS at he ⊢
      rw [if_pos hr] at he ⊢
      rw [List.length_map]
      obtain ⟨z, hz, rfl⟩ := List.mem_map.mp he
      split
      · rename_i e1
        exact Nat.lt_trans (less z hz e1) (h.lt z hz)
      · exact h.lt z hz
    · unfold putS
      rw [if_pos hr]
      exact List.mem_map.mpr ⟨(0, 0), h.zero, by rw [if_neg (fun z => n0 z.symm)]⟩
  · unfold putS
    rw [if_neg hr]
    refine ⟨?_, ?_, ?_, List.mem_append_left _ h.zero⟩
    · rw [List.map_append]
      refine List.nodup_append.mpr ⟨h.nd, by simp, fun a ha b hb e => ?_⟩
      rw [List.map_cons, List.map_nil, List.mem_singleton] at hb
      rw [hb] at e
      have e : a = m.go l x.1 y.1 := e
      exact hr (e ▸ ha)
    · intro e he
      rcases List.mem_append.mp he with he | he
      · exact h.ok e he
      · cases List.mem_singleton.mp he
        exact new
    · intro e he
      rw [List.length_append, List.length_singleton, Nat.pow_succ]
      rcases List.mem_append.mp he with he | he
      · have := h.lt e he; omega
      · cases List.mem_singleton.mp he
        show x.2 + y.2 + 1 < _
        omega
def look : List (Nat × Nat) → Nat → Option Nat
  | [], _ => none
  | e :: kv, r => if e.1 = r then some e.2 else look kv r
theorem look_mem {r v : Nat} : ∀ {kv : List (Nat × Nat)}, look kv r = some v → (r, v) ∈ kv
  | [], h => by cases h
  | e :: kv, h => by
    rw [look] at h
    split at h
    · rename_i z
      cases h
      rw [← z]; exact List.mem_cons_self
    · exact List.mem_cons_of_mem _ (look_mem h)
theorem look_none {r : Nat} : ∀ {kv : List (Nat × Nat)}, look kv r = none ↔ r ∉ kv.map (·.1)
  | [] => by simp [look]
  | e :: kv => by
    rw [look, List.map_cons, List.mem_cons]
    split
    · rename_i z
      simp [z]
    · rename_i z
      rw [look_none (kv := kv)]
      exact ⟨fun h x => x.elim (fun y => z y.symm) h, fun h x => h (.inr x)⟩
theorem look_of {r v : Nat} : ∀ {kv : List (Nat × Nat)}, (kv.map (·.1)).Nodup → (r, v) ∈ kv → look kv r = some v
  | [], _, h => by cases h
  | e :: kv, nd, h => by
    rw [List.map_cons, List.nodup_cons] at nd
    rw [look]
    rcases List.mem_cons.mp h with h | h
    · rw [← h, if_pos rfl]
    · rw [if_neg (fun z : e.1 = r => nd.1 (by rw [z]; exact List.mem_map.mpr ⟨_, h, rfl⟩)), look_of nd.2 h]
theorem look_map {r v : Nat} (r' : Nat) : ∀ (kv : List (Nat × Nat)), look (kv.map fun e => if e.1 = r then (r, v) else e) r' = if r' = r then (look kv r).map fun _ => v else look kv r'
  | [] => by
    rw [List.map_nil]
    split <;> rfl
  | e :: kv => by
    rw [List.map_cons, look, look, look, look_map r' kv]
    by_cases h1 : e.1 = r
    · rw [if_pos h1, if_pos h1]
      by_cases h2 : r' = r
      · subst h2
        simp
      · have h3 : ¬ r = r' := fun z => h2 z.symm
        have h4 : ¬ e.1 = r' := by rw [h1]; exact h3
        simp [h2, h3, h4]
    · rw [if_neg h1, if_neg h1]
      by_cases h2 : r' = r
      · subst h2
        simp [h1]
      · simp [h2]
theorem look_app {r v : Nat} (r' : Nat) : ∀ (kv : List (Nat × Nat)), look kv r = none → look (kv ++ [(r, v)]) r' = if r' = r then some v else look kv r'
  | [], _ => by
    show (if r = r' then some v else none) = _
    by_cases h : r' = r
    · rw [if_pos h, if_pos h.symm]
    · rw [if_neg h, if_neg (fun z => h z.symm)]; rfl
  | e :: kv, hn => by
    rw [look] at hn
    split at hn
    · cases hn
    · rename_i z
      rw [List.cons_append, look, look, look_app r' kv hn]
      by_cases h1 : e.1 = r'
      · rw [if_pos h1, if_neg (fun y => z (h1.trans y)), if_pos h1]
      · rw [if_neg h1, if_neg h1]
theorem look_put {kv : List (Nat × Nat)} {r v : Nat} (r' : Nat) : look (putS kv r v) r' = if r' = r then some v else look kv r' := by
  unfold putS
  by_cases hr : r ∈ kv.map (·.1)
  · rw [if_pos hr, look_map]
    cases e : look kv r with
    | none => exact absurd hr (look_none.mp e)
    | some u => rfl
  · rw [if_neg hr, look_app r' kv (look_none.mpr hr)]
theorem sum_lt {f g : Nat → Nat} {r : Nat} : ∀ n, (∀ i, i < n → f i ≤ g i) → r < n → f r < g r → ((List.range n).map f).sum < ((List.range n).map g).sum
  | 0, _, h, _ => by omega
  | n + 1, h, hr, hs => by
    rw [List.range_succ, List.map_append, List.map_append, List.sum_append, List.sum_append]
    have e : ∀ x : Nat, ([n].map fun _ => x).sum = x := fun x => by simp
    simp only [List.map_cons, List.map_nil, List.sum_cons, List.sum_nil, Nat.add_zero]
    by_cases hn : r = n
    · subst hn
      have le : ((List.range r).map f).sum ≤ ((List.range r).map g).sum := sum_le r fun i hi => h i (by omega)
      omega
    · have := sum_lt n (fun i hi => h i (by omega)) (by omega) hs
      have := h n (by omega)
      omega
where
  sum_le {f g : Nat → Nat} : ∀ n, (∀ i, i < n → f i ≤ g i) → ((List.range n).map f).sum ≤ ((List.range n).map g).sum
  | 0, _ => Nat.le_refl _
  | n + 1, h => by
    rw [List.range_succ, List.map_append, List.map_append, List.sum_append, List.sum_append]
    simp only [List.map_cons, List.map_nil, List.sum_cons, List.sum_nil, Nat.add_zero]
    have := sum_le n fun i hi => h i (by omega)
    have := h n (by omega)
    omega
def massS (n : Nat) (kv : List (Nat × Nat)) : Nat := ((List.range n).map fun r => (look kv r).getD (2 ^ n)).sum
theorem SizeI.room {kv : List (Nat × Nat)} (h : SizeI m kv) (ok : m.Ok) {e : Nat × Nat} (he : e ∈ kv) : e.1 < m.n := by
  obtain ⟨t, ⟨h1, h2⟩, _⟩ := h.ok e he
  rw [← h2]; exact Tr.up_lt ok _ h1
theorem SizeI.len {kv : List (Nat × Nat)} (h : SizeI m kv) (ok : m.Ok) : kv.length ≤ m.n := by
  have : (kv.map (·.1)).length ≤ (List.range m.n).length := h.nd.length_le_of_subset fun x hx => by
    obtain ⟨e, he, rfl⟩ := List.mem_map.mp hx
    exact List.mem_range.mpr (h.room ok he)
  rwa [List.length_map, List.length_range] at this
theorem SizeI.mass {kv : List (Nat × Nat)} (h : SizeI m kv) (ok : m.Ok) {l : Nat} {x y : Nat × Nat} (hl : l < 2 ^ m.w) (hx : x ∈ kv) (hy : y ∈ kv) (less : ∀ z ∈ kv, z.1 = m.go l x.1 y.1 → x.2 + y.2 + 1 < z.2) : massS m.n (putS kv (m.go l x.1 y.1) (x.2 + y.2 + 1)) < massS m.n kv := by
  have h' := h.put hl hx hy less
  have len' := h'.len ok
  refine sum_lt (r := m.go l x.1 y.1) m.n (fun i _ => ?_) (ok.go_lt hl (h.room ok hx) (h.room ok hy)) ?_
  · rw [look_put]
    split
    · rename_i z
      rw [z]
      cases e : look kv (m.go l x.1 y.1) with
      | none =>
        have mem : (m.go l x.1 y.1, x.2 + y.2 + 1) ∈ putS kv (m.go l x.1 y.1) (x.2 + y.2 + 1) := look_mem (by rw [look_put, if_pos rfl])
        have b := h'.lt _ mem
        exact Nat.le_of_lt (Nat.lt_of_lt_of_le b (Nat.pow_le_pow_right (by decide) len'))
      | some v => exact Nat.le_of_lt (less _ (look_mem e) rfl)
    · exact Nat.le_refl _
  · rw [look_put, if_pos rfl]
    cases e : look kv (m.go l x.1 y.1) with
    | none =>
      have mem : (m.go l x.1 y.1, x.2 + y.2 + 1) ∈ putS kv (m.go l x.1 y.1) (x.2 + y.2 + 1) := look_mem (by rw [look_put, if_pos rfl])
      have b := h'.lt _ mem
      exact Nat.lt_of_lt_of_le b (Nat.pow_le_pow_right (by decide) len')
    | some v => exact less _ (look_mem e) rfl
end SM
set_option Elab.async false
set_option linter.all false
set_option maxRecDepth 100000
namespace L2
open PySem PySem.Spec PyProof.Rows
abbrev Key := Sum Int Str
def blI (b : Bool) : Int := if b = true then 1 else 0
def isBl (k : Int) : Value → Bool
  | .bool b => k == blI b
  | _ => false
def keyIs : Key → Value → Bool
  | .inl k, v => Value.isInt k v || isBl k v
  | .inr x, v => Value.isStrOf x v
def keyH (w : World) : Key → Int
  | .inl k => hashInt k
  | .inr x => hashStr w x
theorem isBl_shape {k : Int} : ∀ {v : Value}, isBl k v = true → ∃ b, k = blI b ∧ v = Value.bool b := by
  intro v h
  cases v
  case bool b => exact ⟨b, eq_of_beq h, rfl⟩
  all_goals exact absurd h Bool.false_ne_true
theorem keyIs_shape : ∀ {k : Key} {v : Value}, keyIs k v = true → (∃ i t, k = Sum.inl i ∧ v = Value.int i t) ∨ (∃ x t, k = Sum.inr x ∧ v = Value.str x t) ∨ ∃ b, k = Sum.inl (blI b) ∧ v = Value.bool b
  | .inl i, v, h => by
    rcases (Bool.or_eq_true _ _).mp (show (Value.isInt i v || isBl i v) = true from h) with h | h
    · obtain ⟨t, e⟩ := Value.isInt_shape (k := i) (v := v) h
      exact .inl ⟨i, t, rfl, e⟩
    · obtain ⟨b, e, e'⟩ := isBl_shape h
      exact .inr (.inr ⟨b, by rw [e], e'⟩)
  | .inr x, v, h => by
    obtain ⟨t, e⟩ := Value.isStrOf_shape (x := x) (v := v) h
    exact .inr (.inl ⟨x, t, rfl, e⟩)
theorem hash_bl {prog : Program} {w : World} {A : Around} {E : Value → Shared → Prop} {s : Shared} {b : Bool} {Q : Int → Shared → Prop} (h : Q (hashInt (blI b)) { s with toks := s.toks + 1 }) : wpAny (model prog w) A (pyHash (.bool b)) Q E s := by
  have hT : s.TypeIs (.bool b) "bool" := rfl
  have hr := rawHash_range (blI b)
  unfold pyHash
  refine wpAny_bind ?_
  rw [cRoomFor, if_neg (show ¬ [Value.bool b].any Value.onHeap = true from Bool.false_ne_true)]
  refine wpAny_pure (wpAny_bind (wpAny_specialOf hT PySem.F.slot_bool_hash.lookup ?_))
  show wpAny _ _ (if (some (Value.builtin "int.__hash__") == some Value.none) = true then _ else _) Q E s
  rw [if_neg (show ¬ (some (Value.builtin "int.__hash__") == some Value.none) = true from Bool.false_ne_true)]
  refine wpAny_bind (wpAny_specialOf hT PySem.F.slot_bool_hash.lookup ?_)
  show wpAny _ _ (callSpecialIfBoundUnlessNone? (.bool b) "__hash__" _ >>= _) Q E s
  refine wpAny_bind (wpAny_callSpecialIfBoundUnlessNone?_slot hT PySem.F.slot_bool_hash (wpAny_call_entry PySem.F.slot_bool_hash hT PySem.F.entry_int_hash ?_ (PySem.F.args_int_hash_1 _)))
  refine (show wpAny _ _ (do ret (← mkInt (rawHash (blI b)))) _ _ s from wpAny_ret_mkInt ?_)
  show wpAny _ _ (if (decide (-(2 : Int) ^ 63 ≤ rawHash (blI b)) && decide (rawHash (blI b) < 2 ^ 63)) = true then _ else _) Q E _
  rw [if_pos (by rw [decide_eq_true hr.1, decide_eq_true hr.2]; rfl)]
  exact wpAny_pure h
theorem key_ll (a b : Int) : decide ((Sum.inl a : Key) = Sum.inl b) = (a == b) := by
  by_cases e : a = b
  · subst e; simp
  · have h : ¬ (Sum.inl a : Key) = Sum.inl b := fun q => e (Sum.inl.inj q)
    rw [decide_eq_false h]
    exact (beq_eq_false_iff_ne.mpr e).symm
theorem key_rr (a b : Str) : decide ((Sum.inr a : Key) = Sum.inr b) = decide (a = b) := by
  by_cases e : a = b
  · subst e; simp
  · have h : ¬ (Sum.inr a : Key) = Sum.inr b := fun q => e (Sum.inr.inj q)
    rw [decide_eq_false h, decide_eq_false e]
theorem key_lr (a : Int) (b : Str) : decide ((Sum.inl a : Key) = Sum.inr b) = false := decide_eq_false (fun q => nomatch q)
theorem key_rl (a : Str) (b : Int) : decide ((Sum.inr a : Key) = Sum.inl b) = false := decide_eq_false (fun q => nomatch q)
def mixKind (prog : Program) (w : World) : PySem.KeyKind prog w Key where
  is := keyIs
  hash := keyH w
  inj := fun v a b ha hb => by
    rcases keyIs_shape ha with ⟨i, t, rfl, rfl⟩ | ⟨x, t, rfl, rfl⟩ | ⟨c, rfl, rfl⟩
    · rcases keyIs_shape hb with ⟨j, u, rfl, e⟩ | ⟨y, u, rfl, e⟩ | ⟨d, rfl, e⟩
      · injection e with e1 _; rw [e1]
      · exact nomatch e
      · exact nomatch e
    · rcases keyIs_shape hb with ⟨j, u, rfl, e⟩ | ⟨y, u, rfl, e⟩ | ⟨d, rfl, e⟩
      · exact nomatch e
      · injection e with e1 _; rw [e1]
      · exact nomatch e
    · rcases keyIs_shape hb with ⟨j, u, rfl, e⟩ | ⟨y, u, rfl, e⟩ | ⟨d, rfl, e⟩
      · exact nomatch e
      · exact nomatch e
      · injection e with e1; rw [e1]
  byValue := fun k v h => by
    rcases keyIs_shape h with ⟨i, t, rfl, rfl⟩ | ⟨x, t, rfl, rfl⟩ | ⟨c, rfl, rfl⟩ <;> rfl
  pyHash := fun hv h => by
    rcases keyIs_shape hv with ⟨i, t, rfl, rfl⟩ | ⟨x, t, rfl, rfl⟩ | ⟨c, rfl, rfl⟩
    · exact wpAny_pyHash_int h
    · exact wpAny_pyHash_str h
    · exact hash_bl h
  eqBool := fun hu hv h => by
    rcases keyIs_shape hu with ⟨i, t, rfl, rfl⟩ | ⟨x, t, rfl, rfl⟩ | ⟨c, rfl, rfl⟩
    · rcases keyIs_shape hv with ⟨j, u, rfl, rfl⟩ | ⟨y, u, rfl, rfl⟩ | ⟨d, rfl, rfl⟩
      · rw [key_ll] at h; exact wpAny_eqBool_int h
      · rw [key_lr] at h; exact SeqAt.EqAt.int_str i t y u _ _ _ _ h
      · rw [key_ll] at h; exact SeqAt.EqAt.int_bool i t d _ _ _ _ h
    · rcases keyIs_shape hv with ⟨j, u, rfl, rfl⟩ | ⟨y, u, rfl, rfl⟩ | ⟨d, rfl, rfl⟩
      · rw [key_rl] at h; exact SeqAt.EqAt.str_int x t j u _ _ _ _ h
      · rw [key_rr] at h; exact wpAny_eqBool_str h
      · rw [key_rl] at h; exact SeqAt.EqAt.str_bool x t d _ _ _ _ h
    · rcases keyIs_shape hv with ⟨j, u, rfl, rfl⟩ | ⟨y, u, rfl, rfl⟩ | ⟨d, rfl, rfl⟩
      · rw [key_ll] at h; exact SeqAt.EqAt.bool_int c j u _ _ _ _ h
      · rw [key_lr] at h; exact SeqAt.EqAt.bool_str c y u _ _ _ _ h
      · rw [key_ll, show (blI c == blI d) = (c == d) by cases c <;> cases d <;> rfl] at h
        exact SeqAt.EqAt.bool_bool c d _ _ _ _ h
  «strs» := fun k x t v h => by
    rcases keyIs_shape h with ⟨i, u, rfl, e⟩ | ⟨y, u, rfl, e⟩ | ⟨d, rfl, e⟩
    · exact nomatch e
    · injection e with e1 _
      subst e1
      cases v <;> rfl
    · exact nomatch e
end L2
namespace L2
open PySem PySem.Spec PyProof.Rows
inductive V where
  | non | bl (b : Bool) | int (i : Int) | str (x : Str) | byt (b : Array UInt8) | flt (b : UInt64) | ref (a : Addr) | ty (n : String)
  deriving DecidableEq
def RelV : V → Value → Prop
  | .non, u => u = Value.none
  | .bl b, u => u = Value.bool b
  | .int i, u => ∃ t, u = Value.int i t
  | .str x, u => ∃ t, u = Value.str x t
  | .byt b, u => ∃ t, u = Value.bytes b t
  | .flt b, u => ∃ t, u = Value.float b t
  | .ref a, u => u = Value.ref a
  | .ty n, u => u = Value.type n
abbrev Vals : List V → List Value → Prop := Paired RelV
theorem Vals.length {xs : List V} {us : List Value} (r : Vals xs us) : xs.length = us.length := Paired.length r
theorem Vals.get : ∀ {xs : List V} {us : List Value} {i : Nat} {x : V}, Vals xs us → xs[i]? = some x → ∃ u, us[i]? = some u ∧ RelV x u
  | _, _, _, _, .nil, e => by simp at e
  | _, _, 0, _, .cons r _, e => by simp at e; subst e; exact ⟨_, rfl, r⟩
  | _, _, i + 1, x, .cons _ t, e => by
    obtain ⟨u, h1, h2⟩ := Vals.get (i := i) (x := x) t (by simpa using e)
    exact ⟨u, by simpa using h1, h2⟩
theorem Vals.append : ∀ {xs ys : List V} {us ws : List Value}, Vals xs us → Vals ys ws → Vals (xs ++ ys) (us ++ ws)
  | _, _, _, _, .nil, s => s
  | _, _, _, _, .cons r t, s => .cons r (Vals.append t s)
theorem Vals.take : ∀ {xs : List V} {us : List Value} (n : Nat), Vals xs us → Vals (xs.take n) (us.take n)
  | _, _, 0, _ => .nil
  | _, _, _ + 1, .nil => .nil
  | _, _, n + 1, .cons r t => .cons r (Vals.take n t)
theorem Vals.drop : ∀ {xs : List V} {us : List Value} (n : Nat), Vals xs us → Vals (xs.drop n) (us.drop n)
  | _, _, 0, r => r
  | _, _, _ + 1, .nil => .nil
  | _, _, n + 1, .cons _ t => Vals.drop n t
def RelO : Option V → Option Value → Prop
  | some v, some u => RelV v u
  | none, none => True
  | _, _ => False
def KV {κ : Type} : List (κ × V) → List (κ × Value) → Prop := Paired fun (p : κ × V) (q : κ × Value) => p.1 = q.1 ∧ RelV p.2 q.2
def kV : Key → V
  | .inl i => .int i
  | .inr x => .str x
inductive HO where
    | lst (xs : List V)
    | tup (xs : List V)
    | dK (kvs : List (Key × V)) | dT (kvs : List (List Key × V))
    | set (S : Int → Bool) (n : Nat)
    | ins (C dx : Addr) (fs : List (Str × V))
    | own (x : Addr)
    | xd (fs : List (Str × V))
    | met (f x : Addr)
    | rng (lo hi : Int)
    | frz (o : Obj) (u : HO)
    | tbl (qs : List (Pos × Str)) (ps : Array Value)
    | ext (φ : Heap → Prop)
abbrev Hp := Addr → Option HO
def upd (H : Hp) (a : Addr) (o : HO) : Hp := fun b => if b = a then some o else H b
theorem upd_same {H : Hp} {a : Addr} {o : HO} : upd H a o a = some o := by unfold upd; rw [if_pos rfl]
theorem upd_ne {H : Hp} {a b : Addr} {o : HO} (h : b ≠ a) : upd H a o b = H b := by unfold upd; rw [if_neg h]
theorem ne_of {H : Hp} {a b : Addr} {o u : HO} (h : H a = some o) (h' : H b = some u) (d : o ≠ u) : a ≠ b := by
  intro e; subst e; rw [h] at h'; exact d (Option.some.inj h')
theorem ne_of_none {H : Hp} {a b : Addr} {o : HO} (h : H a = some o) (h' : H b = none) : a ≠ b := by
  intro e; subst e; rw [h] at h'; cases h'
section
variable (P : Program) (w : World)
def CodeObj (o : Obj) (q : Str) : Prop := ∃ vs t, o.data = .fields vs ∧ vs[1]? = some (.str q t)
def ObjOk (H : Hp) (h : Heap) (a : Addr) : HO → Prop
  | .lst xs => xs.length ≤ sizeLine ∧ ∃ (its : List Value) (n : Nat), Vals xs its ∧ h.get? a = some { cls := .type "list", data := .seq its.toArray n }
  | .tup xs => xs.length ≤ sizeLine ∧ ∃ its : List Value, Vals xs its ∧ IsTup h a its.toArray
  | .dK kvs => kvs.length ≤ sizeLine ∧ (a == sysModules) = false ∧ ∃ vs, KV kvs vs ∧ h.DictOf (mixKind P w) a vs
  | .dT kvs => kvs.length ≤ sizeLine ∧ (a == sysModules) = false ∧ ∃ xs : List (List Key × Addr × Value),
      Paired (fun (p : List Key × V) (q : List Key × Addr × Value) => p.1 = q.1 ∧ H q.2.1 = some (.tup (p.1.map kV)) ∧ RelV p.2 q.2.2) kvs xs ∧
      ∃ o es ep, h.get? a = some o ∧ o.ExactDict ∧ o.data = .dict es ep ∧ es.toList = xs.map (entryOfKey (tupleKind (mixKind P w))) ∧ (xs.map (·.1)).Nodup
  | .set S n => h.SetOf (intKind P w) a S n
  | .ins C dx fs => H dx = some (.own a) ∧ fs.length ≤ 1000 ∧ dx ≠ a ∧ h.get? a = some (PySem.W.instObj C dx) ∧
      ∃ mA, h.Ns1 dx mA ∧ (∀ f, RelO (fs.lookup f) (mA f)) ∧ PySem.Within mA (fs.map (·.1))
  | .own _ => ∃ o, h.get? a = some o
  | .xd fs => ∃ mA, h.Ns1 a mA ∧ ∀ f, RelO (fs.lookup f) (mA f)
  | .rng lo hi => ∃ t u v, h.get? a = some { cls := .type "range", data := .fields #[.int lo t, .int hi u, .int 1 v] }
  | .frz o u => h.get? a = some o ∧ ObjOk H h a u
  | .tbl qs ps => ∃ more : Array Value, h.get? a = some { cls := .none, data := .fields (ps ++ more) } ∧ TriplesOk (ps ++ more).toList ∧ ∀ p ∈ qs, ∀ v, codeAmong p.1 (ps ++ more).toList = some v → ∃ c o, v = .ref c ∧ H c = some (.frz o (.own c)) ∧ CodeObj o p.2
  | .met f x => h.get? a = some (PySem.W.methodObj (.ref f) (.ref x))
  | .ext φ => φ h ∧ (∃ o, h.get? a = some o) ∧ ∀ h1 h2 : Heap, φ h1 → (∀ o, h1.get? a = some o → h2.get? a = some o) → φ h2
def HOk (H : Hp) (h : Heap) : Prop := ∀ a o, H a = some o → ObjOk P w H h a o
end
section
variable {P : Program} {w : World} {H H' : Hp} {h h' : Heap} {a : Addr} {o : HO}
theorem ObjOk.lt (x : ObjOk P w H h a o) : a < h.objs.size := by
  cases o with
  | lst xs => obtain ⟨_, _, _, _, e⟩ := x; exact Heap.lt_size e
  | tup xs => obtain ⟨_, _, _, p⟩ := x; exact p.lt
  | dK kvs => obtain ⟨_, _, _, _, o, _, _, e, _⟩ := x; exact Heap.lt_size e
  | dT kvs => obtain ⟨_, _, _, _, o, _, _, e, _⟩ := x; exact Heap.lt_size e
  | set S n => obtain ⟨o, _, _, _, e, _⟩ := x; exact Heap.lt_size e
  | ins C dx fs => obtain ⟨_, _, _, e, _⟩ := x; exact Heap.lt_size e
  | own y => obtain ⟨_, e⟩ := x; exact Heap.lt_size e
  | xd fs => obtain ⟨_, ⟨_, _, _, e, _⟩, _⟩ := x; exact Heap.lt_size e
  | rng lo hi => obtain ⟨_, _, _, e⟩ := x; exact Heap.lt_size e
  | frz ob u => obtain ⟨e, _⟩ := x; exact Heap.lt_size e
  | tbl qs ps => obtain ⟨_, e, _⟩ := x; exact Heap.lt_size e
  | met f y => exact Heap.lt_size (show h.get? a = some _ from x)
  | ext φ => obtain ⟨_, ⟨_, e⟩, _⟩ := x; exact Heap.lt_size e
theorem Paired.mapP {α β : Type} {F G : α → β → Prop} : ∀ {l₁ : List α} {l₂ : List β}, Paired F l₁ l₂ → (∀ a b, F a b → G a b) → Paired G l₁ l₂
  | _, _, .nil, _ => .nil
  | _, _, .cons r t, f => .cons (f _ _ r) (Paired.mapP t f)
theorem ObjOk.stay (x : ObjOk P w H h a o) (k : ∀ b u, (b = a ∨ H b = some (.own a)) → h.get? b = some u → h'.get? b = some u)
    (ho : ∀ b, H b = some (.own a) → H' b = some (.own a)) (hf : ∀ b o u q, CodeObj o q → H b = some (.frz o u) → H' b = some (.frz o u)) (ht : ∀ b xs, H b = some (.tup xs) → H' b = some (.tup xs)) : ObjOk P w H' h' a o := by
  induction o with
  | lst xs => obtain ⟨z, its, n, r, e⟩ := x; exact ⟨z, its, n, r, k _ _ (.inl rfl) e⟩
  | tup xs => obtain ⟨z, its, r, ob, e, c⟩ := x; exact ⟨z, its, r, ob, k _ _ (.inl rfl) e, c⟩
  | dK kvs => obtain ⟨z, y, vs, r, ob, es, ep, e, c⟩ := x; exact ⟨z, y, vs, r, ob, es, ep, k _ _ (.inl rfl) e, c⟩
  | dT kvs =>
    obtain ⟨z, y, xs, r, ob, es, ep, e, c⟩ := x
    exact ⟨z, y, xs, Paired.mapP r fun p q z => ⟨z.1, ht _ _ z.2.1, z.2.2⟩, ob, es, ep, k _ _ (.inl rfl) e, c⟩
  | set S n => obtain ⟨ob, es, ep, t, e, c⟩ := x; exact ⟨ob, es, ep, t, k _ _ (.inl rfl) e, c⟩
  | ins C dx fs =>
    obtain ⟨d, z, ne, e, mA, ⟨od, es, ep, e2, c⟩, r⟩ := x
    exact ⟨ho _ d, z, ne, k _ _ (.inl rfl) e, mA, ⟨od, es, ep, k _ _ (.inr d) e2, c⟩, r⟩
  | own y => obtain ⟨ob, e⟩ := x; exact ⟨ob, k _ _ (.inl rfl) e⟩
  | xd fs => obtain ⟨mA, ⟨od, es, ep, e, c⟩, r⟩ := x; exact ⟨mA, ⟨od, es, ep, k _ _ (.inl rfl) e, c⟩, r⟩
  | rng lo hi => obtain ⟨t, u, v, e⟩ := x; exact ⟨t, u, v, k _ _ (.inl rfl) e⟩
  | frz ob u ih => obtain ⟨e, q⟩ := x; exact ⟨k _ _ (.inl rfl) e, ih q⟩
  | tbl qs ps => obtain ⟨more, e, t, c⟩ := x; exact ⟨more, k _ _ (.inl rfl) e, t, fun p hp v q => let ⟨c1, o, r, z, co⟩ := c p hp v q; ⟨c1, o, r, hf _ _ _ _ co z, co⟩⟩
  | met f y =>
    have e : h.get? a = some (PySem.W.methodObj (.ref f) (.ref y)) := x
    show h'.get? a = some (PySem.W.methodObj (.ref f) (.ref y))
    exact k a _ (.inl rfl) e
  | ext φ => obtain ⟨p, ⟨o, e⟩, st⟩ := x; exact ⟨st _ _ p fun o q => k _ _ (.inl rfl) q, ⟨o, k _ _ (.inl rfl) e⟩, st⟩
theorem HOk.lt (x : HOk P w H h) (e : H a = some o) : a < h.objs.size := (x a o e).lt
theorem HOk.fresh (x : HOk P w H h) (e : h.objs.size ≤ a) : H a = none := by
  cases q : H a with
  | none => rfl
  | some u => exact absurd (Nat.lt_of_lt_of_le (x.lt q) e) (Nat.lt_irrefl _)
theorem HOk.kept (x : HOk P w H h) (k : ∀ b u, h.get? b = some u → h'.get? b = some u) : HOk P w H h' := fun a o e =>
  (x a o e).stay (fun b u _ q => k b u q) (fun _ q => q) (fun _ _ _ _ _ q => q) fun _ _ q => q
theorem HOk.laid (x : HOk P w H h) (k : ∀ b u, h.get? b = some u → h'.get? b = some u) (hp : h.objs.size ≤ a) (new : ObjOk P w (upd H a o) h' a o) : HOk P w (upd H a o) h' := fun b u e => by
  have hn := x.fresh hp
  by_cases hb : b = a
  · subst hb; rw [upd_same] at e; cases e; exact new
  · rw [upd_ne hb] at e
    exact (x b u e).stay (fun c v _ q => k c v q) (fun c q => by rw [upd_ne (ne_of_none q hn)]; exact q) (fun c _ _ _ _ q => by rw [upd_ne (ne_of_none q hn)]; exact q) fun c xs q => by rw [upd_ne (ne_of_none q hn)]; exact q
end
def Rd (H : Hp) (a : Addr) (u : HO) : Prop := H a = some u ∨ ∃ o, H a = some (.frz o u)
theorem Rd.ok {P : Program} {w : World} {H : Hp} {h : Heap} {a : Addr} {u : HO} (r : Rd H a u) (x : HOk P w H h) : ObjOk P w H h a u := by
  rcases r with r | ⟨o, r⟩
  · exact x a u r
  · obtain ⟨_, q⟩ := x a _ r
    exact q
def Mut : Option HO → Prop
  | some (.lst _) => True
  | some (.dK _) => True
  | some (.dT _) => True
  | some (.set _ _) => True
  | some (.ins _ _ _) => True
  | some (.ext _) => True
  | _ => False
section
variable {P : Program} {w : World} {H : Hp} {h h' : Heap} {x e : Addr} {o' : HO}
theorem HOk.write (ok : HOk P w H h) (mu : Mut (H x)) (he : e = x ∨ H e = some (.own x)) (k : ∀ b u, b ≠ e → h.get? b = some u → h'.get? b = some u) (heo : ∃ u, h'.get? e = some u)
    (new : ObjOk P w (upd H x o') h' x o') : HOk P w (upd H x o') h' := fun b u q => by
  have nown : ∀ c y, H c = some (.own y) → c ≠ x := fun c y r z => by subst z; rw [r] at mu; exact mu
  have ntup : ∀ c xs, H c = some (.tup xs) → c ≠ x := fun c xs r z => by subst z; rw [r] at mu; exact mu
  have nfrz : ∀ c o y, H c = some (.frz o y) → c ≠ x := fun c o y r z => by subst z; rw [r] at mu; exact mu
  by_cases hb : b = x
  · subst hb; rw [upd_same] at q; cases q; exact new
  · rw [upd_ne hb] at q
    by_cases hbe : b = e
    · have q' : H b = some (.own x) := by
        rcases he with z | z
        · exact absurd (hbe.trans z) hb
        · rw [hbe]; exact z
      rw [q] at q'; cases q'
      obtain ⟨v, hv⟩ := heo
      exact ⟨v, by rw [hbe]; exact hv⟩
    · refine (ok b u q).stay (fun c v hc r => k c v ?_ r) (fun c r => by rw [upd_ne (nown c b r)]; exact r) (fun c o y _ _ r => by rw [upd_ne (nfrz c o y r)]; exact r) fun c xs r => by rw [upd_ne (ntup c xs r)]; exact r
      rcases hc with rfl | hc
      · exact hbe
      · rintro rfl
        rcases he with z | z
        · exact nown c b hc z
        · rw [hc] at z; cases z; exact hb rfl
end
structure Un (fs ex : List Addr) (H H' : Hp) (h h' : Heap) : Prop where
  keep : ∀ b o, h.get? b = some o → H b = none → b ∉ fs → b ∉ ex → h'.get? b = some o
  slot : ∀ b o, h.get? b = some o → H b = none → b ∈ fs → b ∉ ex → ∃ sl, h'.get? b = some { o with slots := sl }
  free : ∀ b o, h.get? b = some o → H b = none → b ∉ ex → H' b = none
  there : ∀ b o, h.get? b = some o → b ∉ ex → ∃ o', h'.get? b = some o'
  tups : ∀ b xs, H b = some (.tup xs) → H' b = some (.tup xs)
  frzs : ∀ b o u, H b = some (.frz o u) → H' b = some (.frz o u)
  tbls : ∀ b qs ps, H b = some (.tbl qs ps) → H' b = some (.tbl qs ps)
section
variable {fs fs' ex ex' : List Addr} {H H1 H2 : Hp} {h h1 h2 h' : Heap} {a x e : Addr} {o : HO}
theorem Un.any (u : Un fs ex H H1 h h1) {b : Addr} {ob : Obj} (q : h.get? b = some ob) (n : H b = none) (hx : b ∉ ex) : ∃ sl, h1.get? b = some { ob with slots := sl } := by
  by_cases hb : b ∈ fs
  · exact u.slot b ob q n hb hx
  · exact ⟨ob.slots, u.keep b ob q n hb hx⟩
theorem Un.kept (k : ∀ b u, h.get? b = some u → h'.get? b = some u) : Un fs ex H H h h' :=
  ⟨fun b ob q _ _ _ => k b ob q, fun b ob q _ _ _ => ⟨ob.slots, k b ob q⟩, fun _ _ _ n _ => n, fun b ob q _ => ⟨ob, k b ob q⟩, fun _ _ q => q, fun _ _ _ q => q, fun _ _ _ q => q⟩
theorem Un.refl : Un fs ex H H h h := Un.kept fun _ _ q => q
theorem Un.laid (k : ∀ b u, h.get? b = some u → h'.get? b = some u) (hp : h.objs.size ≤ a) (hn : H a = none) : Un fs ex H (upd H a o) h h' where
  keep := fun b u q _ _ _ => k b u q
  slot := fun b u q _ _ _ => ⟨u.slots, k b u q⟩
  free := fun b u q n _ => by rw [upd_ne (Nat.ne_of_lt (Nat.lt_of_lt_of_le (Heap.lt_size q) hp))]; exact n
  there := fun b u q _ => ⟨u, k b u q⟩
  tups := fun b xs q => by rw [upd_ne (ne_of_none q hn)]; exact q
  frzs := fun b u xs q => by rw [upd_ne (ne_of_none q hn)]; exact q
  tbls := fun b qs ps q => by rw [upd_ne (ne_of_none q hn)]; exact q
theorem Un.write (mu : Mut (H x)) (he : e = x ∨ H e = some (.own x)) (k : ∀ b u, b ≠ e → h.get? b = some u → h'.get? b = some u) (heo : ∃ u, h'.get? e = some u) : Un fs ex H (upd H x o) h h' := by
  have hx : ∀ b, H b = none → b ≠ x := fun b n z => by subst z; rw [n] at mu; exact mu
  have hb : ∀ b, H b = none → b ≠ e := fun b n z => by
    subst z
    rcases he with r | r
    · exact hx b n r
    · rw [n] at r; cases r
  have hm : ∀ b u, H b = some u → ¬ Mut (some u) → b ≠ x := fun b u q nm z => by subst z; rw [q] at mu; exact nm mu
  refine ⟨fun b u q n _ _ => k b u (hb b n) q, fun b u q n _ _ => ⟨u.slots, k b u (hb b n) q⟩, fun b u q n _ => by rw [upd_ne (hx b n)]; exact n, fun b u q _ => ?_,
    fun b xs q => by rw [upd_ne (hm b _ q fun z => z)]; exact q, fun b u xs q => by rw [upd_ne (hm b _ q fun z => z)]; exact q, fun b qs ps q => by rw [upd_ne (hm b _ q fun z => z)]; exact q⟩
  by_cases hbe : b = e
  · subst hbe; exact heo
  · exact ⟨u, k b u hbe q⟩
end
def trk (h : Heap) (H : Hp) : List Addr := (List.range h.objs.size).filter fun a => (H a).isSome
def hidT (h : Heap) (H : Hp) : Heap := PySem.W.hideAll h (trk h H)
theorem hidT_size (h : Heap) (H : Hp) : (hidT h H).objs.size = h.objs.size := PySem.W.hideAll_size _ _
theorem hidT_get {h : Heap} {H : Hp} {b : Addr} {o : Obj} (e : h.get? b = some o) (n : H b = none) : (hidT h H).get? b = some o :=
  PySem.W.hideAll_get _ e fun hm => by
    have q : (H b).isSome = true := (List.mem_filter.mp hm).2
    rw [n] at q; simp at q
theorem of_hidT {h : Heap} {H : Hp} {b : Addr} {o : Obj} (e : (hidT h H).get? b = some o) : h.get? b = some o ∧ H b = none := by
  have e' : h.get? b = some o := PySem.W.of_hideAll (trk h H) e
  refine ⟨e', ?_⟩
  cases q : H b with
  | none => rfl
  | some x =>
    have hm : b ∈ trk h H := List.mem_filter.mpr ⟨List.mem_range.mpr (Heap.lt_size e'), by simp [q]⟩
    have z : (hidT h H).get? b = none := PySem.W.hideAll_none (trk h H) hm
    rw [z] at e; cases e
def allNews (g h : Heap) (L : Addr) : List (Addr × Obj) := (List.range h.objs.size).filterMap fun a => if a = L ∨ (g.get? a).isSome = true then none else (h.get? a).map fun o => (a, o)
def rest (g h : Heap) (L d : Addr) : List (Addr × Obj) := (allNews g h L).filter fun p => decide (p.1 ≠ d)
end L2
namespace L2
open PySem PySem.Spec PyProof.Rows
structure Mod (K : PySem.W.Frag) (mg : Str → Option Value) (base : Heap) : Prop where
  kin : K.In base
  glob : base.Ns mainGlobals mg
  blt : ∃ mb, base.Ns builtinsNs mb ∧ ∀ x : Str, x ≠ "__name__" → mb x = bootBuiltins x
  nolimit : base.NoLimit
structure Cx where
  prog : Program
  w : World
  K : PySem.W.Frag
  mg : Str → Option Value
  base : Heap
  A : Around
  N : List Str
  s₀ : Shared
  H₀ : Hp
  env : Env
  outer : List Env
  stack : List Env
  ex : List Addr
  fn : Str → Bool
  calm : Bool
  pn : List (Addr × Obj)
  xe : Value → Shared → Prop
def frs (l : List Env) : List Addr := l.filterMap (·.frame)
abbrev Cx.fs (X : Cx) : List Addr := frs X.outer
def Vis (sc : Scope) (x : Str) : Prop := sc.names.lookup x = some .local ∨ sc.names.lookup x = some .cell ∨ sc.names.lookup x = some .free
def Loc (sc : Scope) (x : Str) : Prop := sc.names.lookup x = some .local ∨ sc.names.lookup x = some .cell
def Look (env : Env) (h : Heap) (m : Str → Option Value) (x : Str) (u : Value) : Prop :=
  (env.kindOf x = some .local ∧ m x = some u) ∨ ((env.kindOf x = some .cell ∨ env.kindOf x = some .free) ∧ ∃ c, env.cells.lookup x = some c ∧ h.IsCell c (some u))
structure Cx.Ok (X : Cx) : Prop where
  mod : Mod X.K X.mg X.base
  kind : X.env.scope.kind = .function
  glob : X.env.globals = mainGlobals
  blt : X.env.builtins = builtinsNs
  above : X.s₀.heap.objs.size ≤ X.env.locals
  inj : ∀ x y c, X.env.cells.lookup x = some c → X.env.cells.lookup y = some c → x = y
  has : ∀ x, (X.env.kindOf x = some .cell ∨ X.env.kindOf x = some .free) → ∃ c, X.env.cells.lookup x = some c
  cab : ∀ x c, X.fn x = true → X.env.cells.lookup x = some c → X.s₀.heap.objs.size ≤ c
  hd : X.calm = true → X.A.handled = none
  frames : X.A.frames = some X.stack
  stk : X.stack = X.outer ∨ (X.stack = X.env :: X.outer ∧ X.env.frame = some X.env.locals)
  exf : ∀ b ∈ X.ex, b ≠ X.env.locals ∧ ∀ x c, X.env.cells.lookup x = some c → c ≠ b
  bs : ∀ b o, X.base.get? b = some o → X.s₀.heap.get? b = some o ∧ X.H₀ b = none
  bsz : X.base.objs.size ≤ X.s₀.heap.objs.size
  noex : ∀ b o, X.base.get? b = some o → b ∉ X.ex
  exfs : ∀ b ∈ X.ex, b ∉ X.fs
  funs : X.s₀.heap.FunFrames X.base X.outer
  frf : ∀ b ∈ X.fs, X.H₀ b = none
structure Inv (X : Cx) (pins : List (Addr × Obj)) (σ : List (Option V)) (H : Hp) (s : Shared) : Prop where
  ok : X.Ok
  os : s.os = X.s₀.os
  bare : AllBare s.gens
  base : Un X.fs X.ex X.H₀ H X.s₀.heap s.heap
  loc : ∃ m, s.heap.Ns X.env.locals m ∧ ∀ (i : Nat) (x : Str) (v : V), X.N[i]? = some x → σ[i]? = some (some v) → Vis X.env.scope x → ∃ u, RelV v u ∧ Look X.env s.heap m x u
  cell : ∀ x c, X.env.cells.lookup x = some c → ∃ v, s.heap.IsCell c v
  free : H X.env.locals = none
  freeC : ∀ x c, X.env.cells.lookup x = some c → H c = none
  pin : ∀ p ∈ X.pn ++ pins, s.heap.get? p.1 = some p.2 ∧ H p.1 = none ∧ p.1 ≠ X.env.locals ∧ p.1 ∉ X.fs ∧ ∀ v, p.2.data ≠ .cell v
  hok : HOk X.prog X.w H s.heap
  len : σ.length = X.N.length
section
variable {X : Cx} {pins : List (Addr × Obj)} {σ : List (Option V)} {H H' : Hp} {s : Shared} {h' : Heap}
theorem Cx.Ok.nofr (ok : X.Ok) {b : Addr} {o : Obj} (e : X.base.get? b = some o) : b ∉ X.fs := fun hb => by
  have := (ok.funs.mem hb).1
  rw [e] at this; cases this
theorem Inv.bs (I : Inv X pins σ H s) : ∀ b o, X.base.get? b = some o → s.heap.get? b = some o ∧ H b = none := fun b o e =>
  ⟨I.base.keep b o (I.ok.bs b o e).1 (I.ok.bs b o e).2 (I.ok.nofr e) (I.ok.noex b o e), I.base.free b o (I.ok.bs b o e).1 (I.ok.bs b o e).2 (I.ok.noex b o e)⟩
theorem Inv.bk (I : Inv X pins σ H s) : ∀ b o, X.base.get? b = some o → s.heap.get? b = some o := fun b o e => (I.bs b o e).1
theorem Inv.mod (I : Inv X pins σ H s) : Mod X.K X.mg X.base := I.ok.mod
theorem Inv.kIn (I : Inv X pins σ H s) : X.K.In s.heap := I.ok.mod.kin.keeps I.bk
theorem Inv.lt (I : Inv X pins σ H s) : X.env.locals < s.heap.objs.size := let ⟨_, hn, _⟩ := I.loc; hn.lt
theorem Inv.sz (I : Inv X pins σ H s) : X.s₀.heap.objs.size ≤ s.heap.objs.size := Nat.le_trans I.ok.above (Nat.le_of_lt I.lt)
theorem Inv.nofs (I : Inv X pins σ H s) {a : Addr} (h : s.heap.objs.size ≤ a) : a ∉ X.fs := fun hb => by
  obtain ⟨_, o, ho, _⟩ := I.ok.funs.mem hb
  exact absurd (Nat.lt_of_lt_of_le (Heap.lt_size ho) (Nat.le_trans I.sz h)) (Nat.lt_irrefl _)
theorem Inv.cne (I : Inv X pins σ H s) : ∀ x c, X.env.cells.lookup x = some c → c ≠ X.env.locals := fun x c e z => by
  obtain ⟨v, o, ho, hd⟩ := I.cell x c e
  obtain ⟨m, ⟨o', es, ep, ho', hd', _⟩, _⟩ := I.loc
  rw [z, ho'] at ho; cases ho; rw [hd'] at hd; cases hd
theorem Inv.funs (I : Inv X pins σ H s) : s.heap.FunFrames X.base X.outer := by
  have all : ∀ (l : List Env), (∀ b ∈ frs l, b ∈ X.fs) → X.s₀.heap.FunFrames X.base l → s.heap.FunFrames X.base l := by
    intro l
    induction l with
    | nil => intro _ _; trivial
    | cons env r ih =>
      intro hs hl
      obtain ⟨hk, ⟨L, o, hf, hn, ho, hd⟩, hr⟩ := hl
      have hL : L ∈ X.fs := hs L (by unfold frs; rw [List.filterMap_cons, hf]; exact List.mem_cons_self)
      obtain ⟨sl, e⟩ := I.base.slot L o ho (I.ok.frf L hL) hL fun z => I.ok.exfs L z hL
      exact ⟨hk, ⟨L, _, hf, hn, e, hd⟩, ih (fun b hb => hs b (by unfold frs; rw [List.filterMap_cons, hf]; exact List.mem_cons_of_mem _ hb)) hr⟩
  exact all X.outer (fun _ hb => hb) I.ok.funs
theorem Inv.stack (I : Inv X pins σ H s) : s.heap.FunFrames X.base X.stack := by
  rcases I.ok.stk with e | ⟨e, hf⟩
  · rw [e]; exact I.funs
  · rw [e]
    obtain ⟨m, hn, _⟩ := I.loc
    refine .cons (by rw [I.ok.kind]; decide) hf hn ?_ I.funs
    exact Heap.get?_none_of_le (Nat.le_trans I.ok.bsz I.ok.above)
theorem Inv.stkSub (I : Inv X pins σ H s) : ∀ b ∈ frs X.stack, b ∈ X.env.locals :: X.fs := fun b hb => by
  rcases I.ok.stk with e | ⟨e, hf⟩
  · rw [e] at hb; exact List.mem_cons_of_mem _ hb
  · rw [e] at hb
    unfold frs at hb
    rw [List.filterMap_cons, hf] at hb
    exact hb
theorem Inv.stkFree (I : Inv X pins σ H s) : ∀ b ∈ frs X.stack, H b = none := fun b hb => by
  rcases List.mem_cons.mp (I.stkSub b hb) with e | hb
  · rw [e]; exact I.free
  · obtain ⟨_, o, ho, _⟩ := I.ok.funs.mem hb
    exact I.base.free b o ho (I.ok.frf b hb) fun z => I.ok.exfs b z hb
theorem Inv.step {g' : Array GenState} {t' : Nat} {d' : Drawn} {ch : List Addr} (I : Inv X pins σ H s)
    (hch : ∀ b ∈ ch, (b ∈ X.ex ∨ X.s₀.heap.objs.size ≤ b) ∧ b ≠ X.env.locals ∧ (∀ x c, X.env.cells.lookup x = some c → c ≠ b) ∧ ∀ p ∈ X.pn ++ pins, p.1 ≠ b)
    (keep : ∀ b o, b ≠ X.env.locals → b ∉ X.fs → b ∉ ch → s.heap.get? b = some o → H b = none → h'.get? b = some o)
    (slot : ∀ b o, b ≠ X.env.locals → b ∈ X.fs → b ∉ ch → s.heap.get? b = some o → H b = none → ∃ sl, h'.get? b = some { o with slots := sl }) (free : ∀ b o, b ∉ ch → s.heap.get? b = some o → H b = none → H' b = none)
    (there : ∀ b o, b ∉ ch → s.heap.get? b = some o → ∃ o', h'.get? b = some o')
    (tups : ∀ b xs, H b = some (.tup xs) → H' b = some (.tup xs)) (frzs : ∀ b o u, H b = some (.frz o u) → H' b = some (.frz o u)) (tbls : ∀ b qs ps, H b = some (.tbl qs ps) → H' b = some (.tbl qs ps))
    (ns : ∀ m, s.heap.Ns X.env.locals m → h'.Ns X.env.locals m) (hok : HOk X.prog X.w H' h') (hg : AllBare g') :
    Inv X pins σ H' { s with heap := h', gens := g', drawn := d', toks := t' } := by
  have neL : ∀ b o, X.s₀.heap.get? b = some o → b ≠ X.env.locals := fun b o e => Nat.ne_of_lt (Nat.lt_of_lt_of_le (Heap.lt_size e) I.ok.above)
  have neC : ∀ b o, X.s₀.heap.get? b = some o → b ∉ X.ex → b ∉ ch := fun b o e hx hb => by
    rcases (hch b hb).1 with z | z
    · exact hx z
    · exact absurd (Nat.lt_of_lt_of_le (Heap.lt_size e) z) (Nat.lt_irrefl _)
  have cellK : ∀ x c, X.env.cells.lookup x = some c → ∀ v, s.heap.IsCell c v → h'.IsCell c v := fun x c e v ⟨o, ho, hd⟩ => by
    have nch : c ∉ ch := fun z => (hch c z).2.2.1 x c e rfl
    by_cases hc : c ∈ X.fs
    · obtain ⟨sl, q⟩ := slot c o (I.cne x c e) hc nch ho (I.freeC x c e)
      exact ⟨_, q, hd⟩
    · exact ⟨o, keep c o (I.cne x c e) hc nch ho (I.freeC x c e), hd⟩
  refine ⟨I.ok, I.os, hg, ⟨fun b o e n hb hx => ?_, fun b o e n hb hx => ?_, fun b o e n hx => ?_, fun b o e hx => ?_, fun b xs e => tups b xs (I.base.tups b xs e), fun b o xs e => frzs b o xs (I.base.frzs b o xs e), fun b qs ps e => tbls b qs ps (I.base.tbls b qs ps e)⟩, ?_, fun x c e => ?_, ?_, fun x c e => ?_, fun p hp => ?_, hok, I.len⟩
  · exact keep b o (neL b o e) hb (neC b o e hx) (I.base.keep b o e n hb hx) (I.base.free b o e n hx)
  · obtain ⟨sl, e1⟩ := I.base.slot b o e n hb hx
    obtain ⟨sl', e2⟩ := slot b _ (neL b o e) hb (neC b o e hx) e1 (I.base.free b o e n hx)
    exact ⟨sl', e2⟩
  · obtain ⟨o', e1⟩ := I.base.there b o e hx
    exact free b o' (neC b o e hx) e1 (I.base.free b o e n hx)
  · obtain ⟨o', e1⟩ := I.base.there b o e hx
    exact there b o' (neC b o e hx) e1
  · obtain ⟨m, hn, hl⟩ := I.loc
    refine ⟨m, ns m hn, fun i x v e1 e2 e3 => ?_⟩
    obtain ⟨u, r, l⟩ := hl i x v e1 e2 e3
    refine ⟨u, r, ?_⟩
    rcases l with l | ⟨k, c, e, z⟩
    · exact .inl l
    · exact .inr ⟨k, c, e, cellK x c e _ z⟩
  · obtain ⟨v, z⟩ := I.cell x c e
    exact ⟨v, cellK x c e v z⟩
  · obtain ⟨m, ⟨o, _, _, ho, _⟩, _⟩ := I.loc
    exact free _ o (fun z => (hch _ z).2.1 rfl) ho I.free
  · obtain ⟨v, o, ho, hd⟩ := I.cell x c e
    exact free c o (fun z => (hch c z).2.2.1 x c e rfl) ho (I.freeC x c e)
  · obtain ⟨e, n, ne, nf, d⟩ := I.pin p hp
    have nch : p.1 ∉ ch := fun z => (hch p.1 z).2.2.2 p hp rfl
    exact ⟨keep p.1 p.2 ne nf nch e n, free p.1 p.2 nch e n, ne, nf, d⟩
theorem Inv.un {t' : Nat} (I : Inv X pins σ H s) (u : Un X.fs [] H H' s.heap h') (hok : HOk X.prog X.w H' h') : Inv X pins σ H' { s with heap := h', toks := t' } := by
  obtain ⟨m, ⟨o, es, ep, ho, r⟩, _⟩ := id I.loc
  obtain ⟨sl, hL⟩ := u.any ho I.free (by simp)
  exact I.step (g' := s.gens) (d' := s.drawn) (ch := []) (fun _ z => nomatch z) (fun b o _ hb _ e n => u.keep b o e n hb (by simp)) (fun b o _ hb _ e n => u.slot b o e n hb (by simp)) (fun b o _ e n => u.free b o e n (by simp)) (fun b o _ e => u.there b o e (by simp)) u.tups u.frzs u.tbls (fun m' hm => by
    obtain ⟨o', es', ep', ho', r'⟩ := hm
    rw [ho] at ho'; cases ho'
    exact ⟨_, es', ep', hL, r'⟩) hok I.bare
theorem Inv.call {g' : Array GenState} {t' : Nat} {d' : Drawn} {ch : List Addr} (I : Inv X pins σ H s) (u : Un (frs X.stack) ch H H' s.heap h') (hok : HOk X.prog X.w H' h') (hg : AllBare g')
    (hch : ∀ b ∈ ch, (b ∈ X.ex ∨ X.s₀.heap.objs.size ≤ b) ∧ b ≠ X.env.locals ∧ (∀ x c, X.env.cells.lookup x = some c → c ≠ b) ∧ ∀ p ∈ X.pn ++ pins, p.1 ≠ b) :
    Inv X pins σ H' { s with heap := h', gens := g', drawn := d', toks := t' } := by
  obtain ⟨m, ⟨o, es, ep, ho, r⟩, _⟩ := id I.loc
  obtain ⟨sl, hL⟩ := u.any ho I.free fun z => (hch _ z).2.1 rfl
  exact I.step (ch := ch) hch (fun b o hL hb hc e n => u.keep b o e n (fun z => (List.mem_cons.mp (I.stkSub b z)).elim hL hb) hc) (fun b o _ _ hc e n => u.any e n hc) (fun b o hc e n => u.free b o e n hc) (fun b o hc e => u.there b o e hc) u.tups u.frzs u.tbls (fun m' hm => by
    obtain ⟨o', es', ep', ho', r'⟩ := hm
    rw [ho] at ho'; cases ho'
    exact ⟨_, es', ep', hL, r'⟩) hok hg
theorem Inv.turned {t' : Nat} {it : Addr} (I : Inv X pins σ H s) (k : ∀ b o, b ≠ it → s.heap.get? b = some o → h'.get? b = some o) (hn : H it = none) (hL : it ≠ X.env.locals)
    (h1 : it ∈ X.ex ∨ X.s₀.heap.objs.size ≤ it) (h2 : ∀ x c, X.env.cells.lookup x = some c → c ≠ it) (h3 : ∀ p ∈ X.pn ++ pins, p.1 ≠ it) : Inv X pins σ H { s with heap := h', toks := t' } := by
  have nit : ∀ b u, H b = some u → b ≠ it := fun b u e z => by rw [z, hn] at e; cases e
  refine I.step (g' := s.gens) (d' := s.drawn) (ch := [it]) (fun b hb => ?_) (fun b o _ _ hc e _ => k b o (fun z => hc (by simp [z])) e) (fun b o _ _ hc e _ => ⟨o.slots, k b o (fun z => hc (by simp [z])) e⟩) (fun _ _ _ _ n => n)
    (fun b o hc e => ⟨o, k b o (fun z => hc (by simp [z])) e⟩) (fun _ _ e => e) (fun _ _ _ e => e) (fun _ _ _ e => e) (fun m hm => ?_) (fun b u e => ?_) I.bare
  · have e : b = it := by simpa using hb
    subst e
    exact ⟨h1, hL, h2, h3⟩
  · obtain ⟨o, es, ep, ho, r⟩ := hm
    exact ⟨o, es, ep, k _ o (Ne.symm hL) ho, r⟩
  · refine (I.hok b u e).stay (fun c v hc q => k c v ?_ q) (fun _ q => q) (fun _ _ _ _ _ q => q) fun _ _ q => q
    rcases hc with z | z
    · rw [z]; exact nit b u e
    · exact nit c _ z
theorem Inv.tok (I : Inv X pins σ H s) (t : Nat) : Inv X pins σ H { s with toks := t } := I.un (h' := s.heap) (t' := t) Un.refl I.hok
theorem Inv.kept {t' : Nat} (I : Inv X pins σ H s) (k : ∀ b u, s.heap.get? b = some u → h'.get? b = some u) : Inv X pins σ H { s with heap := h', toks := t' } := I.un (Un.kept k) (I.hok.kept k)
theorem Inv.laid {a : Addr} {o : HO} {t' : Nat} (I : Inv X pins σ H s) (k : ∀ b u, s.heap.get? b = some u → h'.get? b = some u) (hp : s.heap.objs.size ≤ a) (new : ObjOk X.prog X.w (upd H a o) h' a o) :
    Inv X pins σ (upd H a o) { s with heap := h', toks := t' } := I.un (Un.laid k hp (I.hok.fresh hp)) (I.hok.laid k hp new)
theorem Inv.write {x e : Addr} {o : HO} {t' : Nat} (I : Inv X pins σ H s) (mu : Mut (H x)) (he : e = x ∨ H e = some (.own x)) (k : ∀ b u, b ≠ e → s.heap.get? b = some u → h'.get? b = some u) (heo : ∃ u, h'.get? e = some u)
    (new : ObjOk X.prog X.w (upd H x o) h' x o) : Inv X pins σ (upd H x o) { s with heap := h', toks := t' } := I.un (Un.write mu he k heo) (I.hok.write mu he k heo new)
theorem Inv.pins_of {pins' : List (Addr × Obj)} (I : Inv X pins σ H s) (h : ∀ p ∈ pins', s.heap.get? p.1 = some p.2 ∧ H p.1 = none ∧ p.1 ≠ X.env.locals ∧ p.1 ∉ X.fs ∧ ∀ v, p.2.data ≠ .cell v) : Inv X pins' σ H s :=
  ⟨I.ok, I.os, I.bare, I.base, I.loc, I.cell, I.free, I.freeC, fun p hp => (List.mem_append.mp hp).elim (fun z => I.pin p (List.mem_append_left _ z)) (h p), I.hok, I.len⟩
theorem nodup_ix {N : List Str} (hN : N.Nodup) {i j : Nat} {x : Str} (a : N[i]? = some x) (b : N[j]? = some x) : i = j := by
  obtain ⟨h1, e1⟩ := List.getElem?_eq_some_iff.mp a
  obtain ⟨h2, e2⟩ := List.getElem?_eq_some_iff.mp b
  exact (List.getElem_inj hN).mp (e1.trans e2.symm)
theorem store_ok2 {M : Model} {A : Around} {E : Value → Shared → Prop} {i : Nat} {x : Str} {v : V} {u : Value} {Q : Unit → Shared → Prop} (I : Inv X pins σ H s) (hN : X.N.Nodup) (hi : X.N[i]? = some x) (hx : Loc X.env.scope x) (r : RelV v u)
    (h : ∀ s', Inv X pins (σ.set i (some v)) H s' → (∃ a, Heap.SameBut a s.heap s'.heap ∧ (a = X.env.locals ∨ X.env.cells.lookup x = some a)) → Q () s') (hf : X.fn x = true ∨ X.env.scope.names.lookup x = some .local := by first | exact .inl rfl | exact .inr rfl | assumption) : wpAny M A (storeName X.env x u) Q E s := by
  obtain ⟨m, hn, hl⟩ := id I.loc
  have hcls : (X.env.scope.kind == .class || (X.env.scope.kind == .module && X.env.locals != X.env.globals)) = false := by rw [I.ok.kind]; rfl
  have hiσ : i < σ.length := by rw [I.len]; exact (List.getElem?_eq_some_iff.mp hi).1
  have cne := I.cne
  have tracked : ∀ {a : Addr} {h' : Heap}, (∃ o, s.heap.get? a = some o ∧ H a = none) → Heap.SameBut a s.heap h' → HOk X.prog X.w H h' := fun {a h'} ha hs b ob e => by
    obtain ⟨_, _, hfree⟩ := ha
    refine (I.hok b ob e).stay (fun c w' hc q => (hs.2 c ?_).trans q) (fun _ q => q) (fun _ _ _ _ _ q => q) fun _ _ q => q
    rintro rfl
    rcases hc with rfl | hc
    · rw [hfree] at e; cases e
    · rw [hfree] at hc; cases hc
  rcases hx with hk | hk
  · refine wpAny_storeName_local hk hn (fun h' hn' hs => ?_) hcls
    obtain ⟨oL, _, _, hoL, _⟩ := id hn
    refine h _ ⟨I.ok, I.os, I.bare, ⟨fun b o e n hb hx => ?_, fun b o e n hb hx => ?_, I.base.free, fun b o e hx => ?_, I.base.tups, I.base.frzs, I.base.tbls⟩, ⟨_, hn', fun j y v' e1 e2 e3 => ?_⟩, fun y c e => ?_, I.free, I.freeC, fun p hp => ?_, tracked ⟨oL, hoL, I.free⟩ hs, by simpa using I.len⟩ ⟨_, hs, .inl rfl⟩
    · exact (hs.2 b (Nat.ne_of_lt (Nat.lt_of_lt_of_le (Heap.lt_size e) I.ok.above))).trans (I.base.keep b o e n hb hx)
    · obtain ⟨sl, e1⟩ := I.base.slot b o e n hb hx
      exact ⟨sl, (hs.2 b (Nat.ne_of_lt (Nat.lt_of_lt_of_le (Heap.lt_size e) I.ok.above))).trans e1⟩
    · obtain ⟨o', e1⟩ := I.base.there b o e hx
      exact ⟨o', (hs.2 b (Nat.ne_of_lt (Nat.lt_of_lt_of_le (Heap.lt_size e) I.ok.above))).trans e1⟩
    · by_cases hj : j = i
      · subst hj
        rw [hi] at e1; cases e1
        rw [List.getElem?_set_self hiσ] at e2
        cases e2
        exact ⟨u, r, .inl ⟨hk, by simp⟩⟩
      · rw [List.getElem?_set_ne (Ne.symm hj)] at e2
        obtain ⟨u', r', q⟩ := hl j y v' e1 e2 e3
        refine ⟨u', r', ?_⟩
        rcases q with ⟨k, e⟩ | ⟨k, c, e, z⟩
        · refine .inl ⟨k, ?_⟩
          have : y ≠ x := fun e => hj (nodup_ix hN e1 (e ▸ hi))
          simp [this, e]
        · exact .inr ⟨k, c, e, z.sameBut hs (cne y c e)⟩
    · obtain ⟨w', z⟩ := I.cell y c e
      exact ⟨w', z.sameBut hs (cne y c e)⟩
    · obtain ⟨e, n, ne, nf, d⟩ := I.pin p hp
      exact ⟨(hs.2 p.1 ne).trans e, n, ne, nf, d⟩
  · have hfn : X.fn x = true := by
      rcases hf with z | z
      · exact z
      · rw [z] at hk; cases hk
    obtain ⟨c, hc⟩ := I.ok.has x (.inl hk)
    obtain ⟨w', z⟩ := I.cell x c hc
    refine wpAny_storeName_cell I.ok.kind hk hc z (fun h' hc' hs => ?_)
    obtain ⟨oc, hoc, hocd⟩ := id z
    refine h { s with heap := h' } ⟨I.ok, I.os, I.bare, ⟨fun b o e n hb hx => ?_, fun b o e n hb hx => ?_, I.base.free, fun b o e hx => ?_, I.base.tups, I.base.frzs, I.base.tbls⟩, ⟨m, hn.sameBut hs (Ne.symm (cne x c hc)), fun j y v' e1 e2 e3 => ?_⟩, fun y c' e => ?_, I.free, I.freeC, fun p hp => ?_, tracked ⟨oc, hoc, I.freeC x c hc⟩ hs, by simpa using I.len⟩ ⟨c, hs, .inr hc⟩
    · exact (hs.2 b (Nat.ne_of_lt (Nat.lt_of_lt_of_le (Heap.lt_size e) (I.ok.cab x c hfn hc)))).trans (I.base.keep b o e n hb hx)
    · obtain ⟨sl, e1⟩ := I.base.slot b o e n hb hx
      exact ⟨sl, (hs.2 b (Nat.ne_of_lt (Nat.lt_of_lt_of_le (Heap.lt_size e) (I.ok.cab x c hfn hc)))).trans e1⟩
    · obtain ⟨o', e1⟩ := I.base.there b o e hx
      exact ⟨o', (hs.2 b (Nat.ne_of_lt (Nat.lt_of_lt_of_le (Heap.lt_size e) (I.ok.cab x c hfn hc)))).trans e1⟩
    · by_cases hj : j = i
      · subst hj
        rw [hi] at e1; cases e1
        rw [List.getElem?_set_self hiσ] at e2
        cases e2
        exact ⟨u, r, .inr ⟨.inl hk, c, hc, hc'⟩⟩
      · rw [List.getElem?_set_ne (Ne.symm hj)] at e2
        obtain ⟨u', r', q⟩ := hl j y v' e1 e2 e3
        refine ⟨u', r', ?_⟩
        rcases q with q | ⟨k, c', e, z'⟩
        · exact .inl q
        · refine .inr ⟨k, c', e, z'.sameBut hs ?_⟩
          rintro rfl
          exact hj (nodup_ix hN e1 (I.ok.inj _ _ _ e hc ▸ hi))
    · by_cases hcc : c' = c
      · subst hcc; exact ⟨_, hc'⟩
      · obtain ⟨w2, z2⟩ := I.cell y c' e
        exact ⟨w2, z2.sameBut hs hcc⟩
    · obtain ⟨e, n, ne, nf, d⟩ := I.pin p hp
      refine ⟨(hs.2 p.1 ?_).trans e, n, ne, nf, d⟩
      intro q
      rw [q, hoc] at e
      have q' : oc = p.2 := Option.some.inj e
      exact d w' (by rw [← q']; exact hocd)
theorem store_ok {M : Model} {A : Around} {E : Value → Shared → Prop} {i : Nat} {x : Str} {v : V} {u : Value} {Q : Unit → Shared → Prop} (I : Inv X pins σ H s) (hN : X.N.Nodup) (hi : X.N[i]? = some x) (hx : Loc X.env.scope x) (r : RelV v u)
    (h : ∀ s', Inv X pins (σ.set i (some v)) H s' → Q () s') (hf : X.fn x = true ∨ X.env.scope.names.lookup x = some .local := by first | exact .inl rfl | exact .inr rfl | assumption) : wpAny M A (storeName X.env x u) Q E s :=
  store_ok2 I hN hi hx r (fun s' I' _ => h s' I') hf
theorem Inv.call' {s' : Shared} {ch : List Addr} (I : Inv X pins σ H s) (ho : s'.os = s.os) (u : Un (frs X.stack) ch H H' s.heap s'.heap) (hok : HOk X.prog X.w H' s'.heap) (hg : AllBare s'.gens)
    (hch : ∀ b ∈ ch, (b ∈ X.ex ∨ X.s₀.heap.objs.size ≤ b) ∧ b ≠ X.env.locals ∧ (∀ x c, X.env.cells.lookup x = some c → c ≠ b) ∧ ∀ p ∈ X.pn ++ pins, p.1 ≠ b) : Inv X pins σ H' s' := by
  obtain ⟨h', g', d', t', o'⟩ := s'
  have e : o' = s.os := ho
  subst e
  exact I.call (g' := g') (t' := t') (d' := d') u hok hg hch
end
abbrev XK := Value → Option Addr → Hp → Prop
abbrev St := List (Option V)
abbrev VK := V → Hp → Prop
abbrev TE := St → Hp → VK → Prop
abbrev TT := St → Hp → (Bool → Hp → Prop) → Prop
abbrev TA := St → Hp → (List V → Hp → Prop) → Prop
structure Ends where
  nx : St → Hp → Prop
  rt : VK
  bk : St → Hp → Prop := fun _ _ => False
  ct : St → Hp → Prop := fun _ _ => False
abbrev TS := Ends → St → Hp → Prop
def EP (X : Cx) (pins : List (Addr × Obj)) (σ : St) (Q : VK) (u : Value) (s' : Shared) : Prop := ∃ v H', Inv X pins σ H' s' ∧ RelV v u ∧ Q v H'
def TP (X : Cx) (pins : List (Addr × Obj)) (σ : St) (Q : Bool → Hp → Prop) (b : Bool) (s' : Shared) : Prop := ∃ H', Inv X pins σ H' s' ∧ Q b H'
def AP (X : Cx) (pins : List (Addr × Obj)) (σ : St) (Q : List V → Hp → Prop) (us : List Value) (s' : Shared) : Prop := ∃ vs H', Inv X pins σ H' s' ∧ Vals vs us ∧ Q vs H'
def SP (X : Cx) (pins : List (Addr × Obj)) (D : Ends) (f : Flow) (s' : Shared) : Prop :=
  match f with
  | .next => ∃ σ' H', Inv X pins σ' H' s' ∧ D.nx σ' H'
  | .brk => ∃ σ' H', Inv X pins σ' H' s' ∧ D.bk σ' H'
  | .cont => ∃ σ' H', Inv X pins σ' H' s' ∧ D.ct σ' H'
  | .ret u => ∃ v σ' H', Inv X pins σ' H' s' ∧ RelV v u ∧ D.rt v H'
def PE (X : Cx) (e : Expr) (t : TE) : Prop :=
  ∀ (pins : List (Addr × Obj)) (s : Shared) (σ : St) (H : Hp) (Q : VK), Inv X pins σ H s → t σ H Q → wpAny (model X.prog X.w) X.A (eval e X.env) (EP X pins σ Q) X.xe s
def PT (X : Cx) (e : Expr) (t : TT) : Prop :=
  ∀ (pins : List (Addr × Obj)) (s : Shared) (σ : St) (H : Hp) (Q : Bool → Hp → Prop), Inv X pins σ H s → t σ H Q → wpAny (model X.prog X.w) X.A (isTrue e X.env (eval e X.env)) (TP X pins σ Q) X.xe s
def PW (X : Cx) (e : Expr) (t : TT) : Prop :=
  ∀ (whole : Sem Value) (pins : List (Addr × Obj)) (s : Shared) (σ : St) (H : Hp) (Q : Bool → Hp → Prop), Inv X pins σ H s → t σ H Q → wpAny (model X.prog X.w) X.A (isTrue e X.env whole) (TP X pins σ Q) X.xe s
theorem PW.pt {X : Cx} {e : Expr} {t : TT} (h : PW X e t) : PT X e t := h _
def PA (X : Cx) (es : List Expr) (t : TA) : Prop :=
  ∀ (pos : Pos) (pins : List (Addr × Obj)) (s : Shared) (σ : St) (H : Hp) (Q : List V → Hp → Prop), Inv X pins σ H s → t σ H Q → wpAny (model X.prog X.w) X.A (spliced (backTo pos (starEach es X.env))) (AP X pins σ Q) X.xe s
def PS (X : Cx) (st : Stmt) (t : TS) : Prop :=
  ∀ (pins : List (Addr × Obj)) (s : Shared) (σ : St) (H : Hp) (D : Ends), Inv X pins σ H s → t D σ H → wpAny (model X.prog X.w) X.A (exec st X.env) (SP X pins D) X.xe s
def PSs (X : Cx) (st : List Stmt) (t : TS) : Prop :=
  ∀ (pins : List (Addr × Obj)) (s : Shared) (σ : St) (H : Hp) (D : Ends), Inv X pins σ H s → t D σ H → wpAny (model X.prog X.w) X.A (execs st X.env) (SP X pins D) X.xe s
theorem thn {α : Type} {t : Sem α} {Q Q' : α → Shared → Prop} {M : Model} {A : Around} {E : Value → Shared → Prop} {s : Shared} (h : wpAny M A t Q E s) (hQ : ∀ a s, Q a s → Q' a s) : wpAny M A t Q' E s := wpAny_mono h hQ fun _ _ x => x
end L2
namespace L2
open PySem PySem.Spec PyProof.Rows
section
variable {X : Cx}
def tVar (i : Nat) : TE := fun σ H Q => ∃ v, σ[i]? = some (some v) ∧ Q v H
def tC (v : V) : TE := fun _ H Q => Q v H
theorem pe_var {i : Nat} {x : Str} {pos : Pos} (hN : X.N[i]? = some x) (hv : Vis X.env.scope x) (hd : (x == ("__debug__" : Str)) = false := by decide) (hcd : (x == ("__classdict__" : Str)) = false := by decide) : PE X (.Name x pos) (tVar i) := by
  intro pins s σ H Q I h
  obtain ⟨v, e, h⟩ := h
  obtain ⟨m, hn, hl⟩ := I.loc
  obtain ⟨u, r, l⟩ := hl i x v hN e hv
  have fin : EP X pins σ Q u s := ⟨v, H, I, r, h⟩
  rcases l with ⟨hk, hm⟩ | ⟨hk, c, hc, hcell⟩
  · exact wpAny_Name (wpAny_loadName_local I.ok.kind hk hn hm fin) hd
  · rcases hk with hk | hk
    · exact wpAny_Name (wpAny_loadName_cell I.ok.kind hk hc hcell fin) hd
    · exact wpAny_Name (wpAny_loadName_free I.ok.kind hk hc hcell fin hcd) hd
theorem pe_int {i j pos} : PE X (.Constant (.int i) j pos) (tC (.int i)) := fun _ _ _ H _ I h => wpAny_Constant_int ⟨.int i, H, I.tok _, ⟨_, rfl⟩, h⟩
theorem pe_bl {b j pos} : PE X (.Constant (.bool b) j pos) (tC (.bl b)) := fun _ _ _ H _ I h => Constant_bool ⟨.bl b, H, I, rfl, h⟩
theorem pe_non {j pos} : PE X (.Constant .none j pos) (tC .non) := fun _ _ _ H _ I h => Constant_none ⟨.non, H, I, rfl, h⟩
theorem pe_str {x j pos} : PE X (.Constant (.str x) j pos) (tC (.str x)) := fun _ _ _ H _ I h => Calls.Constant_str ⟨.str x, H, I.tok _, ⟨_, rfl⟩, h⟩
def Gl (X : Cx) (x : Str) : Prop := X.env.kindOf x = some .globalImplicit
theorem ld_glob {E : Value → Shared → Prop} {pins : List (Addr × Obj)} {s : Shared} {σ : St} {H : Hp} {x : Str} {u : Value} {pos : Pos} {Q : Value → Shared → Prop} (I : Inv X pins σ H s) (hg : Gl X x) (hm : X.mg x = some u) (h : Q u s)
    (hd : (x == ("__debug__" : Str)) = false := by decide) : wpAny (model X.prog X.w) X.A (eval (.Name x pos) X.env) Q E s :=
  Calls.Name_function_global I.ok.kind hg (Calls.loadGlobal_global (by rw [I.ok.glob]; exact I.mod.glob.keeps I.bk) hm h) hd
theorem ld_blt {E : Value → Shared → Prop} {pins : List (Addr × Obj)} {s : Shared} {σ : St} {H : Hp} {x : Str} {u : Value} {pos : Pos} {Q : Value → Shared → Prop} (I : Inv X pins σ H s) (hg : Gl X x) (hm : X.mg x = none) (hv : bootBuiltins x = some u) (h : Q u s)
    (hn : x ≠ "__name__" := by decide) (hd : (x == ("__debug__" : Str)) = false := by decide) : wpAny (model X.prog X.w) X.A (eval (.Name x pos) X.env) Q E s := by
  obtain ⟨mb, h1, h2⟩ := I.mod.blt
  exact Calls.Name_function_global I.ok.kind hg (Calls.loadGlobal_builtin (by rw [I.ok.glob]; exact I.mod.glob.keeps I.bk) hm (by rw [I.ok.blt]; exact h1.keeps I.bk) ((h2 x hn).trans hv) h) hd
theorem pe_glob {x : Str} {v : V} {u : Value} {pos : Pos} (hg : Gl X x) (hm : X.mg x = some u) (r : RelV v u) (hd : (x == ("__debug__" : Str)) = false := by decide) : PE X (.Name x pos) (tC v) :=
  fun _ _ _ H _ I h => ld_glob I hg hm ⟨v, H, I, r, h⟩ hd
theorem pe_bltn {x : Str} {v : V} {u : Value} {pos : Pos} (hg : Gl X x) (hm : X.mg x = none) (hv : bootBuiltins x = some u) (r : RelV v u) (hn : x ≠ "__name__" := by decide) (hd : (x == ("__debug__" : Str)) = false := by decide) : PE X (.Name x pos) (tC v) :=
  fun _ _ _ H _ I h => ld_blt I hg hm hv ⟨v, H, I, r, h⟩ hn hd
variable {a b : Expr} {ta tb : TE} {pos : Pos}
def tB (t : TE) : TT := fun σ H Q => t σ H fun x H1 => ∃ c, x = .bl c ∧ Q c H1
theorem pt_val {e : Expr} {t : TE} (h : PE X e t) (he : ∀ whole, isTrue e X.env whole = (do let v ← whole; standAt e.pos; holding [v] (truthy v)) := by intro _; rfl) : PT X e (tB t) := by
  intro pins s σ H Q I hw
  refine isTrue_plain (thn (h pins s σ H _ I hw) fun v s1 ⟨x, H1, I1, r1, q1⟩ => ?_) (he _)
  obtain ⟨d, rfl, q⟩ := q1
  cases r1
  exact wpAny_truthy_bool ⟨H1, I1, q⟩
variable {tA tB' : TT} {rest : List Expr}
def tAnd (t u : TT) : TT := fun σ H Q => t σ H fun c H1 => if c = true then u σ H1 Q else Q false H1
def tOr (t u : TT) : TT := fun σ H Q => t σ H fun c H1 => if c = true then Q true H1 else u σ H1 Q
def tNot (t : TT) : TT := fun σ H Q => t σ H fun c H1 => Q (!c) H1
theorem pw_and1 (ha : PT X a tA) : PW X (.BoolOp .And [a] pos) tA := by
  intro wh pins s σ H Q I h
  refine isTrue_and (thn (ha pins s σ H Q I h) fun c s1 e => ?_)
  cases c with
  | true => exact isTrue_and_nil e
  | false => exact e
theorem pw_or1 (ha : PT X a tA) : PW X (.BoolOp .Or [a] pos) tA := by
  intro wh pins s σ H Q I h
  refine isTrue_or (thn (ha pins s σ H Q I h) fun c s1 e => ?_)
  cases c with
  | false => exact isTrue_or_nil e
  | true => exact e
theorem pw_and (ha : PT X a tA) (hb : PW X (.BoolOp .And (b :: rest) pos) tB') : PW X (.BoolOp .And (a :: b :: rest) pos) (tAnd tA tB') := by
  intro wh pins s σ H Q I h
  refine isTrue_and (thn (ha pins s σ H _ I h) fun c s1 ⟨H1, I1, q1⟩ => ?_)
  cases c with
  | true => exact hb wh pins s1 σ H1 Q I1 q1
  | false => exact ⟨H1, I1, q1⟩
theorem pw_or (ha : PT X a tA) (hb : PW X (.BoolOp .Or (b :: rest) pos) tB') : PW X (.BoolOp .Or (a :: b :: rest) pos) (tOr tA tB') := by
  intro wh pins s σ H Q I h
  refine isTrue_or (thn (ha pins s σ H _ I h) fun c s1 ⟨H1, I1, q1⟩ => ?_)
  cases c with
  | true => exact ⟨H1, I1, q1⟩
  | false => exact hb wh pins s1 σ H1 Q I1 q1
theorem pt_not (ha : PT X a tA) : PT X (.UnaryOp .Not a pos) (tNot tA) := by
  intro pins s σ H Q I h
  exact isTrue_not (ha pins s σ H (fun c H1 => Q (!c) H1) I h)
def tAndV (ta tb : TE) : TE := fun σ H Q => ta σ H fun x H1 => ∃ c, x = .bl c ∧ if c = true then tb σ H1 Q else Q (.bl false) H1
def tOrV (ta tb : TE) : TE := fun σ H Q => ta σ H fun x H1 => ∃ c, x = .bl c ∧ if c = true then Q (.bl true) H1 else tb σ H1 Q
def tNotV (ta : TE) : TE := fun σ H Q => ta σ H fun x H1 => ∃ c, x = .bl c ∧ Q (.bl (!c)) H1
theorem pe_one {op} {t : TE} (h : PE X a t) : PE X (.BoolOp op [a] pos) t := fun pins s σ H Q I hw => BoolOp_one (h pins s σ H Q I hw)
theorem pe_and (ha : PE X a ta) (hb : PE X (.BoolOp .And (b :: rest) pos) tb) : PE X (.BoolOp .And (a :: b :: rest) pos) (tAndV ta tb) := by
  intro pins s σ H Q I h
  refine BoolOp_and (thn (ha pins s σ H _ I h) fun v s1 ⟨x, H1, I1, r1, q1⟩ => ?_)
  obtain ⟨c, rfl, q1⟩ := q1
  cases r1
  refine wpAny_truthy_bool ?_
  cases c with
  | true => exact hb pins s1 σ H1 Q I1 q1
  | false => exact ⟨.bl false, H1, I1, rfl, q1⟩
theorem pe_or (ha : PE X a ta) (hb : PE X (.BoolOp .Or (b :: rest) pos) tb) : PE X (.BoolOp .Or (a :: b :: rest) pos) (tOrV ta tb) := by
  intro pins s σ H Q I h
  refine BoolOp_or (thn (ha pins s σ H _ I h) fun v s1 ⟨x, H1, I1, r1, q1⟩ => ?_)
  obtain ⟨c, rfl, q1⟩ := q1
  cases r1
  refine wpAny_truthy_bool ?_
  cases c with
  | false => exact hb pins s1 σ H1 Q I1 q1
  | true => exact ⟨.bl true, H1, I1, rfl, q1⟩
def tIf (t : TT) (ta tb : TE) : TE := fun σ H Q => t σ H fun c H1 => if c = true then ta σ H1 Q else tb σ H1 Q
theorem pe_ifExp {c : Expr} (hc : PT X c tA) (ha : PE X a ta) (hb : PE X b tb) : PE X (.IfExp c a b pos) (tIf tA ta tb) := by
  intro pins s σ H Q I h
  refine wpAny_IfExp (thn (hc pins s σ H _ I h) fun d s1 ⟨H1, I1, q1⟩ => ?_)
  cases d with
  | true => exact ha pins s1 σ H1 Q I1 q1
  | false => exact hb pins s1 σ H1 Q I1 q1
end
end L2
namespace L2
open PySem PySem.Spec PyProof.Rows
def SqL (K : PySem.W.Frag) (H : Hp) (a : Addr) (xs : List V) : Prop :=
  Rd H a (.lst xs) ∨
    ∃ (o : Obj) (its : Array Value) (n : Nat), K.lookup a = some o ∧ o.cls = .type "list" ∧ o.dict = none ∧ o.data = .seq its n ∧ its.size ≤ sizeLine ∧ Vals xs its.toList
def SqT (K : PySem.W.Frag) (H : Hp) (a : Addr) (xs : List V) : Prop :=
  Rd H a (.tup xs) ∨
    ∃ (o : Obj) (its : Array Value) (n : Nat), K.lookup a = some o ∧ o.cls = .type "tuple" ∧ o.data = .seq its n ∧ its.size ≤ sizeLine ∧ Vals xs its.toList
def absV : Value → Option V
  | .none => some .non
  | .bool b => some (.bl b)
  | .int i _ => some (.int i)
  | .str x _ => some (.str x)
  | .bytes b _ => some (.byt b)
  | .float b _ => some (.flt b)
  | .ref a => some (.ref a)
  | .type n => some (.ty n)
  | _ => none
theorem RelV.abs {x : V} {u : Value} (r : RelV x u) : absV u = some x := by
  cases x with
  | non => cases r; rfl
  | bl _ => cases r; rfl
  | int _ => obtain ⟨t, rfl⟩ := r; rfl
  | str _ => obtain ⟨t, rfl⟩ := r; rfl
  | byt _ => obtain ⟨t, rfl⟩ := r; rfl
  | flt _ => obtain ⟨t, rfl⟩ := r; rfl
  | ref _ => cases r; rfl
  | ty _ => cases r; rfl
theorem RelV.inj {x y : V} {u : Value} (r : RelV x u) (q : RelV y u) : x = y := Option.some.inj (r.abs.symm.trans q.abs)
theorem Vals.inj : ∀ {xs ys : List V} {us : List Value}, Vals xs us → Vals ys us → xs = ys
  | _, _, _, .nil, .nil => rfl
  | _, _, _, .cons r t, .cons r' t' => by rw [r.inj r', Vals.inj t t']
section
variable {X : Cx} {pins : List (Addr × Obj)} {σ : St} {H : Hp} {s : Shared} {a : Addr} {xs ys : List V}
theorem SqL.of {K : PySem.W.Frag} (h : H a = some (.lst xs)) : SqL K H a xs := .inl (.inl h)
theorem SqT.of {K : PySem.W.Frag} (h : H a = some (.tup xs)) : SqT K H a xs := .inl (.inl h)
theorem Inv.list (I : Inv X pins σ H s) (h : SqL X.K H a xs) : ∃ its : List Value, Vals xs its ∧ PlainL s.heap a its.toArray ∧ xs.length ≤ sizeLine := by
  rcases h with h | ⟨o, its, n, hk, hc, hd, hs, hz, r⟩
  · obtain ⟨z, its, n, r, e⟩ := h.ok I.hok
    exact ⟨its, r, ⟨_, n, e, rfl, rfl, rfl⟩, z⟩
  · refine ⟨its.toList, r, ⟨o, n, I.kIn a o hk, hc, hd, by simpa using hs⟩, ?_⟩
    have e := r.length
    simp only [Array.length_toList] at e
    omega
theorem Inv.tuple (I : Inv X pins σ H s) (h : SqT X.K H a xs) : ∃ its : List Value, Vals xs its ∧ IsTup s.heap a its.toArray ∧ xs.length ≤ sizeLine := by
  rcases h with h | ⟨o, its, n, hk, hc, hs, hz, r⟩
  · obtain ⟨z, its, r, p⟩ := h.ok I.hok
    exact ⟨its, r, p, z⟩
  · refine ⟨its.toList, r, ⟨o, I.kIn a o hk, hc, n, by simpa using hs⟩, ?_⟩
    have e := r.length
    simp only [Array.length_toList] at e
    omega
theorem Inv.list_inj (I : Inv X pins σ H s) (h : SqL X.K H a xs) (h' : SqL X.K H a ys) : xs = ys := by
  obtain ⟨its, r, ⟨o, n, e, _, _, d⟩, _⟩ := I.list h
  obtain ⟨its', r', ⟨o', n', e', _, _, d'⟩, _⟩ := I.list h'
  rw [e] at e'; cases e'
  rw [d] at d'
  injection d' with d1 _
  have : its = its' := by simpa using congrArg Array.toList d1
  subst this
  exact r.inj r'
theorem Inv.tuple_inj (I : Inv X pins σ H s) (h : SqT X.K H a xs) (h' : SqT X.K H a ys) : xs = ys := by
  obtain ⟨its, r, ⟨o, e, _, n, d⟩, _⟩ := I.tuple h
  obtain ⟨its', r', ⟨o', e', _, n', d'⟩, _⟩ := I.tuple h'
  rw [e] at e'; cases e'
  rw [d] at d'
  injection d' with d1 _
  have : its = its' := by simpa using congrArg Array.toList d1
  subst this
  exact r.inj r'
end
abbrev Cx.wish (X : Cx) (E : Value → Shared → Prop) : Cx := { X with xe := E }
abbrev Cx.nox (X : Cx) : Cx := X.wish fun _ _ => False
theorem Cx.Ok.wish {X : Cx} (ok : X.Ok) (E : Value → Shared → Prop) : (X.wish E).Ok :=
  ⟨ok.mod, ok.kind, ok.glob, ok.blt, ok.above, ok.inj, ok.has, ok.cab, ok.hd, ok.frames, ok.stk, ok.exf, ok.bs, ok.bsz, ok.noex, ok.exfs, ok.funs, ok.frf⟩
theorem Cx.Ok.unwish {X : Cx} {E : Value → Shared → Prop} (ok : (X.wish E).Ok) : X.Ok :=
  ⟨ok.mod, ok.kind, ok.glob, ok.blt, ok.above, ok.inj, ok.has, ok.cab, ok.hd, ok.frames, ok.stk, ok.exf, ok.bs, ok.bsz, ok.noex, ok.exfs, ok.funs, ok.frf⟩
section
variable {X : Cx} {pins : List (Addr × Obj)} {σ : St} {H : Hp} {s : Shared} {E : Value → Shared → Prop}
theorem Inv.wish (I : Inv X pins σ H s) (E : Value → Shared → Prop) : Inv (X.wish E) pins σ H s := ⟨I.ok.wish E, I.os, I.bare, I.base, I.loc, I.cell, I.free, I.freeC, I.pin, I.hok, I.len⟩
theorem Inv.unwish (I : Inv (X.wish E) pins σ H s) : Inv X pins σ H s := ⟨I.ok.unwish, I.os, I.bare, I.base, I.loc, I.cell, I.free, I.freeC, I.pin, I.hok, I.len⟩
theorem SP.unwish {D : Ends} {f : Flow} {s' : Shared} (h : SP (X.wish E) pins D f s') : SP X pins D f s' := by
  cases f with
  | next => obtain ⟨σ', H', I, q⟩ := h; exact ⟨σ', H', I.unwish, q⟩
  | brk => obtain ⟨σ', H', I, q⟩ := h; exact ⟨σ', H', I.unwish, q⟩
  | cont => obtain ⟨σ', H', I, q⟩ := h; exact ⟨σ', H', I.unwish, q⟩
  | ret u => obtain ⟨v, σ', H', I, r, q⟩ := h; exact ⟨v, σ', H', I.unwish, r, q⟩
theorem PSs.nox {st : List Stmt} {t : TS} (h : PSs X.nox st t) : PSs X st t := fun pins s σ H D I hw =>
  wpAny_mono (h pins s σ H D (I.wish _) hw) (fun _ _ q => q.unwish) fun _ _ z => False.elim z
end
section
variable {X : Cx} {st : Stmt} {rest : List Stmt} {t u : TS} {e : Expr} {te : TE} {pos : Pos}
def tNext : TS := fun D σ H => D.nx σ H
def tSeq (t u : TS) : TS := fun D σ H => t { D with nx := u D } σ H
theorem pss_nil : PSs X [] tNext := fun _ _ σ H _ I h => wpAny_execs_nil ⟨σ, H, I, h⟩
theorem pss_cons (h1 : PS X st t) (h2 : PSs X rest u) : PSs X (st :: rest) (tSeq t u) := by
  intro pins s σ H D I h
  refine wpAny_execs_cons (thn (h1 pins s σ H { D with nx := u D } I h) fun f s1 q => ?_)
  cases f with
  | next =>
    obtain ⟨σ', H', I', q⟩ := q
    exact h2 pins s1 σ' H' D I' q
  | ret v => exact q
  | brk => exact q
  | cont => exact q
theorem pss_one (h1 : PS X st t) : PSs X [st] t := by
  intro pins s σ H D I h
  refine wpAny_execs_cons (thn (h1 pins s σ H D I h) fun f s1 q => ?_)
  cases f with
  | next => exact wpAny_execs_nil q
  | ret v => exact q
  | brk => exact q
  | cont => exact q
def tBreak : TS := fun D σ H => D.bk σ H
def tCont : TS := fun D σ H => D.ct σ H
theorem Inv.quiet {pins : List (Addr × Obj)} {σ : St} {H : Hp} {s : Shared} (I : Inv X pins σ H s) : interactive X.env = false := by simp [interactive, I.ok.kind]
def tDrop (te : TE) : TS := fun D σ H => te σ H fun _ H1 => D.nx σ H1
theorem ps_expr (he : PE X e te) (hs : swapsWith e none pos.line X.env = pure false := by rfl) : PS X (.Expr e pos) (tDrop te) := by
  intro pins s σ H D I h
  exact wpAny_Expr_any (thn (he pins s σ H _ I h) fun v s1 ⟨x, H1, I1, r1, q1⟩ => ⟨σ, H1, I1, q1⟩) I.quiet hs
def tRet (te : TE) : TS := fun D σ H => te σ H D.rt
theorem ps_ret (he : PE X e te) : PS X (.Return (some e) pos) (tRet te) := by
  intro pins s σ H D I h
  exact wpAny_Return_some (thn (he pins s σ H _ I h) fun v s1 ⟨x, H1, I1, r1, q1⟩ => ⟨x, σ, H1, I1, r1, q1⟩)
def tRetN : TS := fun D _ H => D.rt .non H
def tIfS (c : TT) (t u : TS) : TS := fun D σ H => c σ H fun b H1 => if b = true then t D σ H1 else u D σ H1
theorem ps_if {c : Expr} {a b : List Stmt} {tc : TT} (hc : PT X c tc) (ha : PSs X a t) (hb : PSs X b u) : PS X (.If c a b pos) (tIfS tc t u) := by
  intro pins s σ H D I h
  refine wpAny_If (thn (hc pins s σ H _ I h) fun d s1 ⟨H1, I1, q1⟩ => ?_)
  cases d with
  | true => exact ha pins s1 σ H1 D I1 q1
  | false => exact hb pins s1 σ H1 D I1 q1
end
abbrev TG := V → St → Hp → (St → Hp → Prop) → Prop
abbrev TGs := List V → St → Hp → (St → Hp → Prop) → Prop
def PG (X : Cx) (target : Expr) (t : TG) : Prop :=
  ∀ (pins : List (Addr × Obj)) (s : Shared) (σ : St) (H : Hp) (v : V) (u : Value) (Q : St → Hp → Prop), Inv X pins σ H s → RelV v u → t v σ H Q →
    wpAny (model X.prog X.w) X.A (assign target X.env u) (fun _ s' => ∃ σ' H', Inv X pins σ' H' s' ∧ Q σ' H') X.xe s
def PGs (X : Cx) (ts : List Expr) (t : TGs) : Prop :=
  ∀ (pins : List (Addr × Obj)) (s : Shared) (σ : St) (H : Hp) (vs : List V) (us : List Value) (Q : St → Hp → Prop), Inv X pins σ H s → Vals vs us → t vs σ H Q →
    wpAny (model X.prog X.w) X.A (assignInOrder ((assignEach ts X.env).map (·.2)) us) (fun _ s' => ∃ σ' H', Inv X pins σ' H' s' ∧ Q σ' H') X.xe s
abbrev TSet := V → V → V → Hp → (Hp → Prop) → Prop
abbrev TIp := V → V → Hp → VK → Prop
section
variable {X : Cx} {pos : Pos}
def gName (i : Nat) : TG := fun v σ H Q => Q (σ.set i (some v)) H
theorem pg_name {i : Nat} {x : Str} (hN : X.N.Nodup) (hi : X.N[i]? = some x) (hx : Loc X.env.scope x) (hf : X.fn x = true ∨ X.env.scope.names.lookup x = some .local := by first | exact .inl rfl | exact .inr rfl | assumption) : PG X (.Name x pos) (gName i) := by
  intro pins s σ H v u Q I r h
  exact wpAny_assign_Name (store_ok I hN hi hx r (fun s' I' => ⟨_, H, I', h⟩) hf)
def gNil : TGs := fun vs σ H Q => vs = [] ∧ Q σ H
def gCons (t : TG) (u : TGs) : TGs := fun vs σ H Q => ∃ v r, vs = v :: r ∧ t v σ H fun σ' H' => u r σ' H' Q
theorem pgs_nil : PGs X [] gNil := by
  intro pins s σ H vs us Q I r h
  obtain ⟨e, h⟩ := h
  subst e
  cases r
  exact assignInOrder_nil ⟨σ, H, I, h⟩
theorem pgs_cons {e : Expr} {es : List Expr} {t : TG} {u : TGs} (h1 : PG X e t) (h2 : PGs X es u)
    (hs : (assignEach (e :: es) X.env).map (·.2) = assign e X.env :: (assignEach es X.env).map (·.2) := by rfl) : PGs X (e :: es) (gCons t u) := by
  intro pins s σ H vs us Q I r h
  obtain ⟨v, vr, e1, h⟩ := h
  subst e1
  cases r with
  | cons r rr =>
    rw [hs]
    refine assignInOrder_cons (thn (h1 pins s σ H _ _ _ I r h) fun _ s1 ⟨σ1, H1, I1, q1⟩ => ?_)
    exact h2 pins s1 σ1 H1 _ _ Q I1 rr q1
def gTup (K : PySem.W.Frag) (n : Nat) (t : TGs) : TG := fun v σ H Q => ∃ a xs, v = .ref a ∧ SqT K H a xs ∧ xs.length = n ∧ t xs σ H Q
theorem pg_tup {es : List Expr} {k : Nat} {t : TGs} {n : Nat} (hc : X.calm = true) (h : PGs X es t)
    (hn : (assignEach es X.env).length = n := by rfl) (hst : (assignEach es X.env).findIdx? (·.1) = none := by rfl) : PG X (.Tuple es k pos) (gTup X.K n t) := by
  intro pins s σ H v u Q I r hw
  obtain ⟨a, xs, e1, hq, hl, hw⟩ := hw
  subst e1
  cases r
  obtain ⟨its, rv, ht, hz⟩ := I.tuple hq
  refine assign_Tuple_tuple (I.ok.hd hc) ht (by simp [hn, ← hl, rv.length]) hst fun h' hx => ?_
  have I1 : Inv X pins σ H { s with heap := h' } := I.kept (t' := s.toks) fun b o e => hx b o (Nat.ne_of_lt (Heap.lt_size e)) e
  exact h pins _ σ H xs _ Q I1 (by simpa using rv) hw
def gSub (to ti : TE) (t : TSet) : TG := fun v σ H Q => to σ H fun o H1 => ti σ H1 fun i H2 => t o i v H2 fun H3 => Q σ H3
def tAsg (te : TE) (g : TG) : TS := fun D σ H => te σ H fun x H1 => g x σ H1 D.nx
theorem ps_asg {tg e : Expr} {te : TE} {g : TG} (he : PE X e te) (hg : PG X tg g) (hs : swapsWithSole [tg] e pos.line X.env = pure false := by rfl) (hw : swappedStores [tg] e X.env = pure none := by rfl)
    (h1 : (assignEach [tg] X.env).map (·.2) = [assign tg X.env] := by rfl) : PS X (.Assign [tg] e pos) (tAsg te g) := by
  intro pins s σ H D I h
  refine wpAny_Assign_stores (thn (he pins s σ H _ I h) fun v s1 ⟨x, H1, I1, r1, q1⟩ => ?_) hs hw
  rw [h1]
  exact thn (hg pins s1 σ H1 x v _ I1 r1 q1) fun _ s2 q => q
theorem ps_set {i : Nat} {x : Str} {e : Expr} {te : TE} {pos' : Pos} (hN : X.N.Nodup) (hi : X.N[i]? = some x) (hx : Loc X.env.scope x) (he : PE X e te) (hs : swapsWith e (some (.Name x pos')) pos.line X.env = pure false := by rfl) (hf : X.fn x = true ∨ X.env.scope.names.lookup x = some .local := by first | exact .inl rfl | exact .inr rfl | assumption) :
    PS X (.Assign [.Name x pos'] e pos) (tAsg te (gName i)) := by
  intro pins s σ H D I h
  refine wpAny_Assign_Name (thn (he pins s σ H _ I h) fun v s1 ⟨y, H1, I1, r1, q1⟩ => ?_) hs
  exact store_ok I1 hN hi hx r1 (fun s2 I2 => ⟨_, H1, I2, q1⟩) hf
def tPar (i j : Nat) (ta : TA) : TS := fun D σ H => ta σ H fun vs H1 => ∃ v w, vs = [v, w] ∧ D.nx ((σ.set i (some v)).set j (some w)) H1
def tAug (i : Nat) (te : TE) (ti : TIp) : TS := fun D σ H => ∃ x, σ[i]? = some (some x) ∧ te σ H fun y H1 => ti x y H1 fun z H2 => D.nx (σ.set i (some z)) H2
def ipI (f : Int → Int → Int) : TIp := fun x y H Q => ∃ i j, x = .int i ∧ y = .int j ∧ Q (.int (f i j)) H
end
section
variable {X : Cx} {pos : Pos}
def tWhile (c : TT) (tb : TS) : TS := fun D σ H => ∃ W : Nat → St → Hp → Prop, (∃ m, W m σ H) ∧ ∀ m σ H, W m σ H →
  c σ H fun b H1 => if b = true then ∃ N : St → Hp → Prop, (∀ σ' H', N σ' H' → ∃ m', m' < m ∧ W m' σ' H') ∧ tb { D with nx := N, ct := N, bk := D.nx } σ H1 else D.nx σ H1
theorem ps_while {c : Expr} {body : List Stmt} {tc : TT} {tb : TS} (hp : PassesOwn (model X.prog X.w) X.A X.env X.xe) (hc : PT X c tc) (hb : PSs X body tb) : PS X (.While c body [] pos) (tWhile tc tb) := by
  intro pins s σ H D I h
  obtain ⟨W, ⟨m0, w0⟩, turn⟩ := h
  refine wpAny_While (codeAny_whileLoop (fun n s' => ∃ σ' H', Inv X pins σ' H' s' ∧ W n σ' H') ?_ m0 ⟨σ, H, I, w0⟩)
  rintro n s1 ⟨σ1, H1, I1, w1⟩
  refine wpAny_passesOwn hp (thn (hc pins s1 σ1 H1 _ I1 (turn n σ1 H1 w1)) fun b s2 ⟨H2, I2, q2⟩ => ?_)
  cases b with
  | true =>
    obtain ⟨N, hN, q2⟩ := q2
    rw [if_pos rfl]
    refine wpAny_passesOwn hp (thn (hb pins s2 σ1 H2 _ I2 q2) fun f s3 q3 => ?_)
    cases f with
    | next =>
      obtain ⟨σ3, H3, I3, n3⟩ := q3
      obtain ⟨m', hm, w3⟩ := hN σ3 H3 n3
      exact ⟨m', hm, σ3, H3, I3, w3⟩
    | cont =>
      obtain ⟨σ3, H3, I3, n3⟩ := q3
      obtain ⟨m', hm, w3⟩ := hN σ3 H3 n3
      exact ⟨m', hm, σ3, H3, I3, w3⟩
    | brk => exact q3
    | ret v => exact q3
  | false =>
    rw [if_neg Bool.false_ne_true]
    exact wpAny_execs_nil ⟨σ1, H2, I2, q2⟩
end
structure It where
  go : Nat → Hp → Prop
  yld : Nat → Hp → V → Hp → Prop
  stop : Nat → Hp → Prop
def FpOk (X : Cx) (pins : List (Addr × Obj)) (H : Hp) (b : Addr) : Prop :=
  H b = none ∧ b ≠ X.env.locals ∧ b ∉ X.fs ∧ (b ∈ X.ex ∨ X.s₀.heap.objs.size ≤ b) ∧ (∀ x c, X.env.cells.lookup x = some c → c ≠ b) ∧ ∀ p ∈ X.pn ++ pins, p.1 ≠ b
theorem Inv.fpOk {X : Cx} {pins : List (Addr × Obj)} {σ : St} {H H' : Hp} {s : Shared} {b : Addr} (I : Inv X pins σ H s) (hb : s.heap.objs.size ≤ b) (hn : H' b = none) : FpOk X pins H' b := by
  refine ⟨hn, Nat.ne_of_gt (Nat.lt_of_lt_of_le I.lt hb), I.nofs hb, .inr (Nat.le_trans I.sz hb), fun x c e z => ?_, fun p hp z => ?_⟩
  · obtain ⟨v, q⟩ := I.cell x c e
    exact absurd (Nat.lt_of_lt_of_le q.lt (by rw [z]; exact hb)) (Nat.lt_irrefl _)
  · exact absurd (Nat.lt_of_lt_of_le (Heap.lt_size (I.pin p hp).1) (by rw [z]; exact hb)) (Nat.lt_irrefl _)
structure Turn (P : Program) (w : World) (K : PySem.W.Frag) (tg : Expr) (J : It) (fp : List Addr) (it : Addr) (tn : Nat → Heap → Prop) : Prop where
  mem : it ∈ fp
  obj : ∀ i h, tn i h → ∀ b ∈ fp, ∃ o, h.get? b = some o ∧ ∀ v, o.data ≠ .cell v
  keep : ∀ i h h', tn i h → (∀ b ∈ fp, ∀ o, h.get? b = some o → h'.get? b = some o) → tn i h'
  item : ∀ (X : Cx), X.prog = P → X.w = w → X.K = K → X.calm = true → ∀ (i : Nat) (pins : List (Addr × Obj)) (s : Shared) (σ : St) (H : Hp) (E : Value → Shared → Prop), Inv X pins σ H s → (∀ b ∈ fp, FpOk X pins H b) → tn i s.heap → J.go i H →
    wpAny (model P w) X.A (pyNext (.ref it)) (fun r s1 => ∃ u, r = some u ∧
      wpAny (model P w) X.A (letOwnedTupleGo tg (.ref it) u) (fun _ s2 => ∃ x H', Inv X pins σ H' s2 ∧ RelV x u ∧ J.yld i H x H' ∧ tn (i + 1) s2.heap ∧ ∀ b ∈ fp, H' b = none) E s1) E s
  done : ∀ (X : Cx), X.prog = P → X.w = w → X.K = K → X.calm = true → ∀ (i : Nat) (pins : List (Addr × Obj)) (s : Shared) (σ : St) (H : Hp) (E : Value → Shared → Prop), Inv X pins σ H s → (∀ b ∈ fp, FpOk X pins H b) → tn i s.heap → J.stop i H →
    wpAny (model P w) X.A (pyNext (.ref it)) (fun r s1 => r = none ∧ Inv X pins σ H s1) E s
  self : ∀ (A : Around) (i : Nat) (s : Shared) (Q : Value → Shared → Prop) (E : Value → Shared → Prop), tn i s.heap → Q (.ref it) s → wpAny (model P w) A (pyIter (.ref it)) Q E s
abbrev TI := St → Hp → (It → Hp → Prop) → Prop
def PIE (X : Cx) (pins : List (Addr × Obj)) (σ : St) (tg : Expr) (R : It → Hp → Prop) (itv : Value) (s2 : Shared) : Prop :=
  ∃ (it : Addr) (fp : List Addr) (tn : Nat → Heap → Prop) (J : It) (H' : Hp), itv = .ref it ∧ Inv X pins σ H' s2 ∧ Turn X.prog X.w X.K tg J fp it tn ∧ tn 0 s2.heap ∧ (∀ b ∈ fp, FpOk X pins H' b) ∧ R J H'
def PI (X : Cx) (tg iter : Expr) (wi : TI) : Prop :=
  ∀ (pins : List (Addr × Obj)) (s : Shared) (σ : St) (H : Hp) (R : It → Hp → Prop), Inv X pins σ H s → wi σ H R →
    wpAny (model X.prog X.w) X.A (eval iter X.env) (fun v s1 => wpAny (model X.prog X.w) X.A (pyIter v) (PIE X pins σ tg R) X.xe s1) X.xe s
theorem go_of {M : Model} {A : Around} {E : Value → Shared → Prop} {s : Shared} {tg : Expr} {it : Addr} {u : Value} {o : Obj} {n : String} {vs : Array Value} {Q : Unit → Shared → Prop} (ho : s.heap.get? it = some o) (hc : o.cls = .type n) (hd : o.data = .fields vs)
    (hn : ["enumerate", "zip", "dict_itemiterator", "dict_reverseitemiterator", "odict_iterator", "itertools.zip_longest", "itertools.pairwise"].contains n = false) (hQ : Q () s) : wpAny M A (letOwnedTupleGo tg (.ref it) u) Q E s := by
  unfold letOwnedTupleGo
  cases tg <;> first
    | exact wpAny_pure hQ
    | (cases u <;> first
        | exact wpAny_pure hQ
        | (refine wpAny_bind (wpAny_load ho ?_)
           rw [hc, hd]
           show wpAny M A (if (["enumerate", "zip", "dict_itemiterator", "dict_reverseitemiterator", "odict_iterator", "itertools.zip_longest", "itertools.pairwise"].contains n && vs[0]? == some (rawInt _)) = true then _ else _) Q E s
           rw [if_neg (by intro h; rw [hn, Bool.false_and] at h; cases h)]
           exact wpAny_pure hQ))
def Itl (K : PySem.W.Frag) (a : Addr) : It :=
  ⟨fun i H => ∃ xs x, SqL K H a xs ∧ xs[i]? = some x, fun i H x H' => H' = H ∧ ∀ xs, SqL K H a xs → xs[i]? = some x, fun i H => ∃ xs, SqL K H a xs ∧ xs.length ≤ i⟩
def Itt (K : PySem.W.Frag) (a : Addr) : It :=
  ⟨fun i H => ∃ xs x, SqT K H a xs ∧ xs[i]? = some x, fun i H x H' => H' = H ∧ ∀ xs, SqT K H a xs → xs[i]? = some x, fun i H => ∃ xs, SqT K H a xs ∧ xs.length ≤ i⟩
def Itr (lo : Int) (n : Nat) : It := ⟨fun i _ => i < n, fun i H x H' => H' = H ∧ x = .int (lo + i), fun i _ => n ≤ i⟩
theorem turn_list {P : Program} {w : World} {K : PySem.W.Frag} {tg : Expr} (a it : Addr) : Turn P w K tg (Itl K a) [it] it (fun i h => h.IsListIter it a i) where
  mem := by simp
  obj := fun i h st b hb => by
    have e : b = it := by simpa using hb
    subst e
    obtain ⟨o, e, c, d⟩ := st
    exact ⟨o, e, fun v z => by rw [d] at z; cases z⟩
  keep := fun i h h' st k => st.at fun o e => k it (by simp) o e
  item := by
    intro X hP hw hK hc i pins s σ H E I hf st hg
    subst hP hw hK
    obtain ⟨xs, x, hq, hx⟩ := hg
    obtain ⟨its, rv, p, hz⟩ := I.list hq
    obtain ⟨u, hu, ru⟩ := rv.get hx
    obtain ⟨f0, f1, f2, f3, f4, f5⟩ := hf it (by simp)
    refine wpAny_pyNext_list_item st p.isList (x := u) (by simpa using hu) fun h' st' sb => ?_
    have I1 : Inv X pins σ H { s with heap := h' } := I.turned (t' := s.toks) (fun b o hb e => (sb.2 b hb).trans e) f0 f1 f3 f4 f5
    obtain ⟨o, e, c, d⟩ := id st'
    exact ⟨u, rfl, go_of (s := { s with heap := h' }) e c d (by decide) ⟨x, H, I1, ru, ⟨rfl, fun ys hy => by rw [I.list_inj hy hq]; exact hx⟩, st', fun b hb => (hf b hb).1⟩⟩
  done := by
    intro X hP hw hK hc i pins s σ H E I hf st hg
    subst hP hw hK
    obtain ⟨xs, hq, hx⟩ := hg
    obtain ⟨its, rv, p, hz⟩ := I.list hq
    obtain ⟨f0, f1, f2, f3, f4, f5⟩ := hf it (by simp)
    have hl := rv.length
    exact wpAny_pyNext_list_end (I.ok.hd hc) st p.isList (by simp; omega) fun h' eb => ⟨rfl, I.turned (t' := s.toks) (fun b o hb e => eb b o hb e) f0 f1 f3 f4 f5⟩
  self := fun _ _ _ _ _ st h => wpAny_pyIter_listiter st h
theorem turn_tuple {P : Program} {w : World} {K : PySem.W.Frag} {tg : Expr} (a it : Addr) : Turn P w K tg (Itt K a) [it] it (fun i h => h.IsTupleIter it a i) where
  mem := by simp
  obj := fun i h st b hb => by
    have e : b = it := by simpa using hb
    subst e
    obtain ⟨o, e, c, d⟩ := st
    exact ⟨o, e, fun v z => by rw [d] at z; cases z⟩
  keep := fun i h h' st k => st.at fun o e => k it (by simp) o e
  item := by
    intro X hP hw hK hc i pins s σ H E I hf st hg
    subst hP hw hK
    obtain ⟨xs, x, hq, hx⟩ := hg
    obtain ⟨its, rv, p, hz⟩ := I.tuple hq
    obtain ⟨u, hu, ru⟩ := rv.get hx
    obtain ⟨f0, f1, f2, f3, f4, f5⟩ := hf it (by simp)
    refine wpAny_pyNext_tuple_item st (show s.heap.IsTuple a its.toArray from p) (x := u) (by simpa using hu) fun h' st' sb => ?_
    have I1 : Inv X pins σ H { s with heap := h' } := I.turned (t' := s.toks) (fun b o hb e => (sb.2 b hb).trans e) f0 f1 f3 f4 f5
    obtain ⟨o, e, c, d⟩ := id st'
    exact ⟨u, rfl, go_of (s := { s with heap := h' }) e c d (by decide) ⟨x, H, I1, ru, ⟨rfl, fun ys hy => by rw [I.tuple_inj hy hq]; exact hx⟩, st', fun b hb => (hf b hb).1⟩⟩
  done := by
    intro X hP hw hK hc i pins s σ H E I hf st hg
    subst hP hw hK
    obtain ⟨xs, hq, hx⟩ := hg
    obtain ⟨its, rv, p, hz⟩ := I.tuple hq
    obtain ⟨f0, f1, f2, f3, f4, f5⟩ := hf it (by simp)
    have hl := rv.length
    exact wpAny_pyNext_tuple_end (I.ok.hd hc) st (show s.heap.IsTuple a its.toArray from p) (by simp; omega) fun h' eb => ⟨rfl, I.turned (t' := s.toks) (fun b o hb e => eb b o hb e) f0 f1 f3 f4 f5⟩
  self := fun _ _ _ _ _ st h => wpAny_pyIter_tupleiter st h
theorem turn_range {P : Program} {w : World} {K : PySem.W.Frag} {tg : Expr} (it : Addr) (lo : Int) (n : Nat) : Turn P w K tg (Itr lo n) [it] it (fun i h => IsRangeIter h it (lo + (i : Nat) * 1) ((n : Int) - (i : Nat)) 1) where
  mem := by simp
  obj := fun i h st b hb => by
    have e : b = it := by simpa using hb
    subst e
    exact ⟨_, st, fun v z => by
      have z' : Data.fields _ = Data.cell v := z
      cases z'⟩
  keep := fun i h h' st k => k it (by simp) _ st
  item := by
    intro X hP hw hK hc i pins s σ H E I hf st hg
    subst hP hw hK
    obtain ⟨f0, f1, f2, f3, f4, f5⟩ := hf it (by simp)
    have W := Walks.range (prog := X.prog) (w := X.w) (I.ok.hd hc) it lo 1 n
    refine W.item i s _ _ hg st fun v h' tk hv st' kk => ?_
    obtain ⟨t, rfl⟩ := hv
    have I1 : Inv X pins σ H { s with heap := h', toks := tk } := I.turned (fun b o hb e => kk b o (by simpa using hb) e) f0 f1 f3 f4 f5
    refine ⟨_, rfl, go_of (s := { s with heap := h', toks := tk }) (n := "range_iterator") st' rfl rfl (by decide) ⟨.int (lo + i), H, I1, ⟨t, ?_⟩, ⟨rfl, rfl⟩, st', fun b hb => (hf b hb).1⟩⟩
    rw [Int.mul_one]
  done := by
    intro X hP hw hK hc i pins s σ H E I hf st hg
    subst hP hw hK
    obtain ⟨f0, f1, f2, f3, f4, f5⟩ := hf it (by simp)
    exact wpAny_pyNext_range_end (I.ok.hd hc) st (by have : n ≤ i := hg; omega) fun h' eb => ⟨rfl, I.turned (t' := s.toks) (fun b o hb e => eb b o hb e) f0 f1 f3 f4 f5⟩
  self := fun _ _ _ _ _ st h => wpAny_pyIter_rangeiter st h
end L2
namespace L2
open PySem PySem.Spec PyProof.Rows
section
variable {X : Cx} {tg : Expr}
def iList (K : PySem.W.Frag) (tl : TE) : TI := fun σ H R => tl σ H fun x H1 => ∃ a, x = .ref a ∧ (∃ xs, SqL K H1 a xs) ∧ R (Itl K a) H1
def iTup (K : PySem.W.Frag) (tl : TE) : TI := fun σ H R => tl σ H fun x H1 => ∃ a, x = .ref a ∧ (∃ xs, SqT K H1 a xs) ∧ R (Itt K a) H1
theorem pi_list {l : Expr} {tl : TE} (hl : PE X l tl) : PI X tg l (iList X.K tl) := by
  intro pins s σ H R I h
  refine thn (hl pins s σ H _ I h) fun v s1 ⟨x, H1, I1, r1, q1⟩ => ?_
  obtain ⟨a, e, ⟨xs, hq⟩, q⟩ := q1
  subst e
  cases r1
  obtain ⟨its, rv, p, hz⟩ := I1.list hq
  refine wpAny_pyIter_list p.isList ?_
  refine ⟨s1.heap.objs.size, [s1.heap.objs.size], _, _, H1, rfl, I1.kept (t' := s1.toks) fun b o e => Heap.get?_push_of_some _ e, turn_list a _, ⟨_, Heap.get?_push_size _ rfl, rfl, rfl⟩, fun b hb => ?_, q⟩
  have e : b = s1.heap.objs.size := by simpa using hb
  subst e
  exact I1.fpOk (Nat.le_refl _) (I1.hok.fresh (Nat.le_refl _))
theorem pi_tup {l : Expr} {tl : TE} (hl : PE X l tl) : PI X tg l (iTup X.K tl) := by
  intro pins s σ H R I h
  refine thn (hl pins s σ H _ I h) fun v s1 ⟨x, H1, I1, r1, q1⟩ => ?_
  obtain ⟨a, e, ⟨xs, hq⟩, q⟩ := q1
  subst e
  cases r1
  obtain ⟨its, rv, p, hz⟩ := I1.tuple hq
  refine wpAny_pyIter_tuple (show s1.heap.IsTuple a its.toArray from p) ?_
  refine ⟨s1.heap.objs.size, [s1.heap.objs.size], _, _, H1, rfl, I1.kept (t' := s1.toks) fun b o e => Heap.get?_push_of_some _ e, turn_tuple a _, ⟨_, Heap.get?_push_size _ rfl, rfl, rfl⟩, fun b hb => ?_, q⟩
  have e : b = s1.heap.objs.size := by simpa using hb
  subst e
  exact I1.fpOk (Nat.le_refl _) (I1.hok.fresh (Nat.le_refl _))
theorem range_it {pins : List (Addr × Obj)} {σ : St} {H : Hp} {s : Shared} {R : It → Hp → Prop} {E : Value → Shared → Prop} {lo hi : Int} {t u v : Tok} {tk : Nat} (I : Inv X pins σ H s) (h1 : -(2 ^ 62) ≤ lo) (h2 : lo < 2 ^ 62) (h3 : -(2 ^ 62) ≤ hi) (h4 : hi < 2 ^ 62)
    (q : R (Itr lo (hi - lo).toNat) H) : wpAny (model X.prog X.w) X.A (pyIter (.ref s.heap.objs.size)) (PIE X pins σ tg R) E { s with heap := s.heap.push { cls := .type "range", data := .fields #[.int lo t, .int hi u, .int 1 v] }, toks := tk } := by
  refine wpAny_pyIter_range (IsRange.new ..) (small_one h1 h2 h3 h4) ?_
  have I1 : Inv X pins σ H { s with heap := s.heap.push { cls := .type "range", data := .fields #[.int lo t, .int hi u, .int 1 v] }, toks := tk } := I.kept fun b o e => Heap.get?_push_of_some _ e
  refine ⟨(s.heap.push { cls := .type "range", data := .fields #[.int lo t, .int hi u, .int 1 v] }).objs.size, [(s.heap.push { cls := .type "range", data := .fields #[.int lo t, .int hi u, .int 1 v] }).objs.size], _, _, H, rfl,
    I1.kept (t' := tk) fun b o e => Heap.get?_push_of_some _ e, turn_range _ lo (hi - lo).toNat, ?_, fun b hb => ?_, q⟩
  · have e1 : lo + ((0 : Nat) : Int) * 1 = lo := by simp
    have e2 : (((hi - lo).toNat : Nat) : Int) - ((0 : Nat) : Int) = Builtin.Range.rangeSize lo hi 1 := by rw [rangeSize_one]; split <;> omega
    show IsRangeIter _ _ (lo + ((0 : Nat) : Int) * 1) ((((hi - lo).toNat : Nat) : Int) - ((0 : Nat) : Int)) 1
    rw [e1, e2]
    exact Heap.get?_push_size _ rfl
  · have e : b = (s.heap.push { cls := .type "range", data := .fields #[.int lo t, .int hi u, .int 1 v] }).objs.size := by simpa using hb
    subst e
    exact I1.fpOk (Nat.le_refl _) (I1.hok.fresh (Nat.le_refl _))
def iRng1 (ta : TA) : TI := fun σ H R => ta σ H fun vs H1 => ∃ j : Int, vs = [.int j] ∧ -(2 ^ 62) ≤ j ∧ j < 2 ^ 62 ∧ R (Itr 0 j.toNat) H1
def iRng2 (ta : TA) : TI := fun σ H R => ta σ H fun vs H1 => ∃ i j : Int, vs = [.int i, .int j] ∧ (-(2 ^ 62) ≤ i ∧ i < 2 ^ 62 ∧ -(2 ^ 62) ≤ j ∧ j < 2 ^ 62) ∧ R (Itr i (j - i).toNat) H1
theorem pi_range1 {a : Expr} {ta : TA} {p pos : Pos} (hg : Gl X "range") (hm : X.mg "range" = none) (ha : PA X [a] ta) (hs : starEach [a] X.env = [(false, eval a X.env)] := by rfl) : PI X tg (.Call (.Name "range" p) [a] [] pos) (iRng1 ta) := by
  intro pins s σ H R I h
  refine Call_ (ld_blt I hg hm boot_range (PyProof.Rows.callWith_type1 (thn (ha pos pins s σ H _ I h) fun us s1 ⟨vs, H1, I1, r1, q1⟩ => ?_) hs rfl))
  obtain ⟨j, e, q1, q2, q⟩ := q1
  subst e
  cases r1 with
  | cons r rr =>
    cases rr
    obtain ⟨t, rfl⟩ := r
    exact call_range_1 (range_it I1 (by omega) (by omega) q1 q2 (by simpa using q))
def tFor (wi : TI) (g : TG) (tb : TS) : TS := fun D σ H => wi σ H fun J H1 => ∃ W : Nat → Nat → St → Hp → Prop, (∃ m, W 0 m σ H1) ∧ ∀ i m σ H, W i m σ H →
  (J.stop i H ∧ D.nx σ H) ∨ (J.go i H ∧ ∃ N : St → Hp → Prop, (∀ σ' H', N σ' H' → ∃ m', m' < m ∧ W (i + 1) m' σ' H') ∧ ∀ x H', J.yld i H x H' → g x σ H' fun σ2 H2 => tb { D with nx := N, ct := N, bk := D.nx } σ2 H2)
def pinsAt (fp : List Addr) (h : Heap) : List (Addr × Obj) := fp.filterMap fun b => (h.get? b).map fun o => (b, o)
theorem mem_pinsAt {fp : List Addr} {h : Heap} {b : Addr} {o : Obj} (hb : b ∈ fp) (e : h.get? b = some o) : (b, o) ∈ pinsAt fp h := List.mem_filterMap.mpr ⟨b, hb, by rw [e]; rfl⟩
theorem of_pinsAt {fp : List Addr} {h : Heap} {p : Addr × Obj} (hp : p ∈ pinsAt fp h) : p.1 ∈ fp ∧ h.get? p.1 = some p.2 := by
  obtain ⟨b, hb, e⟩ := List.mem_filterMap.mp hp
  cases q : h.get? b with
  | none => rw [q] at e; cases e
  | some o =>
    rw [q] at e
    have e' : (b, o) = p := Option.some.inj e
    subst e'
    exact ⟨hb, q⟩
theorem Inv.pinned {pins : List (Addr × Obj)} {σ : St} {H : Hp} {s : Shared} {fp : List Addr} (I : Inv X pins σ H s) (hf : ∀ b ∈ fp, FpOk X pins H b) (ho : ∀ b ∈ fp, ∃ o, s.heap.get? b = some o ∧ ∀ v, o.data ≠ .cell v) : Inv X (pins ++ pinsAt fp s.heap) σ H s :=
  I.pins_of fun p hp => (List.mem_append.mp hp).elim (fun z => I.pin p (List.mem_append_right _ z)) fun z => by
    obtain ⟨hb, e⟩ := of_pinsAt z
    obtain ⟨f0, f1, f2, _⟩ := hf p.1 hb
    obtain ⟨o, e', d⟩ := ho p.1 hb
    rw [e] at e'; cases e'
    exact ⟨e, f0, f1, f2, d⟩
theorem Inv.unpinned {pins pl : List (Addr × Obj)} {σ : St} {H : Hp} {s : Shared} (I : Inv X (pins ++ pl) σ H s) : Inv X pins σ H s := I.pins_of fun p hp => I.pin p (List.mem_append_right _ (List.mem_append_left _ hp))
theorem ps_for {iter : Expr} {body : List Stmt} {wi : TI} {g : TG} {tb : TS} {pos : Pos} (hp : PassesOwn (model X.prog X.w) X.A X.env X.xe) (hc : X.calm = true) (hi : PI X tg iter wi) (hg : PG X tg g) (hb : PSs X body tb)
    (hs : ∀ x, foldedSetIterable iter X.env x = pure x := by intro _; rfl) : PS X (.For tg iter body [] pos) (tFor wi g tb) := by
  intro pins s σ H D I h
  refine wpAny_For (thn (hi pins s σ H _ I h) fun v s1 h1 => thn h1 fun itv s2 h2 => ?_) hs
  obtain ⟨it, fp, tn, J, H2, e, I2, T, st2, f2, W, ⟨m0, w0⟩, turn⟩ := h2
  subst e
  have stat : ∀ {H' : Hp}, (∀ b ∈ fp, H' b = none) → ∀ b ∈ fp, FpOk X pins H' b := fun hn b hb => ⟨hn b hb, (f2 b hb).2⟩
  refine codeAny_forLoop_any (fun n s' => ∃ i σ' H', Inv X pins σ' H' s' ∧ tn i s'.heap ∧ (∀ b ∈ fp, H' b = none) ∧ W i n σ' H') ?_ m0 ⟨0, σ, H2, I2, st2, fun b hb => (f2 b hb).1, w0⟩
  rintro n s3 ⟨i, σ3, H3, I3, st3, fr3, w3⟩
  rcases turn i n σ3 H3 w3 with ⟨stop, qn⟩ | ⟨go, N, hN, step⟩
  · refine wpAny_passesOwn hp (thn (T.done X rfl rfl rfl hc i pins s3 σ3 H3 X.xe I3 (stat fr3) st3 stop) fun r s4 ⟨hr, I4⟩ => ?_)
    subst hr
    exact wpAny_execs_nil ⟨σ3, H3, I4, qn⟩
  · refine wpAny_passesOwn hp (thn (T.item X rfl rfl rfl hc i pins s3 σ3 H3 X.xe I3 (stat fr3) st3 go) fun r s4 ⟨u, hr, h4⟩ => ?_)
    subst hr
    refine wpAny_passesOwn hp (thn h4 fun _ s5 ⟨x, H5, I5, r5, y5, st5, fr5⟩ => ?_)
    have I5' := I5.pinned (stat fr5) (T.obj _ _ st5)
    refine wpAny_passesOwn hp (thn (hg _ s5 σ3 H5 x u _ I5' r5 (step x H5 y5)) fun _ s6 ⟨σ6, H6, I6, q6⟩ => ?_)
    refine wpAny_passesOwn hp (thn (hb _ s6 σ6 H6 _ I6 q6) fun f s7 q7 => ?_)
    have again : ∀ {σ7 : St} {H7 : Hp}, Inv X (pins ++ pinsAt fp s5.heap) σ7 H7 s7 → N σ7 H7 → ∃ m, m < n ∧ ∃ i σ' H', Inv X pins σ' H' s7 ∧ tn i s7.heap ∧ (∀ b ∈ fp, H' b = none) ∧ W i m σ' H' := fun {σ7 H7} I7 n7 => by
      obtain ⟨m', hm, w7⟩ := hN σ7 H7 n7
      refine ⟨m', hm, i + 1, σ7, H7, I7.unpinned, T.keep _ _ _ st5 fun b hb o e => (I7.pin (b, o) (List.mem_append_right _ (List.mem_append_right _ (mem_pinsAt hb e)))).1, fun b hb => ?_, w7⟩
      obtain ⟨o, e, d⟩ := T.obj _ _ st5 b hb
      exact (I7.pin (b, o) (List.mem_append_right _ (List.mem_append_right _ (mem_pinsAt hb e)))).2.1
    cases f with
    | next => obtain ⟨σ7, H7, I7, n7⟩ := q7; exact again I7 n7
    | cont => obtain ⟨σ7, H7, I7, n7⟩ := q7; exact again I7 n7
    | brk => obtain ⟨σ7, H7, I7, q7⟩ := q7; exact ⟨σ7, H7, I7.unpinned, q7⟩
    | ret v => obtain ⟨x7, σ7, H7, I7, r7, q7⟩ := q7; exact ⟨x7, σ7, H7, I7.unpinned, r7, q7⟩
end
theorem for_tup {K : PySem.W.Frag} {a : Addr} {xs : List V} {g : TG} {tb : TS} {D : Ends} {σ : St} {H : Hp} (Pv : Nat → St → Hp → Prop) (h0 : Pv 0 σ H) (hl : ∀ i σ H, i ≤ xs.length → Pv i σ H → SqT K H a xs)
    (hs : ∀ i x σ H, xs[i]? = some x → Pv i σ H → g x σ H fun σ2 H2 => tb { D with nx := Pv (i + 1), ct := Pv (i + 1), bk := D.nx } σ2 H2) (hd : ∀ σ H, Pv xs.length σ H → D.nx σ H) :
    ∃ W : Nat → Nat → St → Hp → Prop, (∃ m, W 0 m σ H) ∧ ∀ i m σ H, W i m σ H →
      ((Itt K a).stop i H ∧ D.nx σ H) ∨ ((Itt K a).go i H ∧ ∃ N : St → Hp → Prop, (∀ σ' H', N σ' H' → ∃ m', m' < m ∧ W (i + 1) m' σ' H') ∧ ∀ x H', (Itt K a).yld i H x H' → g x σ H' fun σ2 H2 => tb { D with nx := N, ct := N, bk := D.nx } σ2 H2) := by
  refine ⟨fun i m σ H => m = xs.length - i ∧ i ≤ xs.length ∧ Pv i σ H, ⟨xs.length, by simp, Nat.zero_le _, h0⟩, ?_⟩
  rintro i m σ H ⟨rfl, hi, p⟩
  have q := hl i σ H hi p
  by_cases hlt : i < xs.length
  · refine .inr ⟨⟨xs, xs[i], q, by simp [hlt]⟩, Pv (i + 1), fun σ' H' p' => ⟨xs.length - (i + 1), by omega, rfl, hlt, p'⟩, fun x H' y => ?_⟩
    obtain ⟨e, y⟩ := y
    subst e
    exact hs i x σ _ (y xs q) p
  · have e : i = xs.length := by omega
    subst e
    exact .inl ⟨⟨xs, q, Nat.le_refl _⟩, hd σ H p⟩
theorem for_range {lo : Int} {n : Nat} {g : TG} {tb : TS} {D : Ends} {σ : St} {H : Hp} (Pv : Nat → St → Hp → Prop) (h0 : Pv 0 σ H)
    (hs : ∀ i σ H, i < n → Pv i σ H → g (.int (lo + i)) σ H fun σ2 H2 => tb { D with nx := Pv (i + 1), ct := Pv (i + 1), bk := D.nx } σ2 H2) (hd : ∀ σ H, Pv n σ H → D.nx σ H) :
    ∃ W : Nat → Nat → St → Hp → Prop, (∃ m, W 0 m σ H) ∧ ∀ i m σ H, W i m σ H →
      ((Itr lo n).stop i H ∧ D.nx σ H) ∨ ((Itr lo n).go i H ∧ ∃ N : St → Hp → Prop, (∀ σ' H', N σ' H' → ∃ m', m' < m ∧ W (i + 1) m' σ' H') ∧ ∀ x H', (Itr lo n).yld i H x H' → g x σ H' fun σ2 H2 => tb { D with nx := N, ct := N, bk := D.nx } σ2 H2) := by
  refine ⟨fun i m σ H => m = n - i ∧ i ≤ n ∧ Pv i σ H, ⟨n, by simp, Nat.zero_le _, h0⟩, ?_⟩
  rintro i m σ H ⟨rfl, hi, p⟩
  by_cases hlt : i < n
  · refine .inr ⟨hlt, Pv (i + 1), fun σ' H' p' => ⟨n - (i + 1), by omega, rfl, hlt, p'⟩, fun x H' y => ?_⟩
    obtain ⟨e, y⟩ := y
    subst e y
    exact hs i σ _ hlt p
  · have e : i = n := by omega
    subst e
    exact .inl ⟨Nat.le_refl _, hd σ H p⟩
end L2
namespace L2
open PySem PySem.Spec PyProof.Rows
abbrev R2 := V → V → Hp → VK → Prop
def OpR (X : Cx) (f : Value → Value → Sem Value) (r : R2) : Prop :=
  ∀ (pins : List (Addr × Obj)) (s : Shared) (σ : St) (H : Hp) (x y : V) (v u : Value) (Q : VK), Inv X pins σ H s → RelV x v → RelV y u → r x y H Q →
    wpAny (model X.prog X.w) X.A (f v u) (EP X pins σ Q) X.xe s
def CallR (X : Cx) (f : Value) (r : List V → Hp → VK → Prop) : Prop :=
  ∀ (pins : List (Addr × Obj)) (s : Shared) (σ : St) (H : Hp) (xs : List V) (us : List Value) (Q : VK), Inv X pins σ H s → Vals xs us → r xs H Q →
    wpAny (model X.prog X.w) X.A (call f us) (EP X pins σ Q) X.xe s
def TruR (X : Cx) (r : V → Hp → (Bool → Hp → Prop) → Prop) : Prop :=
  ∀ (pins : List (Addr × Obj)) (s : Shared) (σ : St) (H : Hp) (x : V) (v : Value) (Q : Bool → Hp → Prop), Inv X pins σ H s → RelV x v → r x H Q →
    wpAny (model X.prog X.w) X.A (truthy v) (TP X pins σ Q) X.xe s
def tOp (r : R2) (ta tb : TE) : TE := fun σ H Q => ta σ H fun x H1 => tb σ H1 fun y H2 => r x y H2 Q
def tUn (r : V → Hp → VK → Prop) (ta : TE) : TE := fun σ H Q => ta σ H fun x H1 => r x H1 Q
def rI (C : Int → Int → Prop) (g : Int → Int → V) : R2 := fun x y H Q => ∃ i j, x = .int i ∧ y = .int j ∧ C i j ∧ Q (g i j) H
def rI0 (g : Int → Int → V) : R2 := fun x y H Q => ∃ i j, x = .int i ∧ y = .int j ∧ Q (g i j) H
def rU (g : Int → V) : V → Hp → VK → Prop := fun x H Q => ∃ i, x = .int i ∧ Q (g i) H
section
variable {X : Cx} {a b c : Expr} {ta tb tc : TE} {pos : Pos}
theorem binT (ha : PE X a ta) (hb : PE X b tb) {pins : List (Addr × Obj)} {s : Shared} {σ : St} {H : Hp} {R : V → V → Hp → Prop} (I : Inv X pins σ H s)
    (h : ta σ H fun x H1 => tb σ H1 fun y H2 => R x y H2) {Q : Value → Shared → Prop} {f : Value → Value → Sem Value}
    (hf : ∀ v u s2 x y H2, Inv X pins σ H2 s2 → RelV x v → RelV y u → R x y H2 → wpAny (model X.prog X.w) X.A (f v u) Q X.xe s2) :
    wpAny (model X.prog X.w) X.A (eval a X.env) (fun v s₁ => wpAny (model X.prog X.w) X.A (eval b X.env) (fun u s₂ => wpAny (model X.prog X.w) X.A (f v u) Q X.xe s₂) X.xe s₁) X.xe s := by
  refine thn (ha pins s σ H _ I h) fun v s1 ⟨x, H1, I1, r1, q1⟩ => ?_
  refine thn (hb pins s1 σ H1 _ I1 q1) fun u s2 ⟨y, H2, I2, r2, q2⟩ => ?_
  exact hf v u s2 x y H2 I2 r1 r2 q2
theorem pe_op {op : Operator} {r : R2} (ho : OpR X (binaryOp op) r) (ha : PE X a ta) (hb : PE X b tb) : PE X (.BinOp a op b pos) (tOp r ta tb) := by
  intro pins s σ H Q I h
  exact wpAny_BinOp (binT ha hb I h fun v u s2 x y H2 I2 rx ry q => ho pins s2 σ H2 x y v u Q I2 rx ry q)
theorem opI {f : Value → Value → Sem Value} {C : Int → Int → Prop} {g : Int → Int → Int}
    (rule : ∀ (i j : Int) (t u : Tok) (s : Shared) (Q : Value → Shared → Prop) (E : Value → Shared → Prop), C i j → Q (.int (g i j) s.toks) { s with toks := s.toks + 1 } → wpAny (model X.prog X.w) X.A (f (.int i t) (.int j u)) Q E s) :
    OpR X f (rI C fun i j => .int (g i j)) := by
  intro pins s σ H x y v u Q I rx ry h
  obtain ⟨i, j, rfl, rfl, hc, q⟩ := h
  obtain ⟨t, rfl⟩ := rx
  obtain ⟨t', rfl⟩ := ry
  exact rule i j t t' s _ _ hc ⟨.int (g i j), H, I.tok _, ⟨_, rfl⟩, q⟩
theorem opI0 {f : Value → Value → Sem Value} {g : Int → Int → Int}
    (rule : ∀ (i j : Int) (t u : Tok) (s : Shared) (Q : Value → Shared → Prop) (E : Value → Shared → Prop), Q (.int (g i j) s.toks) { s with toks := s.toks + 1 } → wpAny (model X.prog X.w) X.A (f (.int i t) (.int j u)) Q E s) :
    OpR X f (rI0 fun i j => .int (g i j)) := by
  intro pins s σ H x y v u Q I rx ry h
  obtain ⟨i, j, rfl, rfl, q⟩ := h
  obtain ⟨t, rfl⟩ := rx
  obtain ⟨t', rfl⟩ := ry
  exact rule i j t t' s _ _ ⟨.int (g i j), H, I.tok _, ⟨_, rfl⟩, q⟩
theorem opB0 {f : Value → Value → Sem Value} {g : Int → Int → Bool}
    (rule : ∀ (i j : Int) (t u : Tok) (s : Shared) (Q : Value → Shared → Prop) (E : Value → Shared → Prop), Q (.bool (g i j)) s → wpAny (model X.prog X.w) X.A (f (.int i t) (.int j u)) Q E s) :
    OpR X f (rI0 fun i j => .bl (g i j)) := by
  intro pins s σ H x y v u Q I rx ry h
  obtain ⟨i, j, rfl, rfl, q⟩ := h
  obtain ⟨t, rfl⟩ := rx
  obtain ⟨t', rfl⟩ := ry
  exact rule i j t t' s _ _ ⟨.bl (g i j), H, I, rfl, q⟩
def CDiv (i j : Int) : Prop := 0 < j ∧ j < 1073741824
def CPow (i j : Int) : Prop := 0 ≤ j ∧ j ≤ 1000000 ∧ i.natAbs < 2 ^ 64
def CMul (i j : Int) : Prop := (-(2 ^ 64) < i ∧ i < 2 ^ 64) ∨ (-(2 ^ 64) < j ∧ j < 2 ^ 64)
theorem CMul.ok {i j : Int} (h : CMul i j) : IntMulOk i j := by
  rcases h with ⟨h1, h2⟩ | ⟨h1, h2⟩
  · exact .of_left (intBits_le_64 h1 h2)
  · exact .of_right (intBits_le_64 h1 h2)
theorem two_pow_nn (k : Nat) : (0 : Int) ≤ 2 ^ k := by
  rw [two_pow_cast]
  exact Int.natCast_nonneg _
theorem op_add : OpR X (binaryOp .Add) (rI0 fun i j => .int (i + j)) := opI0 fun _ _ _ _ _ _ _ q => add_int q
theorem op_sub : OpR X (binaryOp .Sub) (rI0 fun i j => .int (i - j)) := opI0 fun _ _ _ _ _ _ _ q => sub_int q
theorem op_mul : OpR X (binaryOp .Mult) (rI CMul fun i j => .int (i * j)) := opI fun _ _ _ _ _ _ _ hc q => mul_int q hc.ok
theorem op_fdiv : OpR X (binaryOp .FloorDiv) (rI CDiv fun i j => .int (i / j)) := opI fun i j _ _ _ _ _ hc q => by
  have h1 : (0 : Int) < j := hc.1
  have h2 : j < 1073741824 := hc.2
  exact floordiv_int (by omega) (by rw [Int.fdiv_eq_ediv_of_nonneg i (by omega)]; exact q) (.inl (PyProof.noPylong_small (by omega)))
theorem op_mod : OpR X (binaryOp .Mod) (rI (fun _ j => 0 < j) fun i j => .int (i % j)) := opI fun i j _ _ _ _ _ hc q => by
  have h1 : (0 : Int) < j := hc
  exact mod_int' (by omega) (by rw [Int.fmod_eq_emod_of_nonneg i (by omega)]; exact q)
theorem op_pow : OpR X (binaryOp .Pow) (rI CPow fun i j => .int (i ^ j.toNat)) := opI fun _ _ _ _ _ _ _ hc q => pow_int_small hc.1 hc.2.1 hc.2.2 q
theorem op_shr : OpR X (binaryOp .RShift) (rI (fun _ j => 0 ≤ j) fun i j => .int (i / 2 ^ j.toNat)) := opI fun i j _ _ _ _ _ hc q =>
  rshift_int hc (by rw [Int.fdiv_eq_ediv_of_nonneg i (two_pow_nn _)]; exact q)
theorem op_and : OpR X (binaryOp .BitAnd) (rI0 fun i j => .int (Builtin.bitAnd i j)) := opI0 fun _ _ _ _ _ _ _ q => and_int q
end
def scal : V → V → Bool
  | .non, .non => true | .non, .int _ => true | .int _, .non => true | .non, .bl _ => true | .bl _, .non => true | .non, .str _ => true | .str _, .non => true
  | .int _, .int _ => true | .bl _, .bl _ => true | .str _, .str _ => true | .byt _, .byt _ => true
  | .int _, .str _ => true | .str _, .int _ => true | .bl _, .str _ => true | .str _, .bl _ => true
  | _, _ => false
def rEq : R2 := fun x y H Q => scal x y = true ∧ Q (.bl (decide (x = y))) H
def rNe : R2 := fun x y H Q => scal x y = true ∧ Q (.bl (!decide (x = y))) H
theorem dec_int {i j : Int} : decide (V.int i = V.int j) = (i == j) := by
  rw [Bool.eq_iff_iff]
  simp
theorem dec_bl {i j : Bool} : decide (V.bl i = V.bl j) = (i == j) := by
  rw [Bool.eq_iff_iff]
  simp
theorem dec_str {i j : Str} : decide (V.str i = V.str j) = (i == j) := by
  rw [Bool.eq_iff_iff]
  simp
theorem dec_byt {i j : Array UInt8} : decide (V.byt i = V.byt j) = (i.toList == j.toList) := by
  rw [Bool.eq_iff_iff]
  cases i
  cases j
  simp
section
variable {X : Cx} {a b c : Expr} {ta tb tc : TE} {pos : Pos}
theorem fin_bl {pins : List (Addr × Obj)} {σ : St} {H : Hp} {s : Shared} {Q : VK} {k k' : Bool} (I : Inv X pins σ H s) (q : Q (.bl k) H) (e : k = k') : EP X pins σ Q (.bool k') s := by
  subst e
  exact ⟨.bl k, H, I, rfl, q⟩
theorem op_eq : OpR X (compareOp .Eq) rEq := by
  intro pins s σ H x y v u Q I rx ry h
  obtain ⟨hs, q⟩ := h
  cases x with
  | non =>
    cases rx
    cases y with
    | non => cases ry; exact PySem.EqNone.eq_none_none (fin_bl I q (by simp))
    | bl j => cases ry; exact PySem.EqNone.eq_none_bool (fin_bl I q (by simp))
    | int j => obtain ⟨t', rfl⟩ := ry; exact PySem.EqNone.eq_none_int (fin_bl I q (by simp))
    | str j => obtain ⟨t', rfl⟩ := ry; exact PySem.EqNone.eq_none_str (fin_bl I q (by simp))
    | _ => exact absurd (show false = true from hs) Bool.false_ne_true
  | bl i =>
    cases rx
    cases y with
    | non => cases ry; exact PySem.EqNone.eq_bool_none (fin_bl I q (by simp))
    | bl j => cases ry; exact eq_bool (fin_bl I q dec_bl)
    | str j => obtain ⟨t', rfl⟩ := ry; exact PySem.EqMixed.eq_bool_str (fin_bl I q (by simp))
    | _ => exact absurd (show false = true from hs) Bool.false_ne_true
  | int i =>
    obtain ⟨t, rfl⟩ := rx
    cases y with
    | non => cases ry; exact PySem.EqNone.eq_int_none (fin_bl I q (by simp))
    | int j => obtain ⟨t', rfl⟩ := ry; exact eq_int (fin_bl I q dec_int)
    | str j => obtain ⟨t', rfl⟩ := ry; exact PySem.EqMixed.eq_int_str (fin_bl I q (by simp))
    | _ => exact absurd (show false = true from hs) Bool.false_ne_true
  | str i =>
    obtain ⟨t, rfl⟩ := rx
    cases y with
    | non => cases ry; exact PySem.EqNone.eq_str_none (fin_bl I q (by simp))
    | bl j => cases ry; exact PySem.EqMixed.eq_str_bool (fin_bl I q (by simp))
    | int j => obtain ⟨t', rfl⟩ := ry; exact PySem.EqMixed.eq_str_int (fin_bl I q (by simp))
    | str j => obtain ⟨t', rfl⟩ := ry; exact eq_str (fin_bl I q dec_str)
    | _ => exact absurd (show false = true from hs) Bool.false_ne_true
  | byt i =>
    obtain ⟨t, rfl⟩ := rx
    cases y with
    | byt j => obtain ⟨t', rfl⟩ := ry; exact PySem.W.eq_bytes (fin_bl I q dec_byt)
    | _ => exact absurd (show false = true from hs) Bool.false_ne_true
  | _ => cases y <;> exact absurd (show false = true from hs) Bool.false_ne_true
theorem op_ne : OpR X (compareOp .NotEq) rNe := by
  intro pins s σ H x y v u Q I rx ry h
  obtain ⟨hs, q⟩ := h
  cases x with
  | non =>
    cases rx
    cases y with
    | non => cases ry; exact PySem.EqNone.ne_none_none (fin_bl I q (by simp))
    | bl j => cases ry; exact PySem.EqNone.ne_none_bool (fin_bl I q (by simp))
    | int j => obtain ⟨t', rfl⟩ := ry; exact PySem.EqNone.ne_none_int (fin_bl I q (by simp))
    | str j => obtain ⟨t', rfl⟩ := ry; exact PySem.EqNone.ne_none_str (fin_bl I q (by simp))
    | _ => exact absurd (show false = true from hs) Bool.false_ne_true
  | bl i =>
    cases rx
    cases y with
    | non => cases ry; exact PySem.EqNone.ne_bool_none (fin_bl I q (by simp))
    | bl j => cases ry; exact ne_bool (fin_bl I q (congrArg not dec_bl))
    | str j => obtain ⟨t', rfl⟩ := ry; exact PySem.EqMixed.ne_bool_str (fin_bl I q (by simp))
    | _ => exact absurd (show false = true from hs) Bool.false_ne_true
  | int i =>
    obtain ⟨t, rfl⟩ := rx
    cases y with
    | non => cases ry; exact PySem.EqNone.ne_int_none (fin_bl I q (by simp))
    | int j => obtain ⟨t', rfl⟩ := ry; exact ne_int (fin_bl I q (congrArg not dec_int))
    | str j => obtain ⟨t', rfl⟩ := ry; exact PySem.EqMixed.ne_int_str (fin_bl I q (by simp))
    | _ => exact absurd (show false = true from hs) Bool.false_ne_true
  | str i =>
    obtain ⟨t, rfl⟩ := rx
    cases y with
    | non => cases ry; exact PySem.EqNone.ne_str_none (fin_bl I q (by simp))
    | bl j => cases ry; exact PySem.EqMixed.ne_str_bool (fin_bl I q (by simp))
    | int j => obtain ⟨t', rfl⟩ := ry; exact PySem.EqMixed.ne_str_int (fin_bl I q (by simp))
    | str j => obtain ⟨t', rfl⟩ := ry; exact ne_str (fin_bl I q (congrArg not dec_str))
    | _ => exact absurd (show false = true from hs) Bool.false_ne_true
  | byt i =>
    obtain ⟨t, rfl⟩ := rx
    cases y with
    | byt j => obtain ⟨t', rfl⟩ := ry; exact PySem.W.ne_bytes (fin_bl I q (congrArg not dec_byt))
    | _ => exact absurd (show false = true from hs) Bool.false_ne_true
  | _ => cases y <;> exact absurd (show false = true from hs) Bool.false_ne_true
theorem op_lt : OpR X (compareOp .Lt) (rI0 fun i j => .bl (decide (i < j))) := opB0 fun _ _ _ _ _ _ _ q => lt_int q
theorem op_le : OpR X (compareOp .LtE) (rI0 fun i j => .bl (decide (i ≤ j))) := opB0 fun _ _ _ _ _ _ _ q => le_int q
theorem op_gt : OpR X (compareOp .Gt) (rI0 fun i j => .bl (decide (j < i))) := opB0 fun _ _ _ _ _ _ _ q => gt_int q
theorem op_isN : OpR X (compareOp .Is) (fun x y H Q => y = .non ∧ Q (.bl (decide (x = .non))) H) := by
  intro pins s σ H x y v u Q I rx ry h
  obtain ⟨rfl, q⟩ := h
  cases ry
  refine is_none_gen (fin_bl I q ?_)
  cases x <;> first
    | (cases rx; rfl)
    | (obtain ⟨t, rfl⟩ := rx; rfl)
theorem nomark (b : Expr) {op : CmpOp} (h : op ≠ .In := by decide) (h2 : op ≠ .NotIn := by decide) : behindInMarks op b = false := by
  have e1 : (op == CmpOp.In) = false := by cases op <;> first | rfl | exact absurd rfl h
  have e2 : (op == CmpOp.NotIn) = false := by cases op <;> first | rfl | exact absurd rfl h2
  cases b <;> simp [behindInMarks, e1, e2]
theorem pe_cmpR {op : CmpOp} {r : R2} (ho : OpR X (compareOp op) r) (ha : PE X a ta) (hb : PE X b tb) (hm : behindInMarks op b = false) : PE X (.Compare a [op] [b] pos) (tOp r ta tb) := by
  intro pins s σ H Q I h
  exact wpAny_Compare1 (binT ha hb I h fun v u s2 x y H2 I2 rx ry q => ho pins s2 σ H2 x y v u Q I2 rx ry q) hm
def tTest (t : TE) : TT := fun σ H Q => t σ H fun x H' => ∃ k, x = .bl k ∧ Q k H'
theorem pt_cmpR {op : CmpOp} {r : R2} (ho : OpR X (compareOp op) r) (ha : PE X a ta) (hb : PE X b tb) (hm : behindInMarks op b = false) : PT X (.Compare a [op] [b] pos) (tTest (tOp r ta tb)) := by
  intro pins s σ H Q I h
  refine wpAny_isTrue_Compare1 (thn (ha pins s σ H _ I h) fun v s1 ⟨x, H1, I1, r1, q1⟩ => thn (hb pins s1 σ H1 _ I1 q1) fun u s2 ⟨y, H2, I2, r2, q2⟩ =>
    thn (ho pins s2 σ H2 x y v u _ I2 r1 r2 q2) fun c s3 ⟨z, H3, I3, r3, k, e, q3⟩ => ?_) hm
  subst e
  cases r3
  exact wpAny_truthy_bool ⟨H3, I3, q3⟩
def tChain (r r' : R2) (ta tb tc : TE) : TE := fun σ H Q => ta σ H fun x H1 => tb σ H1 fun y H2 => r x y H2 fun z H3 => ∃ k, z = .bl k ∧
  (if k = true then tc σ H3 fun w' H4 => r' y w' H4 Q else Q (.bl false) H3)
theorem pe_chain {op op' : CmpOp} {r r' : R2} (ho : OpR X (compareOp op) r) (ho' : OpR X (compareOp op') r') (ha : PE X a ta) (hb : PE X b tb) (hc : PE X c tc)
    (hm : lastMarks [op, op'] [b, c] = false := by with_unfolding_all rfl) : PE X (.Compare a [op, op'] [b, c] pos) (tChain r r' ta tb tc) := by
  intro pins s σ H Q I h
  refine Compare_chain (thn (ha pins s σ H _ I h) fun v s1 ⟨x, H1, I1, r1, q1⟩ => chain_link (thn (hb pins s1 σ H1 _ I1 q1) fun u s2 ⟨y, H2, I2, r2, q2⟩ =>
    thn (ho pins s2 σ H2 x y v u _ I2 r1 r2 q2) fun d s3 ⟨z, H3, I3, r3, k, e, q3⟩ => ?_)) hm
  subst e
  cases r3
  refine wpAny_truthy_bool ?_
  cases k with
  | false => exact ite_ff ⟨.bl false, H3, I3, rfl, q3⟩
  | true => exact ite_tt (chain_last (thn (hc pins s3 σ H3 _ I3 q3) fun w' s4 ⟨z', H4, I4, r4, q4⟩ => ho' pins s4 σ H4 y z' u w' Q I4 r2 r4 q4))
def TruV (K : PySem.W.Frag) (x : V) (H : Hp) (k : Bool) : Prop :=
  match x with
  | .non => k = false
  | .bl b => k = b
  | .int i => k = (i != 0)
  | .str y => y.length ≤ sizeLine ∧ k = ((y.length : Int) != 0)
  | .byt y => y.size ≤ sizeLine ∧ k = ((y.size : Int) != 0)
  | .ref p => (∃ xs, SqL K H p xs ∧ k = !xs.isEmpty) ∨ (∃ xs, SqT K H p xs ∧ k = !xs.isEmpty) ∨ ∃ kvs, H p = some (.dK kvs) ∧ k = !kvs.isEmpty
  | _ => False
theorem isEmpty_kv {κ : Type} {kvs : List (κ × V)} {vs : List (κ × Value)} (r : KV kvs vs) : (!vs.isEmpty) = !kvs.isEmpty := by
  cases r <;> rfl
theorem isEmpty_of {xs : List V} {its : List Value} (r : Vals xs its) : (!its.toArray.isEmpty) = !xs.isEmpty := by
  cases r <;> simp
theorem line63 : (sizeLine : Nat) < 2 ^ 63 := by rw [sizeLine_eq]; decide
theorem tru_ok : TruR X (fun x H Q => ∃ k, TruV X.K x H k ∧ Q k H) := by
  intro pins s σ H x v Q I rx h
  obtain ⟨k, e, q⟩ := h
  have hl := line63
  have hs : sizeLine = 16777216 := sizeLine_eq
  cases x with
  | non =>
    cases rx
    have e' : k = false := e
    subst e'
    exact truthy_none ⟨H, I, q⟩
  | bl b =>
    cases rx
    have e' : k = b := e
    subst e'
    exact wpAny_truthy_bool ⟨H, I, q⟩
  | int i =>
    obtain ⟨t, rfl⟩ := rx
    have e' : k = (i != 0) := e
    subst e'
    exact PySem.P.truthy_int ⟨H, I, q⟩
  | str y =>
    obtain ⟨t, rfl⟩ := rx
    obtain ⟨hy, e'⟩ : y.length ≤ sizeLine ∧ k = ((y.length : Int) != 0) := e
    subst e'
    exact PySem.P.truthy_str (by omega) ⟨H, I.tok _, q⟩
  | byt y =>
    obtain ⟨t, rfl⟩ := rx
    obtain ⟨hy, e'⟩ : y.size ≤ sizeLine ∧ k = ((y.size : Int) != 0) := e
    subst e'
    exact PySem.W.truthy_bytes (by omega) ⟨H, I.tok _, q⟩
  | ref p =>
    cases rx
    have e' : (∃ xs, SqL X.K H p xs ∧ k = !xs.isEmpty) ∨ (∃ xs, SqT X.K H p xs ∧ k = !xs.isEmpty) ∨ ∃ kvs, H p = some (.dK kvs) ∧ k = !kvs.isEmpty := e
    rcases e' with ⟨xs, hx, e'⟩ | ⟨xs, hx, e'⟩ | ⟨kvs, hx, e'⟩
    · subst e'
      obtain ⟨its, r, pl, hz⟩ := I.list hx
      have hlen := r.length
      exact wpAny_truthy_list pl.isList (by simp only [List.size_toArray]; omega) ⟨H, I.tok _, by rw [isEmpty_of r]; exact q⟩
    · subst e'
      obtain ⟨its, r, pl, hz⟩ := I.tuple hx
      have hlen := r.length
      exact truthy_tuple pl (by simp only [List.size_toArray]; omega) ⟨H, I.tok _, by rw [isEmpty_of r]; exact q⟩
    · subst e'
      obtain ⟨hz, hS, vs, r, m⟩ : kvs.length ≤ sizeLine ∧ (p == sysModules) = false ∧ ∃ vs, KV kvs vs ∧ s.heap.DictOf (mixKind X.prog X.w) p vs := I.hok p _ hx
      have hlen : kvs.length = vs.length := Paired.length r
      exact wpAny_truthy_dict hS m (by omega) ⟨H, I.tok _, by rw [isEmpty_kv r]; exact q⟩
  | _ => exact (show False from e).elim
theorem pt_truth (ha : PE X a ta) (he : ∀ whole, isTrue a X.env whole = (do let v ← whole; standAt a.pos; holding [v] (truthy v))) :
    PT X a (fun σ H Q => ta σ H fun x H' => ∃ k, TruV X.K x H' k ∧ Q k H') := by
  intro pins s σ H Q I h
  exact isTrue_plain (thn (ha pins s σ H _ I h) fun v s1 ⟨x, H1, I1, r1, q1⟩ => tru_ok pins s1 σ H1 x v Q I1 r1 q1) (he _)
theorem vals1 {x : V} {us : List Value} (r : Vals [x] us) : ∃ u, us = [u] ∧ RelV x u := by
  cases r with
  | cons r1 r2 => cases r2; exact ⟨_, rfl, r1⟩
theorem vals2 {x y : V} {us : List Value} (r : Vals [x, y] us) : ∃ u w', us = [u, w'] ∧ RelV x u ∧ RelV y w' := by
  cases r with
  | cons r1 r2 =>
    cases r2 with
    | cons r3 r4 => cases r4; exact ⟨_, _, rfl, r1, r3⟩
theorem call_min2 (hc : X.calm = true) : CallR X (.builtin "min") (fun xs H Q => ∃ i j, xs = [.int i, .int j] ∧ Q (.int (if j < i then j else i)) H) := by
  intro pins s σ H xs us Q I r h
  obtain ⟨i, j, rfl, q⟩ := h
  obtain ⟨u, w', rfl, ⟨t, rfl⟩, ⟨t', rfl⟩⟩ := vals2 r
  refine min_two_ints (I.ok.hd hc) fun h' tk k => ⟨_, H, I.kept k, ?_, q⟩
  by_cases hj : j < i
  · rw [if_pos hj, if_pos hj]; exact ⟨_, rfl⟩
  · rw [if_neg hj, if_neg hj]; exact ⟨_, rfl⟩
theorem call_int1 : CallR X (.type "int") (fun xs H Q => (∃ i, xs = [.int i] ∧ Q (.int i) H) ∨ ∃ k, xs = [.bl k] ∧ Q (.int (if k then 1 else 0)) H) := by
  intro pins s σ H xs us Q I r h
  rcases h with ⟨i, rfl, q⟩ | ⟨k, rfl, q⟩
  · obtain ⟨u, rfl, t, rfl⟩ := vals1 r
    exact call_int_int ⟨.int i, H, I, ⟨_, rfl⟩, q⟩
  · obtain ⟨u, rfl, r1⟩ := vals1 r
    cases r1
    exact call_int_bool ⟨.int (if k then 1 else 0), H, I.tok _, ⟨_, rfl⟩, q⟩
end
end L2
namespace L2
open PySem PySem.Spec PyProof.Rows
structure ObjM (h : Heap) (x dx C : Addr) (mA : Str → Option Value) : Prop where
  obj : h.get? x = some (PySem.W.instObj C dx)
  ns : h.Ns1 dx mA
  ne : dx ≠ x
theorem lookIn_ns {h : Heap} {dx : Addr} {mA : Str → Option Value} (n : h.Ns1 dx mA) : ∃ od, h.get? dx = some od ∧ ∀ name, PySem.W.lookIn name od = some (mA name) := by
  obtain ⟨o, es, ep, ho, hd, hk, _, hm⟩ := n
  refine ⟨o, ho, fun name => ?_⟩
  have e := hm name
  unfold nsFind findBy at e
  rw [← Array.find?_toList] at e
  unfold PySem.W.lookIn
  rw [hd]
  dsimp only
  split
  · rename_i y q
    rw [q] at e
    exact congrArg some e
  · rename_i q
    rw [q] at e
    have a : es.toList.any (·.refKey) = false := by
      rw [List.any_eq_false]
      intro y hy
      obtain ⟨z, t, hkey⟩ := hk y (Array.mem_toList_iff.mp hy)
      simp [DictEntry.refKey, hkey]
    have a' : ¬ es.toList.any (·.refKey) = true := by rw [a]; exact Bool.false_ne_true
    rw [if_neg a']
    exact congrArg some e
theorem ObjM.look {h : Heap} {x dx C : Addr} {mA : Str → Option Value} (I : ObjM h x dx C mA) : ∃ od, PySem.W.InstAt h x (PySem.W.instObj C dx) C (some od) ∧ ∀ name, PySem.W.lookIn name od = some (mA name) :=
  let ⟨od, ho, hl⟩ := lookIn_ns I.ns
  ⟨od, ⟨I.obj, rfl, rfl, ho⟩, hl⟩
theorem RelO.some_of {v : V} {o : Option Value} (r : RelO (some v) o) : ∃ u, o = some u ∧ RelV v u := by
  cases o with
  | none => exact (show False from r).elim
  | some u => exact ⟨u, rfl, r⟩
section
variable {P : Program} {w : World} {H H' : Hp} {h h' : Heap} {a C dx : Addr} {fs fs' : List (Str × V)}
theorem ins_get (hok : HOk P w H h) (e : H a = some (.ins C dx fs)) : ∃ mA, ObjM h a dx C mA ∧ (∀ f, RelO (fs.lookup f) (mA f)) ∧ PySem.Within mA (fs.map (·.1)) ∧ fs.length ≤ 1000 ∧ H dx = some (.own a) := by
  obtain ⟨d, z, ne, ob, mA, n, r, q⟩ := (show ObjOk P w H h a (.ins C dx fs) from hok a _ e)
  exact ⟨mA, ⟨ob, n, ne⟩, r, q, z, d⟩
end
structure Cls (K : PySem.W.Frag) (C : Addr) : Prop where
  pg : PySem.W.plainGet K C Str.empty = true
  hd : PySem.W.hasDictIn K C = true
  po : PySem.W.plainOver K C = true
  sa : PySem.W.findIn K (.ref C) "__setattr__" = some (some (.builtin "object.__setattr__"))
theorem Cls.get {K : PySem.W.Frag} {C : Addr} (c : Cls K C) (f : Str) : PySem.W.plainGet K C f = true := c.pg
section
variable {X : Cx} {pins : List (Addr × Obj)} {σ : St} {H : Hp} {s : Shared} {A : Around} {E : Value → Shared → Prop} {Q : Value → Shared → Prop} {c : Value} {b : Bool}
inductive TyOf (K : PySem.W.Frag) (H : Hp) : V → Value → Prop where
  | non : TyOf K H .non (.type "NoneType")
  | bl (x : Bool) : TyOf K H (.bl x) (.type "bool")
  | int (i : Int) : TyOf K H (.int i) (.type "int")
  | str (x : Str) : TyOf K H (.str x) (.type "str")
  | flt (x : UInt64) : TyOf K H (.flt x) (.type "float")
  | lst {a : Addr} {xs : List V} (e : H a = some (.lst xs)) : TyOf K H (.ref a) (.type "list")
  | frz {a : Addr} {o : Obj} {xs : List V} (e : H a = some (.frz o (.lst xs))) : TyOf K H (.ref a) (.type "list")
  | tup {a : Addr} {xs : List V} (e : H a = some (.tup xs)) : TyOf K H (.ref a) (.type "tuple")
  | dK {a : Addr} {kvs : List (Key × V)} (e : H a = some (.dK kvs)) : TyOf K H (.ref a) (.type "dict")
  | dT {a : Addr} {kvs : List (List Key × V)} (e : H a = some (.dT kvs)) : TyOf K H (.ref a) (.type "dict")
  | ins {a C dx : Addr} {fs : List (Str × V)} (e : H a = some (.ins C dx fs)) (cl : Cls K C) (ha : PySem.W.findIn K (.ref C) "__class__" = some (some (.builtin "object.__class__")))
      (hn : PySem.W.specialIn K (.builtin "object.__class__") "__get__" = some (some (.builtin "getset_descriptor.__get__"))) (htk : PySem.W.takesIn K (.builtin "object.__class__") = some true)
      (hm : PySem.W.mroIn K C (.type "object") = some true) : TyOf K H (.ref a) (.ref C)
theorem isinst_ok {x : V} {u t : Value} (I : Inv X pins σ H s) (rx : RelV x u) (ty : TyOf X.K H x t) (e : PySem.W.kitOne X.K t c = some b) (h : ∀ tk, Q (.bool b) { s with toks := tk }) :
    wpAny (model X.prog X.w) A (call (.builtin "isinstance") [u, c]) Q E s := by
  cases ty with
  | non => cases (show u = Value.none from rx); exact PySem.W.kia_one PySem.W.kitx_none I.kIn True.intro e (fun z => nomatch z) h
  | bl y => cases (show u = Value.bool y from rx); exact PySem.W.kia_one PySem.W.kitx_bool I.kIn True.intro e (fun z => nomatch z) h
  | int i => obtain ⟨t, q⟩ := (show ∃ t, u = Value.int i t from rx); cases q; exact PySem.W.kia_one PySem.W.kitx_int I.kIn True.intro e (fun z => nomatch z) h
  | str y => obtain ⟨t, q⟩ := (show ∃ t, u = Value.str y t from rx); cases q; exact PySem.W.kia_one PySem.W.kitx_str I.kIn True.intro e (fun z => nomatch z) h
  | flt y => obtain ⟨t, q⟩ := (show ∃ t, u = Value.float y t from rx); cases q; exact PySem.W.kia_one PySem.W.kitx_float I.kIn True.intro e (fun z => nomatch z) h
  | @lst a xs ea =>
    cases (show u = Value.ref a from rx)
    obtain ⟨_, _, n, _, h1⟩ := (show ObjOk X.prog X.w H s.heap a (.lst xs) from I.hok a _ ea)
    exact PySem.W.kia_one PySem.W.kitx_list I.kIn ⟨_, h1, rfl⟩ e (fun z => nomatch z) h
  | @frz a ob xs ea =>
    cases (show u = Value.ref a from rx)
    obtain ⟨_, _, _, n, _, h1⟩ := (show ObjOk X.prog X.w H s.heap a (.frz ob (.lst xs)) from I.hok a _ ea)
    exact PySem.W.kia_one PySem.W.kitx_list I.kIn ⟨_, h1, rfl⟩ e (fun z => nomatch z) h
  | @tup a xs ea =>
    cases (show u = Value.ref a from rx)
    obtain ⟨_, _, _, p⟩ := (show ObjOk X.prog X.w H s.heap a (.tup xs) from I.hok a _ ea)
    obtain ⟨o, h1, h2, _⟩ := p
    exact PySem.W.kia_one PySem.W.kitx_tuple I.kIn ⟨o, h1, h2⟩ e (fun z => nomatch z) h
  | @dK a kvs ea =>
    cases (show u = Value.ref a from rx)
    obtain ⟨_, _, vs, _, p⟩ := (show ObjOk X.prog X.w H s.heap a (.dK kvs) from I.hok a _ ea)
    obtain ⟨o, es, ep, h1, h2, _⟩ := p
    exact PySem.W.kia_one PySem.W.kitx_dict I.kIn ⟨o, h1, h2.1⟩ e (fun z => nomatch z) h
  | @dT a kvs ea =>
    cases (show u = Value.ref a from rx)
    obtain ⟨_, _, xs, _, o, es, ep, h1, h2, _⟩ := (show ObjOk X.prog X.w H s.heap a (.dT kvs) from I.hok a _ ea)
    exact PySem.W.kia_one PySem.W.kitx_dict I.kIn ⟨o, h1, h2.1⟩ e (fun z => nomatch z) h
  | @ins a C dx fs ea cl ha hn htk hm =>
    cases (show u = Value.ref a from rx)
    obtain ⟨mA, O, _⟩ := ins_get I.hok ea
    obtain ⟨od, J, _⟩ := O.look
    exact PySem.W.kia_one (PySem.W.kitx_own (cl.get _) cl.hd ha hn htk hm) I.kIn J e (fun z => nomatch z) h
end
end L2
namespace L2
open PySem PySem.Spec PyProof.Rows
structure Room (k : Nat) (A : Around) : Prop where
  hd : A.handled = none
  dp : A.depth + 3 * k + 5 < recursionLimit
  un : A.units + 16 * k + 200 < cLine
theorem Room.mono {j k : Nat} {A : Around} (r : Room k A) (h : j ≤ k) : Room j A := ⟨r.hd, by have := r.dp; omega, by have := r.un; omega⟩
theorem Room.deeper {k : Nat} {A : Around} (r : Room (k + 1) A) (env : Env) : Room k (A.deeper env) :=
  ⟨r.hd, by have := r.dp; show A.depth + 1 + 3 * k + 5 < _; omega, by have := r.un; show A.units + 3 + 16 * k + 200 < _; omega⟩
theorem Room.depth {k : Nat} {A : Around} (r : Room k A) : A.depth < recursionLimit := by have := r.dp; omega
theorem Room.units {k : Nat} {A : Around} (r : Room k A) : A.units + 64 < cLine := by have := r.un; omega
def tNil : TA := fun _ H Q => Q [] H
def tCons (ta : TE) (tr : TA) : TA := fun σ H Q => ta σ H fun x H1 => tr σ H1 fun xs H2 => Q (x :: xs) H2
section
variable {X : Cx} {e : Expr} {es : List Expr} {te : TE} {t : TA} {pos : Pos}
theorem pa_nil : PA X [] tNil := fun _ _ _ _ H Q I h => Calls.spliced_nil ⟨[], H, I, .nil, h⟩
theorem pa_cons (ha : PE X e te) (hr : PA X es t) (hs : starEach (e :: es) X.env = (false, eval e X.env) :: starEach es X.env := by rfl) : PA X (e :: es) (tCons te t) := by
  intro pos pins s σ H Q I h
  rw [hs]
  show wpAny _ _ (spliced ((false, eval e X.env) :: backTo pos (starEach es X.env))) _ _ s
  refine Calls.spliced_cons (thn (ha pins s σ H _ I h) fun u s1 ⟨x, H1, I1, r1, q1⟩ => ?_)
  exact thn (hr pos pins s1 σ H1 _ I1 q1) fun us s2 ⟨xs, H2, I2, r2, q2⟩ => ⟨x :: xs, H2, I2, .cons r1 r2, q2⟩
def tTup (t : TA) : TE := fun σ H Q => t σ H fun xs H1 => xs.length ≤ sizeLine ∧ ∀ p, H1 p = none → Q (.ref p) (upd H1 p (.tup xs))
def tLst (t : TA) : TE := fun σ H Q => t σ H fun xs H1 => xs.length ≤ sizeLine ∧ ∀ p, H1 p = none → Q (.ref p) (upd H1 p (.lst xs))
end
abbrev Sp := List V → Hp → VK → XK → Prop
abbrev CXT := List Env → Hp → Shared → XK → Value → Shared → Prop
structure Env0 (P : Program) (w : World) (K : PySem.W.Frag) (mg : Str → Option Value) (base : Heap) (A : Around) (outer : List Env) (s : Shared) (H : Hp) : Prop where
  frames : A.frames = some outer
  mod : Mod K mg base
  bs : ∀ b o, base.get? b = some o → s.heap.get? b = some o ∧ H b = none
  bsz : base.objs.size ≤ s.heap.objs.size
  funs : s.heap.FunFrames base outer
  frf : ∀ b ∈ frs outer, H b = none
  hok : HOk P w H s.heap
  bare : AllBare s.gens
def CE (outer : List Env) (P : Program) (w : World) (H : Hp) (s : Shared) (Q : VK) (u : Value) (s' : Shared) : Prop :=
  ∃ v H', s'.os = s.os ∧ AllBare s'.gens ∧ Un (frs outer) [] H H' s.heap s'.heap ∧ HOk P w H' s'.heap ∧ RelV v u ∧ Q v H'
def CR (CX : CXT) (outer : List Env) (P : Program) (w : World) (H : Hp) (s : Shared) (Q : VK) (E : XK) (r : Result) (s' : Shared) : Prop :=
  match r with
  | .ok (.ret u) => CE outer P w H s Q u s'
  | .ok _ => False
  | .error e => CX outer H s E e s'
structure FnOk (P : Program) (w : World) (K : PySem.W.Frag) (mg : Str → Option Value) (base : Heap) (CX : CXT) (k : Nat) (f : Addr) (fd : FuncData) (ps : List Str) (sp : Sp) : Prop where
  len : ∀ vs H Q E, sp vs H Q E → vs.length = ps.length
  run : ∀ (A : Around) (outer : List Env) (s : Shared) (H : Hp) (args : Args) (us : List Value) (vs : List V) (Q : VK) (E : XK), Room k A → Env0 P w K mg base A outer s H → BindsTo s fd args (ps.zip us) → Vals vs us → sp vs H Q E →
    codeAny (model P w) A (.call (.ref f) args) (CR CX outer P w H s Q E) s
theorem FnOk.mono {P : Program} {w : World} {K : PySem.W.Frag} {mg : Str → Option Value} {base : Heap} {CX : CXT} {j k : Nat} {f : Addr} {fd : FuncData} {ps : List Str} {sp : Sp} (F : FnOk P w K mg base CX j f fd ps sp) (h : j ≤ k) :
    FnOk P w K mg base CX k f fd ps sp := ⟨F.len, fun A outer s H args us vs Q E hr => F.run A outer s H args us vs Q E (hr.mono h)⟩
section
variable {X : Cx} {pins : List (Addr × Obj)} {σ : St} {H : Hp} {s s' : Shared}
theorem Inv.env0 (I : Inv X pins σ H s) : Env0 X.prog X.w X.K X.mg X.base X.A X.stack s H :=
  ⟨I.ok.frames, I.ok.mod, I.bs, Nat.le_trans I.ok.bsz I.sz, I.stack, I.stkFree, I.hok, I.bare⟩
theorem Inv.after {Q : VK} {u : Value} (I : Inv X pins σ H s) (h : CE X.stack X.prog X.w H s Q u s') : EP X pins σ Q u s' := by
  obtain ⟨v, H', os, bare, un, hok, r, q⟩ := h
  obtain ⟨hh, g, d, t, os'⟩ := s'
  obtain rfl : os' = s.os := os
  exact ⟨v, H', I.call (h' := hh) (g' := g) (d' := d) (t' := t) (ch := []) un hok bare (fun b z => absurd z (by simp)), r, q⟩
end
def tCall (sp : Sp) (dvs : List V) (E : XK) (t : TA) : TE := fun σ H Q => t σ H fun vs H1 => sp (vs ++ dvs) H1 Q E
def Binds (K : PySem.W.Frag) (fd : FuncData) (ps : List Str) (ds : List Value) : Prop :=
  ∀ (s : Shared) (us : List Value), K.In s.heap → (us ++ ds).length = ps.length → BindsTo s fd ⟨us, []⟩ (ps.zip (us ++ ds))
theorem Binds.all {K : PySem.W.Frag} {fd : FuncData} {ps : List Str} (h : ∀ us : List Value, us.length = ps.length → bindArgs fd ⟨us, []⟩ = pure (ps.zip us)) : Binds K fd ps [] := fun s us _ hl => by
  rw [List.append_nil] at hl ⊢
  exact .of_eq (h us hl)
def Passes (CX : CXT) (X : Cx) (E : XK) : Prop := ∀ (pins : List (Addr × Obj)) (σ : St) (H : Hp) (s : Shared) (e : Value) (s' : Shared), Inv X pins σ H s → CX X.stack H s E e s' → X.xe e s'
section
variable {X : Cx} {CX : CXT} {k : Nat} {f C : Addr} {fd : FuncData} {ps : List Str} {sp : Sp} {dvs : List V} {ds : List Value} {E : XK} {x m : Str} {p pos apos : Pos} {e o : Expr} {es : List Expr} {ta : TE} {t : TA}
theorem run_fn {pins : List (Addr × Obj)} {σ : St} {H : Hp} {s : Shared} {Q : VK} {us : List Value} {vs : List V} (F : FnOk X.prog X.w X.K X.mg X.base CX k f fd ps sp) (hr : Room k X.A) (hb : Binds X.K fd ps ds) (hd : Vals dvs ds) (hx : Passes CX X E)
    (I : Inv X pins σ H s) (r : Vals vs us) (h : sp (vs ++ dvs) H Q E) : wpAny (model X.prog X.w) X.A (call (.ref f) us) (EP X pins σ Q) X.xe s := by
  have r2 : Vals (vs ++ dvs) (us ++ ds) := r.append hd
  have hl : (us ++ ds).length = ps.length := by rw [← r2.length]; exact F.len _ _ _ _ h
  refine wpAny_call (codeAny_mono (F.run X.A X.stack s H ⟨us, []⟩ (us ++ ds) (vs ++ dvs) Q E hr I.env0 (hb s us I.kIn hl) r2 h) fun r s' hq => ?_)
  cases r with
  | error e => exact hx pins σ H s e s' I hq
  | ok fl =>
    cases fl with
    | ret u => exact I.after hq
    | next => exact False.elim hq
    | brk => exact False.elim hq
    | cont => exact False.elim hq
theorem pe_call (F : FnOk X.prog X.w X.K X.mg X.base CX k f fd ps sp) (hr : Room k X.A) (hg : Gl X x) (hm : X.mg x = some (.ref f)) (hk : PySem.W.keepIn X.K (.ref f) = true) (hb : Binds X.K fd ps ds) (hd : Vals dvs ds) (hx : Passes CX X E)
    (ha : PA X (e :: es) t) (hdb : (x == ("__debug__" : Str)) = false := by decide) (he : starEach (e :: es) X.env = (false, eval e X.env) :: starEach es X.env := by rfl) (hpl : (backTo pos (starEach es X.env)).any (·.1) = false := by rfl) :
    PE X (.Call (.Name x p) (e :: es) [] pos) (tCall sp dvs E t) := by
  intro pins s σ H Q I h
  refine wpAny_Call_Name_kw (ld_glob I hg hm ?_ hdb)
  refine PySem.W.callWith_K (h₀ := X.base) I.ok.mod.kin hk (thn (ha pos pins s σ H _ I h) fun us s1 ⟨vs, H1, I1, r, q⟩ => ⟨I1.kIn, ?_⟩) he hpl
  exact run_fn F hr hb hd hx I1 r q
end
structure FnScope (N P : List Str) (sc : Scope) : Prop where
  kind : sc.kind = .function
  co : sc.isCoroutine = false
  gen : sc.isGenerator = false
  nd : N.Nodup
  pre : N.take P.length = P
  par : ∀ x ∈ P, sc.names.lookup x = some .local ∨ sc.names.lookup x = some .cell
  nofree : ∀ y ∈ sc.names, y.2 ≠ .free
theorem bindL_out {kindOf : Str → Option NameKind} {x : Str} : ∀ {binds : List (Str × Value)} {m : Str → Option Value}, (∀ v, (x, v) ∉ binds) → bindL kindOf binds m x = m x
  | [], _, _ => rfl
  | (n, v) :: r, m, h => by
    unfold bindL
    rw [bindL_out fun w hw => h w (List.mem_cons_of_mem _ hw)]
    split
    · have : x ≠ n := by rintro rfl; exact h v List.mem_cons_self
      simp [this]
    · rfl
theorem bindC_out {kindOf : Str → Option NameKind} {x : Str} : ∀ {binds : List (Str × Value)} {m : Str → Option Value}, (∀ v, (x, v) ∉ binds) → bindC kindOf binds m x = m x
  | [], _, _ => rfl
  | (n, v) :: r, m, h => by
    unfold bindC
    rw [bindC_out fun w hw => h w (List.mem_cons_of_mem _ hw)]
    split
    · rfl
    · have : x ≠ n := by rintro rfl; exact h v List.mem_cons_self
      simp [this]
theorem bindL_get {kindOf : Str → Option NameKind} {x : Str} {v : Value} : ∀ {P : List Str} {vs : List Value} {i : Nat} {m : Str → Option Value}, P.Nodup → P[i]? = some x → vs[i]? = some v → kindOf x = some .local →
    bindL kindOf (P.zip vs) m x = some v
  | [], _, _, _, _, h, _, _ => by simp at h
  | _ :: _, [], _, _, _, _, h, _ => by simp at h
  | p :: P, w :: vs, 0, m, nd, h1, h2, hk => by
    simp at h1 h2; subst h1; subst h2
    show bindL kindOf ((p, w) :: P.zip vs) m p = _
    unfold bindL
    rw [bindL_out fun v hv => (List.nodup_cons.mp nd).1 (List.of_mem_zip hv).1, if_pos hk]
    simp
  | p :: P, w :: vs, i + 1, m, nd, h1, h2, hk => by
    show bindL kindOf ((p, w) :: P.zip vs) m x = _
    unfold bindL
    exact bindL_get (i := i) (List.nodup_cons.mp nd).2 (by simpa using h1) (by simpa using h2) hk
theorem bindC_get {kindOf : Str → Option NameKind} {x : Str} {v : Value} : ∀ {P : List Str} {vs : List Value} {i : Nat} {m : Str → Option Value}, P.Nodup → P[i]? = some x → vs[i]? = some v → kindOf x ≠ some .local →
    bindC kindOf (P.zip vs) m x = some v
  | [], _, _, _, _, h, _, _ => by simp at h
  | _ :: _, [], _, _, _, _, h, _ => by simp at h
  | p :: P, w :: vs, 0, m, nd, h1, h2, hk => by
    simp at h1 h2; subst h1; subst h2
    show bindC kindOf ((p, w) :: P.zip vs) m p = _
    unfold bindC
    rw [bindC_out fun v hv => (List.nodup_cons.mp nd).1 (List.of_mem_zip hv).1, if_neg hk]
    simp
  | p :: P, w :: vs, i + 1, m, nd, h1, h2, hk => by
    show bindC kindOf ((p, w) :: P.zip vs) m x = _
    unfold bindC
    exact bindC_get (i := i) (List.nodup_cons.mp nd).2 (by simpa using h1) (by simpa using h2) hk
def start (N : List Str) (vs : List V) : St := vs.map some ++ List.replicate (N.length - vs.length) none
def cxOf (CX : CXT) (P : Program) (w : World) (K : PySem.W.Frag) (mg : Str → Option Value) (base : Heap) (N : List Str) (qual : Str) (scope : Scope) (f : Addr) (cd : Value) (A : Around) (outer : List Env) (s : Shared) (H : Hp) (E : XK) : Cx where
  prog := P
  w := w
  K := K
  mg := mg
  base := base
  A := A.deeper (envOfC qual scope s.heap.objs.size f cd)
  N := N
  s₀ := s
  H₀ := H
  env := envOfC qual scope s.heap.objs.size f cd
  outer := outer
  stack := envOfC qual scope s.heap.objs.size f cd :: outer
  ex := []
  calm := true
  fn := fun _ => true
  pn := []
  xe := fun e s' => wpAny (model P w) (A.deeper (envOfC qual scope s.heap.objs.size f cd)) (leaving (envOfC qual scope s.heap.objs.size f cd) e) (fun _ s'' => CX outer H s E e s'') (fun e' s'' => CX outer H s E e' s'') s'
theorem cell_has {sc : Scope} {n : Nat} {x : Str} (h : sc.names.lookup x = some .cell) : ∃ c, (cellsFrom n sc.names []).lookup x = some c := by
  have q := PySem.W.cellsFrom_some sc.names n [] (.inl h)
  exact Option.isSome_iff_exists.mp q
theorem inv_start {CX : CXT} {P : Program} {w : World} {K : PySem.W.Frag} {mg : Str → Option Value} {base : Heap} {N ps : List Str} {qual : Str} {scope : Scope} {f : Addr} {cd : Value} {A : Around} {outer : List Env} {s s1 : Shared} {H : Hp} {E : XK} {us : List Value} {vs : List V}
    (S : FnScope N ps scope) (hd : A.handled = none) (e0 : Env0 P w K mg base A outer s H) (hl : vs.length = ps.length) (r : Vals vs us)
    (x : InCallC s s.heap.objs.size (bindL (envOfC qual scope s.heap.objs.size f cd).kindOf (ps.zip us) fun _ => none) (cellsFrom (s.heap.objs.size + 1) scope.names []) (bindC (envOfC qual scope s.heap.objs.size f cd).kindOf (ps.zip us) fun _ => none) s1) :
    Inv (cxOf CX P w K mg base N qual scope f cd A outer s H E) [] (start N vs) H s1 := by
  have hpl : ps.length ≤ N.length := by have := congrArg List.length S.pre; rw [List.length_take] at this; omega
  obtain ⟨h1, tk, rfl, hk⟩ := x.done
  have noA : ∀ b : Addr, b ∉ (cxOf CX P w K mg base N qual scope f cd A outer s H E).ex := fun b z => absurd (show b ∈ ([] : List Addr) from z) (by simp)
  refine ⟨⟨e0.mod, S.kind, rfl, rfl, Nat.le_refl _, fun y z c h1 h2 => ?_, fun y hy => ?_, fun y c _ h => ?_, fun _ => hd, Around.frames_deeper e0.frames, .inr ⟨rfl, rfl⟩, fun b z => absurd z (noA b), e0.bs, e0.bsz, fun b _ _ => noA b, fun b z => absurd z (noA b), e0.funs, e0.frf⟩,
    rfl, e0.bare, Un.kept hk, ⟨_, x.toInCall.ns, fun i y v h1 h2 h3 => ?_⟩, fun y c h => ⟨_, x.cell y c h⟩, e0.hok.fresh (Nat.le_refl _), fun y c h => ?_, fun p hp => absurd (show p ∈ ([] : List (Addr × Obj)) from hp) (by simp), e0.hok.kept hk, ?_⟩
  · exact name_of_addr x.apart (PySem.mem_of_lookup h1) (PySem.mem_of_lookup h2)
  · have hy : scope.names.lookup y = some .cell ∨ scope.names.lookup y = some .free := hy
    rcases hy with hy | hy
    · exact cell_has hy
    · exact absurd rfl (S.nofree _ (PySem.mem_of_lookup hy))
  · exact Nat.le_of_lt (x.above y c (PySem.mem_of_lookup h))
  · have hi : i < vs.length := by
      unfold start at h2
      by_cases hi : i < vs.length
      · exact hi
      · rw [List.getElem?_append_right (by simpa using hi)] at h2
        rw [List.getElem?_replicate] at h2
        split at h2 <;> cases h2
    have ha : vs[i]? = some v := by
      unfold start at h2
      rw [List.getElem?_append_left (by simpa using hi), List.getElem?_map] at h2
      cases e : vs[i]? with
      | none => rw [e] at h2; cases h2
      | some a => rw [e] at h2; cases h2; rfl
    obtain ⟨u, hu, rv⟩ := r.get ha
    have hp : ps[i]? = some y := by
      rw [← S.pre, List.getElem?_take_of_lt (by omega)]; exact h1
    have ndP : ps.Nodup := by rw [← S.pre]; exact S.nd.sublist (List.take_sublist _ _)
    refine ⟨u, rv, ?_⟩
    rcases S.par y (List.mem_of_getElem? hp) with k | k
    · exact .inl ⟨k, bindL_get ndP hp hu k⟩
    · obtain ⟨c, e⟩ := cell_has (n := s.heap.objs.size + 1) k
      refine .inr ⟨.inl k, c, e, ?_⟩
      have q := x.cell y c e
      rw [bindC_get ndP hp hu (by show scope.names.lookup y ≠ _; rw [k]; decide)] at q
      exact q
  · exact e0.hok.fresh (Nat.le_of_lt (x.above y c (PySem.mem_of_lookup h)))
  · unfold start
    show _ = N.length
    rw [List.length_append, List.length_map, List.length_replicate]
    omega
theorem fn_of {CX : CXT} {P : Program} {w : World} {K : PySem.W.Frag} {mg : Str → Option Value} {base : Heap} {k : Nat} {f : Addr} {name qual : Str} {params : Arguments} {body : List Stmt} {scope : Scope} {dV kV doc pm cdv ct oc : Value} {an od : Option Addr}
    {osl : Array (Option Value)} {N ps : List Str} {sp : Sp} (lk : K.lookup f = some ⟨oc, od, .func (PySem.W.fnOf name qual params body scope dV kV doc pm an cdv ct), osl⟩) (hcd : PySem.W.codeIn K cdv qual = true) (S : FnScope N ps scope)
    (len : ∀ vs H Q E, sp vs H Q E → vs.length = ps.length)
    (hbody : ∀ (A : Around) (outer : List Env) (s : Shared) (H : Hp) (vs : List V) (Q : VK) (E : XK), Room k (A.deeper (envOfC qual scope s.heap.objs.size f cdv)) → sp vs H Q E →
      ∃ t, PSs (cxOf CX P w K mg base N qual scope f cdv A outer s H E) body t ∧ t { nx := fun _ H' => Q .non H', rt := Q } (start N vs) H) :
    FnOk P w K mg base CX (k + 1) f (PySem.W.fnOf name qual params body scope dV kV doc pm an cdv ct) ps sp := by
  refine ⟨len, fun A outer s H args us vs Q E hr e0 hb r hsp => ?_⟩
  have hl := len _ _ _ _ hsp
  have KX : K.In s.heap := e0.mod.kin.keeps fun b o e => (e0.bs b o e).1
  have lim : s.heap.NoLimit := e0.mod.nolimit.keeps fun b o e => (e0.bs b o e).1
  have hkind : ∀ y ∈ ps.zip us, scope.names.lookup y.1 = some .local ∨ (scope.names.lookup y.1 = some .cell ∧ ((cellsFrom (s.heap.objs.size + 1) scope.names []).lookup y.1).isSome = true) := fun ⟨n, v⟩ hy => by
    rcases S.par n (List.of_mem_zip hy).1 with q | q
    · exact .inl q
    · exact .inr ⟨q, PySem.W.cellsFrom_some _ _ _ (.inl q)⟩
  refine codeAny_call_function hr.depth (KX _ _ lk) rfl S.co S.gen rfl (PySem.W.codeRec_of KX hcd) (hb _ _ _ _ ?_)
  refine wpAny_newFunctionEnv_cells S.kind hkind fun env he s1 x => ?_
  subst he
  refine ⟨lim.keeps x.toInCall.keep, codeAny_func ?_⟩
  obtain ⟨t, ht, hq⟩ := hbody A outer s H vs Q E (hr.deeper _) hsp
  have I : Inv (cxOf CX P w K mg base N qual scope f cdv A outer s H E) [] (start N vs) H s1 := inv_start S hr.hd e0 hl r x
  refine wpAny_mono (ht [] s1 (start N vs) H _ I hq) (fun fl s' hs => ?_) fun e s' hs => hs
  have fin : ∀ {σ' : St} {H' : Hp} {v : V} {u : Value}, Inv (cxOf CX P w K mg base N qual scope f cdv A outer s H E) [] σ' H' s' → RelV v u → Q v H' → CE outer P w H s Q u s' :=
    fun {σ' H' v u} J rv q => ⟨v, H', J.os, J.bare, J.base, J.hok, rv, q⟩
  cases fl with
  | ret u =>
    obtain ⟨v, σ', H', J, rv, q⟩ := hs
    exact fin J rv q
  | next =>
    obtain ⟨σ', H', J, q⟩ := hs
    exact fin (v := V.non) (u := Value.none) J rfl q
  | brk =>
    obtain ⟨_, _, _, q⟩ := hs
    exact False.elim q
  | cont =>
    obtain ⟨_, _, _, q⟩ := hs
    exact False.elim q
end L2
namespace L2
open PySem PySem.Spec PyProof.Rows
section
variable {X : Cx} {x : Str} {p pos : Pos} {e : Expr} {es : List Expr} {t : TA} {id T : String} {r : List V → Hp → VK → Prop}
def tCB (r : List V → Hp → VK → Prop) (t : TA) : TE := fun σ H Q => t σ H fun vs H1 => r vs H1 Q
theorem pe_callB (hc : CallR X (.builtin id) r) (hg : Gl X x) (hm : X.mg x = none) (hv : bootBuiltins x = some (.builtin id)) (ha : PA X (e :: es) t) (hn : x ≠ "__name__" := by decide) (hdb : (x == ("__debug__" : Str)) = false := by decide)
    (he : starEach (e :: es) X.env = (false, eval e X.env) :: starEach es X.env := by rfl) (hpl : (backTo pos (starEach es X.env)).any (·.1) = false := by rfl) : PE X (.Call (.Name x p) (e :: es) [] pos) (tCB r t) := by
  intro pins s σ H Q I h
  refine wpAny_Call_Name_kw (ld_blt I hg hm hv ?_ hn hdb)
  exact PyProof.Rows.callWith_builtin1 (thn (ha pos pins s σ H _ I h) fun us s1 ⟨vs, H1, I1, r1, q1⟩ => hc pins s1 σ H1 vs us Q I1 r1 q1) he hpl
theorem pe_callTy (hc : CallR X (.type T) r) (hg : Gl X x) (hm : X.mg x = none) (hv : bootBuiltins x = some (.type T)) (ha : PA X (e :: es) t) (hn : x ≠ "__name__" := by decide) (hdb : (x == ("__debug__" : Str)) = false := by decide)
    (he : starEach (e :: es) X.env = (false, eval e X.env) :: starEach es X.env := by rfl) (hpl : (backTo pos (starEach es X.env)).any (·.1) = false := by rfl) : PE X (.Call (.Name x p) (e :: es) [] pos) (tCB r t) := by
  intro pins s σ H Q I h
  refine wpAny_Call_Name_kw (ld_blt I hg hm hv ?_ hn hdb)
  exact PyProof.Rows.callWith_type1 (thn (ha pos pins s σ H _ I h) fun us s1 ⟨vs, H1, I1, r1, q1⟩ => hc pins s1 σ H1 vs us Q I1 r1 q1) he hpl
end
end L2
namespace HT
open PySem PyProof.Rows
def lexLt : List Int → List Int → Bool
  | [], [] => false
  | [], _ :: _ => true
  | _ :: _, [] => false
  | x :: xs, y :: ys => if x = y then lexLt xs ys else decide (x < y)
section
open PySem.SeqAt
open PySem.AutoSeq1 (wpAny_loadPart')
open PySem.MeetsSeq PySem.MeetsSeq2 PySem.MeetsSeq3
end
section
variable {prog : Program} {w : World} {A : Around} {E : Value → Shared → Prop} {s : Shared}
def sIx (n d : Nat) : Option Int → Nat
  | none => d
  | some v => if v < 0 then (v + (n : Int)).toNat else min v.toNat n
end
end HT
namespace L2
open PySem PySem.Spec PyProof.Rows
abbrev TO := St → Hp → (Option Int → Hp → Prop) → Prop
def PO (X : Cx) (e : Option Expr) (t : TO) : Prop :=
  ∀ (pins : List (Addr × Obj)) (s : Shared) (σ : St) (H : Hp) (Q : Option Int → Hp → Prop), Inv X pins σ H s → t σ H Q →
    wpAny (model X.prog X.w) X.A (evalPart e X.env) (fun u s' => ∃ o H', Inv X pins σ H' s' ∧ IsPart u o ∧ Q o H') X.xe s
def tNoPart : TO := fun _ H Q => Q none H
def tPart (t : TE) : TO := fun σ H Q => t σ H fun x H1 => ∃ i, x = .int i ∧ Q (some i) H1
theorem intsAre_of {ns : List Int} : ∀ {us : List Value}, Vals (ns.map V.int) us → IntsAre us ns := by
  induction ns with
  | nil => intro us r; rw [List.map_nil] at r; cases r; exact .nil
  | cons n ns ih =>
    intro us r
    rw [List.map_cons] at r
    cases r with
    | cons r1 r2 =>
      obtain ⟨t, e⟩ := r1
      subst e
      exact .cons n t (ih r2)
section
variable {X : Cx} {e : Expr} {te : TE} {lo hi : Option Expr} {tl th : TO} {pos p2 : Pos}
theorem po_none : PO X none tNoPart := by
  intro pins s σ H Q I h
  rw [evalPart_none]
  exact wpAny_pure ⟨none, H, I, .none, h⟩
theorem po_some (h : PE X e te) : PO X (some e) (tPart te) := by
  intro pins s σ H Q I hw
  rw [evalPart_some]
  refine thn (h pins s σ H _ I hw) fun u s1 ⟨x, H1, I1, r1, q1⟩ => ?_
  obtain ⟨i, rfl, q⟩ := q1
  obtain ⟨t, rfl⟩ := r1
  exact ⟨some i, H1, I1, .int i t, q⟩
def SlR (X : Cx) (r : V → Option Int → Option Int → Hp → VK → Prop) : Prop :=
  ∀ (pins : List (Addr × Obj)) (s : Shared) (σ : St) (H : Hp) (x : V) (v vl vu : Value) (lo hi : Option Int) (sl : Addr) (Q : VK), Inv X pins σ H s → RelV x v → s.heap.IsSliceOf sl vl vu .none → IsPart vl lo → IsPart vu hi → r x lo hi H Q →
    ∃ T id, typeLookup (.type T) "__getitem__" = pure (some (.builtin id)) ∧ s.TypeIs v T ∧ wpAny (model X.prog X.w) X.A (getItem v (.ref sl)) (EP X pins σ Q) X.xe s
def tSl (r : V → Option Int → Option Int → Hp → VK → Prop) (te : TE) (tl th : TO) : TE := fun σ H Q => te σ H fun x H1 => tl σ H1 fun l H2 => th σ H2 fun u H3 => r x l u H3 Q
theorem pe_slice {r : V → Option Int → Option Int → Hp → VK → Prop} (hr : SlR X r) (he : PE X e te) (hl : PO X lo tl) (hu : PO X hi th) : PE X (.Subscript e (.Slice lo hi none p2) pos) (tSl r te tl th) := by
  intro pins s σ H Q I h
  refine Subscript_ (thn (he pins s σ H _ I h) fun v s1 ⟨x, H1, I1, r1, q1⟩ => ?_)
  refine wpAny_Slice (thn (hl pins s1 σ H1 _ I1 q1) fun vl s2 ⟨l, H2, I2, pl, q2⟩ => thn (hu pins s2 σ H2 _ I2 q2) fun vu s3 ⟨u, H3, I3, pu, q3⟩ => ?_)
  rw [evalPart_none]
  refine wpAny_pure ?_
  have I4 : Inv X pins σ H3 { s3 with heap := s3.heap.push { cls := .type "slice", data := .fields #[vl, vu, .none] } } := I3.kept (t' := s3.toks) fun b ob q => Heap.get?_push_of_some _ q
  obtain ⟨T, id, hT, ht, hg⟩ := hr pins { s3 with heap := s3.heap.push { cls := .type "slice", data := .fields #[vl, vu, .none] } } σ H3 x v vl vu l u s3.heap.objs.size Q I4 r1 (Heap.IsSliceOf.new ..) pl pu q3
  show wpAny (model X.prog X.w) X.A (subscriptTail e (.Slice lo hi none p2) v (.ref s3.heap.objs.size)) (EP X pins σ Q) X.xe { s3 with heap := s3.heap.push { cls := .type "slice", data := .fields #[vl, vu, .none] } }
  exact tail_any (ops := [.ref s3.heap.objs.size, v]) ht hT hg (by with_unfolding_all rfl)
def cutV (xs : List V) (lo hi : Option Int) : List V := (xs.drop (HT.sIx xs.length 0 lo)).take (HT.sIx xs.length xs.length hi - HT.sIx xs.length 0 lo)
theorem cutV_length (xs : List V) (lo hi : Option Int) : (cutV xs lo hi).length ≤ xs.length := by
  unfold cutV
  rw [List.length_take, List.length_drop]
  omega
def rSlT (K : PySem.W.Frag) : V → Option Int → Option Int → Hp → VK → Prop := fun x lo hi H Q => ∃ a xs, x = .ref a ∧ SqT K H a xs ∧
  ¬ (HT.sIx xs.length 0 lo = 0 ∧ HT.sIx xs.length xs.length hi = xs.length) ∧ ∀ p, H p = none → Q (.ref p) (upd H p (.tup (cutV xs lo hi)))
end
end L2
namespace L2
open PySem PySem.Spec PyProof.Rows
def ixN (n : Nat) (i : Int) : Option Nat := if 0 ≤ i then (if i < n then some i.toNat else none) else if -(n : Int) ≤ i then some (i + n).toNat else none
def atI {α : Type} (xs : List α) (i : Int) : Option α := (ixN xs.length i).bind fun j => xs[j]?
theorem ixN_seq {n : Nat} {i : Int} {j : Nat} (h : ixN n i = some j) : seqIndex? i n = some j ∧ j < n ∧ -(n : Int) ≤ i ∧ i < n := by
  unfold ixN at h
  by_cases h0 : 0 ≤ i
  · rw [if_pos h0] at h
    by_cases h1 : i < n
    · rw [if_pos h1] at h
      have e : i.toNat = j := Option.some.inj h
      exact ⟨by rw [seqIndex_of h0 h1, e], by omega, by omega, h1⟩
    · rw [if_neg h1] at h; cases h
  · rw [if_neg h0] at h
    by_cases h1 : -(n : Int) ≤ i
    · rw [if_pos h1] at h
      have e : (i + n).toNat = j := Option.some.inj h
      exact ⟨by rw [seqIndex_neg (by omega) h1, e], by omega, h1, by omega⟩
    · rw [if_neg h1] at h; cases h
theorem atI_get {α : Type} {xs : List α} {i : Int} {v : α} (h : atI xs i = some v) : ∃ j, seqIndex? i xs.length = some j ∧ xs[j]? = some v ∧ j < xs.length ∧ -(xs.length : Int) ≤ i ∧ i < xs.length := by
  unfold atI at h
  cases e : ixN xs.length i with
  | none => rw [e] at h; cases h
  | some j =>
    rw [e] at h
    obtain ⟨h1, h2, h3, h4⟩ := ixN_seq e
    exact ⟨j, h1, h, h2, h3, h4⟩
theorem atI_nat {α : Type} {xs : List α} {j : Nat} {v : α} (h : xs[j]? = some v) : atI xs (j : Int) = some v := by
  have hj : j < xs.length := (List.getElem?_eq_some_iff.mp h).1
  have e : ixN xs.length (j : Int) = some j := by
    unfold ixN
    rw [if_pos (by omega), if_pos (by omega)]; simp
  unfold atI; rw [e]; exact h
def PlainIx (b : Expr) : Prop := ∀ o i, subscripted b false o i = operate [o, i] (getItem o i)
def IxR (X : Cx) (r : R2) : Prop :=
  ∀ (value slice : Expr) (pins : List (Addr × Obj)) (s : Shared) (σ : St) (H : Hp) (x y : V) (v u : Value) (Q : VK), Inv X pins σ H s → RelV x v → RelV y u → r x y H Q →
    subscripted slice false v u = operate [v, u] (getItem v u) → wpAny (model X.prog X.w) X.A (subscriptTail value slice v u) (EP X pins σ Q) X.xe s
def MtR (X : Cx) (id : String) (r : V → List V → Hp → VK → Prop) : Prop :=
  ∀ (pins : List (Addr × Obj)) (s : Shared) (σ : St) (H : Hp) (x : V) (xs : List V) (v : Value) (us : List Value) (Q : VK), Inv X pins σ H s → RelV x v → Vals xs us → r x xs H Q →
    wpAny (model X.prog X.w) X.A (call (.builtin id) (v :: us)) (EP X pins σ Q) X.xe s
section
variable {X : Cx} {a b : Expr} {ta tb : TE} {pos : Pos}
theorem pe_ix {r : R2} (hr : IxR X r) (ha : PE X a ta) (hb : PE X b tb) (hs : PlainIx b) : PE X (.Subscript a b pos) (tOp r ta tb) := by
  intro pins s σ H Q I h
  exact Subscript_ (binT ha hb I h fun v u s2 x y H2 I2 rx ry q => hr a b pins s2 σ H2 x y v u Q I2 rx ry q (hs _ _))
def rIxL (K : PySem.W.Frag) : R2 := fun x y H Q => ∃ p xs i v, x = .ref p ∧ y = .int i ∧ SqL K H p xs ∧ atI xs i = some v ∧ Q v H
def rIxT (K : PySem.W.Frag) : R2 := fun x y H Q => ∃ p xs i v, x = .ref p ∧ y = .int i ∧ SqT K H p xs ∧ atI xs i = some v ∧ Q v H
def rIxS : R2 := fun x y H Q => ∃ z i c, x = .str z ∧ y = .int i ∧ z.length ≤ sizeLine ∧ atI z.cps.toList i = some c ∧ Q (.str ⟨#[c]⟩) H
theorem ix_list : IxR X (rIxL X.K) := by
  intro value slice pins s σ H x y v u Q I rx ry h hs
  obtain ⟨p, xs, i, z, rfl, rfl, hq, he, q⟩ := h
  cases rx
  obtain ⟨t, rfl⟩ := ry
  obtain ⟨its, r, pl, hz⟩ := I.list hq
  obtain ⟨j, h1, h2, h3, h4, h5⟩ := atI_get he
  obtain ⟨w, ew, rw'⟩ := r.get h2
  have hl := r.length
  have hn := line63
  have fin : EP X pins σ Q w s := ⟨z, H, I, rw', q⟩
  by_cases h0 : 0 ≤ i
  · have hj : i.toNat = j := by
      rw [seqIndex_of h0 h5] at h1
      exact Option.some.inj h1
    exact item_listR pl.isList h0 (by omega) (by rw [hj]; simpa using ew) fin hs
  · have hj : (i + (its.toArray.size : Int)).toNat = j := by
      rw [seqIndex_neg (by omega) h4] at h1
      rw [List.size_toArray, ← hl]
      exact Option.some.inj h1
    exact subscriptTail_builtinR (x := w) pl.isList.typeIs slot_list_getitem.lookup
      (wpAny_getItem_list_neg (Q := fun r s' => r = w ∧ EP X pins σ Q r s') pl.isList (by omega) (by rw [List.size_toArray] <;> omega) (by omega) (by rw [hj]; simpa using ew) ⟨rfl, fin⟩) hs
theorem ix_tup : IxR X (rIxT X.K) := by
  intro value slice pins s σ H x y v u Q I rx ry h hs
  obtain ⟨p, xs, i, z, rfl, rfl, hq, he, q⟩ := h
  cases rx
  obtain ⟨t, rfl⟩ := ry
  obtain ⟨its, r, pl, hz⟩ := I.tuple hq
  obtain ⟨j, h1, h2, h3, h4, h5⟩ := atI_get he
  obtain ⟨w, ew, rw'⟩ := r.get h2
  have hl := r.length
  have hn := line63
  have fin : EP X pins σ Q w s := ⟨z, H, I, rw', q⟩
  exact subscriptTail_builtinR (x := w) pl.typeIs slot_tuple_getitem.lookup
    (getItem_tuple (j := j) (Q := fun r s' => r = w ∧ EP X pins σ Q r s') pl (by omega) (by omega) (by rw [List.size_toArray, ← hl]; exact h1) (by simpa using ew) ⟨rfl, fin⟩) hs
def rSetL : V → V → V → Hp → (Hp → Prop) → Prop := fun o i v H Q => ∃ p xs k j, o = .ref p ∧ i = .int k ∧ H p = some (.lst xs) ∧ ixN xs.length k = some j ∧ Q (upd H p (.lst (xs.set j v)))
theorem slice_bounds (lo hi : Option Int) (n : Nat) : (sliceBounds lo hi none n).1 = ((HT.sIx n 0 lo : Nat) : Int) ∧ (sliceBounds lo hi none n).2.1 = ((HT.sIx n n hi : Nat) : Int) ∧ (sliceBounds lo hi none n).2.2 = 1 := by
  refine ⟨?_, ?_, rfl⟩
  · cases lo with
    | none => simp [sliceBounds, HT.sIx]
    | some i =>
      simp only [sliceBounds, HT.sIx, Option.getD_none, show (1 : Int) > 0 by decide, if_true]
      by_cases h : i < 0
      · simp only [h, if_true] <;> omega
      · simp only [h, if_false] <;> omega
  · cases hi with
    | none => simp [sliceBounds, HT.sIx]
    | some i =>
      simp only [sliceBounds, HT.sIx, Option.getD_none, show (1 : Int) > 0 by decide, if_true]
      by_cases h : i < 0
      · simp only [h, if_true] <;> omega
      · simp only [h, if_false] <;> omega
theorem slicePick_cut (its : List Value) (lo hi : Option Int) : slicePick its.toArray lo hi none = ((its.drop (HT.sIx its.length 0 lo)).take (HT.sIx its.length its.length hi - HT.sIx its.length 0 lo)).toArray := by
  obtain ⟨h1, h2, h3⟩ := slice_bounds lo hi its.toArray.size
  unfold slicePick
  rw [h1, h2, h3]
  simp only [sliceRange_one, pick_run, List.size_toArray] <;> rfl
def rSlL (K : PySem.W.Frag) : V → Option Int → Option Int → Hp → VK → Prop := fun x lo hi H Q => ∃ a xs, x = .ref a ∧ SqL K H a xs ∧ ∀ p, H p = none → Q (.ref p) (upd H p (.lst (cutV xs lo hi)))
theorem sl_list : SlR X (rSlL X.K) := by
  intro pins s σ H x v vl vu lo hi sl Q I rx hs pl pu h
  obtain ⟨a, xs, rfl, hx, q⟩ := h
  cases rx
  obtain ⟨its, r, ht, hz⟩ := I.list hx
  have hlen := r.length
  refine ⟨"list", _, slot_list_getitem.lookup, ht.isList.typeIs, ?_⟩
  refine wpAny_getItem_list_slice ht.isList hs pl pu .none (by simp) ?_ (by rw [List.size_toArray] <;> omega)
  rw [slicePick_cut, ← hlen]
  refine ⟨.ref s.heap.objs.size, _, I.laid (t' := s.toks) (o := .lst (cutV xs lo hi)) (fun b ob q => Heap.get?_push_of_some _ q) (Nat.le_refl _) ?_, rfl, q _ (I.hok.fresh (Nat.le_refl _))⟩
  exact ⟨Nat.le_trans (cutV_length xs lo hi) hz, _, 0, (r.drop (HT.sIx xs.length 0 lo)).take (HT.sIx xs.length xs.length hi - HT.sIx xs.length 0 lo), Heap.get?_push_size _ rfl⟩
def flatV : V → Bool
  | .non => true
  | .bl _ => true
  | .int _ => true
  | .str _ => true
  | _ => false
def eqV : V → V → Bool
  | .non, .non => true
  | .bl a, .bl b => a == b
  | .bl a, .int b => (if a then 1 else 0) == b
  | .int a, .bl b => a == (if b then 1 else 0)
  | .int a, .int b => a == b
  | .str a, .str b => a == b
  | _, _ => false
theorem eqAt_V {A : Around} {s : Shared} {y x : V} {u v : Value} (ry : RelV y u) (rx : RelV x v) (fy : flatV y = true) (fx : flatV x = true) : SeqAt.EqAt A s u v (eqV y x) := by
  cases y with
  | non =>
    cases ry
    cases x with
    | non => cases rx; exact SeqAt.EqAt.same _
    | bl b => cases rx; exact SeqAt.EqAt.none_bool b
    | int b => obtain ⟨t, rfl⟩ := rx; exact SeqAt.EqAt.none_int b t
    | str b => obtain ⟨t, rfl⟩ := rx; exact SeqAt.EqAt.none_str b t
    | _ => exact absurd (show false = true from fx) Bool.false_ne_true
  | bl a =>
    cases ry
    cases x with
    | non => cases rx; exact SeqAt.EqAt.bool_none a
    | bl b => cases rx; exact SeqAt.EqAt.bool_bool a b
    | int b => obtain ⟨t, rfl⟩ := rx; exact SeqAt.EqAt.bool_int a b t
    | str b => obtain ⟨t, rfl⟩ := rx; exact SeqAt.EqAt.bool_str a b t
    | _ => exact absurd (show false = true from fx) Bool.false_ne_true
  | int a =>
    obtain ⟨t', rfl⟩ := ry
    cases x with
    | non => cases rx; exact SeqAt.EqAt.int_none a t'
    | bl b => cases rx; exact SeqAt.EqAt.int_bool a t' b
    | int b => obtain ⟨t, rfl⟩ := rx; exact SeqAt.EqAt.int_int a t' b t
    | str b => obtain ⟨t, rfl⟩ := rx; exact SeqAt.EqAt.int_str a t' b t
    | _ => exact absurd (show false = true from fx) Bool.false_ne_true
  | str a =>
    obtain ⟨t', rfl⟩ := ry
    cases x with
    | non => cases rx; exact SeqAt.EqAt.str_none a t'
    | bl b => cases rx; exact SeqAt.EqAt.str_bool a t' b
    | int b => obtain ⟨t, rfl⟩ := rx; exact SeqAt.EqAt.str_int a t' b t
    | str b => obtain ⟨t, rfl⟩ := rx; exact SeqAt.EqAt.str_str a t' b t
    | _ => exact absurd (show false = true from fx) Bool.false_ne_true
  | _ => exact absurd (show false = true from fy) Bool.false_ne_true
def inV (x : V) (xs : List V) : Bool := xs.any fun y => eqV y x
def rIn (K : PySem.W.Frag) (neg : Bool) : R2 := fun x y H Q => ∃ p xs, y = .ref p ∧ (SqL K H p xs ∨ SqT K H p xs) ∧ flatV x = true ∧ xs.all flatV = true ∧ Q (.bl (if neg then !inV x xs else inV x xs)) H
theorem call_len_seq : CallR X (.builtin "len") (fun xs H Q => ∃ p ys, xs = [.ref p] ∧ (SqL X.K H p ys ∨ SqT X.K H p ys) ∧ Q (.int ys.length) H) := by
  intro pins s σ H xs us Q I r h
  obtain ⟨p, ys, rfl, hq, q⟩ := h
  obtain ⟨u, rfl, rx⟩ := vals1 r
  cases rx
  have hn := line63
  rcases hq with hq | hq
  · obtain ⟨its, r', pl, hz⟩ := I.list hq
    have hlen := r'.length
    exact Calls.call_len_list pl.isList (by simp only [List.size_toArray] <;> omega) ⟨.int ys.length, H, I.tok _, ⟨s.toks + 1, by rw [List.size_toArray, hlen]⟩, q⟩
  · obtain ⟨its, r', pl, hz⟩ := I.tuple hq
    have hlen := r'.length
    exact len_tuple pl (by simp only [List.size_toArray] <;> omega) ⟨.int ys.length, H, I.tok _, ⟨s.toks + 1, by rw [List.size_toArray, hlen]⟩, q⟩
theorem call_tuple_of : CallR X (.type "tuple") (fun xs H Q => ∃ p ys, xs = [.ref p] ∧ ((SqL X.K H p ys ∧ ∀ l, H l = none → Q (.ref l) (upd H l (.tup ys))) ∨ (SqT X.K H p ys ∧ Q (.ref p) H))) := by
  intro pins s σ H xs us Q I r h
  obtain ⟨p, ys, rfl, h⟩ := h
  obtain ⟨u, rfl, rx⟩ := vals1 r
  cases rx
  rcases h with ⟨hq, q⟩ | ⟨hq, q⟩
  · obtain ⟨its, r', pl, hz⟩ := I.list hq
    have hlen := r'.length
    refine call_tuple_list pl.isList (fun h' kp => ?_) (by simp only [List.size_toArray] <;> omega)
    have I1 : Inv X pins σ H { s with heap := h' } := I.kept (t' := s.toks) kp
    have I2 : Inv X pins σ (upd H h'.objs.size (.tup ys)) { s with heap := h'.push { cls := .type "tuple", data := .seq its.toArray } } :=
      I1.laid (t' := s.toks) (fun b o e => Heap.get?_push_of_some _ e) (Nat.le_refl _) (show ObjOk X.prog X.w _ _ _ (.tup ys) from ⟨hz, its, r', IsTup.new _ _⟩)
    exact ⟨.ref h'.objs.size, _, I2, rfl, q _ (I1.hok.fresh (Nat.le_refl _))⟩
  · obtain ⟨its, r', pl, hz⟩ := I.tuple hq
    exact call_tuple_same pl ⟨.ref p, H, I, rfl, q⟩
def tyV (K : PySem.W.Frag) (T : String) (x : V) (H : Hp) : Prop := match x with
  | .str _ => T = "str"
  | .int _ => T = "int"
  | .ref p => (T = "list" ∧ ∃ xs, SqL K H p xs) ∨ (T = "tuple" ∧ ∃ o, K.lookup p = some o ∧ o.cls = .type "tuple" ∧ o.dict = none) ∨
      (T = "dict" ∧ ((∃ kvs, H p = some (.dK kvs)) ∨ ∃ kvs, H p = some (.dT kvs))) ∨ (T = "set" ∧ ∃ S n, H p = some (.set S n))
  | _ => False
theorem tyV_is {pins : List (Addr × Obj)} {σ : St} {H : Hp} {s : Shared} {T : String} {x : V} {v : Value} (I : Inv X pins σ H s) (r : RelV x v) (ty : tyV X.K T x H) :
    s.TypeIs v T ∧ ∀ a, v = .ref a → ∃ ob, s.heap.get? a = some ob ∧ ob.dict = none := by
  cases x with
  | str z =>
    obtain ⟨t, rfl⟩ := r
    cases (show T = "str" from ty)
    exact ⟨typeIs_str s z t, fun _ e => nomatch e⟩
  | int i =>
    obtain ⟨t, rfl⟩ := r
    cases (show T = "int" from ty)
    exact ⟨typeIs_int s i t, fun _ e => nomatch e⟩
  | ref p =>
    cases r
    rcases ty with ⟨rfl, xs, hq⟩ | ⟨rfl, o, hk, hc, hd⟩ | ⟨rfl, hk⟩ | ⟨rfl, S, n, hk⟩
    · obtain ⟨its, _, pl, _⟩ := I.list hq
      refine ⟨pl.isList.typeIs, fun a e => ?_⟩
      cases e
      obtain ⟨o, n, e, c, hd, _⟩ := pl
      exact ⟨o, e, hd⟩
    · refine ⟨⟨o, I.kIn p o hk, hc⟩, fun a e => ?_⟩
      cases e
      exact ⟨o, I.kIn _ o hk, hd⟩
    · have z : ∃ o, s.heap.get? p = some o ∧ o.ExactDict := by
        rcases hk with ⟨kvs, hk⟩ | ⟨kvs, hk⟩
        · obtain ⟨_, _, _, _, o, _, _, e, ex, _⟩ := I.hok p _ hk
          exact ⟨o, e, ex⟩
        · obtain ⟨_, _, _, _, o, _, _, e, ex, _⟩ := I.hok p _ hk
          exact ⟨o, e, ex⟩
      obtain ⟨o, e, ex⟩ := z
      refine ⟨⟨o, e, ex.1⟩, fun a e2 => ?_⟩
      cases e2
      exact ⟨o, e, ex.2.1⟩
    · obtain ⟨o, _, _, _, e, ex, _⟩ := I.hok p _ hk
      refine ⟨⟨o, e, ex.1⟩, fun a e2 => ?_⟩
      cases e2
      exact ⟨o, e, ex.2.1⟩
  | _ => exact False.elim ty
def tBM0 (K : PySem.W.Frag) (T : String) (r : V → List V → Hp → VK → Prop) (to : TE) : TE := fun σ H Q => to σ H fun x H1 => tyV K T x H1 ∧ r x [] H1 Q
def tBM (K : PySem.W.Frag) (T : String) (r : V → List V → Hp → VK → Prop) (to : TE) (t : TA) : TE := fun σ H Q => to σ H fun x H1 => tyV K T x H1 ∧ t σ H1 fun xs H2 => r x xs H2 Q
variable {o e : Expr} {es : List Expr} {to : TE} {t : TA} {name : Str} {apos cpos : Pos} {T id : String} {r : V → List V → Hp → VK → Prop}
theorem pe_bm (pa : PlainAttrs T) (slot : Slot T name id) (hty : typeOf (.builtin id) = pure (.type "method_descriptor")) (hm : MtR X id r) (ho : PE X o to) (ha : PA X (e :: es) t)
    (hbase : attributeBase o name X.env (eval o X.env) = eval o X.env := by rfl)
    (hfew : ((backTo cpos (starEach (e :: es) X.env)).all (fun x => !x.1) && (backToKw cpos (keywordEach [] X.env)).all (fun x => x.1.isSome)
      && decide ((e :: es).length + ([] : List Keyword).length + (if ([] : List Keyword).isEmpty then 0 else 1) < 30)) = true := by rfl)
    (hline : (apos.endLine == cpos.line) = true := by rfl) (hs : starEach (e :: es) X.env = (false, eval e X.env) :: starEach es X.env := by rfl) (hplain : (backTo cpos (starEach es X.env)).any (·.1) = false := by rfl) :
    PE X (.Call (.Attribute o name apos) (e :: es) [] cpos) (tBM X.K T r to t) := by
  intro pins s σ H Q I h
  refine wpAny_Call_method_late hbase hfew hline rfl (thn (ho pins s σ H _ I h) fun v s1 ⟨x, H1, I1, r1, ty, q1⟩ => ?_)
  obtain ⟨h1, h2⟩ := tyV_is I1 r1 ty
  refine ⟨T, id, pa, slot, hty, h1, h2, ?_⟩
  have hA := ha cpos pins s1 σ H1 _ I1 q1
  rw [hs] at hA ⊢
  refine Calls.callWith_builtin (by show (false || (backTo cpos (starEach es X.env)).any (·.1)) = false; rw [hplain] <;> rfl) (Calls.evalArgs_plain ?_)
  exact thn hA fun us s2 ⟨vs, H2, I2, r2, q2⟩ => hm pins s2 σ H2 x vs v us Q I2 r1 r2 q2
end
end L2
namespace L2
open PySem PySem.Spec PyProof.Rows
def MtM (X : Cx) (id : String) (r : V → List V → Hp → VK → Prop) : Prop :=
  ∀ (pins : List (Addr × Obj)) (s : Shared) (σ : St) (H : Hp) (x : V) (xs : List V) (v : Value) (us : List Value) (Q : VK), Inv X pins σ H s → RelV x v → Vals xs us → r x xs H Q →
    wpAny (model X.prog X.w) X.A (call (.builtin id) (v :: us)) (EP X pins σ Q) X.xe s
theorem Vals.one : ∀ {x : V} {us : List Value}, Vals [x] us → ∃ u, us = [u] ∧ RelV x u
  | _, _, .cons r .nil => ⟨_, rfl, r⟩
section
variable {X : Cx} {pins : List (Addr × Obj)} {σ : St} {H : Hp} {s : Shared} {l b : Addr} {xs ys zs : List V}
theorem Inv.lset {its its' : List Value} {n : Nat} {f : Array Value → Array Value} {t' : Nat} (I : Inv X pins σ H s) (hH : H l = some (.lst xs))
    (e : s.heap.get? l = some { cls := .type "list", data := .seq its.toArray n }) (hf : f its.toArray = its'.toArray) (hv : Vals ys its') (hz : ys.length ≤ sizeLine) :
    Inv X pins σ (upd H l (.lst ys)) { s with heap := s.heap.update l (Obj.mapSeq f), toks := t' } := by
  have q := PySem.IsL.update e f
  rw [hf] at q
  refine I.write (x := l) (e := l) (by rw [hH]; exact trivial) (.inl rfl) (fun b' u hb hu => (Heap.get?_update_other s.heap (Obj.mapSeq f) (Ne.symm hb)).trans hu) ⟨_, q⟩ ?_
  exact ⟨hz, its', _, hv, q⟩
theorem Inv.lnew {its : List Value} {t' : Nat} (I : Inv X pins σ H s) (hv : Vals ys its) (hz : ys.length ≤ sizeLine) :
    Inv X pins σ (upd H s.heap.objs.size (.lst ys)) { s with heap := s.heap.push { cls := .type "list", data := .seq its.toArray }, toks := t' } :=
  I.laid (fun _ _ q => Heap.get?_push_of_some _ q) (Nat.le_refl _) ⟨hz, its, 0, hv, Heap.get?_push_size _ rfl⟩
theorem Inv.fresh (I : Inv X pins σ H s) : H s.heap.objs.size = none := I.hok.fresh (Nat.le_refl _)
theorem Inv.lstM (I : Inv X pins σ H s) (hH : H l = some (.lst xs)) : xs.length ≤ sizeLine ∧ ∃ (its : List Value) (n : Nat), Vals xs its ∧ xs.length = its.length ∧ s.heap.get? l = some { cls := .type "list", data := .seq its.toArray n } := by
  obtain ⟨z, its, n, r, e⟩ := I.hok l _ hH
  exact ⟨z, its, n, r, r.length, e⟩
end
section
variable {X : Cx}
def rAppend : V → List V → Hp → VK → Prop := fun x vs H Q => ∃ l xs y, x = .ref l ∧ vs = [y] ∧ H l = some (.lst xs) ∧ xs.length < sizeLine ∧ Q .non (upd H l (.lst (xs ++ [y])))
theorem mt_append : MtM X "list.append" rAppend := by
  intro pins s σ H x vs v us Q I rx rv h
  obtain ⟨l, xs, y, rfl, rfl, hH, hz, q⟩ := h
  cases rx
  obtain ⟨u, rfl, ru⟩ := rv.one
  obtain ⟨z, its, n, r, hl, e⟩ := I.lstM hH
  refine call_meets F.slot_list_append ⟨_, e, rfl⟩ F.entry_list_append (F.args_list_append_2 _ _) (PySem.list_append l its.toArray n u (by rw [List.size_toArray]; omega)) ⟨e, ?_⟩
  refine ⟨.non, _, I.lset (its' := its ++ [u]) hH e (by simp) (r.append (.cons ru .nil)) ?_, rfl, q⟩
  rw [List.length_append, List.length_singleton]
  omega
def rExtend : V → List V → Hp → VK → Prop := fun x vs H Q => ∃ l b xs zs, x = .ref l ∧ vs = [.ref b] ∧ H l = some (.lst xs) ∧ H b = some (.lst zs) ∧ xs.length + zs.length ≤ sizeLine ∧ Q .non (upd H l (.lst (xs ++ zs)))
def rPopAt : V → List V → Hp → VK → Prop := fun x vs H Q => ∃ l xs i k y, x = .ref l ∧ vs = [.int i] ∧ H l = some (.lst xs) ∧ -(2 ^ 63) ≤ i ∧ i < 2 ^ 63 ∧ seqIndex? i xs.length = some k ∧ xs[k]? = some y ∧ Q y (upd H l (.lst (xs.eraseIdx k)))
def rCat : R2 := fun x y H Q => ∃ l b xs zs, x = .ref l ∧ y = .ref b ∧ H l = some (.lst xs) ∧ H b = some (.lst zs) ∧ xs.length + zs.length ≤ sizeLine ∧ ∀ p, H p = none → Q (.ref p) (upd H p (.lst (xs ++ zs)))
end
end L2
namespace Att
open PySem PySem.W PySem.Calls PyProof.Rows
theorem ints_of_wellAll {P : Params} {h : Heap} : ∀ (ns : List Int) (vs : List Value), WellAll P h vs (ns.map WData.int) → IntsAre vs ns := by
  intro ns
  induction ns with
  | nil =>
    intro vs w
    rw [List.map_nil] at w
    cases w
    exact .nil
  | cons n ns ih =>
    intro vs w
    rw [List.map_cons] at w
    cases w with
    | cons a b =>
      cases a
      exact .cons _ _ (ih _ b)
theorem script_of {l : OpenLaw} {n : Nat} (hn : l.most = some n) {P : Params} {h : Heap} {args : List WData} {vals : List Value}
    (hpre : l.row.toRowW.claim.pre args = true) (hwl : WellAll P h vals args) :
    ∃ a vs ns, vals = [Value.ref a] ∧ args = [WData.list (ns.map WData.int)] ∧ h.get? a = some { cls := .type "list", data := .seq vs.toArray } ∧ IntsAre vs ns ∧ ns.length ≤ n := by
  have hsh : WShape.hasAll [] args [.list .int] = true := (pre_splitW hpre).1
  have hc : l.pre.holds [] { args := args } = true := (pre_splitW hpre).2
  obtain ⟨d, r, rfl, h1, h2⟩ := hasAllW_cons hsh
  obtain rfl := hasAllW_nil h2
  obtain ⟨xs, rfl, h3⟩ := hasW_list h1
  obtain ⟨ns, rfl⟩ := items_int h3
  have hlen : ns.length ≤ n := by
    unfold OpenLaw.pre at hc
    have h4 : (WTm.not (.lt (.lit (.int (n : Int))) (.len (.arg 0)))).holds [] { args := [.list (ns.map .int)] } = true := by
      have h4 := (holds_andW hc).1
      rw [hn] at h4
      exact h4
    have h5 := condW_of h4 (w_not (w_lt w_lit (w_len_list (w_arg rfl))))
    rw [List.length_map] at h5
    refine Nat.le_of_not_lt fun q => ?_
    have q' : (n : Int) < ((ns.length : Nat) : Int) := by omega
    first
      | (rw [decide_eq_true q'] at h5; exact absurd h5 (by decide))
      | (simp at h5; omega)
  cases hwl with
  | cons w1 w2 =>
    cases w2
    cases w1 with
    | list ho hall => exact ⟨_, _, ns, rfl, rfl, ho, ints_of_wellAll ns _ hall, hlen⟩
theorem post_true (l : OpenLaw) (args : List WData) : l.row.toRowW.claim.post args (.bool true) args = true :=
  postW_of (r := l.row.toRowW) (X := (true == true))
    (show WShape.has [] (.bool true) .bool = true by first | rfl | decide | simp [WShape.has, WShape.arms, WShape.armsAll])
    (show (WTm.eq .res (.lit (.bool true))).value [] { args := args, res := some (.bool true), after := args } = some (.bool (true == true)) from w_eq_bool (w_res rfl) w_lit) rfl
theorem attach_call {l : OpenLaw} {n : Nat} {q : Program} {loose : List Str} {XP : (Str → Option Value) → Heap → Prop} {YP : World → Heap → Prop} {d : DefRec}
    (hn : l.most = some n) (hdf : d.params.defaults = [])
    (call : ∀ (w : World) (s₀ s₁ : Shared) (mg mb : Str → Option Value) (fa : Addr) (o : Obj) (pm cd doc : Value) (a : Addr) (vs : List Value) (ns : List Int),
      Ground q loose [] XP w s₀ mg mb s₁.heap → YP w s₁.heap →
      s₁.heap.get? fa = some o → o.data = .func (docDef d.name d.params d.body d.scope pm cd doc) → s₁.heap.CodeRec cd d.name → mg d.name = some (.ref fa) →
      s₁.heap.get? a = some { cls := .type "list", data := .seq vs.toArray } → IntsAre vs ns → ns.length ≤ n → s₁.gens = #[] →
      codeAny (model l.prog w) callerA (.call (.ref fa) ⟨[.ref a], []⟩) (fun r s' => r = .ok (.ret (.bool true)) ∧ OldK s₁.heap s'.heap ∧ s'.os = s₁.os ∧ AllBare s'.gens) s₁) :
    WalkO q loose XP YP l.row.toRowW d [] (fun f vs => PySem.call f vs) := by
  intro w s₀ s₁ mg mb G Y fa o pm cd doc dV kV ho hd hcd hD hmg hg args vals as hpre hlay hrd hwl hlo
  obtain rfl : dV = .none := Dflts.none hD hdf
  obtain rfl : kV = .none := Dflts.noKw hD
  obtain ⟨a, vs, ns, rfl, rfl, hobj, hints, hlen⟩ := script_of hn hpre hwl
  refine enter_call (codeAny_mono (call w s₀ s₁ mg mb fa o pm cd doc a vs ns G Y ho (fd_plain hd) hcd hmg hobj hints hlen hg) fun r s' hq => ?_)
  obtain ⟨rfl, h2, h3, h4⟩ := hq
  exact ⟨.inl ⟨.bool true, .bool true, [], rfl, fun _ => rfl, .bool true, post_true l _, fun _ => ⟨List.Pairwise.nil, fun _ hm => (nomatch hm)⟩⟩, h2, h3, h4⟩
end Att
namespace L2
open PySem PySem.Spec PyProof.Rows
theorem vals_ints : ∀ {vs : List Value} {ns : List Int}, IntsAre vs ns → Vals (ns.map V.int) vs
  | _, _, .nil => .nil
  | _, _, .cons n t h => .cons ⟨t, rfl⟩ (vals_ints h)
def Only (H : Hp) : Prop := ∀ b, H b = none ∨ ∃ o xs, H b = some (.frz o (.lst xs))
theorem law_call {P : Program} {w : World} {K : PySem.W.Frag} {mg mb : Str → Option Value} {CX : CXT} {k : Nat} {fa a : Addr} {fd : FuncData} {x : Str} {sp : Sp} {s₁ : Shared} {vs : List Value} {ns : List Int}
    (KX : K.In s₁.heap) (hns : s₁.heap.Ns mainGlobals mg) (hb : s₁.heap.Ns builtinsNs mb) (hbb : ∀ x : Str, x ≠ "__name__" → mb x = bootBuiltins x) (hlim : s₁.heap.NoLimit) (hg : s₁.gens = #[])
    (ha : s₁.heap.get? a = some { cls := .type "list", data := .seq vs.toArray }) (hi : IntsAre vs ns) (hl : ns.length ≤ sizeLine) (hr : Room k callerA)
    (F : ∀ base : Heap, K.In base → base.Ns mainGlobals mg → FnOk P w K mg base CX k fa fd [x] sp) (hbind : ∀ (s : Shared) (u : Value), BindsTo s fd ⟨[u], []⟩ [(x, u)])
    (hsp : ∀ H : Hp, Only H → SqL K H a (ns.map V.int) → sp [.ref a] H (fun v _ => v = .bl true) fun _ _ _ => False)
    (hCX : ∀ H e s', CX [] H s₁ (fun _ _ _ => False) e s' → False) :
    codeAny (model P w) callerA (.call (.ref fa) ⟨[.ref a], []⟩) (fun r s' => r = .ok (.ret (.bool true)) ∧ OldK s₁.heap s'.heap ∧ s'.os = s₁.os ∧ AllBare s'.gens) s₁ := by
  have rv := vals_ints hi
  have lenV := hi.length
  have core : ∀ H : Hp, Only H → SqL K H a (ns.map V.int) → HOk P w H s₁.heap → (∀ b, H b ≠ none → b = a) → (H a ≠ none → K.lookup a = none) →
      codeAny (model P w) callerA (.call (.ref fa) ⟨[.ref a], []⟩) (fun r s' => r = .ok (.ret (.bool true)) ∧ OldK s₁.heap s'.heap ∧ s'.os = s₁.os ∧ AllBare s'.gens) s₁ := by
    intro H hO hS hok hA hK
    have base_of : ∀ {b : Addr} {o : Obj}, s₁.heap.get? b = some o → H b = none → (hidT s₁.heap H).get? b = some o := fun e n => hidT_get e n
    have noA : ∀ {b : Addr} {o : Obj} {es : Array DictEntry} {ep : Nat}, s₁.heap.get? b = some o → o.data = .dict es ep → H b = none := fun {b o es ep} e d => by
      cases q : H b with
      | none => rfl
      | some u =>
        have e' : b = a := hA b (by rw [q]; simp)
        subst e'
        rw [ha] at e; cases e
        have d' : Data.seq vs.toArray _ = Data.dict es ep := d
        cases d'
    have nsK : ∀ {b : Addr} {m : Str → Option Value}, s₁.heap.Ns b m → (hidT s₁.heap H).Ns b m := fun {b m} ⟨o, es, ep, e, d, r⟩ => ⟨o, es, ep, base_of e (noA e d), d, r⟩
    have hKb : K.In (hidT s₁.heap H) := fun b o e => base_of (KX b o e) (by
      cases q : H b with
      | none => rfl
      | some u =>
        have e' : b = a := hA b (by rw [q]; simp)
        subst e'
        rw [hK (by rw [q]; simp)] at e; cases e)
    have hM : Mod K mg (hidT s₁.heap H) := ⟨hKb, nsK hns, ⟨mb, nsK hb, hbb⟩, let ⟨mc, h1, h2⟩ := hlim; ⟨mc, nsK h1, h2⟩⟩
    have e0 : Env0 P w K mg (hidT s₁.heap H) callerA [] s₁ H := ⟨rfl, hM, fun b o e => of_hidT e, Nat.le_of_eq (hidT_size _ _), trivial, fun b hb => absurd (show b ∈ ([] : List Addr) from hb) (by simp), hok, .of_eq hg⟩
    refine codeAny_mono ((F _ hKb (nsK hns)).run callerA [] s₁ H ⟨[.ref a], []⟩ [.ref a] [.ref a] _ _ hr e0 (hbind s₁ (.ref a)) (.cons rfl .nil) (hsp H hO hS)) fun r s' h => ?_
    cases r with
    | error e => exact (hCX H e s' h).elim
    | ok fl =>
      cases fl with
      | next => exact False.elim h
      | brk => exact False.elim h
      | cont => exact False.elim h
      | ret u =>
        obtain ⟨v, H', os, bare, un, hok', r', q⟩ := h
        have q' : v = .bl true := q
        subst q'
        obtain rfl : u = Value.bool true := r'
        refine ⟨rfl, OldK.of_keep fun b o e => ?_, os, bare⟩
        cases q : H b with
        | none => exact un.keep b o e q (by intro z; exact absurd (show b ∈ ([] : List Addr) from z) (by simp)) (by simp)
        | some u =>
          rcases hO b with z | ⟨ob, xs, z⟩
          · rw [q] at z; cases z
          · have z2 := un.frzs b ob _ z
            obtain ⟨e1, _⟩ := hok b _ z
            obtain ⟨e2, _⟩ := hok' b _ z2
            rw [e] at e1; cases e1
            exact e2
  cases hk : K.lookup a with
  | some o =>
    have e := KX a o hk
    rw [ha] at e
    cases e
    refine core (fun _ => none) (fun _ => .inl rfl) (.inr ⟨_, vs.toArray, _, hk, rfl, rfl, rfl, by rw [List.size_toArray, lenV]; exact hl, by simpa using rv⟩) (fun b u z => by have z' : (none : Option HO) = some u := z; cases z') (fun b z => absurd rfl z) fun z => absurd rfl z
  | none =>
    refine core (fun b => if b = a then some (.frz { cls := .type "list", data := .seq vs.toArray } (.lst (ns.map V.int))) else none) (fun b => ?_) (.inl (.inr ⟨{ cls := .type "list", data := .seq vs.toArray }, if_pos rfl⟩)) (fun b u z => ?_) (fun b z => ?_) fun _ => hk
    · by_cases hb : b = a
      · exact .inr ⟨_, _, if_pos hb⟩
      · exact .inl (if_neg hb)
    · by_cases hb : b = a
      · have z' := (if_pos hb).symm.trans z
        cases z'
        subst hb
        exact ⟨ha, by rw [List.length_map]; exact hl, vs, _, rv, ha⟩
      · have z' := (if_neg hb).symm.trans z
        cases z'
    · by_cases hb : b = a
      · exact hb
      · exact absurd (if_neg hb) z
end L2
namespace L2
open PySem PySem.Spec PyProof.Rows
abbrev KOf {K : PySem.W.Frag} {h : Heap} (_ : K.In h) : PySem.W.Frag := K
theorem walk_of {l : PySem.W.OpenLaw} {n k : Nat} {q : Program} {loose : List Str} {XP : (Str → Option Value) → Heap → Prop} {YP : World → Heap → Prop} {d : DefRec} {K : Params → PySem.W.Frag} {CX : World → CXT} {sp : World → Sp} {x : Str}
    (hn : l.most = some n) (hn2 : n ≤ sizeLine) (hdf : d.params.defaults = []) (hr : Room k callerA)
    (hY : ∀ (w : World) (h : Heap), YP w h → (K w.params).In h)
    (F : ∀ (w : World) (mg : Str → Option Value) (fa : Addr) (h : Heap), (K w.params).In h → h.Ns mainGlobals mg → mg d.name = some (.ref fa) →
      ∃ fd : FuncData, (∀ (s : Shared) (u : Value), BindsTo s fd ⟨[u], []⟩ [(x, u)]) ∧
        ∀ base : Heap, (K w.params).In base → base.Ns mainGlobals mg → FnOk l.prog w (K w.params) mg base (CX w) k fa fd [x] (sp w))
    (hsp : ∀ (w : World) (H : Hp) (a : Addr) (ns : List Int), ns.length ≤ n → Only H → SqL (K w.params) H a (ns.map V.int) → sp w [.ref a] H (fun v _ => v = .bl true) fun _ _ _ => False)
    (hCX : ∀ (w : World) (H : Hp) (s : Shared) (e : Value) (s' : Shared), CX w [] H s (fun _ _ _ => False) e s' → False) :
    PySem.W.WalkO q loose XP YP l.row.toRowW d [] (fun f vs => PySem.call f vs) := by
  refine Att.attach_call hn hdf fun w s₀ s₁ mg mb fa o pm cd doc a vs ns G Y ho hd hcd hmg hobj hints hlen hg => ?_
  have KX := hY w _ Y
  obtain ⟨fd, hb, hF⟩ := F w mg fa _ KX G.T.g hmg
  exact law_call KX G.T.g G.T.b G.T.builtins G.T.nolimit hg hobj hints (Nat.le_trans hlen hn2) hr hF hb (fun H hO hS => hsp w H a ns hlen hO hS) fun H e s' => hCX w H s₁ e s'
theorem walk_ofK {l : PySem.W.OpenLaw} {n k : Nat} {q : Program} {loose : List Str} {XP : (Str → Option Value) → Heap → Prop} {YP : World → Heap → Prop} {d : DefRec} {K : Params → PySem.W.Frag} {CX : CXT} {sp : PySem.W.Frag → Sp} {x : Str}
    (hn : l.most = some n) (hn2 : n ≤ sizeLine) (hdf : d.params.defaults = []) (hr : Room k callerA)
    (hY : ∀ (w : World) (h : Heap), YP w h → (K w.params).In h)
    (F : ∀ (w : World) (mg : Str → Option Value) (fa : Addr) (h : Heap), (K w.params).In h → h.Ns mainGlobals mg → mg d.name = some (.ref fa) →
      ∃ fd : FuncData, (∀ (s : Shared) (u : Value), BindsTo s fd ⟨[u], []⟩ [(x, u)]) ∧
        ∀ base : Heap, (K w.params).In base → base.Ns mainGlobals mg → FnOk l.prog w (K w.params) mg base CX k fa fd [x] (sp (K w.params)))
    (hsp : ∀ (K : PySem.W.Frag) (H : Hp) (a : Addr) (ns : List Int), ns.length ≤ n → Only H → SqL K H a (ns.map V.int) → sp K [.ref a] H (fun v _ => v = .bl true) fun _ _ _ => False)
    (hCX : ∀ (H : Hp) (s : Shared) (e : Value) (s' : Shared), CX [] H s (fun _ _ _ => False) e s' → False) :
    PySem.W.WalkO q loose XP YP l.row.toRowW d [] (fun f vs => PySem.call f vs) :=
  walk_of (K := K) (CX := fun _ => CX) (sp := fun w => sp (K w.params)) hn hn2 hdf hr hY F (fun w H a ns h1 h2 h3 => hsp (K w.params) H a ns h1 h2 h3) fun _ H s e s' => hCX H s e s'
end L2
namespace L2
open PySem PySem.Spec PyProof.Rows
def defArgs (s : Stmt) : Arguments := match s with
  | .FunctionDef _ a _ _ _ _ _ _ _ _ => a
  | _ => { posonlyargs := [], args := [], vararg := none, kwonlyargs := [], kw_defaults := [], kwarg := none, defaults := [] }
def defBody (s : Stmt) : List Stmt := match s with
  | .FunctionDef _ _ b _ _ _ _ _ _ _ => b
  | _ => []
def defScope (s : Stmt) : Scope := match s with
  | .FunctionDef _ _ _ _ _ _ sc _ _ _ => sc
  | _ => { kind := .function, names := [], isGenerator := false, isCoroutine := false }
abbrev CX0 : CXT := fun _ _ _ _ _ _ => False
abbrev E0 : XK := fun _ _ _ => False
theorem pass0 {X : Cx} : Passes CX0 X E0 := fun _ _ _ _ _ _ _ h => h.elim
structure Fun (K : PySem.W.Frag) (x qual : Str) (st : Stmt) (f : Addr) (fd : FuncData) : Prop where
  ex : ∃ (oc : Value) (od : Option Addr) (kV doc pm : Value) (an : Option Addr) (cdv ct : Value) (osl : Array (Option Value)),
    fd = PySem.W.fnOf x qual (defArgs st) (defBody st) (defScope st) .none kV doc pm an cdv ct ∧ K.lookup f = some ⟨oc, od, .func fd, osl⟩ ∧ PySem.W.codeIn K cdv qual = true
  kp : PySem.W.keepIn K (.ref f) = true
section
variable {P : Program} {w : World} {K : PySem.W.Frag} {mg : Str → Option Value} {base : Heap}
theorem Fun.ok {x qual : Str} {st : Stmt} {f : Addr} {fd : FuncData} {N ps : List Str} {k : Nat} {sp : Sp} (F : Fun K x qual st f fd) (S : FnScope N ps (defScope st)) (len : ∀ vs H Q E, sp vs H Q E → vs.length = ps.length)
    (hbody : ∀ (cdv : Value) (A : Around) (outer : List Env) (s : Shared) (H : Hp) (vs : List V) (Q : VK) (E : XK), Room k (A.deeper (envOfC qual (defScope st) s.heap.objs.size f cdv)) → sp vs H Q E →
      ∃ t, PSs (cxOf CX0 P w K mg base N qual (defScope st) f cdv A outer s H E).nox (defBody st) t ∧ t { nx := fun _ H' => Q .non H', rt := Q } (start N vs) H) : FnOk P w K mg base CX0 (k + 1) f fd ps sp := by
  obtain ⟨oc, od, kV, doc, pm, an, cdv, ct, osl, rfl, lk, hcd⟩ := F.ex
  refine fn_of lk hcd S len fun A outer s H vs Q E hr hsp => ?_
  obtain ⟨t, h, q⟩ := hbody cdv A outer s H vs Q E hr hsp
  exact ⟨t, h.nox, q⟩
theorem Fun.binds {x qual : Str} {st : Stmt} {f : Addr} {fd : FuncData} {ps : List Str} (F : Fun K x qual st f fd)
    (h : ∀ (kV doc pm : Value) (an : Option Addr) (cdv ct : Value) (us : List Value), us.length = ps.length → bindArgs (PySem.W.fnOf x qual (defArgs st) (defBody st) (defScope st) .none kV doc pm an cdv ct) ⟨us, []⟩ = pure (ps.zip us)) : Binds K fd ps [] := by
  obtain ⟨oc, od, kV, doc, pm, an, cdv, ct, osl, rfl, lk, hcd⟩ := F.ex
  exact .all (h kV doc pm an cdv ct)
theorem fun_mk {x qual : Str} {st : Stmt} {f : Addr} {oc : Value} {od an : Option Addr} {osl : Array (Option Value)} {kV doc pm cdv ct : Value} (l : K.lookup f = some ⟨oc, od, .func (PySem.W.fnOf x qual (defArgs st) (defBody st) (defScope st) .none kV doc pm an cdv ct), osl⟩)
    (c : PySem.W.codeIn K cdv qual = true) (k : PySem.W.keepIn K (.ref f) = true) : Fun K x qual st f (PySem.W.fnOf x qual (defArgs st) (defBody st) (defScope st) .none kV doc pm an cdv ct) := ⟨⟨oc, od, kV, doc, pm, an, cdv, ct, osl, rfl, l, c⟩, k⟩
end
theorem small1000 {n : Nat} (h : n ≤ 1000) : n < sizeLine := Nat.lt_of_le_of_lt h (by decide)
section
variable {X : Cx}
theorem pv (i : Nat) {x : Str} {pos : Pos} (hN : X.N[i]? = some x := by rfl) (hv : Vis X.env.scope x := by first | exact Or.inl rfl | exact Or.inr (Or.inl rfl) | exact Or.inr (Or.inr rfl)) (hd : (x == ("__debug__" : Str)) = false := by decide)
    (hcd : (x == ("__classdict__" : Str)) = false := by decide) : PE X (.Name x pos) (tVar i) := pe_var hN hv hd hcd
end
theorem iteF {A B : Prop} (h : B) : if false = true then A else B := by
  rw [if_neg Bool.false_ne_true]
  exact h
theorem iteT {A B : Prop} (h : A) : if true = true then A else B := by
  rw [if_pos rfl]
  exact h
theorem ite2 {c A B : Prop} [Decidable c] (h1 : c → A) (h2 : ¬ c → B) : if c then A else B := by
  by_cases h : c
  · rw [if_pos h]
    exact h1 h
  · rw [if_neg h]
    exact h2 h
def Same (H H' : Hp) : Prop := ∀ b o, H b = some o → H' b = some o
theorem Same.trans {H H1 H2 : Hp} (a : Same H H1) (b : Same H1 H2) : Same H H2 := fun c o h => b c o (a c o h)
theorem Same.free {H H' : Hp} (e : Same H H') {l : Addr} (h : H' l = Option.none) : H l = Option.none := by
  cases q : H l with
  | none => rfl
  | some o =>
    rw [e l o q] at h
    cases h
end L2
set_option Elab.async false
set_option linter.all false
set_option maxRecDepth 100000
namespace L2
open PySem PySem.Spec PyProof.Rows
theorem closure_go (env : Env) : ∀ (names : List (Str × NameKind)) (cs : List (Str × Addr)),
    (∀ p ∈ names, p.2 = .free → ∃ c, env.cells.lookup p.1 = some c) → (∀ x c, cs.lookup x = some c → env.cells.lookup x = some c) →
    ∃ cl : List (Str × Addr), (forIn names cs fun (p : Str × NameKind) (r : List (Str × Addr)) => (if (p.2 == NameKind.free) = true then (do let c ← cellOf env p.1; pure (ForInStep.yield ((p.1, c) :: r))) else pure (ForInStep.yield r) : Sem (ForInStep (List (Str × Addr))))) = (pure cl : Sem (List (Str × Addr))) ∧
      (∀ x c, cl.lookup x = some c → env.cells.lookup x = some c) ∧ (∀ x, (cs.lookup x).isSome = true → (cl.lookup x).isSome = true) ∧ (∀ p ∈ names, p.2 = .free → (cl.lookup p.1).isSome = true)
  | [], cs, _, h2 => ⟨cs, rfl, h2, fun _ h => h, fun _ h => nomatch h⟩
  | (n, k) :: r, cs, h1, h2 => by
    have h1' : ∀ p ∈ r, p.2 = .free → ∃ c, env.cells.lookup p.1 = some c := fun p hp => h1 p (List.mem_cons_of_mem _ hp)
    by_cases hk : (k == NameKind.free) = true
    · have hk' : k = .free := by simpa using hk
      obtain ⟨c, hc⟩ := h1 (n, k) List.mem_cons_self hk'
      have h2' : ∀ x c', ((n, c) :: cs).lookup x = some c' → env.cells.lookup x = some c' := fun x c' e => by
        rw [List.lookup_cons] at e
        cases hx : x == n with
        | true =>
          rw [hx] at e
          have e1 : x = n := by simpa using hx
          rw [e1, hc]; exact e
        | false => rw [hx] at e; exact h2 x c' e
      obtain ⟨cl, e1, e2, e3, e4⟩ := closure_go env r ((n, c) :: cs) h1' h2'
      have hn : (((n, c) :: cs).lookup n).isSome = true := by rw [List.lookup_cons, beq_self_eq_true]; rfl
      refine ⟨cl, ?_, e2, fun x hx => e3 x ?_, fun p hp hf => ?_⟩
      · rw [List.forIn_cons]
        have q : cellOf env n = pure c := by unfold cellOf; rw [hc]
        simp only [hk, if_true, q]
        exact e1
      · rw [List.lookup_cons]
        cases x == n with
        | true => rfl
        | false => exact hx
      · rcases List.mem_cons.mp hp with e | hp
        · rw [e]; exact e3 n hn
        · exact e4 p hp hf
    · obtain ⟨cl, e1, e2, e3, e4⟩ := closure_go env r cs h1' h2
      refine ⟨cl, ?_, e2, e3, fun p hp hf => ?_⟩
      · rw [List.forIn_cons]
        have hkf : (k == NameKind.free) = false := by simpa using hk
        simp only [hkf, Bool.false_eq_true, if_false]
        exact e1
      · rcases List.mem_cons.mp hp with e | hp
        · rw [e] at hf; exact absurd (by simpa using hf) hk
        · exact e4 p hp hf
theorem closure_of {scope : Scope} {env : Env} (h : ∀ p ∈ scope.names, p.2 = .free → ∃ c, env.cells.lookup p.1 = some c) :
    ∃ cl, closureFor scope env = pure cl ∧ (∀ x c, cl.lookup x = some c → env.cells.lookup x = some c) ∧ (∀ p ∈ scope.names, p.2 = .free → ∃ c, cl.lookup p.1 = some c) := by
  obtain ⟨cl, e1, e2, _, e4⟩ := closure_go env scope.names [] h (fun x c e => by simp at e)
  refine ⟨cl, ?_, e2, fun p hp hf => Option.isSome_iff_exists.mp (e4 p hp hf)⟩
  have q : closureFor scope env = (forIn scope.names [] fun (p : Str × NameKind) (r : List (Str × Addr)) => (if (p.2 == NameKind.free) = true then (do let c ← cellOf env p.1; pure (ForInStep.yield ((p.1, c) :: r))) else pure (ForInStep.yield r) : Sem (ForInStep (List (Str × Addr))))) >>= pure := by
    unfold closureFor
    rfl
  rw [q, e1]
  rfl
theorem relabel_free {env : Env} : ∀ {names : List (Str × NameKind)} {x : Str}, (∀ y ∈ names, y.2 ≠ .cell) →
    ((names.map fun (n, k) => if (k == NameKind.free && env.scope.kind == .function && env.kindOf n == some .cell) then (n, NameKind.cell) else (n, k)).lookup x = some .cell ∨
     (names.map fun (n, k) => if (k == NameKind.free && env.scope.kind == .function && env.kindOf n == some .cell) then (n, NameKind.cell) else (n, k)).lookup x = some .free) → (x, NameKind.free) ∈ names
  | [], _, _, h => by simp at h
  | (n, k) :: r, x, hc, h => by
    have ih := @relabel_free env r x (fun y hy => hc y (List.mem_cons_of_mem _ hy))
    simp only [List.map_cons] at h
    cases hx : x == n with
    | true =>
      have e : x = n := by simpa using hx
      subst e
      by_cases hh : (k == NameKind.free && env.scope.kind == .function && env.kindOf x == some .cell) = true
      · have : k = .free := by
          simp only [Bool.and_eq_true] at hh
          simpa using hh.1.1
        subst this
        exact List.mem_cons_self
      · rw [if_neg hh] at h
        simp only [List.lookup_cons, hx] at h
        rcases h with h | h
        · have : k = .cell := Option.some.inj h
          exact absurd this (hc (x, k) List.mem_cons_self)
        · have : k = .free := Option.some.inj h
          subst this
          exact List.mem_cons_self
    | false =>
      refine List.mem_cons_of_mem _ (ih ?_)
      by_cases hh : (k == NameKind.free && env.scope.kind == .function && env.kindOf n == some .cell) = true
      · rw [if_pos hh] at h
        simpa only [List.lookup_cons, hx] using h
      · rw [if_neg hh] at h
        simpa only [List.lookup_cons, hx] using h
theorem relabel_kind {env : Env} : ∀ {names : List (Str × NameKind)} {x : Str}, names.lookup x = some .free →
    ((names.map fun (n, k) => if (k == NameKind.free && env.scope.kind == .function && env.kindOf n == some .cell) then (n, NameKind.cell) else (n, k)).lookup x = some .cell ∨
     (names.map fun (n, k) => if (k == NameKind.free && env.scope.kind == .function && env.kindOf n == some .cell) then (n, NameKind.cell) else (n, k)).lookup x = some .free)
  | [], _, h => by simp at h
  | (n, k) :: r, x, h => by
    have ih := @relabel_kind env r x
    simp only [List.map_cons]
    cases hx : x == n with
    | true =>
      simp only [List.lookup_cons, hx] at h
      have e : k = .free := Option.some.inj h
      subst e
      by_cases hh : (NameKind.free == NameKind.free && env.scope.kind == .function && env.kindOf n == some .cell) = true
      · rw [if_pos hh]; left; simp only [List.lookup_cons, hx]
      · rw [if_neg hh]; right; simp only [List.lookup_cons, hx]
    | false =>
      simp only [List.lookup_cons, hx] at h
      by_cases hh : (k == NameKind.free && env.scope.kind == .function && env.kindOf n == some .cell) = true
      · rw [if_pos hh]; simpa only [List.lookup_cons, hx] using ih h
      · rw [if_neg hh]; simpa only [List.lookup_cons, hx] using ih h
def cxB (X : Cx) (scope : Scope) (tn : List Str) (cp : List (Nat × Str)) (cl : List (Str × Addr)) (C : Addr) (s : Shared) (H : Hp) (fp : List Addr) : Cx :=
  { X with N := tn ++ cp.map (·.2), s₀ := s, H₀ := H, env := compEnvC scope cl C X.env, outer := X.stack, ex := fp, fn := fun _ => false, pn := [], xe := fun _ _ => False }
def stB (tn : List Str) (cp : List (Nat × Str)) (σ : St) : St := List.replicate tn.length none ++ cp.map fun p => (σ[p.1]?).getD none
structure CompOk (X : Cx) (scope : Scope) (cp : List (Nat × Str)) : Prop where
  kind : scope.kind = .function
  nocell : ∀ y ∈ scope.names, y.2 ≠ .cell
  names : ∀ y ∈ scope.names, y.2 = .local → scope.names.lookup y.1 = some .local
  free : ∀ y ∈ scope.names, y.2 = .free → X.env.kindOf y.1 = some .cell ∨ X.env.kindOf y.1 = some .free
  cap : ∀ p ∈ cp, X.N[p.1]? = some p.2 ∧ scope.names.lookup p.2 = some .free
section
variable {X : Cx} {pins : List (Addr × Obj)} {σ : St} {H : Hp} {s : Shared} {scope : Scope} {tn : List Str} {cp : List (Nat × Str)} {cl : List (Str × Addr)} {fp : List Addr}
theorem mem_of_lookup' {α : Type} : ∀ {l : List (Str × α)} {x : Str} {v : α}, l.lookup x = some v → (x, v) ∈ l
  | [], _, _, h => by simp at h
  | (n, k) :: r, x, v, h => by
    rw [List.lookup_cons] at h
    cases hx : x == n with
    | true =>
      rw [hx] at h
      have e : x = n := by simpa using hx
      have e2 : k = v := Option.some.inj h
      subst e e2
      exact List.mem_cons_self
    | false => rw [hx] at h; exact List.mem_cons_of_mem _ (mem_of_lookup' h)
theorem block_start {h₁ : Heap} {t' : Nat} {m0 : Str → Option Value} (I : Inv X pins σ H s) (O : CompOk X scope cp) (hcl1 : ∀ x c, cl.lookup x = some c → X.env.cells.lookup x = some c) (hcl2 : ∀ p ∈ scope.names, p.2 = .free → ∃ c, cl.lookup p.1 = some c)
    (hf : ∀ b ∈ fp, FpOk X pins H b ∧ b < s.heap.objs.size) (hns : h₁.Ns s.heap.objs.size m0) (hk : ∀ b o, s.heap.get? b = some o → h₁.get? b = some o) :
    Inv (cxB X scope tn cp cl s.heap.objs.size s H fp) [] (stB tn cp σ) H { s with heap := h₁, toks := t' } := by
  have ok : (cxB X scope tn cp cl s.heap.objs.size s H fp).Ok := by
    refine ⟨I.ok.mod, O.kind, I.ok.glob, I.ok.blt, Nat.le_refl _, fun x y c e1 e2 => I.ok.inj x y c (hcl1 x c e1) (hcl1 y c e2), fun x hx => ?_, fun x c hx => (by cases hx), I.ok.hd, I.ok.frames, .inl rfl, fun b hb => ⟨Nat.ne_of_lt (hf b hb).2, fun x c e => ?_⟩,
      fun b o e => I.bs b o e, Nat.le_trans I.ok.bsz I.sz, fun b o e hb => ?_, fun b hb hb' => ?_, I.stack, I.stkFree⟩
    · exact hcl2 (x, .free) (relabel_free O.nocell hx) rfl
    · exact (hf b hb).1.2.2.2.2.1 x c (hcl1 x c e)
    · rcases (hf b hb).1.2.2.2.1 with z | z
      · exact I.ok.noex b o e z
      · exact absurd (Nat.lt_of_lt_of_le (Heap.lt_size e) (Nat.le_trans I.ok.bsz z)) (Nat.lt_irrefl _)
    · rcases List.mem_cons.mp (I.stkSub b hb') with z | z
      · exact (hf b hb).1.2.1 z
      · exact (hf b hb).1.2.2.1 z
  refine ⟨ok, rfl, I.bare, Un.kept hk, ⟨m0, hns, fun i x v e1 e2 e3 => ?_⟩, fun x c e => ?_, I.hok.fresh (Nat.le_refl _), fun x c e => I.freeC x c (hcl1 x c e), fun p hp => by simp [cxB] at hp, I.hok.kept hk, ?_⟩
  · -- a captured name
    have e1' : (tn ++ cp.map (·.2))[i]? = some x := e1
    have e2' : (List.replicate tn.length none ++ cp.map fun p => (σ[p.1]?).getD none)[i]? = some (some v) := e2
    by_cases hi : i < tn.length
    · rw [List.getElem?_append_left (by simpa using hi)] at e2'
      rw [List.getElem?_replicate, if_pos hi] at e2'
      cases e2'
    · rw [List.getElem?_append_right (by simpa using Nat.le_of_not_lt hi), List.length_replicate, List.getElem?_map] at e2'
      rw [List.getElem?_append_right (Nat.le_of_not_lt hi), List.getElem?_map] at e1'
      cases hp : cp[i - tn.length]? with
      | none => rw [hp] at e1'; cases e1'
      | some p =>
        rw [hp] at e1' e2'
        have e1'' : p.2 = x := Option.some.inj e1'
        have e2'' : (σ[p.1]?).getD none = some v := Option.some.inj e2'
        obtain ⟨c1, c2⟩ := O.cap p (List.mem_of_getElem? hp)
        rw [e1''] at c1 c2
        have hs : σ[p.1]? = some (some v) := by
          cases q : σ[p.1]? with
          | none => rw [q] at e2''; cases e2''
          | some z => rw [q] at e2''; exact congrArg some e2''
        have hk' := O.free (x, .free) (mem_of_lookup' c2) rfl
        have hvis : Vis X.env.scope x := by
          rcases hk' with z | z
          · exact .inr (.inl z)
          · exact .inr (.inr z)
        obtain ⟨m, hn, hl⟩ := I.loc
        obtain ⟨u, r, l⟩ := hl p.1 x v c1 hs hvis
        refine ⟨u, r, .inr ?_⟩
        rcases l with ⟨z, _⟩ | ⟨_, c, hc, o, ho, hd⟩
        · rcases hk' with y | y <;> (rw [z] at y; cases y)
        · obtain ⟨c', hc'⟩ := hcl2 (x, .free) (mem_of_lookup' c2) rfl
          have : c' = c := Option.some.inj ((hcl1 x c' hc').symm.trans hc)
          subst this
          exact ⟨relabel_kind c2, c', hc', o, hk c' o ho, hd⟩
  · obtain ⟨v, o, ho, hd⟩ := I.cell x c (hcl1 x c e)
    exact ⟨v, o, hk c o ho, hd⟩
  · show (stB tn cp σ).length = (tn ++ cp.map (·.2)).length
    unfold stB
    simp
theorem block_end {σ' : St} {H' : Hp} {s' : Shared} {h' : Heap} {pinsB : List (Addr × Obj)} (I : Inv X pins σ H s) (hf : ∀ b ∈ fp, FpOk X pins H b)
    (J : Inv (cxB X scope tn cp cl s.heap.objs.size s H fp) pinsB σ' H' s') (hs : Heap.SameBut s.heap.objs.size s'.heap h') : Inv X pins σ H' { s' with heap := h' } := by
  have ne : ∀ b o, s.heap.get? b = some o → b ≠ s.heap.objs.size := fun b o e => Nat.ne_of_lt (Heap.lt_size e)
  have U : Un (frs X.stack) fp H H' s.heap h' := by
    have u : Un (frs X.stack) fp H H' s.heap s'.heap := J.base
    refine ⟨fun b o e n h1 h2 => (hs.2 b (ne b o e)).trans (u.keep b o e n h1 h2), fun b o e n h1 h2 => ?_, u.free, fun b o e h2 => ?_, u.tups, u.frzs, u.tbls⟩
    · obtain ⟨sl, q⟩ := u.slot b o e n h1 h2
      exact ⟨sl, (hs.2 b (ne b o e)).trans q⟩
    · obtain ⟨o', q⟩ := u.there b o e h2
      exact ⟨o', (hs.2 b (ne b o e)).trans q⟩
  have fr : H' s.heap.objs.size = none := J.free
  have hok : HOk X.prog X.w H' h' := fun b ob e => by
    refine (J.hok b ob e).stay (fun c v hc q => (hs.2 c ?_).trans q) (fun _ q => q) (fun _ _ _ _ _ q => q) fun _ _ q => q
    rintro rfl
    rcases hc with z | z
    · rw [← z, fr] at e; cases e
    · rw [fr] at z; cases z
  refine I.call' (s' := { s' with heap := h' }) (ch := fp) J.os U hok J.bare fun b hb => ?_
  obtain ⟨_, f1, _, f3, f4, f5⟩ := hf b hb
  exact ⟨f3, f1, f4, f5⟩
end
def PIfs (X : Cx) (ifs : List Expr) (t : TT) : Prop :=
  ∀ (pins : List (Addr × Obj)) (s : Shared) (σ : St) (H : Hp) (Q : Bool → Hp → Prop), Inv X pins σ H s → t σ H Q →
    wpAny (model X.prog X.w) X.A (forIn ifs true fun c r => if r = true then do let ok ← isTrue c X.env (eval c X.env); pure (ForInStep.yield ok) else pure (ForInStep.yield r)) (TP X pins σ Q) X.xe s
def tYes : TT := fun _ H Q => Q true H
theorem pf_nil {X : Cx} : PIfs X [] tYes := fun _ _ _ H _ I h => wpAny_tests_nil ⟨H, I, h⟩
theorem pf_one {X : Cx} {c : Expr} {t : TT} (h : PT X c t) : PIfs X [c] t := fun pins s σ H Q I hw => wpAny_tests_one (h pins s σ H Q I hw)
theorem compLoop_own {prog : Program} {w : World} {A : Around} {R : Result → Shared → Prop} {s : Shared} {elt target iter : Expr} {ifs : List Expr} {scope : Scope} {pos : Pos} {it acc : Value} {env : Env} (I : Nat → Shared → Prop)
    (turn : ∀ n s, I n s → wpAny (model prog w) A (pyNext it) (fun r s₁ => match r with
      | none => R (.ok .next) s₁
      | some v => wpAny (model prog w) A (letOwnedTupleGo target it v) (fun _ s₂ => wpAny (model prog w) A (assign target env v) (fun _ s₃ =>
          wpAny (model prog w) A (forIn ifs true fun c r => if r = true then do let ok ← isTrue c env (eval c env); pure (ForInStep.yield ok) else pure (ForInStep.yield r)) (fun ok s₄ =>
            if ok = true then wpAny (model prog w) A (eval elt env) (fun x s₅ =>
              wpAny (model prog w) A (call (.builtin "list.append") [acc, x]) (fun _ s₆ => ∃ m, m < n ∧ I m s₆) (fun _ _ => False) s₅) (fun _ _ => False) s₄
            else ∃ m, m < n ∧ I m s₄) (fun _ _ => False) s₃) (fun _ _ => False) s₂) (fun _ _ => False) s₁) (fun _ _ => False) s)
    (n : Nat) (h : I n s) :
    codeAny (model prog w) A (.compLoop (.ListComp elt [⟨target, iter, ifs, 0⟩] scope pos) 0 it acc env) R s := by
  refine codeAny_loop rfl I (fun n s hI => ?_) n h
  show wpAny _ A ((compTurn (.ListComp elt [⟨target, iter, ifs, 0⟩] scope pos) 0 it acc env).onRaise (fun x => do noteFrame x env; theTreesLotGoes x)) _ _ s
  refine wpAny_noted ?_
  rw [compTurn_list]
  refine wpAny_bind (wpAny_standAt (wpAny_bind (wpAny_mono (turn n s hI) (fun r s₁ h₁ => ?_) fun _ _ f => f.elim)))
  cases r with
  | none => exact wpAny_pure h₁
  | some v =>
    refine wpAny_bind (wpAny_mono h₁ (fun _ s₂ h₂ => ?_) fun _ _ f => f.elim)
    refine wpAny_bind (wpAny_mono h₂ (fun _ s₃ h₃ => wpAny_bind (wpAny_mono h₃ (fun ok s₄ h₄ => ?_) fun _ _ f => f.elim)) fun _ _ f => f.elim)
    cases ok with
    | false => exact wpAny_pure ⟨rfl, h₄⟩
    | true =>
      exact wpAny_bind (wpAny_bind (wpAny_mono h₄ (fun x s₅ h₅ => wpAny_bind (wpAny_mono h₅ (fun _ s₆ h₆ => wpAny_pure (wpAny_pure ⟨rfl, h₆⟩)) fun _ _ f => f.elim)) fun _ _ f => f.elim))
def tComp (tn : List Str) (cp : List (Nat × Str)) (wi : TI) (g : TG) (tif : TT) (te : TE) : TE := fun σ H Q => wi σ H fun J H1 => ∀ D, H1 D = none → ∃ W : Nat → Nat → St → Hp → Prop,
  (∃ m, W 0 m (stB tn cp σ) (upd H1 D (.lst []))) ∧ ∀ i m σb Hb, W i m σb Hb →
    (J.stop i Hb ∧ Q (.ref D) Hb) ∨ (J.go i Hb ∧ ∀ x H', J.yld i Hb x H' → g x σb H' fun σ2 H2 => tif σ2 H2 fun c H3 =>
      if c = true then te σ2 H3 fun y H4 => ∃ ys, H4 D = some (.lst ys) ∧ ys.length < sizeLine ∧ ∃ m', m' < m ∧ W (i + 1) m' σ2 (upd H4 D (.lst (ys ++ [y])))
      else ∃ m', m' < m ∧ W (i + 1) m' σ2 H3)
theorem lcomp_core {X : Cx} {elt tg iter : Expr} {ifs : List Expr} {scope : Scope} {pos cpos : Pos} {wi : TI} {g : TG} {tif : TT} {te : TE} (tn : List Str) (cp : List (Nat × Str)) (O : CompOk X scope cp) (hc : X.calm = true) (hi : PI X tg iter wi)
    (hg : ∀ cl C s H fp, PG (cxB X scope tn cp cl C s H fp) tg g) (hif : ∀ cl C s H fp, PIfs (cxB X scope tn cp cl C s H fp) ifs tif) (he : ∀ cl C s H fp, PE (cxB X scope tn cp cl C s H fp) elt te)
    (hs : ∀ x, foldedSetIterable iter X.env x = pure x) {pins : List (Addr × Obj)} {s : Shared} {σ : St} {H : Hp} {Q : VK} {R : Value → Shared → Prop} {use : Option (Value → Sem Unit)} (I : Inv X pins σ H s) (h : tComp tn cp wi g tif te σ H Q)
    (fin : ∀ (D C : Addr) (H5 : Hp) (s5 : Shared) (m : Str → Option Value), Inv X pins σ H5 s5 → FpOk X pins H5 C → s5.heap.Ns C m → Q (.ref D) H5 → compPost (model X.prog X.w) X.A X.xe use R (.ref D) C (.ok .next) s5) :
    wpAny (model X.prog X.w) X.A (comprehension (.ListComp elt [⟨tg, iter, ifs, 0⟩] scope pos) scope X.env cpos (newList []) false (eval iter X.env) use) R X.xe s := by
  obtain ⟨cl, hcl, hcl1, hcl2⟩ := closure_of (scope := scope) (env := X.env) fun p hp hf => I.ok.has p.1 (O.free p hp hf)
  refine wpAny_comprehension_free (use := use) rfl hs hcl O.kind O.names (thn (hi pins s σ H _ I h) fun v s1 h1 => thn h1 fun itv s2 h2 => ?_)
  obtain ⟨it, fp, tn', J, H2, rfl, I2, T, st2, f2, rest⟩ := h2
  refine wpAny_newObj_type ?_
  have I3 : Inv X pins σ (upd H2 s2.heap.objs.size (.lst [])) { s2 with heap := s2.heap.push { cls := .type "list", data := .seq ([] : List Value).toArray } } := I2.lnew (its := []) (t' := s2.toks) .nil (Nat.zero_le _)
  obtain ⟨W, ⟨m0, w0⟩, turn⟩ := rest s2.heap.objs.size I2.fresh
  have fpl : ∀ b ∈ fp, b < s2.heap.objs.size := fun b hb => by
    obtain ⟨o, e, _⟩ := T.obj _ _ st2 b hb
    exact Heap.lt_size e
  have f3 : ∀ b ∈ fp, FpOk X pins (upd H2 s2.heap.objs.size (.lst [])) b := fun b hb => ⟨by rw [upd_ne (Nat.ne_of_lt (fpl b hb))]; exact (f2 b hb).1, (f2 b hb).2⟩
  have sz3 : (s2.heap.push { cls := .type "list", data := .seq ([] : List Value).toArray }).objs.size = s2.heap.objs.size + 1 := Heap.size_push ..
  refine wpAny_newFunctionEnv O.nocell (by intro y hy; simp at hy) (fun h₁ hns hsb => ?_) O.kind
  have hk1 : ∀ b o, (s2.heap.push { cls := .type "list", data := .seq ([] : List Value).toArray }).get? b = some o → h₁.get? b = some o := fun b o e =>
    hsb.extBut b o (Nat.ne_of_lt (Heap.lt_size e)) (Heap.get?_push_of_some _ e)
  have J3 := block_start (tn := tn) (cp := cp) (t' := s2.toks + ([] : List (Str × Value)).length) I3 O hcl1 hcl2 (fun b hb => ⟨f3 b hb, by rw [sz3]; exact Nat.lt_succ_of_lt (fpl b hb)⟩) hns hk1
  have st3 : tn' 0 h₁ := T.keep _ _ _ st2 fun b hb o e => hk1 b o (Heap.get?_push_of_some _ e)
  show codeAny _ _ (.compStart _ 0 (.ref it) (.ref s2.heap.objs.size) (compEnvC scope cl (s2.heap.push { cls := .type "list", data := .seq ([] : List Value).toArray }).objs.size X.env)) _ _
  generalize hXB : cxB X scope tn cp cl (s2.heap.push { cls := .type "list", data := .seq ([] : List Value).toArray }).objs.size { s2 with heap := s2.heap.push { cls := .type "list", data := .seq ([] : List Value).toArray } } (upd H2 s2.heap.objs.size (.lst [])) fp = XB at J3
  have hprog : XB.prog = X.prog := by rw [← hXB]; rfl
  have hw : XB.w = X.w := by rw [← hXB]; rfl
  have hK : XB.K = X.K := by rw [← hXB]; rfl
  have hA : XB.A = X.A := by rw [← hXB]; rfl
  have henv : XB.env = compEnvC scope cl (s2.heap.push { cls := .type "list", data := .seq ([] : List Value).toArray }).objs.size X.env := by rw [← hXB]; rfl
  have hcalm : XB.calm = true := by rw [← hXB]; exact hc
  have hxe : XB.xe = fun _ _ => False := by rw [← hXB]; rfl
  have hgB : PG XB tg g := by rw [← hXB]; exact hg _ _ _ _ _
  have hifB : PIfs XB ifs tif := by rw [← hXB]; exact hif _ _ _ _ _
  have heB : PE XB elt te := by rw [← hXB]; exact he _ _ _ _ _
  have fB : ∀ (pb : List (Addr × Obj)) (Hb : Hp), (∀ b ∈ fp, Hb b = none) → (∀ b ∈ fp, ∀ p ∈ XB.pn ++ pb, p.1 ≠ b) → ∀ b ∈ fp, FpOk XB pb Hb b := fun pb Hb hn hp b hb => by
    refine ⟨hn b hb, ?_, ?_, .inl (by rw [← hXB]; exact hb), fun x c e => ?_, hp b hb⟩
    · rw [henv]; show b ≠ (s2.heap.push { cls := .type "list", data := .seq ([] : List Value).toArray }).objs.size
      rw [sz3]; exact Nat.ne_of_lt (Nat.lt_succ_of_lt (fpl b hb))
    · rw [← hXB]
      show b ∉ frs X.stack
      intro z
      rcases List.mem_cons.mp (I2.stkSub b z) with y | y
      · exact (f2 b hb).2.1 y
      · exact (f2 b hb).2.2.1 y
    · rw [henv] at e
      exact (f2 b hb).2.2.2.2.1 x c (hcl1 x c e)
  have pn0 : XB.pn = [] := by rw [← hXB]; rfl
  have loop : ∀ s₃ : Shared, s₃ = { s2 with heap := h₁, toks := s2.toks + ([] : List (Str × Value)).length } →
      codeAny (model X.prog X.w) X.A (.compLoop (.ListComp elt [⟨tg, iter, ifs, 0⟩] scope pos) 0 (.ref it) (.ref s2.heap.objs.size) XB.env)
        (compPost (model X.prog X.w) X.A X.xe use R (.ref s2.heap.objs.size) (s2.heap.push { cls := .type "list", data := .seq ([] : List Value).toArray }).objs.size) s₃ := by
    rintro s₃ rfl
    refine compLoop_own (fun n s' => ∃ i σb Hb, Inv XB [] σb Hb s' ∧ tn' i s'.heap ∧ (∀ b ∈ fp, Hb b = none) ∧ W i n σb Hb) ?_ m0 ⟨0, stB tn cp σ, _, J3, st3, fun b hb => (f3 b hb).1, w0⟩
    rintro n s4 ⟨i, σ4, H4, I4, st4, fr4, w4⟩
    rcases turn i n σ4 H4 w4 with ⟨stop, qn⟩ | ⟨go, step⟩
    · have d := T.done XB hprog hw hK hcalm i [] s4 σ4 H4 (fun _ _ => False) I4 (fB [] H4 fr4 (fun b hb p hp => by rw [pn0] at hp; simp at hp)) st4 stop
      rw [hA] at d
      refine thn d fun r s5 ⟨hr, I5⟩ => ?_
      subst hr
      obtain ⟨mm, hn5, _⟩ := id I5.loc
      have fr5 : H4 (s2.heap.push { cls := .type "list", data := .seq ([] : List Value).toArray }).objs.size = none := by
        have z := I5.free
        rw [henv] at z
        exact z
      have J5 : Inv X pins σ H4 s5 := by
        rw [← hXB] at I5
        exact block_end (h' := s5.heap) I3 f3 I5 ⟨rfl, fun _ _ => rfl⟩
      exact fin _ _ H4 s5 mm J5 (I3.fpOk (Nat.le_refl _) fr5) (by rw [henv] at hn5; exact hn5) qn
    · have d := T.item XB hprog hw hK hcalm i [] s4 σ4 H4 (fun _ _ => False) I4 (fB [] H4 fr4 (fun b hb p hp => by rw [pn0] at hp; simp at hp)) st4 go
      rw [hA] at d
      refine thn d fun r s5 ⟨u, hr, h5⟩ => ?_
      subst hr
      refine thn h5 fun _ s6 ⟨x, H6, I6, r6, y6, st6, fr6⟩ => ?_
      have I6' := I6.pinned (fB [] H6 fr6 (fun b hb p hp => by rw [pn0] at hp; simp at hp)) (T.obj _ _ st6)
      have q6 := step x H6 y6
      have a1 := hgB _ s6 σ4 H6 x u _ I6' r6 q6
      rw [hxe, hprog, hw, hA] at a1
      refine thn a1 fun _ s7 ⟨σ7, H7, I7, q7⟩ => ?_
      have a2 := hifB _ s7 σ7 H7 _ I7 q7
      rw [hxe, hprog, hw, hA] at a2
      refine thn a2 fun ok s8 ⟨H8, I8, q8⟩ => ?_
      have again : ∀ {σ9 : St} {H9 : Hp} {s9 : Shared}, Inv XB ([] ++ pinsAt fp s6.heap) σ9 H9 s9 → (∃ m', m' < n ∧ W (i + 1) m' σ9 H9) → ∃ m, m < n ∧ ∃ i σb Hb, Inv XB [] σb Hb s9 ∧ tn' i s9.heap ∧ (∀ b ∈ fp, Hb b = none) ∧ W i m σb Hb := fun {σ9 H9 s9} I9 n9 => by
        obtain ⟨m', hm, w9⟩ := n9
        refine ⟨m', hm, i + 1, σ9, H9, I9.unpinned, T.keep _ _ _ st6 fun b hb o e => (I9.pin (b, o) (List.mem_append_right _ (List.mem_append_right _ (mem_pinsAt hb e)))).1, fun b hb => ?_, w9⟩
        obtain ⟨o, e, d⟩ := T.obj _ _ st6 b hb
        exact (I9.pin (b, o) (List.mem_append_right _ (List.mem_append_right _ (mem_pinsAt hb e)))).2.1
      cases ok with
      | false => exact again I8 q8
      | true =>
        show wpAny _ _ _ _ _ _
        have a3 := heB _ s8 σ7 H8 _ I8 q8
        rw [hxe, hprog, hw, hA] at a3
        refine thn a3 fun yv s9 ⟨y, H9, I9, r9, ys, hD, hlen, n9⟩ => ?_
        have a4 := mt_append (X := XB) _ s9 σ7 H9 (.ref s2.heap.objs.size) [y] (.ref s2.heap.objs.size) [yv] (fun _ H' => ∃ m', m' < n ∧ W (i + 1) m' σ7 H') I9 rfl (.cons r9 .nil) ⟨_, ys, y, rfl, rfl, hD, hlen, n9⟩
        rw [hxe, hprog, hw, hA] at a4
        exact thn a4 fun _ s10 ⟨_, H10, I10, _, q10⟩ => again I10 q10
  rw [henv] at loop
  refine codeAny_compStart_list (loop _ rfl) (T.self _ 0 _ _ _ st3 (loop _ rfl))
theorem pe_lcomp {X : Cx} {elt tg iter : Expr} {ifs : List Expr} {scope : Scope} {pos : Pos} {wi : TI} {g : TG} {tif : TT} {te : TE} (tn : List Str) (cp : List (Nat × Str)) (O : CompOk X scope cp) (hc : X.calm = true) (hi : PI X tg iter wi)
    (hg : ∀ cl C s H fp, PG (cxB X scope tn cp cl C s H fp) tg g) (hif : ∀ cl C s H fp, PIfs (cxB X scope tn cp cl C s H fp) ifs tif) (he : ∀ cl C s H fp, PE (cxB X scope tn cp cl C s H fp) elt te)
    (hs : ∀ x, foldedSetIterable iter X.env x = pure x := by intro _; rfl) :
    PE X (.ListComp elt [⟨tg, iter, ifs, 0⟩] scope pos) (tComp tn cp wi g tif te) := by
  intro pins s σ H Q I h
  rw [eval_ListComp]
  refine lcomp_core tn cp O hc hi hg hif he hs I h fun D C H5 s5 m I5 f5 n5 q5 => ⟨m, n5, fun h' hs' => ⟨.ref D, H5, ?_, rfl, q5⟩⟩
  obtain ⟨f0, f1, f2, f3, f4, f5⟩ := f5
  exact I5.turned (t' := s5.toks) (fun b o hb e => (hs'.2 b hb).trans e) f0 f1 f3 f4 f5
theorem ps_setC {X : Cx} {i : Nat} {x : Str} {elt tg iter : Expr} {ifs : List Expr} {scope : Scope} {pos pos' spos : Pos} {wi : TI} {g : TG} {tif : TT} {te : TE} (hN : X.N.Nodup) (hx : X.N[i]? = some x) (hl : Loc X.env.scope x) (tn : List Str) (cp : List (Nat × Str)) (O : CompOk X scope cp) (hc : X.calm = true) (hi : PI X tg iter wi)
    (hg : ∀ cl C s H fp, PG (cxB X scope tn cp cl C s H fp) tg g) (hif : ∀ cl C s H fp, PIfs (cxB X scope tn cp cl C s H fp) ifs tif) (he : ∀ cl C s H fp, PE (cxB X scope tn cp cl C s H fp) elt te)
    (hsw : swapsWith (.ListComp elt [⟨tg, iter, ifs, 0⟩] scope pos) (some (.Name x pos')) spos.line X.env = pure true := by rfl) (hs : ∀ x, foldedSetIterable iter X.env x = pure x := by intro _; rfl)
    (hf : X.fn x = true ∨ X.env.scope.names.lookup x = some .local := by first | exact .inl rfl | exact .inr rfl | assumption) :
    PS X (.Assign [.Name x pos'] (.ListComp elt [⟨tg, iter, ifs, 0⟩] scope pos) spos) (tAsg (tComp tn cp wi g tif te) (gName i)) := by
  intro pins s σ H D I h
  rw [exec_Assign_Name_used _ _ _ _ hsw]
  refine wpAny_bind (wpAny_standAt (wpAny_bind ?_))
  show wpAny _ X.A (do let _ ← comprehension (.ListComp elt [⟨tg, iter, ifs, 0⟩] scope pos) scope X.env _ (newList []) false (eval iter X.env) (some (assign (.Name x pos') X.env))) _ _ s
  refine wpAny_bind (wpAny_mono (lcomp_core tn cp O hc hi hg hif he hs (R := fun _ s' => SP X pins D .next s') I h fun E C H5 s5 m I5 f5 n5 q5 => ?_) (fun _ _ q => wpAny_pure (wpAny_pure q)) fun _ _ e => e)
  obtain ⟨f0, f1, f2, f3, f4, f5⟩ := f5
  show wpAny _ X.A (assign (.Name x pos') X.env (.ref E)) _ _ _
  refine wpAny_assign_Name (store_ok2 I5 hN hx hl (v := .ref E) rfl (fun s6 I6 ⟨a, sb, ha⟩ => ?_) hf)
  have ne : C ≠ a := by
    rcases ha with e | e
    · rw [e]; exact f1
    · exact fun z => f4 x a e z.symm
  refine ⟨m, n5.sameBut sb ne, fun h' hs' => ⟨_, H5, I6.turned (t' := s6.toks) (fun b o hb e => (hs'.2 b hb).trans e) f0 f1 f3 f4 f5, q5⟩⟩
end L2
set_option Elab.async false
set_option linter.all false
set_option maxRecDepth 100000
namespace L2
open PySem PySem.Spec PyProof.Rows
def Its (z : Str) : It := ⟨fun i _ => i < z.cps.size, fun i H x H' => H' = H ∧ ∃ c, z.cps[i]? = some c ∧ x = .str ⟨#[c]⟩, fun i _ => z.cps.size ≤ i⟩
def iStr (tl : TE) : TI := fun σ H R => tl σ H fun x H1 => ∃ z, x = .str z ∧ R (Its z) H1
def rSlS : V → Option Int → Option Int → Hp → VK → Prop := fun x lo hi H Q => ∃ z, x = .str z ∧ z.length ≤ sizeLine ∧ Q (.str (Txt.slice z lo hi)) H
theorem call_isinst {X : Cx} : CallR X (.builtin "isinstance") (fun xs H Q => ∃ x T t b, xs = [x, .ty T] ∧ TyOf X.K H x t ∧ PySem.W.kitOne X.K t (.type T) = some b ∧ Q (.bl b) H) := by
  intro pins s σ H xs us Q I r h
  obtain ⟨x, T, t, b, rfl, ty, e, q⟩ := h
  obtain ⟨u, w', rfl, rx, ry⟩ := vals2 r
  cases (show w' = Value.type T from ry)
  exact isinst_ok I rx ty e fun tk => ⟨.bl b, H, I.tok _, rfl, q⟩
section
open PyProof.Rows.LSm
theorem call_sum_int {X : Cx} (hc : X.calm = true) : CallR X (.builtin "sum") (fun xs H Q => ∃ (p : Addr) (ns : List Int), xs = [.ref p] ∧ SqL X.K H p (ns.map V.int) ∧ Q (.int ns.sum) H) := by
  intro pins s σ H xs us Q I r h
  obtain ⟨p, ns, rfl, hx, q⟩ := h
  obtain ⟨u, rfl, rx⟩ := vals1 r
  cases (show u = Value.ref p from rx)
  obtain ⟨vs, rv, pl, hz⟩ := I.list hx
  have hi := intsAre_of rv
  obtain ⟨ys, hy⟩ := hi.allInts.items
  have hl' : s.heap.IsList p (intItems ys) := hy ▸ pl.isList
  refine sum_intListG (I.ok.hd hc) hl' fun h' tk t' hk => ?_
  have e1 : ns = ys.toList.map (·.1) := by
    rw [← nums_intItems, ← hy]
    exact (show numsOf vs.toArray.toList = ns from hi.numsOf).symm
  have e2 : preSum (numAt ys) ys.size = ns.sum := by
    rw [preSum_eq, List.take_of_length_le (by simp), e1]
  rw [e2]
  exact ⟨.int _, H, I.kept hk, ⟨_, rfl⟩, q⟩
end
def rZfill : V → List V → Hp → VK → Prop := fun x vs H Q => ∃ z i, x = .str z ∧ vs = [.int i] ∧ PadOk i = true ∧ Q (.str (Txt.zfill z i)) H
def EqOk (X : Cx) (k : Nat) (H : Hp) (x y : V) (b : Bool) : Prop := ∀ (pins : List (Addr × Obj)) (σ : St) (s : Shared) (A : Around) (u v : Value), A.units + k < cLine → Inv X pins σ H s → RelV x u → RelV y v → SeqAt.EqAt A s u v b
def RcOk (X : Cx) (k : Nat) (H : Hp) (x y : V) (b : Bool) : Prop := ∀ (pins : List (Addr × Obj)) (σ : St) (s : Shared) (A : Around) (u v : Value), A.units + k < cLine → Inv X pins σ H s → RelV x u → RelV y v → SeqAt.RcAt A s u v b
section
variable {X : Cx} {k : Nat} {H : Hp} {x y : V} {a b : Addr} {xs ys : List V}
theorem eqok_flat (fx : flatV x = true) (fy : flatV y = true) : EqOk X k H x y (eqV x y) := fun _ _ _ _ _ _ _ _ rx ry => eqAt_V rx ry fx fy
theorem Vals.at {xs : List V} {us : List Value} (r : Vals xs us) {j : Nat} (h : j < us.length) : ∃ (h' : j < xs.length), RelV xs[j] us[j] := by
  have hl := r.length
  have h' : j < xs.length := by omega
  obtain ⟨u, e, q⟩ := r.get (i := j) (x := xs[j]) (by simp [h'])
  rw [List.getElem?_eq_getElem h] at e
  cases e
  exact ⟨h', q⟩
theorem rcok_lists (hx : SqL X.K H a xs) (hy : SqL X.K H b ys) (hl : xs.length = ys.length) (e : Nat → Bool) (he : ∀ j (h1 : j < xs.length) (h2 : j < ys.length), EqOk X k H xs[j] ys[j] (e j)) :
    RcOk X (k + 1) H (.ref a) (.ref b) ((List.range xs.length).all e) := fun pins σ s A u v hu I rx ry => by
  cases (show u = Value.ref a from rx)
  cases (show v = Value.ref b from ry)
  obtain ⟨us, r1, p1, _⟩ := I.list hx
  obtain ⟨vs, r2, p2, _⟩ := I.list hy
  have l1 := r1.length
  have l2 := r2.length
  have q := SeqAt.RcAt.lists (A := A) (e := e) p1.isList p2.isList (by rw [List.size_toArray, List.size_toArray]; omega) (by omega) fun j h1 h2 => by
    rw [List.size_toArray] at h1 h2
    obtain ⟨g1, q1⟩ := r1.at h1
    obtain ⟨g2, q2⟩ := r2.at h2
    exact he j g1 g2 pins σ s A.in1 _ _ (by show A.units + 1 + k < cLine; omega) I (by simpa using q1) (by simpa using q2)
  rw [List.size_toArray, ← l1] at q
  exact q
theorem rcok_lens (hx : SqL X.K H a xs) (hy : SqL X.K H b ys) (hl : xs.length ≠ ys.length) : RcOk X k H (.ref a) (.ref b) false := fun pins σ s A u v hu I rx ry => by
  cases (show u = Value.ref a from rx)
  cases (show v = Value.ref b from ry)
  obtain ⟨us, r1, p1, _⟩ := I.list hx
  obtain ⟨vs, r2, p2, _⟩ := I.list hy
  have l1 := r1.length
  have l2 := r2.length
  exact SeqAt.RcAt.lists_lengths p1.isList p2.isList (by rw [List.size_toArray, List.size_toArray]; simp; omega) (by omega)
theorem rcok_tups (hx : SqT X.K H a xs) (hy : SqT X.K H b ys) (e : Nat → Bool) (he : ∀ j (h1 : j < xs.length) (h2 : j < ys.length), EqOk X k H xs[j] ys[j] (e j)) :
    RcOk X (k + 1) H (.ref a) (.ref b) ((List.range (min xs.length ys.length)).all e && xs.length == ys.length) := fun pins σ s A u v hu I rx ry => by
  cases (show u = Value.ref a from rx)
  cases (show v = Value.ref b from ry)
  obtain ⟨us, r1, p1, _⟩ := I.tuple hx
  obtain ⟨vs, r2, p2, _⟩ := I.tuple hy
  have l1 := r1.length
  have l2 := r2.length
  have q := SeqAt.RcAt.tuples (A := A) (e := e) p1 p2 (by omega) fun j h1 h2 => by
    rw [List.size_toArray] at h1 h2
    obtain ⟨g1, q1⟩ := r1.at h1
    obtain ⟨g2, q2⟩ := r2.at h2
    exact he j g1 g2 pins σ s A.in1 _ _ (by show A.units + 1 + k < cLine; omega) I (by simpa using q1) (by simpa using q2)
  rw [List.size_toArray, List.size_toArray, ← l1, ← l2] at q
  exact q
theorem rcok_flats (hx : SqL X.K H a xs) (hy : SqL X.K H b ys) (fx : xs.all flatV = true) (fy : ys.all flatV = true) :
    RcOk X 1 H (.ref a) (.ref b) (xs.length == ys.length && (List.range xs.length).all fun j => eqV (xs.getD j .non) (ys.getD j .non)) := by
  by_cases hl : xs.length = ys.length
  · have q := rcok_lists (k := 0) hx hy hl (fun j => eqV (xs.getD j .non) (ys.getD j .non)) fun j h1 h2 => by
      have e1 : xs.getD j .non = xs[j] := by simp [List.getD, h1]
      have e2 : ys.getD j .non = ys[j] := by simp [List.getD, h2]
      rw [e1, e2]
      exact eqok_flat (List.all_eq_true.mp fx _ (List.getElem_mem h1)) (List.all_eq_true.mp fy _ (List.getElem_mem h2))
    rw [show (xs.length == ys.length) = true by simp [hl], Bool.true_and]
    exact q
  · rw [show (xs.length == ys.length) = false by simp [hl], Bool.false_and]
    exact rcok_lens hx hy hl
end
def rEqD (X : Cx) (k : Nat) : R2 := fun x y H Q => ∃ c, RcOk X k H x y c ∧ Q (.bl c) H
theorem op_eqD {X : Cx} {k : Nat} (hu : X.A.units + k < cLine) : OpR X (compareOp .Eq) (rEqD X k) := by
  intro pins s σ H x y v u Q I rx ry h
  obtain ⟨c, r, q⟩ := h
  exact r pins σ s X.A v u hu I rx ry _ _ _ _ ⟨.bl c, H, I, rfl, q⟩
def CW (D : Addr) (n : Nat) (Pv : Nat → List V → St → Hp → Prop) (i m : Nat) (σ : St) (H : Hp) : Prop := m = n - i ∧ i ≤ n ∧ ∃ ys, H D = some (.lst ys) ∧ ys.length ≤ i ∧ Pv i ys σ H
def CStep (D : Addr) (n i : Nat) (Pv : Nat → List V → St → Hp → Prop) (σ2 : St) (y : V) (H4 : Hp) : Prop :=
  ∃ ys, H4 D = some (.lst ys) ∧ ys.length < sizeLine ∧ ∃ m', m' < n - i ∧ CW D n Pv (i + 1) m' σ2 (upd H4 D (.lst (ys ++ [y])))
def CSkip (D : Addr) (n i : Nat) (Pv : Nat → List V → St → Hp → Prop) (σ2 : St) (H3 : Hp) : Prop := ∃ m', m' < n - i ∧ CW D n Pv (i + 1) m' σ2 H3
section
variable {D : Addr} {Q : VK} {g : TG} {tif : TT} {te : TE} {σ0 : St} {H1 : Hp} {n i : Nat} {Pv : Nat → List V → St → Hp → Prop}
theorem cstep {ys : List V} {y : V} {σ2 : St} {H4 : Hp} (hn : n ≤ sizeLine) (hi : i < n) (hD : H4 D = some (.lst ys)) (hl : ys.length ≤ i) (h : Pv (i + 1) (ys ++ [y]) σ2 (upd H4 D (.lst (ys ++ [y])))) : CStep D n i Pv σ2 y H4 :=
  ⟨ys, hD, by omega, n - (i + 1), by omega, rfl, hi, ys ++ [y], upd_same, by rw [List.length_append, List.length_singleton]; omega, h⟩
theorem cskip {ys : List V} {σ2 : St} {H3 : Hp} (hi : i < n) (hD : H3 D = some (.lst ys)) (hl : ys.length ≤ i) (h : Pv (i + 1) ys σ2 H3) : CSkip D n i Pv σ2 H3 :=
  ⟨n - (i + 1), by omega, rfl, hi, ys, hD, by omega, h⟩
theorem comp_by {J : It} (Pv : Nat → List V → St → Hp → Prop) (hn : n ≤ sizeLine) (h0 : Pv 0 [] σ0 (upd H1 D (.lst [])))
    (hgo : ∀ i ys σ H, i < n → H D = some (.lst ys) → Pv i ys σ H → J.go i H) (hstop : ∀ ys σ H, H D = some (.lst ys) → Pv n ys σ H → J.stop n H)
    (hs : ∀ i ys σ H, i < n → H D = some (.lst ys) → ys.length ≤ i → Pv i ys σ H → ∀ x H', J.yld i H x H' → g x σ H' fun σ2 H2 => tif σ2 H2 fun c H3 =>
      if c = true then te σ2 H3 fun y H4 => CStep D n i Pv σ2 y H4 else CSkip D n i Pv σ2 H3)
    (hd : ∀ ys σ H, H D = some (.lst ys) → ys.length ≤ n → Pv n ys σ H → Q (.ref D) H) :
    ∃ W : Nat → Nat → St → Hp → Prop, (∃ m, W 0 m σ0 (upd H1 D (.lst []))) ∧ ∀ i m σb Hb, W i m σb Hb →
      (J.stop i Hb ∧ Q (.ref D) Hb) ∨ (J.go i Hb ∧ ∀ x H', J.yld i Hb x H' → g x σb H' fun σ2 H2 => tif σ2 H2 fun c H3 =>
        if c = true then te σ2 H3 fun y H4 => ∃ ys, H4 D = some (.lst ys) ∧ ys.length < sizeLine ∧ ∃ m', m' < m ∧ W (i + 1) m' σ2 (upd H4 D (.lst (ys ++ [y])))
        else ∃ m', m' < m ∧ W (i + 1) m' σ2 H3) := by
  refine ⟨CW D n Pv, ⟨n, by omega, Nat.zero_le _, [], upd_same, Nat.le_refl _, h0⟩, ?_⟩
  rintro i m σ H ⟨rfl, hi, ys, hD, hl, p⟩
  by_cases hlt : i < n
  · exact .inr ⟨hgo i ys σ H hlt hD p, hs i ys σ H hlt hD hl p⟩
  · have e : i = n := by omega
    subst e
    exact .inl ⟨hstop ys σ H hD p, hd ys σ H hD hl p⟩
theorem comp_list {K : PySem.W.Frag} {a : Addr} {xs : List V} (Pv : Nat → List V → St → Hp → Prop) (hn : xs.length ≤ sizeLine) (h0 : Pv 0 [] σ0 (upd H1 D (.lst [])))
    (hl : ∀ i ys σ H, i ≤ xs.length → H D = some (.lst ys) → Pv i ys σ H → SqL K H a xs)
    (hs : ∀ i ys σ H x, i < xs.length → xs[i]? = some x → H D = some (.lst ys) → ys.length ≤ i → Pv i ys σ H → g x σ H fun σ2 H2 => tif σ2 H2 fun c H3 =>
      if c = true then te σ2 H3 fun y H4 => CStep D xs.length i Pv σ2 y H4 else CSkip D xs.length i Pv σ2 H3)
    (hd : ∀ ys σ H, H D = some (.lst ys) → ys.length ≤ xs.length → Pv xs.length ys σ H → Q (.ref D) H) :
    ∃ W : Nat → Nat → St → Hp → Prop, (∃ m, W 0 m σ0 (upd H1 D (.lst []))) ∧ ∀ i m σb Hb, W i m σb Hb →
      ((Itl K a).stop i Hb ∧ Q (.ref D) Hb) ∨ ((Itl K a).go i Hb ∧ ∀ x H', (Itl K a).yld i Hb x H' → g x σb H' fun σ2 H2 => tif σ2 H2 fun c H3 =>
        if c = true then te σ2 H3 fun y H4 => ∃ ys, H4 D = some (.lst ys) ∧ ys.length < sizeLine ∧ ∃ m', m' < m ∧ W (i + 1) m' σ2 (upd H4 D (.lst (ys ++ [y])))
        else ∃ m', m' < m ∧ W (i + 1) m' σ2 H3) :=
  comp_by Pv hn h0 (fun i ys σ H hi hD p => ⟨xs, xs[i], hl i ys σ H (Nat.le_of_lt hi) hD p, by simp [hi]⟩) (fun ys σ H hD p => ⟨xs, hl _ ys σ H (Nat.le_refl _) hD p, Nat.le_refl _⟩) (fun i ys σ H hi hD hl' p x H' y => by
    obtain ⟨e, y⟩ := y
    subst e
    exact hs i ys σ _ x hi (y xs (hl i ys σ _ (Nat.le_of_lt hi) hD p)) hD hl' p) hd
end
end L2
set_option Elab.async false
set_option linter.all false
set_option maxRecDepth 100000
namespace L2
open PySem PySem.Spec PyProof.Rows
section
variable {κ : Type} [DecidableEq κ]
def valV (kvs : List (κ × V)) (k : κ) : Option V := (kvs.find? fun kv => decide (kv.1 = k)).map (·.2)
def putK (kvs : List (κ × V)) (k : κ) (v : V) : List (κ × V) :=
  if (kvs.any fun kv => decide (kv.1 = k)) = true then kvs.map (fun kv => if kv.1 = k then (kv.1, v) else kv) else kvs ++ [(k, v)]
theorem valV_pos {p : κ × V} {r : List (κ × V)} {k : κ} (e : p.1 = k) : valV (p :: r) k = some p.2 := by simp [valV, List.find?_cons, e]
theorem valV_neg {p : κ × V} {r : List (κ × V)} {k : κ} (e : ¬ p.1 = k) : valV (p :: r) k = valV r k := by simp [valV, List.find?_cons, e]
theorem valV_any (k : κ) : ∀ kvs : List (κ × V), (kvs.any fun kv => decide (kv.1 = k)) = (valV kvs k).isSome
  | [] => rfl
  | p :: r => by
    rw [List.any_cons]
    by_cases e : p.1 = k
    · simp only [valV_pos e, decide_eq_true e, Bool.true_or, Option.isSome_some]
    · rw [valV_neg e, decide_eq_false e, Bool.false_or]; exact valV_any k r
theorem length_putK (kvs : List (κ × V)) (k : κ) (v : V) : (putK kvs k v).length ≤ kvs.length + 1 := by
  unfold putK
  split
  · rw [List.length_map]; omega
  · rw [List.length_append, List.length_cons, List.length_nil]; omega
theorem putK_new {kvs : List (κ × V)} {k : κ} (v : V) (h : valV kvs k = none) : putK kvs k v = kvs ++ [(k, v)] := by
  unfold putK
  rw [valV_any, h]
  exact if_neg (by decide)
theorem RelO.isSome_eq {o : Option V} {u : Option Value} (r : RelO o u) : o.isSome = u.isSome := by
  cases o with
  | none => cases u with
    | none => rfl
    | some _ => exact (show False from r).elim
  | some _ => cases u with
    | none => exact (show False from r).elim
    | some _ => rfl
theorem RelO.getD {o : Option V} {u : Option Value} {d : V} {d' : Value} (r : RelO o u) (rd : RelV d d') : RelV (o.getD d) (u.getD d') := by
  cases o with
  | none => cases u with
    | none => exact rd
    | some _ => exact (show False from r).elim
  | some _ => cases u with
    | none => exact (show False from r).elim
    | some _ => exact r
theorem KV.val {kvs : List (κ × V)} {vs : List (κ × Value)} (r : KV kvs vs) (k : κ) : RelO (valV kvs k) (valueAt vs k) := by
  unfold KV at r
  induction r with
  | nil => exact True.intro
  | @cons p q ps qs h t ih =>
    obtain ⟨h1, h2⟩ := h
    by_cases e : p.1 = k
    · have e' : q.1 = k := h1.symm.trans e
      have b : valueAt (q :: qs) k = some q.2 := by simp [valueAt, List.find?_cons, e']
      rw [valV_pos e, b]; exact h2
    · have e' : ¬ q.1 = k := fun z => e (h1.trans z)
      have b : valueAt (q :: qs) k = valueAt qs k := by simp [valueAt, List.find?_cons, e']
      rw [valV_neg e, b]; exact ih
theorem KV.any {kvs : List (κ × V)} {vs : List (κ × Value)} (r : KV kvs vs) (k : κ) : (kvs.any fun kv => decide (kv.1 = k)) = vs.any fun kv => decide (kv.1 = k) := by
  unfold KV at r
  induction r with
  | nil => rfl
  | cons h t ih => rw [List.any_cons, List.any_cons, ih, h.1]
theorem KV.repl {kvs : List (κ × V)} {vs : List (κ × Value)} (r : KV kvs vs) (k : κ) {y : V} {u : Value} (ry : RelV y u) :
    KV (kvs.map fun kv => if kv.1 = k then (kv.1, y) else kv) (vs.map fun kv => if kv.1 = k then (kv.1, u) else kv) := by
  unfold KV at r ⊢
  induction r with
  | nil => exact .nil
  | @cons p q ps qs h t ih =>
    rw [List.map_cons, List.map_cons]
    refine .cons ?_ ih
    obtain ⟨h1, h2⟩ := h
    by_cases e : p.1 = k
    · rw [if_pos e, if_pos (h1.symm.trans e)]; exact ⟨h1, ry⟩
    · rw [if_neg e, if_neg (fun z => e (h1.trans z))]; exact ⟨h1, h2⟩
theorem KV.put {kvs : List (κ × V)} {vs : List (κ × Value)} (r : KV kvs vs) (k : κ) {y : V} {u : Value} (ry : RelV y u) : KV (putK kvs k y) (stored vs k u) := by
  unfold putK stored
  rw [r.any k]
  by_cases e : (vs.any fun kv => decide (kv.1 = k)) = true
  · rw [if_pos e, if_pos e]; exact r.repl k ry
  · rw [if_neg e, if_neg e]; exact Paired.snoc r ⟨rfl, ry⟩
theorem KV.length {kvs : List (κ × V)} {vs : List (κ × Value)} (r : KV kvs vs) : kvs.length = vs.length := Paired.length r
end
def KeyV (k : Key) (y : V) : Prop := y = kV k ∨ ∃ b, y = .bl b ∧ k = .inl (blI b)
def DGet (H : Hp) (a : Addr) (y : V) (r : Option V) : Prop :=
  (∃ kvs k, Rd H a (.dK kvs) ∧ KeyV k y ∧ r = valV kvs k) ∨ ∃ kvs k b, Rd H a (.dT kvs) ∧ y = .ref b ∧ H b = some (.tup (k.map kV)) ∧ r = valV kvs k
def DPut (H : Hp) (a : Addr) (y v : V) (H' : Hp) : Prop :=
  (∃ kvs k, H a = some (.dK kvs) ∧ KeyV k y ∧ kvs.length < sizeLine ∧ H' = upd H a (.dK (putK kvs k v))) ∨
  ∃ kvs k b, H a = some (.dT kvs) ∧ y = .ref b ∧ H b = some (.tup (k.map kV)) ∧ kvs.length < sizeLine ∧ H' = upd H a (.dT (putK kvs k v))
section
variable {X : Cx} {pins : List (Addr × Obj)} {σ : St} {H : Hp} {s : Shared} {a : Addr} {y v : V} {u r : Value} {o : Option V} {A : Around} {E : Value → Shared → Prop}
theorem Inv.big (I : Inv X pins σ H s) : sysModules < s.heap.objs.size := by
  have h : mainGlobals < s.heap.objs.size := (I.mod.glob.keeps I.bk).lt
  exact Nat.lt_trans (by decide) h
theorem d_write {h' : Heap} {t' : Nat} {ob : HO} (I : Inv X pins σ H s) (mu : Mut (H a)) (hs : Heap.SameBut a s.heap h') (he : ∃ q, h'.get? a = some q) (new : ObjOk X.prog X.w (upd H a ob) h' a ob) :
    Inv X pins σ (upd H a ob) { s with heap := h', toks := t' } :=
  I.write (x := a) (e := a) mu (.inl rfl) (fun b q hb z => (hs.2 b hb).trans z) he new
end
def NoSl (i : Expr) : Prop := ∀ ov iv, subscripted i false ov iv = operate [ov, iv] (getItem ov iv)
theorem subD_of {prog : Program} {w : World} {A : Around} {E : Value → Shared → Prop} {s : Shared} {env : Env} {value slice : Expr} {pos : Pos} {T id : String} {Q : Value → Shared → Prop}
    (hl : typeLookup (.type T) "__getitem__" = pure (some (.builtin id))) (hs : NoSl slice)
    (h : wpAny (model prog w) A (eval value env) (fun o s₁ => wpAny (model prog w) A (eval slice env) (fun i s₂ => s₂.TypeIs o T ∧ wpAny (model prog w) A (getItem o i) Q E s₂) E s₁) E s) :
    wpAny (model prog w) A (eval (.Subscript value slice pos) env) Q E s := by
  refine Subscript_ (wpAny_mono h (fun o s₁ h₁ => wpAny_mono h₁ (fun i s₂ h₂ => ?_) fun _ _ x => x) fun _ _ x => x)
  obtain ⟨hT, h₂⟩ := h₂
  unfold subscriptTail
  refine wpAny_bind ?_
  rw [getitemInPython_of_ne hT.not_modules]
  refine wpAny_bind (wpAny_specialOf hT hl ?_)
  have fin : wpAny (model prog w) A (subscripted slice false o i) (fun r s₃ => wpAny (model prog w) A (letTemporaryGo value o r >>= fun _ => pure r) Q E s₃) E s₂ := by
    rw [hs o i]
    exact wpAny_operating (wpAny_mono h₂ (fun r s₃ h₃ => wpAny_bind (wpAny_letTemporaryGo (wpAny_pure h₃))) fun _ _ x => x)
  first
    | exact wpAny_pure (wpAny_bind fin)
    | exact wpAny_bind (wpAny_pure (wpAny_bind fin))
    | exact wpAny_bind fin
def tDGet (td ty : TE) : TE := fun σ H Q => td σ H fun x H1 => ty σ H1 fun y H2 => ∃ a v, x = .ref a ∧ DGet H2 a y (some v) ∧ Q v H2
def sDPut (td ty tv : TE) : TS := fun D σ H => tv σ H fun v H1 => td σ H1 fun x H2 => ty σ H2 fun y H3 => ∃ a H4, x = .ref a ∧ DPut H3 a y v H4 ∧ D.nx σ H4
def tPairs : List (TE × TE) → St → Hp → (List (V × V) → Hp → Prop) → Prop
  | [], _, H, Q => Q [] H
  | (tk, tv) :: r, σ, H, Q => tk σ H fun x H1 => tv σ H1 fun y H2 => tPairs r σ H2 fun ps H3 => Q ((x, y) :: ps) H3
def mergeK (kvs more : List (Key × V)) : List (Key × V) := more.foldl (fun acc kv => putK acc kv.1 kv.2) kvs
def tDisp (trs : List (TE × TE)) : TE := fun σ H Q => ∀ p, H p = none → tPairs trs σ (upd H p (.dK [])) fun ps H2 => H2 p = some (.dK []) ∧ ∃ kvs : List (Key × V), ps = kvs.map (fun kv => (kV kv.1, kv.2)) ∧ kvs.length ≤ 15 ∧ Q (.ref p) (upd H2 p (.dK (mergeK [] kvs)))
structure M2 (X : Cx) (o : Expr) (m : Str) (apos : Pos) (e f : Expr) (cpos : Pos) : Prop where
  base : attributeBase o m X.env (eval o X.env) = eval o X.env
  few : ((backTo cpos (starEach [e, f] X.env)).all (fun x => !x.1) && (backToKw cpos (keywordEach [] X.env)).all (fun x => x.1.isSome)
    && decide (([e, f] : List Expr).length + ([] : List Keyword).length + (if ([] : List Keyword).isEmpty then 0 else 1) < 30)) = true
  line : (apos.endLine == cpos.line) = true
  trees : backTo cpos (starEach [e, f] X.env) = [(false, eval e X.env), (false, eval f X.env)]
def IsD (H : Hp) (a : Addr) : Prop := (∃ kvs, Rd H a (.dK kvs)) ∨ ∃ kvs, Rd H a (.dT kvs)
def tDGet2 (td ty tx : TE) : TE := fun σ H Q => td σ H fun x H1 => ∃ a, x = .ref a ∧ IsD H1 a ∧ ty σ H1 fun y H2 => tx σ H2 fun z H3 => ∃ o, DGet H3 a y o ∧ Q (o.getD z) H3
end L2
set_option Elab.async false
set_option linter.all false
set_option maxRecDepth 100000
namespace L2
open PySem PySem.Spec PyProof.Rows
def notStar : Expr → Bool
  | .Starred _ _ => false
  | _ => true
theorem star_cons {e : Expr} {es : List Expr} {env : Env} (h : notStar e = true) : starEach (e :: es) env = (false, eval e env) :: starEach es env := by
  cases e with
  | Starred v q => exact absurd (show false = true from h) Bool.false_ne_true
  | _ => rw [starEach.eq_def]
theorem star_any : ∀ {es : List Expr} {env : Env} {pos : Pos}, es.all notStar = true → (backTo pos (starEach es env)).any (·.1) = false
  | [], env, pos, _ => by rw [starEach.eq_def]; rfl
  | e :: r, env, pos, h => by
    rw [List.all_cons, Bool.and_eq_true] at h
    rw [star_cons h.1]
    exact star_any h.2
section
variable {X : Cx} {x : Str} {p pos : Pos} {e : Expr} {es : List Expr} {te : TE} {t : TA} {T id : String} {r : List V → Hp → VK → Prop}
theorem pa_c (ha : PE X e te) (hr : PA X es t) (h : notStar e = true := by rfl) : PA X (e :: es) (tCons te t) := pa_cons ha hr (star_cons h)
theorem pe_cB (hc : CallR X (.builtin id) r) (hg : Gl X x) (hm : X.mg x = none) (hv : bootBuiltins x = some (.builtin id)) (ha : PA X (e :: es) t) (hn : x ≠ "__name__" := by decide) (hdb : (x == ("__debug__" : Str)) = false := by decide)
    (h1 : notStar e = true := by rfl) (h2 : es.all notStar = true := by rfl) : PE X (.Call (.Name x p) (e :: es) [] pos) (tCB r t) := pe_callB hc hg hm hv ha hn hdb (star_cons h1) (star_any h2)
theorem pe_cTy (hc : CallR X (.type T) r) (hg : Gl X x) (hm : X.mg x = none) (hv : bootBuiltins x = some (.type T)) (ha : PA X (e :: es) t) (hn : x ≠ "__name__" := by decide) (hdb : (x == ("__debug__" : Str)) = false := by decide)
    (h1 : notStar e = true := by rfl) (h2 : es.all notStar = true := by rfl) : PE X (.Call (.Name x p) (e :: es) [] pos) (tCB r t) := pe_callTy hc hg hm hv ha hn hdb (star_cons h1) (star_any h2)
end
structure Dfn (K : PySem.W.Frag) (mg : Str → Option Value) (x : Str) (st : Stmt) (ps : List Str) : Prop where
  ex : ∃ f fd, Fun K x x st f fd ∧ Binds K fd ps [] ∧ mg x = some (.ref f)
structure Cal (P : Program) (w : World) (K : PySem.W.Frag) (mg : Str → Option Value) (base : Heap) (n : Nat) (x : Str) (ps : List Str) (sp : Sp) : Prop where
  ex : ∃ f fd, FnOk P w K mg base CX0 n f fd ps sp ∧ Binds K fd ps [] ∧ PySem.W.keepIn K (.ref f) = true ∧ mg x = some (.ref f)
section
variable {P : Program} {w : World} {K : PySem.W.Frag} {mg : Str → Option Value} {base : Heap}
theorem Dfn.cal {x : Str} {st : Stmt} {N ps : List Str} {k : Nat} {sp : Sp} (d : Dfn K mg x st ps) (S : FnScope N ps (defScope st)) (len : ∀ vs H Q E, sp vs H Q E → vs.length = ps.length)
    (hbody : ∀ (f : Addr) (cdv : Value) (A : Around) (outer : List Env) (s : Shared) (H : Hp) (vs : List V) (Q : VK) (E : XK), Room k (A.deeper (envOfC x (defScope st) s.heap.objs.size f cdv)) → sp vs H Q E →
      ∃ t, PSs (cxOf CX0 P w K mg base N x (defScope st) f cdv A outer s H E).nox (defBody st) t ∧ t { nx := fun _ H' => Q .non H', rt := Q } (start N vs) H) : Cal P w K mg base (k + 1) x ps sp := by
  obtain ⟨f, fd, F, b, m⟩ := d.ex
  exact ⟨f, fd, F.ok S len (hbody f), b, F.kp, m⟩
theorem Cal.mono {j k : Nat} {x : Str} {ps : List Str} {sp : Sp} (c : Cal P w K mg base j x ps sp) (h : j ≤ k) : Cal P w K mg base k x ps sp := by
  obtain ⟨f, fd, F, r⟩ := c.ex
  exact ⟨f, fd, F.mono h, r⟩
theorem Dfn.never {x : Str} {st : Stmt} {ps : List Str} {sp : Sp} (d : Dfn K mg x st ps) (no : ∀ vs H Q E, ¬ sp vs H Q E) : Cal P w K mg base 0 x ps sp := by
  obtain ⟨f, fd, F, b, m⟩ := d.ex
  exact ⟨f, fd, ⟨fun vs H Q E h => absurd h (no vs H Q E), fun A outer s H args us vs Q E _ _ _ _ h => absurd h (no vs H Q E)⟩, b, F.kp, m⟩
end
section
variable {X : Cx} {n k : Nat} {x : Str} {ps : List Str} {sp : Sp} {p pos : Pos} {e : Expr} {es : List Expr} {t : TA}
theorem pe_callC (C : Cal X.prog X.w X.K X.mg X.base n x ps sp) (hr : Room k X.A) (hle : n ≤ k) (hg : Gl X x) (ha : PA X (e :: es) t) (hdb : (x == ("__debug__" : Str)) = false := by decide)
    (h1 : notStar e = true := by rfl) (h2 : es.all notStar = true := by rfl) : PE X (.Call (.Name x p) (e :: es) [] pos) (tCall sp [] E0 t) := by
  obtain ⟨f, fd, F, b, kp, m⟩ := C.ex
  exact pe_call F (hr.mono hle) hg m kp b .nil pass0 ha hdb (star_cons h1) (star_any h2)
def GlV (mg : Str → Option Value) (x : Str) (v : V) : Prop := ∃ u, mg x = some u ∧ RelV v u
theorem pe_gl {v : V} (hg : Gl X x) (h : GlV X.mg x v) (hd : (x == ("__debug__" : Str)) = false := by decide) : PE X (.Name x pos) (tC v) := by
  obtain ⟨u, m, r⟩ := h
  exact pe_glob hg m r hd
end
theorem CompOk.of {X : Cx} {scope : Scope} {cp : List (Nat × Str)} (kind : scope.kind = .function)
    (h1 : (scope.names.all fun y => y.2 != .cell && (y.2 != .local || scope.names.lookup y.1 == some .local) && (y.2 != .free || (X.env.scope.names.lookup y.1 == some .cell || X.env.scope.names.lookup y.1 == some .free))) = true)
    (h2 : (cp.all fun p => X.N[p.1]? == some p.2 && scope.names.lookup p.2 == some .free) = true) : CompOk X scope cp := by
  have g := List.all_eq_true.mp h1
  refine ⟨kind, fun y hy e => ?_, fun y hy e => ?_, fun y hy e => ?_, fun p hp => ?_⟩
  · have q := g y hy
    rw [Bool.and_eq_true, Bool.and_eq_true] at q
    rw [e] at q
    exact absurd q.1.1 (by decide)
  · have q := g y hy
    rw [Bool.and_eq_true, Bool.and_eq_true] at q
    have q := q.1.2
    rw [e] at q
    simpa using q
  · have q := g y hy
    rw [Bool.and_eq_true, Bool.and_eq_true] at q
    have q := q.2
    rw [e] at q
    have q : X.env.scope.names.lookup y.1 = some .cell ∨ X.env.scope.names.lookup y.1 = some .free := by simpa using q
    exact q
  · have q := List.all_eq_true.mp h2 p hp
    rw [Bool.and_eq_true] at q
    exact ⟨by simpa using q.1, by simpa using q.2⟩
inductive Kd (H : Hp) : V → String → Prop where
  | non : Kd H .non "NoneType"
  | bl (b : Bool) : Kd H (.bl b) "bool"
  | int (i : Int) : Kd H (.int i) "int"
  | str (z : Str) : Kd H (.str z) "str"
  | lst {a : Addr} {xs : List V} (e : H a = some (.lst xs)) : Kd H (.ref a) "list"
  | tup {a : Addr} {xs : List V} (e : H a = some (.tup xs)) : Kd H (.ref a) "tuple"
  | dK {a : Addr} {kvs : List (Key × V)} (e : H a = some (.dK kvs)) : Kd H (.ref a) "dict"
def kinds : List String := ["NoneType", "bool", "int", "str", "list", "tuple", "dict"]
def subT (k T : String) : Bool := k == T || (k == "bool" && T == "int")
theorem kit_ok (K : PySem.W.Frag) : ∀ k ∈ kinds, ∀ T ∈ ["str", "list", "tuple", "bool", "int", "dict"], PySem.W.kitOne K (.type k) (.type T) = some (subT k T) := by
  intro k hk T hT
  simp only [kinds, List.mem_cons, List.not_mem_nil, or_false] at hk hT
  rcases hk with rfl | rfl | rfl | rfl | rfl | rfl | rfl <;> rcases hT with rfl | rfl | rfl | rfl | rfl | rfl <;> first | rfl | kernel_rfl
theorem Kd.ty {K : PySem.W.Frag} {H : Hp} {x : V} {k : String} (h : Kd H x k) : TyOf K H x (.type k) ∧ k ∈ kinds := by
  cases h with
  | non => exact ⟨.non, by decide⟩
  | bl b => exact ⟨.bl b, by decide⟩
  | int i => exact ⟨.int i, by decide⟩
  | str z => exact ⟨.str z, by decide⟩
  | lst e => exact ⟨.lst e, by decide⟩
  | tup e => exact ⟨.tup e, by decide⟩
  | dK e => exact ⟨.dK e, by decide⟩
theorem Kd.same {H H' : Hp} {x : V} {k : String} (h : Kd H x k) (g : Same H H') : Kd H' x k := by
  cases h with
  | non => exact .non
  | bl b => exact .bl b
  | int i => exact .int i
  | str z => exact .str z
  | lst e => exact .lst (g _ _ e)
  | tup e => exact .tup (g _ _ e)
  | dK e => exact .dK (g _ _ e)
theorem Kd.inj {H : Hp} {x : V} {k k' : String} (h : Kd H x k) (h' : Kd H x k') : k = k' := by
  cases h with
  | lst e => cases h' with | lst _ => rfl | tup e' => rw [e] at e'; cases e' | dK e' => rw [e] at e'; cases e'
  | tup e => cases h' with | lst e' => rw [e] at e'; cases e' | tup _ => rfl | dK e' => rw [e] at e'; cases e'
  | dK e => cases h' with | lst e' => rw [e] at e'; cases e' | tup e' => rw [e] at e'; cases e' | dK _ => rfl
  | non => cases h'; rfl
  | bl _ => cases h'; rfl
  | int _ => cases h'; rfl
  | str _ => cases h'; rfl
theorem call_isk {X : Cx} : CallR X (.builtin "isinstance") (fun xs H Q => ∃ x T k, xs = [x, .ty T] ∧ Kd H x k ∧ T ∈ ["str", "list", "tuple", "bool", "int", "dict"] ∧ Q (.bl (subT k T)) H) := by
  intro pins s σ H xs us Q I r h
  obtain ⟨x, T, k, e, hk, hT, q⟩ := h
  obtain ⟨h1, h2⟩ := hk.ty (K := X.K)
  exact call_isinst pins s σ H xs us Q I r ⟨x, T, .type k, _, e, h1, kit_ok X.K k h2 T hT, q⟩
theorem same_upd {H : Hp} {p : Addr} (h : H p = none) (o : HO) : Same H (upd H p o) := fun b u q => by rw [upd_ne (ne_of_none q h)]; exact q
section
variable {H : Hp} {Q : VK} {v : V} {a : Option V} {r : St} {i : Nat}
theorem rd_st {t : TS} {D : Ends} {σ : St} (σ' : St) (e : σ = σ') (h : t D σ' H) : t D σ H := by rw [e]; exact h
theorem rd_v0 : tVar 0 (some v :: r) H Q = Q v H := by simp [tVar]
theorem rd_vS : tVar (i + 1) (a :: r) H Q = tVar i r H Q := rfl
theorem rd_ite_t {A B : Prop} : (if true = true then A else B) = A := if_pos rfl
theorem rd_ite_f {A B : Prop} : (if false = true then A else B) = B := if_neg Bool.false_ne_true
theorem rd_ss {a b : Str} : (scal (.str a) (.str b) = true) = True := by simp [scal]
theorem rd_si {a : Str} {b : Int} : (scal (.str a) (.int b) = true) = True := by simp [scal]
theorem rd_is {b : Str} {a : Int} : (scal (.int a) (.str b) = true) = True := by simp [scal]
theorem rd_ii {a b : Int} : (scal (.int a) (.int b) = true) = True := by simp [scal]
theorem rd_bb {a b : Bool} : (scal (.bl a) (.bl b) = true) = True := by simp [scal]
def cBody (tn : List Str) (cp : List (Nat × Str)) (g : TG) (tif : TT) (te : TE) (σ : St) (Q : VK) (J : It) (H1 : Hp) : Prop := ∀ D, H1 D = none → ∃ W : Nat → Nat → St → Hp → Prop,
  (∃ m, W 0 m (stB tn cp σ) (upd H1 D (.lst []))) ∧ ∀ i m σb Hb, W i m σb Hb →
    (J.stop i Hb ∧ Q (.ref D) Hb) ∨ (J.go i Hb ∧ ∀ x H', J.yld i Hb x H' → g x σb H' fun σ2 H2 => tif σ2 H2 fun c H3 =>
      if c = true then te σ2 H3 fun y H4 => ∃ ys, H4 D = some (.lst ys) ∧ ys.length < sizeLine ∧ ∃ m', m' < m ∧ W (i + 1) m' σ2 (upd H4 D (.lst (ys ++ [y])))
      else ∃ m', m' < m ∧ W (i + 1) m' σ2 H3)
theorem rd_comp {tn : List Str} {cp : List (Nat × Str)} {wi : TI} {g : TG} {tif : TT} {te : TE} {σ : St} : tComp tn cp wi g tif te σ H Q = wi σ H fun J H1 => cBody tn cp g tif te σ Q J H1 := rfl
def fBody (g : TG) (tb : TS) (D : Ends) (σ : St) (J : It) (H1 : Hp) : Prop := ∃ W : Nat → Nat → St → Hp → Prop, (∃ m, W 0 m σ H1) ∧ ∀ i m σ H, W i m σ H →
  (J.stop i H ∧ D.nx σ H) ∨ (J.go i H ∧ ∃ N : St → Hp → Prop, (∀ σ' H', N σ' H' → ∃ m', m' < m ∧ W (i + 1) m' σ' H') ∧ ∀ x H', J.yld i H x H' → g x σ H' fun σ2 H2 => tb { D with nx := N, ct := N, bk := D.nx } σ2 H2)
theorem rd_for {wi : TI} {g : TG} {tb : TS} {D : Ends} {σ : St} : tFor wi g tb D σ H = wi σ H fun J H1 => fBody g tb D σ J H1 := rfl
end
section
variable {tn : List Str} {cp : List (Nat × Str)} {g : TG} {tif : TT} {te : TE} {σ0 : St} {Q : VK} {H1 : Hp}
theorem cb_by {J : It} (n : Nat) (Pv : Addr → Nat → List V → St → Hp → Prop) (hn : n ≤ sizeLine) (h0 : ∀ D, H1 D = none → Pv D 0 [] (stB tn cp σ0) (upd H1 D (.lst [])))
    (hgo : ∀ D i ys σ H, H1 D = none → i < n → H D = some (.lst ys) → Pv D i ys σ H → J.go i H) (hstop : ∀ D ys σ H, H1 D = none → H D = some (.lst ys) → Pv D n ys σ H → J.stop n H)
    (hs : ∀ D i ys σ H x H', H1 D = none → i < n → H D = some (.lst ys) → ys.length ≤ i → Pv D i ys σ H → J.yld i H x H' → g x σ H' fun σ2 H2 => tif σ2 H2 fun c H3 =>
      if c = true then te σ2 H3 fun y H4 => CStep D n i (Pv D) σ2 y H4 else CSkip D n i (Pv D) σ2 H3)
    (hd : ∀ D ys σ H, H1 D = none → H D = some (.lst ys) → ys.length ≤ n → Pv D n ys σ H → Q (.ref D) H) : cBody tn cp g tif te σ0 Q J H1 := fun D hD =>
  comp_by (Pv D) hn (h0 D hD) (fun i ys σ H => hgo D i ys σ H hD) (fun ys σ H => hstop D ys σ H hD) (fun i ys σ H hi hH hl p x H' y => hs D i ys σ H x H' hD hi hH hl p y) (fun ys σ H => hd D ys σ H hD)
theorem cb_list {K : PySem.W.Frag} {a : Addr} {xs : List V} (Pv : Addr → Nat → List V → St → Hp → Prop) (hn : xs.length ≤ sizeLine) (h0 : ∀ D, H1 D = none → Pv D 0 [] (stB tn cp σ0) (upd H1 D (.lst [])))
    (hl : ∀ D i ys σ H, H1 D = none → i ≤ xs.length → H D = some (.lst ys) → Pv D i ys σ H → SqL K H a xs)
    (hs : ∀ D i ys σ H x, H1 D = none → i < xs.length → xs[i]? = some x → H D = some (.lst ys) → ys.length ≤ i → Pv D i ys σ H → g x σ H fun σ2 H2 => tif σ2 H2 fun c H3 =>
      if c = true then te σ2 H3 fun y H4 => CStep D xs.length i (Pv D) σ2 y H4 else CSkip D xs.length i (Pv D) σ2 H3)
    (hd : ∀ D ys σ H, H1 D = none → H D = some (.lst ys) → ys.length ≤ xs.length → Pv D xs.length ys σ H → Q (.ref D) H) : cBody tn cp g tif te σ0 Q (Itl K a) H1 := fun D hD =>
  comp_list (Pv D) hn (h0 D hD) (fun i ys σ H => hl D i ys σ H hD) (fun i ys σ H x => hs D i ys σ H x hD) (fun ys σ H => hd D ys σ H hD)
variable {tb : TS} {D : Ends}
theorem fb_tup {K : PySem.W.Frag} {a : Addr} {xs : List V} (Pv : Nat → St → Hp → Prop) (h0 : Pv 0 σ0 H1) (hl : ∀ i σ H, i ≤ xs.length → Pv i σ H → SqT K H a xs)
    (hs : ∀ i x σ H, xs[i]? = some x → Pv i σ H → g x σ H fun σ2 H2 => tb { D with nx := Pv (i + 1), ct := Pv (i + 1), bk := D.nx } σ2 H2) (hd : ∀ σ H, Pv xs.length σ H → D.nx σ H) : fBody g tb D σ0 (Itt K a) H1 := for_tup Pv h0 hl hs hd
theorem fb_range {lo : Int} {n : Nat} (Pv : Nat → St → Hp → Prop) (h0 : Pv 0 σ0 H1)
    (hs : ∀ i σ H, i < n → Pv i σ H → g (.int (lo + i)) σ H fun σ2 H2 => tb { D with nx := Pv (i + 1), ct := Pv (i + 1), bk := D.nx } σ2 H2) (hd : ∀ σ H, Pv n σ H → D.nx σ H) : fBody g tb D σ0 (Itr lo n) H1 := for_range Pv h0 hs hd
end
def cutL {α : Type} (xs : List α) (lo hi : Option Int) : List α := (xs.drop (HT.sIx xs.length 0 lo)).take (HT.sIx xs.length xs.length hi - HT.sIx xs.length 0 lo)
theorem atI_0 {α : Type} {c : α} {r : List α} : atI (c :: r) 0 = some c := atI_nat (j := 0) rfl
theorem small_line {n : Nat} (h : n ≤ 1000) : n ≤ sizeLine := Nat.le_of_lt (small1000 h)
theorem hu_at {A : Around} {k : Nat} (hr : Room k A) (j : Nat) (h : j ≤ 64) : A.units + j < cLine := by have := hr.units; omega
end L2
set_option Elab.async false
set_option linter.all false
set_option maxRecDepth 100000
namespace L2
open PySem PySem.Spec PyProof.Rows
section
variable {K : PySem.W.Frag} {h : Heap} {mg : Str → Option Value}
theorem dfn_mk {x : Str} {st : Stmt} {ps : List Str} {f : Addr} {oc : Value} {od an : Option Addr} {osl : Array (Option Value)} {kV doc pm cdv ct : Value} (X : K.In h) (G : h.Ns mainGlobals mg)
    (a : PySem.W.nsIn K mainGlobals x = some (some (.ref f))) (l : K.lookup f = some ⟨oc, od, .func (PySem.W.fnOf x x (defArgs st) (defBody st) (defScope st) .none kV doc pm an cdv ct), osl⟩)
    (c : PySem.W.codeIn K cdv x = true) (k : PySem.W.keepIn K (.ref f) = true)
    (hb : ∀ (kV doc pm : Value) (an : Option Addr) (cdv ct : Value) (us : List Value), us.length = ps.length → bindArgs (PySem.W.fnOf x x (defArgs st) (defBody st) (defScope st) .none kV doc pm an cdv ct) ⟨us, []⟩ = pure (ps.zip us)) : Dfn K mg x st ps :=
  ⟨f, _, fun_mk l c k, (fun_mk l c k).binds hb, PySem.W.mg_of X G a⟩
theorem law_mk {x y : Str} {st : Stmt} {f fa : Addr} {oc : Value} {od an : Option Addr} {osl : Array (Option Value)} {kV doc pm cdv ct : Value} (X : K.In h) (G : h.Ns mainGlobals mg) (hfa : mg x = some (.ref fa))
    (a : PySem.W.nsIn K mainGlobals x = some (some (.ref f))) (l : K.lookup f = some ⟨oc, od, .func (PySem.W.fnOf x x (defArgs st) (defBody st) (defScope st) .none kV doc pm an cdv ct), osl⟩)
    (c : PySem.W.codeIn K cdv x = true) (k : PySem.W.keepIn K (.ref f) = true) (hb : ∀ (s : Shared) (v : Value), BindsTo s (PySem.W.fnOf x x (defArgs st) (defBody st) (defScope st) .none kV doc pm an cdv ct) ⟨[v], []⟩ [(y, v)]) :
    ∃ fd : FuncData, (∀ (s : Shared) (v : Value), BindsTo s fd ⟨[v], []⟩ [(y, v)]) ∧ Fun K x x st fa fd := by
  have e := hfa.symm.trans (PySem.W.mg_of X G a)
  cases e
  exact ⟨_, hb, fun_mk l c k⟩
theorem glv_mk {x : Str} {u : Value} {v : V} (X : K.In h) (G : h.Ns mainGlobals mg) (a : PySem.W.nsIn K mainGlobals x = some (some u)) (r : RelV v u) : GlV mg x v := ⟨u, PySem.W.mg_of X G a, r⟩
end
end L2
set_option Elab.async false
set_option linter.all false
set_option maxRecDepth 100000
namespace L2
open PySem PySem.Spec PyProof.Rows
section
variable {CX : CXT} {P : Program} {w : World} {K : PySem.W.Frag} {mg : Str → Option Value} {base : Heap} {N : List Str} {x : Str} {sc : Scope} {f : Addr} {cdv : Value} {A : Around} {outer : List Env} {s : Shared} {H : Hp} {E : XK}
theorem cxK : (cxOf CX P w K mg base N x sc f cdv A outer s H E).K = K := rfl
theorem cxP : (cxOf CX P w K mg base N x sc f cdv A outer s H E).prog = P := rfl
theorem cxW : (cxOf CX P w K mg base N x sc f cdv A outer s H E).w = w := rfl
end
end L2
namespace L2
open PySem PySem.Spec PyProof.Rows
section
variable {X : Cx} {st : Stmt} {rest : List Stmt} {t u : TS} {e : Expr} {te : TE}
def tCut (t u : TS) : TS := fun D σ H => ∃ Pv : St → Hp → Prop, t { D with nx := Pv } σ H ∧ ∀ σ' H', Pv σ' H' → u D σ' H'
theorem pss_cut (h1 : PS X st t) (h2 : PSs X rest u) : PSs X (st :: rest) (tCut t u) := by
  intro pins s σ H D I h
  obtain ⟨Pv, q1, q2⟩ := h
  refine wpAny_execs_cons (thn (h1 pins s σ H { D with nx := Pv } I q1) fun f s1 q => ?_)
  cases f with
  | next =>
    obtain ⟨σ', H', I', q⟩ := q
    exact h2 pins s1 σ' H' D I' (q2 σ' H' q)
  | ret v => exact q
  | brk => exact q
  | cont => exact q
end
end L2
namespace L2
open PySem PySem.Spec PyProof.Rows
local instance (priority := 10000) : BEq Key := instBEqOfDecidableEq
local instance (priority := 10000) : LawfulBEq Key := inferInstanceAs (LawfulBEq (Sum Int Str))
end L2
set_option Elab.async false
set_option linter.all false
set_option maxRecDepth 100000
namespace L2
open PySem PySem.Spec PyProof.Rows
structure New (H : Hp) (p : Addr) (o : HO) (H' : Hp) : Prop where
  nil : H p = none
  g : Same H H'
  at' : H' p = some o
  eq : H' = upd H p o
theorem New.mk' {H : Hp} {p : Addr} (h : H p = none) (o : HO) : New H p o (upd H p o) := ⟨h, same_upd h o, upd_same, rfl⟩
theorem Same.wr {H H' : Hp} {p : Addr} (g : Same H H') (h : H p = none) (o : HO) : Same H (upd H' p o) := fun b u e => by rw [upd_ne (ne_of_none e h)]; exact g b u e
section
variable {X : Cx} {e : Expr} {es : List Expr} {t : TA} {pos : Pos}
def tTupN (t : TA) : TE := fun σ H Q => t σ H fun xs H1 => xs.length ≤ sizeLine ∧ ∀ p H', New H1 p (.tup xs) H' → Q (.ref p) H'
def tLstN (t : TA) : TE := fun σ H Q => t σ H fun xs H1 => xs.length ≤ sizeLine ∧ ∀ p H', New H1 p (.lst xs) H' → Q (.ref p) H'
theorem pe_tupN {x1} (h : PA X es t) : PE X (.Tuple es x1 pos) (tTupN t) := by
  intro pins s σ H Q I hq
  refine wpAny_Tuple_spliced (thn (h pos pins s σ H _ I hq) fun us s1 ⟨xs, H1, I1, r, z, q⟩ => ⟨by rw [← r.length]; exact z, ?_⟩)
  refine ⟨.ref s1.heap.objs.size, upd H1 s1.heap.objs.size (.tup xs), I1.laid (t' := s1.toks) (fun b u e => Heap.get?_push_of_some _ e) (Nat.le_refl _) ?_, rfl, q _ _ (.mk' I1.fresh _)⟩
  exact ⟨z, us, r, ⟨_, Heap.get?_push_size _ rfl, rfl, _, rfl⟩⟩
theorem pe_lstN (h : PA X es t) : PE X (.List es pos) (tLstN t) := by
  intro pins s σ H Q I hq
  refine wpAny_List_spliced (thn (h pos pins s σ H _ I hq) fun us s1 ⟨xs, H1, I1, r, z, q⟩ => ⟨by rw [← r.length]; exact z, ?_⟩)
  refine ⟨.ref s1.heap.objs.size, upd H1 s1.heap.objs.size (.lst xs), I1.laid (t' := s1.toks) (fun b u e => Heap.get?_push_of_some _ e) (Nat.le_refl _) ?_, rfl, q _ _ (.mk' I1.fresh _)⟩
  exact ⟨z, us, 0, r, Heap.get?_push_size _ rfl⟩
def rSlLN (K : PySem.W.Frag) : V → Option Int → Option Int → Hp → VK → Prop := fun x lo hi H Q => ∃ a xs, x = .ref a ∧ SqL K H a xs ∧ ∀ p H', New H p (.lst (cutL xs lo hi)) H' → Q (.ref p) H'
theorem sl_listN : SlR X (rSlLN X.K) := fun pins s σ H x v vl vu lo hi sl Q I rx hs pl pu h => by
  obtain ⟨a, xs, e, hx, q⟩ := h
  exact sl_list pins s σ H x v vl vu lo hi sl Q I rx hs pl pu ⟨a, xs, e, hx, fun p np => q p _ (.mk' np _)⟩
def rCatN : R2 := fun x y H Q => ∃ l b xs zs, x = .ref l ∧ y = .ref b ∧ H l = some (.lst xs) ∧ H b = some (.lst zs) ∧ xs.length + zs.length ≤ sizeLine ∧ ∀ p H', New H p (.lst (xs ++ zs)) H' → Q (.ref p) H'
theorem call_tuple_ofN : CallR X (.type "tuple") (fun xs H Q => ∃ p ys, xs = [.ref p] ∧ ((SqL X.K H p ys ∧ ∀ l H', New H l (.tup ys) H' → Q (.ref l) H') ∨ (SqT X.K H p ys ∧ Q (.ref p) H))) := fun pins s σ H xs us Q I r h => by
  obtain ⟨p, ys, e, hq⟩ := h
  refine call_tuple_of pins s σ H xs us Q I r ⟨p, ys, e, ?_⟩
  rcases hq with ⟨h1, q⟩ | h1
  · exact .inl ⟨h1, fun l nl => q l _ (.mk' nl _)⟩
  · exact .inr h1
end
end L2
set_option Elab.async false
set_option linter.all false
set_option maxRecDepth 100000
namespace SS
open PySem PySem.Spec PyProof.Rows L2
def Thing (H : Hp) (y : V) : Prop := (∃ k, Kd H y k) ∧ ∀ z, y = .str z → z.length ≤ 1000
theorem Thing.str {H : Hp} {z : Str} (h : z.length ≤ 1000) : Thing H (.str z) := ⟨⟨_, .str z⟩, fun z' e => by cases e; exact h⟩
theorem Thing.tup {H : Hp} {a : Addr} {xs : List V} (e : H a = some (.tup xs)) : Thing H (.ref a) := ⟨⟨_, .tup e⟩, fun z' e => by cases e⟩
end SS
set_option Elab.async false
set_option linter.all false
set_option maxRecDepth 100000
namespace SS
open PySem PySem.Spec PyProof.Rows L2
def sp_cell (K : PySem.W.Frag) : Sp := fun vs H Q _ => ∃ (a : Addr) (ns : List Int) (k : Int), vs = [.ref a, .int k] ∧ SqL K H a (ns.map V.int) ∧ 0 ≤ k ∧ ∀ c, Q (.int c) H
def sp_lawF (K : PySem.W.Frag) : Sp := fun vs H Q _ => ∃ (a : Addr) (ns : List Int), vs = [.ref a] ∧ SqL K H a (ns.map V.int) ∧ ns.length ≤ 63 ∧ ∀ H', Q (.bl true) H'
end SS
namespace SS
open PySem PySem.Spec PyProof.Rows L2
theorem cutL_map {α β : Type} (f : α → β) (xs : List α) (lo hi : Option Int) : cutL (xs.map f) lo hi = (cutL xs lo hi).map f := by
  unfold cutL
  rw [List.length_map, List.map_take, List.map_drop]
end SS
set_option Elab.async false
set_option linter.all false
set_option maxRecDepth 100000
namespace L2
open PySem PySem.Spec PyProof.Rows
section
variable {X : Cx} {k : Nat} {H : Hp} {a b : Addr} {xs ys : List V}
def rEqS (K : PySem.W.Frag) : R2 := fun x y H Q => ∃ (a b : Addr) (xs ys : List Str), x = .ref a ∧ y = .ref b ∧ SqL K H a (xs.map V.str) ∧ SqL K H b (ys.map V.str) ∧ Q (.bl (decide (xs = ys))) H
def rNeS (K : PySem.W.Frag) : R2 := fun x y H Q => ∃ (a b : Addr) (xs ys : List Str), x = .ref a ∧ y = .ref b ∧ SqL K H a (xs.map V.str) ∧ SqL K H b (ys.map V.str) ∧ Q (.bl (!decide (xs = ys))) H
def rSlTN (K : PySem.W.Frag) : V → Option Int → Option Int → Hp → VK → Prop := fun x lo hi H Q => ∃ a xs, x = .ref a ∧ SqT K H a xs ∧
  ¬ (HT.sIx xs.length 0 lo = 0 ∧ HT.sIx xs.length xs.length hi = xs.length) ∧ ∀ p H', New H p (.tup (cutL xs lo hi)) H' → Q (.ref p) H'
def rStrB (f : Str → Bool) : V → List V → Hp → VK → Prop := fun x vs H Q => ∃ z, x = .str z ∧ vs = [] ∧ Q (.bl (f z)) H
end
section
variable {X : Cx} (K : PySem.W.Frag)
theorem ix_listK (h : X.K = K := by rfl) : IxR X (rIxL K) := h ▸ ix_list
theorem ix_tupK (h : X.K = K := by rfl) : IxR X (rIxT K) := h ▸ ix_tup
theorem sl_listNK (h : X.K = K := by rfl) : SlR X (rSlLN K) := h ▸ sl_listN
def rLen : List V → Hp → VK → Prop := fun xs H Q => ∃ p ys, xs = [.ref p] ∧ (SqL K H p ys ∨ SqT K H p ys) ∧ Q (.int (List.length ys)) H
theorem call_len_seqK (h : X.K = K := by rfl) : CallR X (.builtin "len") (rLen K) := h ▸ call_len_seq
def rAll : List V → Hp → VK → Prop := fun xs H Q => ∃ (p : Addr) (bs : List Bool), xs = [.ref p] ∧ SqL K H p (bs.map V.bl) ∧ Q (.bl (bs.all id)) H
def rAny : List V → Hp → VK → Prop := fun xs H Q => ∃ (p : Addr) (bs : List Bool), xs = [.ref p] ∧ SqL K H p (bs.map V.bl) ∧ Q (.bl (bs.any id)) H
def rSum : List V → Hp → VK → Prop := fun xs H Q => ∃ (p : Addr) (ns : List Int), xs = [.ref p] ∧ SqL K H p (ns.map V.int) ∧ Q (.int ns.sum) H
theorem call_sum_intK (hc : X.calm = true) (h : X.K = K := by rfl) : CallR X (.builtin "sum") (rSum K) := h ▸ call_sum_int hc
def rListOf : List V → Hp → VK → Prop := fun xs H Q => ∃ p ys, xs = [.ref p] ∧ (SqL K H p ys ∨ SqT K H p ys) ∧ ∀ l H', New H l (.lst ys) H' → Q (.ref l) H'
theorem pi_listK {tg l : Expr} {tl : TE} (hl : PE X l tl) (h : X.K = K := by rfl) : PI X tg l (iList K tl) := h ▸ pi_list hl
theorem pi_tupK {tg l : Expr} {tl : TE} (hl : PE X l tl) (h : X.K = K := by rfl) : PI X tg l (iTup K tl) := h ▸ pi_tup hl
variable {o e : Expr} {es : List Expr} {to : TE} {t : TA} {name : Str} {apos cpos : Pos} {T id : String} {r : V → List V → Hp → VK → Prop}
theorem pe_bmK (pa : PlainAttrs T) (slot : Slot T name id) (hty : typeOf (.builtin id) = pure (.type "method_descriptor")) (hm : MtR X id r) (ho : PE X o to) (ha : PA X (e :: es) t) (h : X.K = K := by rfl)
    (hbase : attributeBase o name X.env (eval o X.env) = eval o X.env := by rfl)
    (hfew : ((backTo cpos (starEach (e :: es) X.env)).all (fun x => !x.1) && (backToKw cpos (keywordEach [] X.env)).all (fun x => x.1.isSome)
      && decide ((e :: es).length + ([] : List Keyword).length + (if ([] : List Keyword).isEmpty then 0 else 1) < 30)) = true := by rfl)
    (hline : (apos.endLine == cpos.line) = true := by rfl) (h1 : notStar e = true := by rfl) (h2 : es.all notStar = true := by rfl) :
    PE X (.Call (.Attribute o name apos) (e :: es) [] cpos) (tBM K T r to t) := h ▸ pe_bm pa slot hty hm ho ha hbase hfew hline (star_cons h1) (star_any h2)
end
end L2
set_option Elab.async false
set_option linter.all false
set_option maxRecDepth 100000
namespace SS
open PySem PySem.Spec PyProof.Rows L2
inductive Sy where
  | bare (w n m : Str)
  | neg (s : Sy)
  | two (w : Str) (s t : Sy)
  | qu (w n : Str) (s : Sy)
end SS
set_option Elab.async false
set_option linter.all false
set_option maxRecDepth 100000
namespace SS
open PySem PySem.Spec PyProof.Rows L2
theorem Paired.at {α β : Type} {R : α → β → Prop} : ∀ {xs : List α} {ys : List β} {i : Nat} {x : α}, Paired R xs ys → xs[i]? = some x → ∃ y, ys[i]? = some y ∧ R x y
  | _, _, _, _, .nil, h => by simp at h
  | _, _, 0, _, .cons h _, e => by simp at e; subst e; exact ⟨_, rfl, h⟩
  | _, _, i + 1, _, .cons _ h, e => by simp only [List.getElem?_cons_succ] at e ⊢; exact Paired.at h e
theorem Paired.len {α β : Type} {R : α → β → Prop} : ∀ {xs : List α} {ys : List β}, Paired R xs ys → xs.length = ys.length
  | _, _, .nil => rfl
  | _, _, .cons _ h => by rw [List.length_cons, List.length_cons, Paired.len h]
end SS
set_option Elab.async false
set_option linter.all false
set_option maxRecDepth 100000
set_option Elab.async false
set_option linter.all false
set_option maxRecDepth 100000
namespace L2
open PySem PySem.Spec PyProof.Rows
section
variable {P : Program} {w : World} {A : Around} {E : Value → Shared → Prop} {s : Shared}
theorem nx_tup_item {j t : Addr} {k : Nat} {its : Array Value} {y : Value} {Q : Value → Shared → Prop} (st : s.heap.IsTupleIter j t k) (tp : s.heap.IsTuple t its) (hy : its[k]? = some y)
    (q : ∀ h', h'.IsTupleIter j t (k + 1) → Heap.SameBut j s.heap h' → Q y { s with heap := h' }) : wpAny (model P w) A (Builtin.SmallTypes.nextOf (.ref j)) Q E s := by
  obtain ⟨oj, gj, cj, dj⟩ := id st
  obtain ⟨ot, gt, _, nt, dt⟩ := tp
  unfold Builtin.SmallTypes.nextOf
  refine wpAny_bind (wpAny_callSpecial?_slot (name := Str.ofString "__next__") st.typeIs F.slot_tuple_iterator_next (wpAny_call_entry F.slot_tuple_iterator_next st.typeIs F.entry_tuple_iterator_next ?_ (F.args_tuple_iterator_next_1 _)))
  show wpAny _ _ (field (.ref j) 0 >>= _) _ _ s
  refine wpAny_bind (wpAny_field gj dj (x := .ref t) rfl ?_)
  show wpAny _ _ (if (Value.ref t == Value.none) = true then _ else _) _ _ s
  rw [if_neg (show ¬ (Value.ref t == Value.none) = true from Bool.false_ne_true)]
  show wpAny _ _ (field (.ref j) 1 >>= _) _ _ s
  refine wpAny_bind (wpAny_field gj dj (x := .int k 0) rfl ?_)
  show wpAny _ _ (seqItems? (.ref t) >>= _) _ _ s
  refine wpAny_bind (wpAny_seqItems gt dt ?_)
  simp only [Int.toNat_natCast, hy]
  refine wpAny_bind (wpAny_setField gj dj (by simp) (wpAny_pure ⟨y, rfl, wpAny_pure (q _ ?_ (Heap.SameBut.update ..))⟩))
  exact ⟨_, Heap.get?_update_self _ gj (Obj.isFreed_of_fields (Obj.data_mapFields dj _)), (Obj.cls_mapFields ..).trans cj, by rw [Obj.data_mapFields dj]; simp [rawInt]⟩
theorem nx_tup_end {j t : Addr} {k : Nat} {its : Array Value} {Q : Value → Shared → Prop} (hh : A.handled = none) (st : s.heap.IsTupleIter j t k) (tp : s.heap.IsTuple t its) (hy : its[k]? = none)
    (q : ∀ h' e, Heap.ExtBut j s.heap h' → (∃ o, h'.get? e = some o ∧ o.cls = .type "StopIteration") → E (.ref e) { s with heap := h' }) : wpAny (model P w) A (Builtin.SmallTypes.nextOf (.ref j)) Q E s := by
  obtain ⟨oj, gj, cj, dj⟩ := id st
  obtain ⟨ot, gt, _, nt, dt⟩ := tp
  unfold Builtin.SmallTypes.nextOf
  refine wpAny_bind (wpAny_callSpecial?_slot (name := Str.ofString "__next__") st.typeIs F.slot_tuple_iterator_next (wpAny_call_entry F.slot_tuple_iterator_next st.typeIs F.entry_tuple_iterator_next ?_ (F.args_tuple_iterator_next_1 _)))
  show wpAny _ _ (field (.ref j) 0 >>= _) _ _ s
  refine wpAny_bind (wpAny_field gj dj (x := .ref t) rfl ?_)
  show wpAny _ _ (if (Value.ref t == Value.none) = true then _ else _) _ _ s
  rw [if_neg (show ¬ (Value.ref t == Value.none) = true from Bool.false_ne_true)]
  show wpAny _ _ (field (.ref j) 1 >>= _) _ _ s
  refine wpAny_bind (wpAny_field gj dj (x := .int k 0) rfl ?_)
  show wpAny _ _ (seqItems? (.ref t) >>= _) _ _ s
  refine wpAny_bind (wpAny_seqItems gt dt ?_)
  simp only [Int.toNat_natCast, hy]
  refine wpAny_bind (wpAny_rule (wpAny_bind (wpAny_setField gj dj (by simp) ?_)))
  show wpAny _ _ (newExc (.type "StopIteration") [] >>= _) _ _ _
  refine wpAny_bind ?_
  simp only [newExc, newTuple]
  refine wpAny_bind (wpAny_newObj_type ?_ (by size_fits))
  refine wpAny_bind (m := firstArgMember _ _) (wpAny_of_eq (a := Value.none) (by simp only [firstArgMember]; rfl) ?_)
  refine wpAny_newObj_type ?_ (by size_fits)
  simp only [raiseNew]
  refine wpAny_bind (wpAny_handled ?_)
  rw [show A.in1.handled = none from hh]
  refine wpAny_bind (wpAny_pure (wpAny_throw (q _ _ (((Heap.SameBut.update ..).extBut.push _).push _) ⟨_, Heap.get?_push_size _ rfl, rfl⟩)))
end
section
variable {X : Cx} {pins : List (Addr × Obj)} {σ : St} {H : Hp} {s : Shared} {h' : Heap}
theorem Inv.turnedL {t' : Nat} {L : List Addr} (I : Inv X pins σ H s) (k : ∀ b o, b ∉ L → s.heap.get? b = some o → h'.get? b = some o) (hL : ∀ b ∈ L, FpOk X pins H b) : Inv X pins σ H { s with heap := h', toks := t' } := by
  have no : ∀ b u, H b = some u → b ∉ L := fun b u e z => by rw [(hL b z).1] at e; cases e
  refine I.step (g' := s.gens) (d' := s.drawn) (ch := L) (fun b hb => ?_) (fun b o _ _ hc e _ => k b o hc e) (fun b o _ _ hc e _ => ⟨o.slots, k b o hc e⟩) (fun _ _ _ _ n => n)
    (fun b o hc e => ⟨o, k b o hc e⟩) (fun _ _ e => e) (fun _ _ _ e => e) (fun _ _ _ e => e) (fun m hm => ?_) (fun b u e => ?_) I.bare
  · obtain ⟨_, f1, _, f3, f4, f5⟩ := hL b hb
    exact ⟨f3, f1, f4, f5⟩
  · obtain ⟨o, es, ep, ho, r⟩ := hm
    exact ⟨o, es, ep, k _ o (fun z => (hL _ z).2.1 rfl) ho, r⟩
  · refine (I.hok b u e).stay (fun c v hc q => k c v ?_ q) (fun _ q => q) (fun _ _ _ _ _ q => q) fun _ _ q => q
    rcases hc with z | z
    · rw [z]; exact no b u e
    · exact no c _ z
theorem Inv.turnedNew {t' : Nat} {L : List Addr} {p : Addr} {o : HO} (I : Inv X pins σ H s) (k : ∀ b u, b ∉ L → s.heap.get? b = some u → h'.get? b = some u) (hL : ∀ b ∈ L, FpOk X pins H b) (hp : s.heap.objs.size ≤ p) (new : ObjOk X.prog X.w (upd H p o) h' p o)
    (hl : ∀ b ∈ L, ∃ u, h'.get? b = some u) : Inv X pins σ (upd H p o) { s with heap := h', toks := t' } := by
  have hn : H p = none := I.hok.fresh hp
  have no : ∀ b u, H b = some u → b ∉ L := fun b u e z => by rw [(hL b z).1] at e; cases e
  have ne : ∀ b u, H b = some u → upd H p o b = some u := fun b u e => by rw [upd_ne (ne_of_none e hn)]; exact e
  refine I.step (g' := s.gens) (d' := s.drawn) (ch := L) (fun b hb => ?_) (fun b u _ _ hc e _ => k b u hc e) (fun b u _ _ hc e _ => ⟨u.slots, k b u hc e⟩) (fun b u _ e z => ?_)
    (fun b u hc e => ⟨u, k b u hc e⟩) (fun b xs e => ne b _ e) (fun b ob u e => ne b _ e) (fun b _ _ e => ne b _ e) (fun m hm => ?_) (fun b u e => ?_) I.bare
  · obtain ⟨_, f1, _, f3, f4, f5⟩ := hL b hb
    exact ⟨f3, f1, f4, f5⟩
  · rw [upd_ne (Nat.ne_of_lt (Nat.lt_of_lt_of_le (Heap.lt_size e) hp))]; exact z
  · obtain ⟨ob, es, ep, ho, r⟩ := hm
    exact ⟨ob, es, ep, k _ ob (fun z => (hL _ z).2.1 rfl) ho, r⟩
  · by_cases hb : b = p
    · subst hb; rw [upd_same] at e; cases e; exact new
    · rw [upd_ne hb] at e
      refine (I.hok b u e).stay (fun c v hc q => k c v ?_ q) (fun c q => ne c _ q) (fun c _ _ _ _ q => ne c _ q) fun c xs q => ne c _ q
      rcases hc with z | z
      · rw [z]; exact no b u e
      · exact no c _ z
end
def Itz (K : PySem.W.Frag) (a b : Addr) : It :=
  ⟨fun i H => ∃ xs ys x y, SqT K H a xs ∧ SqT K H b ys ∧ xs[i]? = some x ∧ ys[i]? = some y,
   fun i H v H' => ∃ p x y, v = .ref p ∧ New H p (.tup [x, y]) H' ∧ (∀ xs, SqT K H a xs → xs[i]? = some x) ∧ ∀ ys, SqT K H b ys → ys[i]? = some y,
   fun i H => ∃ xs ys, SqT K H a xs ∧ SqT K H b ys ∧ xs.length ≤ i⟩
def iZip (K : PySem.W.Frag) (ta : TA) : TI := fun σ H R => ta σ H fun vs H1 => ∃ a b, vs = [.ref a, .ref b] ∧ (∃ xs, SqT K H1 a xs) ∧ (∃ ys, SqT K H1 b ys) ∧ R (Itz K a b) H1
theorem pg_tupK {X : Cx} (K : PySem.W.Frag) {es : List Expr} {k : Nat} {t : TGs} {n : Nat} {pos : Pos} (hc : X.calm = true) (h : PGs X es t) (hK : X.K = K := by rfl)
    (hn : (assignEach es X.env).length = n := by rfl) (hst : (assignEach es X.env).findIdx? (·.1) = none := by rfl) : PG X (.Tuple es k pos) (gTup K n t) := hK ▸ pg_tup hc h hn hst
end L2
set_option Elab.async false
set_option linter.all false
set_option maxRecDepth 100000
namespace L2
open PySem PySem.Spec PyProof.Rows
def DctK (K : PySem.W.Frag) (w : World) (a : Addr) (f : Str → Option V) : Prop := (a == sysModules) = false ∧ ∃ (es : Array DictEntry) (n : Nat), K.lookup a = some ⟨.type "dict", none, .dict es n, #[]⟩ ∧ PySem.W.KeysLit w.params es.toList ∧ ∀ x, RelO (f x) (findBy Value.isStrOf es x)
section
variable {X : Cx} (K : PySem.W.Frag) (w : World)
def rInD (neg : Bool) : R2 := fun x y H Q => ∃ z a f, x = .str z ∧ y = .ref a ∧ DctK K w a f ∧ Q (.bl (if neg then !(f z).isSome else (f z).isSome)) H
def rIxD : R2 := fun x y H Q => ∃ a z f v, x = .ref a ∧ y = .str z ∧ DctK K w a f ∧ f z = some v ∧ Q v H
end
end L2
set_option Elab.async false
set_option linter.all false
set_option maxRecDepth 100000
namespace SS
open PySem PySem.Spec PyProof.Rows L2
def Exp (H : Hp) : Nat → V → Prop
  | 0, v => Thing H v
  | n + 1, v => Thing H v ∧ ∀ a xs, v = .ref a → H a = some (.tup xs) → xs.length ≤ 1000 ∧ ∀ x ∈ xs, Exp H n x
end SS
set_option Elab.async false
set_option linter.all false
set_option maxRecDepth 100000
set_option maxHeartbeats 1000000
set_option Elab.async false
set_option linter.all false
set_option maxRecDepth 100000
set_option maxHeartbeats 1000000
namespace SS
open PySem PySem.Spec PyProof.Rows L2
inductive Lit where
  | str (z : Str)
  | oth
  | tnil
  | tcons (x r : Lit)
  deriving DecidableEq
def Oth (H : Hp) (v : V) : Prop := ∃ k, Kd H v k ∧ k ≠ "str" ∧ k ≠ "tuple"
def LitAt (H : Hp) : Lit → V → Prop
  | .str z, v => v = .str z ∧ z.length ≤ 1000
  | .oth, v => Oth H v
  | .tnil, v => ∃ a, v = .ref a ∧ H a = some (.tup [])
  | .tcons x r, v => ∃ a y ys, v = .ref a ∧ H a = some (.tup (y :: ys)) ∧ ys.length ≤ 100 ∧ LitAt H x y ∧ Items H r ys
where Items (H : Hp) : Lit → List V → Prop
  | .tcons x r, ys => ∃ z zs, ys = z :: zs ∧ LitAt H x z ∧ Items H r zs
  | .tnil, ys => ys = []
  | _, _ => False
abbrev Items := LitAt.Items
end SS
namespace SS
open PySem PySem.Spec PyProof.Rows L2
theorem Oth.same {H H' : Hp} {v : V} (g : Same H H') (h : Oth H v) : Oth H' v := let ⟨k, z, r⟩ := h; ⟨k, z.same g, r⟩
mutual
theorem LitAt.same {H H' : Hp} (g : Same H H') : ∀ {l : Lit} {v : V}, LitAt H l v → LitAt H' l v
  | .str z, _, h => h
  | .oth, _, h => Oth.same g h
  | .tnil, _, ⟨a, e, h⟩ => ⟨a, e, g _ _ h⟩
  | .tcons x r, _, ⟨a, y, ys, e, h, hl, h1, h2⟩ => ⟨a, y, ys, e, g _ _ h, hl, LitAt.same g h1, Items.same g h2⟩
theorem Items.same {H H' : Hp} (g : Same H H') : ∀ {l : Lit} {ys : List V}, Items H l ys → Items H' l ys
  | .tcons x r, _, ⟨z, zs, e, h1, h2⟩ => ⟨z, zs, e, LitAt.same g h1, Items.same g h2⟩
  | .tnil, _, h => h
  | .str _, _, h => h
  | .oth, _, h => h
end
theorem LitAt.thing {H : Hp} : ∀ {l : Lit} {v : V}, LitAt H l v → Thing H v
  | .str z, _, ⟨e, h⟩ => by subst e; exact .str h
  | .oth, v, ⟨k, h, h1, _⟩ => ⟨⟨k, h⟩, fun z e => by subst e; cases h; exact absurd rfl h1⟩
  | .tnil, _, ⟨a, e, h⟩ => by subst e; exact .tup h
  | .tcons x r, _, ⟨a, y, ys, e, h, _, _, _⟩ => by subst e; exact .tup h
mutual
theorem LitAt.exp {H : Hp} : ∀ (n : Nat) {l : Lit} {v : V}, LitAt H l v → Exp H n v
  | 0, _, _, h => h.thing
  | n + 1, .str z, _, h => ⟨h.thing, fun a xs e _ => by rw [h.1] at e; cases e⟩
  | n + 1, .oth, v, h => ⟨h.thing, fun a xs e e' => by
    subst e
    obtain ⟨k, hk, _, h2⟩ := h
    exact absurd (hk.inj (.tup e')) h2⟩
  | n + 1, .tnil, _, h => ⟨h.thing, fun a xs e e' => by
    obtain ⟨a', e1, e2⟩ := h
    rw [e] at e1
    cases e1
    rw [e2] at e'
    cases e'
    exact ⟨Nat.zero_le _, fun x hx => nomatch hx⟩⟩
  | n + 1, .tcons x r, _, h => ⟨h.thing, fun a xs e e' => by
    obtain ⟨a', y, ys, e1, e2, hl, h1, h2⟩ := h
    rw [e] at e1
    cases e1
    rw [e2] at e'
    cases e'
    refine ⟨by rw [List.length_cons]; omega, fun x' hx => ?_⟩
    rcases List.mem_cons.mp hx with rfl | hx
    · exact LitAt.exp n h1
    · exact Items.exp n h2 x' hx⟩
theorem Items.exp {H : Hp} : ∀ (n : Nat) {l : Lit} {ys : List V}, Items H l ys → ∀ y ∈ ys, Exp H n y
  | n, .tcons x r, _, ⟨z, zs, e, h1, h2⟩, y, hy => by
    subst e
    rcases List.mem_cons.mp hy with rfl | hy
    · exact LitAt.exp n h1
    · exact Items.exp n h2 y hy
  | n, .tnil, _, h, y, hy => by rw [show _ = [] from h] at hy; exact nomatch hy
  | n, .str _, _, h, y, hy => False.elim h
  | n, .oth, _, h, y, hy => False.elim h
end
end SS
set_option Elab.async false
set_option linter.all false
set_option maxRecDepth 100000
set_option maxHeartbeats 1000000
set_option Elab.async false
set_option linter.all false
set_option maxRecDepth 100000
set_option Elab.async false
set_option linter.all false
set_option maxRecDepth 100000
set_option maxHeartbeats 1000000
set_option Elab.async false
set_option linter.all false
set_option maxRecDepth 100000
set_option Elab.async false
set_option linter.all false
set_option maxRecDepth 100000
set_option maxHeartbeats 1000000
set_option Elab.async false
set_option linter.all false
set_option maxRecDepth 100000
set_option maxHeartbeats 1000000
set_option Elab.async false
set_option linter.all false
namespace L2
open PySem PySem.Spec PyProof.Rows
variable {X : Cx}
end L2
set_option Elab.async false
set_option linter.all false
set_option maxRecDepth 100000
namespace L2
open PySem PySem.Spec PyProof.Rows
section
variable {X : Cx} {k : Nat} {H : Hp} {a b : Addr} {xs ys : List V}
theorem eqV_int (a b : Int) : eqV (.int a) (.int b) = decide (a = b) := by
  by_cases h : a = b
  · subst h; simp [eqV]
  · simp [eqV, h]
theorem all_eqi : ∀ (xs ys : List Int), (xs.length == ys.length && (List.range xs.length).all fun j => eqV ((xs.map V.int).getD j .non) ((ys.map V.int).getD j .non)) = decide (xs = ys)
  | [], [] => rfl
  | [], y :: ys => by simp
  | x :: xs, [] => by simp
  | x :: xs, y :: ys => by
    have ih := all_eqi xs ys
    have e : (List.range (x :: xs).length).all (fun j => eqV (((x :: xs).map V.int).getD j .non) (((y :: ys).map V.int).getD j .non)) =
        (decide (x = y) && (List.range xs.length).all fun j => eqV ((xs.map V.int).getD j .non) ((ys.map V.int).getD j .non)) := by
      rw [List.length_cons, List.range_succ_eq_map, List.all_cons, List.all_map]
      exact congrArg (· && _) (eqV_int x y)
    rw [e]
    have e2 : ((x :: xs).length == (y :: ys).length) = (xs.length == ys.length) := by simp
    rw [e2]
    by_cases hx : x = y
    · subst hx
      rw [decide_eq_true rfl, Bool.true_and, ih]
      simp
    · rw [decide_eq_false hx, Bool.false_and, Bool.and_false]
      simp [hx]
theorem flats_int (xs : List Int) : (xs.map V.int).all flatV = true := by
  rw [List.all_eq_true]
  intro x hx
  obtain ⟨z, _, rfl⟩ := List.mem_map.mp hx
  rfl
def rEqI (K : PySem.W.Frag) : R2 := fun x y H Q => ∃ (a b : Addr) (xs ys : List Int), x = .ref a ∧ y = .ref b ∧ SqL K H a (xs.map V.int) ∧ SqL K H b (ys.map V.int) ∧ Q (.bl (decide (xs = ys))) H
theorem op_eqI (hu : X.A.units + 8 < cLine) : OpR X (compareOp .Eq) (rEqI X.K) := by
  intro pins s σ H x y v u Q I rx ry h
  obtain ⟨a, b, xs, ys, rfl, rfl, h1, h2, q⟩ := h
  have r := rcok_flats (X := X) h1 h2 (flats_int xs) (flats_int ys)
  rw [List.length_map, List.length_map, all_eqi] at r
  exact op_eqD (k := 1) (Nat.lt_of_le_of_lt (Nat.add_le_add_left (by decide) _) hu) pins s σ H _ _ v u Q I rx ry ⟨_, r, q⟩
def rNeI (K : PySem.W.Frag) : R2 := fun x y H Q => ∃ (a b : Addr) (xs ys : List Int), x = .ref a ∧ y = .ref b ∧ SqL K H a (xs.map V.int) ∧ SqL K H b (ys.map V.int) ∧ Q (.bl (!decide (xs = ys))) H
variable (K : PySem.W.Frag)
theorem op_eqIK (hu : X.A.units + 8 < cLine) (h : X.K = K := by rfl) : OpR X (compareOp .Eq) (rEqI K) := h ▸ op_eqI hu
end
def TupS (H H' : Hp) : Prop := ∀ b xs, H b = some (.tup xs) → H' b = some (.tup xs)
theorem Same.tups {H H' : Hp} (g : Same H H') : TupS H H' := fun b xs e => g b _ e
theorem TupS.refl (H : Hp) : TupS H H := fun _ _ e => e
theorem TupS.trans {H H1 H2 : Hp} (a : TupS H H1) (b : TupS H1 H2) : TupS H H2 := fun c xs e => b c xs (a c xs e)
theorem TupS.wr {H : Hp} {p : Addr} {xs : List V} (h : H p = some (.lst xs)) (o : HO) : TupS H (upd H p o) := fun b ys e => by rw [upd_ne (ne_of e h (by intro z; cases z))]; exact e
end L2
set_option Elab.async false
set_option linter.all false
set_option maxRecDepth 100000
namespace SM
open PySem PySem.Spec PyProof.Rows L2 SS
abbrev nV (n : Nat) : V := .int (n : Int)
def Line (H : Hp) (v : V) (l : List Nat) : Prop := ∃ a, v = .ref a ∧ H a = some (.tup (l.map nV))
theorem Line.ts {H H' : Hp} {v : V} {l : List Nat} (h : Line H v l) (g : TupS H H') : Line H' v l := let ⟨a, e, z⟩ := h; ⟨a, e, g _ _ z⟩
theorem Paired.at2 {α β : Type} {R : α → β → Prop} : ∀ {xs : List α} {ys : List β} {i : Nat} {y : β}, Paired R xs ys → ys[i]? = some y → ∃ x, xs[i]? = some x ∧ R x y
  | _, _, _, _, .nil, h => by simp at h
  | _, _, 0, _, .cons h _, e => by simp at e; subst e; exact ⟨_, rfl, h⟩
  | _, _, i + 1, _, .cons _ h, e => by simp only [List.getElem?_cons_succ] at e ⊢; exact Paired.at2 h e
theorem Paired.snoc {α β : Type} {R : α → β → Prop} : ∀ {xs : List α} {ys : List β} {x : α} {y : β}, Paired R xs ys → R x y → Paired R (xs ++ [x]) (ys ++ [y])
  | _, _, _, _, .nil, h => .cons h .nil
  | _, _, _, _, .cons h t, z => .cons h (Paired.snoc t z)
end SM
set_option Elab.async false
set_option linter.all false
set_option maxRecDepth 100000
namespace L2
open PySem PySem.Spec PyProof.Rows
def ItzL (K : PySem.W.Frag) (a b : Addr) : It :=
  ⟨fun i H => ∃ xs ys x y, SqL K H a xs ∧ SqT K H b ys ∧ xs[i]? = some x ∧ ys[i]? = some y,
   fun i H v H' => ∃ p x y, v = .ref p ∧ New H p (.tup [x, y]) H' ∧ (∀ xs, SqL K H a xs → xs[i]? = some x) ∧ ∀ ys, SqT K H b ys → ys[i]? = some y,
   fun i H => ∃ xs ys, SqL K H a xs ∧ SqT K H b ys ∧ xs.length ≤ i⟩
def iZipL (K : PySem.W.Frag) (ta : TA) : TI := fun σ H R => ta σ H fun vs H1 => ∃ a b, vs = [.ref a, .ref b] ∧ (∃ xs, SqL K H1 a xs) ∧ (∃ ys, SqT K H1 b ys) ∧ R (ItzL K a b) H1
def Ite (K : PySem.W.Frag) (a : Addr) : It :=
  ⟨fun i H => ∃ xs x, SqL K H a xs ∧ xs[i]? = some x, fun i H v H' => ∃ p x, v = .ref p ∧ New H p (.tup [.int (i : Int), x]) H' ∧ ∀ xs, SqL K H a xs → xs[i]? = some x, fun i H => ∃ xs, SqL K H a xs ∧ xs.length ≤ i⟩
def iEnum (K : PySem.W.Frag) (ta : TA) : TI := fun σ H R => ta σ H fun vs H1 => ∃ a, vs = [.ref a] ∧ (∃ xs, SqL K H1 a xs) ∧ R (Ite K a) H1
end L2
set_option Elab.async false
set_option linter.all false
set_option maxRecDepth 100000
namespace L2
open PySem PySem.Spec PyProof.Rows
def rInDc (neg : Bool) : R2 := fun y x H Q => ∃ a o, x = .ref a ∧ DGet H a y o ∧ Q (.bl (if neg then !o.isSome else o.isSome)) H
section
variable {X : Cx} {o i value : Expr} {pos pos' : Pos} {td ty tv : TE}
def tDNewN : TE := fun _ H Q => ∀ p H', New H p (.dK []) H' → Q (.ref p) H'
def tDNewTN : TE := fun _ H Q => ∀ p H', New H p (.dT []) H' → Q (.ref p) H'
def rLenD : List V → Hp → VK → Prop := fun xs H Q => ∃ a kvs, xs = [V.ref a] ∧ H a = some (.dK kvs) ∧ Q (.int kvs.length) H
end
def rLenT : List V → Hp → VK → Prop := fun xs H Q => ∃ a kvs, xs = [V.ref a] ∧ H a = some (.dT kvs) ∧ Q (.int kvs.length) H
def PairV (H : Hp) (r : V) (kv : Key × V) : Prop := ∃ t, r = .ref t ∧ H t = some (.tup [kV kv.1, kv.2])
def rDictOf (K : PySem.W.Frag) : List V → Hp → VK → Prop := fun xs H Q => ∃ (p : Addr) (rs : List V) (kvs : List (Key × V)), xs = [.ref p] ∧ SqL K H p rs ∧ Paired (PairV H) rs kvs ∧ kvs.length ≤ 1000 ∧ ∀ d H', New H d (.dK (mergeK [] kvs)) H' → Q (.ref d) H'
def rMaxL (K : PySem.W.Frag) : List V → Hp → VK → Prop := fun xs H Q => ∃ (p : Addr) (ns : List Int), xs = [.ref p] ∧ SqL K H p (ns.map V.int) ∧ 0 < ns.length ∧ ∀ M, M ∈ ns → (∀ a ∈ ns, a ≤ M) → Q (.int M) H
def rIndex (K : PySem.W.Frag) : V → List V → Hp → VK → Prop := fun x vs H Q => ∃ (p : Addr) (ns : List Int) (k : Int), x = .ref p ∧ vs = [.int k] ∧ SqL K H p (ns.map V.int) ∧ k ∈ ns ∧ ns.length ≤ 1000 ∧ Q (.int (ns.idxOf k : Nat)) H
def rCatTN (K : PySem.W.Frag) : R2 := fun x y H Q => ∃ a b xs ys, x = .ref a ∧ y = .ref b ∧ SqT K H a xs ∧ SqT K H b ys ∧ xs ≠ [] ∧ ys ≠ [] ∧ xs.length + ys.length ≤ sizeLine ∧ ∀ p H', New H p (.tup (xs ++ ys)) H' → Q (.ref p) H'
section
variable {tn : List Str} {cp : List (Nat × Str)} {g : TG} {tif : TT} {te : TE} {σ0 : St} {Q : VK} {H1 : Hp} {n : Nat}
def PGen (S : St → Prop) (G : Nat → V → Hp → Prop) (H1 : Hp) (i : Nat) (ys : List V) (σ : St) (H : Hp) : Prop := Same H1 H ∧ S σ ∧ ys.length = i ∧ ∀ j y, ys[j]? = some y → G j y H
theorem cg_by {J : It} (S : St → Prop) (G : Nat → V → Hp → Prop) (hn : n ≤ 1000) (h0 : S (stB tn cp σ0)) (hgo : ∀ i H, i < n → Same H1 H → J.go i H) (hstop : ∀ H, Same H1 H → J.stop n H)
    (hs : ∀ D i ys σ H x H', i < n → Same H1 H → H1 D = none → H D = some (.lst ys) → ys.length = i → (∀ j y, ys[j]? = some y → G j y H) → S σ → J.yld i H x H' → g x σ H' fun σ2 H2 => tif σ2 H2 fun c H3 =>
      if c = true then te σ2 H3 fun v H4 => CStep D n i (PGen S G H1) σ2 v H4 else CSkip D n i (PGen S G H1) σ2 H3)
    (hd : ∀ D ys H, H1 D = none → Same H1 H → H D = some (.lst ys) → ys.length = n → (∀ j y, ys[j]? = some y → G j y H) → Q (.ref D) H) : cBody tn cp g tif te σ0 Q J H1 := by
  refine cb_by n (fun D => PGen S G H1) (small_line hn) (fun D hD => ⟨same_upd hD _, h0, rfl, fun j y e => by simp at e⟩) (fun D i ys σ H _ hi _ p => hgo i H hi p.1) (fun D ys σ H _ _ p => hstop H p.1) ?_ ?_
  · rintro D i ys σ H x H' hD hi hH hl ⟨p1, p2, p3, p4⟩ hy
    exact hs D i ys σ H x H' hi p1 hD hH p3 p4 p2 hy
  · rintro D ys σ H hD hH hl ⟨p1, p2, p3, p4⟩
    exact hd D ys H hD p1 hH p3 p4
theorem cg_step {S : St → Prop} {G : Nat → V → Hp → Prop} {D : Addr} {i : Nat} {ys : List V} {v : V} {σ2 : St} {H H4 : Hp} (hG : ∀ j y H H', TupS H H' → G j y H → G j y H') (hn : n ≤ 1000) (hi : i < n) (hD : H1 D = none) (h4 : H4 D = some (.lst ys)) (hl : ys.length = i)
    (hy : ∀ j y, ys[j]? = some y → G j y H) (ts : TupS H H4) (g4 : Same H1 H4) (s2 : S σ2) (e : G i v H4) : CStep D n i (PGen S G H1) σ2 v H4 := by
  refine cstep (small_line hn) hi h4 (by omega) ⟨g4.wr hD _, s2, by simp [hl], fun j y ej => ?_⟩
  by_cases h : j < ys.length
  · rw [List.getElem?_append_left h] at ej
    exact hG j y _ _ (ts.trans (TupS.wr h4 _)) (hy j y ej)
  · rw [List.getElem?_append_right (by omega)] at ej
    have e0 : j - ys.length = 0 := by
      cases hj : j - ys.length with
      | zero => rfl
      | succ k => rw [hj] at ej; simp at ej
    rw [e0] at ej
    simp at ej
    subst ej
    rw [show j = i by omega]
    exact hG i _ _ _ (TupS.wr h4 _) e
end
end L2
set_option Elab.async false
set_option linter.all false
set_option maxRecDepth 100000
namespace L2
open PySem PySem.Spec PyProof.Rows
def tDisp1T (tk tv : TE) : TE := fun σ H Q => ∀ p H1, New H p (.dT []) H1 → tk σ H1 fun y H2 => tv σ H2 fun z H3 => H3 p = some (.dT []) ∧ ∃ b ks, y = .ref b ∧ H3 b = some (.tup (ks.map kV)) ∧ Q (.ref p) (upd H3 p (.dT [(ks, z)]))
end L2
set_option Elab.async false
set_option linter.all false
set_option maxRecDepth 100000
namespace L2
open PySem PySem.Spec PyProof.Rows
def NeOk (X : Cx) (k : Nat) (H : Hp) (x y : V) (b : Bool) : Prop := ∀ (pins : List (Addr × Obj)) (σ : St) (s : Shared) (A : Around) (u v : Value), A.units + k < cLine → Inv X pins σ H s → RelV x u → RelV y v → SeqAt.RcNeAt A s u v b
def rNeM (X : Cx) : R2 := fun x y H Q => ∃ c, NeOk X 8 H x y c ∧ Q (.bl c) H
def rRange2 : List V → Hp → VK → Prop := fun xs H Q => ∃ i j : Int, xs = [.int i, .int j] ∧ ∀ p H', New H p (.rng i j) H' → Q (.ref p) H'
def rListRng : List V → Hp → VK → Prop := fun xs H Q => ∃ (p : Addr) (i j : Int), xs = [.ref p] ∧ H p = some (.rng i j) ∧ (0 ≤ i ∧ i ≤ j ∧ j ≤ 1000) ∧ ∀ l H', New H l (.lst ((List.range (j - i).toNat).map fun (k : Nat) => V.int (i + k))) H' → Q (.ref l) H'
def rRepN : R2 := fun x y H Q => ∃ l k xs, x = .ref l ∧ y = .int k ∧ H l = some (.lst xs) ∧ -(2 ^ 63) ≤ k ∧ k < 2 ^ 63 ∧ xs.length * k.toNat ≤ sizeLine ∧ ∀ p H', New H p (.lst (List.replicate k.toNat xs).flatten) H' → Q (.ref p) H'
end L2
set_option Elab.async false
set_option linter.all false
set_option maxRecDepth 100000
namespace SM
open PySem PySem.Spec PyProof.Rows L2 SS
section
variable {X : Cx} {H : Hp}
theorem all_range_true (n : Nat) : ((List.range n).all fun _ => true) = true := by simp
end
end SM
set_option Elab.async false
set_option linter.all false
set_option maxRecDepth 100000
namespace L2
open PySem PySem.Spec PyProof.Rows
def Itez (K : PySem.W.Frag) (a b : Addr) : It :=
  ⟨fun i H => ∃ xs ys x y, SqT K H a xs ∧ SqT K H b ys ∧ xs[i]? = some x ∧ ys[i]? = some y,
   fun i H v H' => ∃ p r H1 x y, v = .ref r ∧ New H p (.tup [x, y]) H1 ∧ New H1 r (.tup [.int (i : Int), .ref p]) H' ∧ (∀ xs, SqT K H a xs → xs[i]? = some x) ∧ ∀ ys, SqT K H b ys → ys[i]? = some y,
   fun i H => ∃ xs ys, SqT K H a xs ∧ SqT K H b ys ∧ xs.length ≤ i⟩
def iEZ (K : PySem.W.Frag) (ta : TA) : TI := fun σ H R => ta σ H fun vs H1 => ∃ a b, vs = [.ref a, .ref b] ∧ (∃ xs, SqT K H1 a xs) ∧ (∃ ys, SqT K H1 b ys) ∧ R (Itez K a b) H1
end L2
set_option Elab.async false
set_option linter.all false
set_option maxRecDepth 100000
namespace L2
open PySem PySem.Spec PyProof.Rows
def rCatTE : R2 := fun x y H Q => ∃ a b xs ys, x = .ref a ∧ y = .ref b ∧ H a = some (.tup xs) ∧ H b = some (.tup ys) ∧ xs.length + ys.length ≤ sizeLine ∧ ∀ p H', Same H H' → H' p = some (.tup (xs ++ ys)) → Q (.ref p) H'
end L2
set_option Elab.async false
set_option linter.all false
set_option maxRecDepth 100000
set_option Elab.async false
set_option linter.all false
set_option maxRecDepth 100000
set_option Elab.async false
set_option linter.all false
set_option maxRecDepth 100000
set_option Elab.async false
set_option linter.all false
set_option maxRecDepth 100000
set_option Elab.async false
set_option linter.all false
set_option maxRecDepth 100000
namespace SM
open PySem PySem.Spec PyProof.Rows L2 SS
def Tab (H : Hp) (v : V) (t : List (List Nat)) : Prop := ∃ a rs, v = .ref a ∧ H a = some (.tup rs) ∧ Paired (Line H) rs t
def RepT (H : Hp) (a : Addr) (m : Tm) : Prop := ∃ (b c : Addr) (ts : List V), H a = some (.tup [nV m.w, .ref b, .ref c]) ∧ H b = some (.tup ts) ∧ Paired (Tab H) ts m.ways ∧ H c = some (.tup (m.ends.map V.bl))
def TreeV (H : Hp) : V → Tr → Prop
  | v, .nil => v = .non
  | v, .node l a b => ∃ p va vb, v = .ref p ∧ H p = some (.tup [nV l, va, vb]) ∧ TreeV H va a ∧ TreeV H vb b
theorem Tab.ts {H H' : Hp} {v : V} {t : List (List Nat)} (h : Tab H v t) (g : TupS H H') : Tab H' v t := let ⟨a, rs, e, z, p⟩ := h; ⟨a, rs, e, g _ _ z, L2.Paired.mapP p fun _ _ z => z.ts g⟩
theorem RepT.ts {H H' : Hp} {a : Addr} {m : Tm} (h : RepT H a m) (g : TupS H H') : RepT H' a m := by
  obtain ⟨b, c, rs, h1, h2, h3, h4⟩ := h
  exact ⟨b, c, rs, g _ _ h1, g _ _ h2, L2.Paired.mapP h3 fun _ _ z => z.ts g, g _ _ h4⟩
theorem RepT.same {H H' : Hp} {a : Addr} {m : Tm} (h : RepT H a m) (g : Same H H') : RepT H' a m := h.ts g.tups
theorem TreeV.ts {H H' : Hp} (g : TupS H H') : ∀ {v : V} {t : Tr}, TreeV H v t → TreeV H' v t
  | _, .nil, h => h
  | _, .node _ _ _, ⟨p, va, vb, e, z, h1, h2⟩ => ⟨p, va, vb, e, g _ _ z, TreeV.ts g h1, TreeV.ts g h2⟩
theorem TreeV.same {H H' : Hp} {v : V} {t : Tr} (h : TreeV H v t) (g : Same H H') : TreeV H' v t := h.ts g.tups
theorem RepT.row {H : Hp} {m : Tm} {ts : List V} (pr : Paired (Tab H) ts m.ways) (ok : m.Ok) {l a b : Nat} (hl : l < 2 ^ m.w) (ha : a < m.n) (hb : b < m.n) :
    ∃ (p q : Addr) (rs : List V) (ln : List Nat), ts[l]? = some (.ref p) ∧ H p = some (.tup rs) ∧ rs[a]? = some (.ref q) ∧ H q = some (.tup (ln.map nV)) ∧ (ln.map nV)[b]? = some (nV (m.go l a b)) := by
  obtain ⟨t, r, e1, e2, e3, _⟩ := ok.at hl ha hb
  obtain ⟨v, ev, p, rs, rfl, ep, pp⟩ := Paired.at2 pr e1
  obtain ⟨v, ev2, q, rfl, eq⟩ := Paired.at2 pp e2
  exact ⟨p, q, rs, r, ev, ep, ev2, eq, by rw [List.getElem?_map, e3]; rfl⟩
def sp_roomT (d : Nat) : Sp := fun vs H Q _ => ∃ (a : Addr) (v : V) (m : Tm) (t : Tr), vs = [.ref a, v] ∧ RepT H a m ∧ m.Ok ∧ TreeV H v t ∧ t.Let (2 ^ m.w) ∧ t.depth < d ∧ Q (nV (t.up 0 m.go)) H
def sp_sizeT (d : Nat) : Sp := fun vs H Q _ => ∃ (v : V) (t : Tr), vs = [v] ∧ TreeV H v t ∧ t.depth < d ∧ Q (nV t.size) H
def sp_machT : Sp := fun vs H Q _ => ∃ (x : Int) (n wd : Nat), vs = [.int x, nV n, nV wd] ∧ wd ≤ 3 ∧ 1 ≤ n ∧ n ≤ 30 ∧ ∀ p m H', Same H H' → RepT H' p m → m.Ok → m.w = wd → m.ends.length = n → Q (.ref p) H'
end SM
set_option Elab.async false
set_option linter.all false
set_option maxRecDepth 100000
set_option Elab.async false
set_option linter.all false
set_option maxRecDepth 100000
set_option Elab.async false
set_option linter.all false
set_option maxRecDepth 100000
set_option Elab.async false
set_option linter.all false
set_option maxRecDepth 100000
namespace L2
open PySem PySem.Spec PyProof.Rows
local instance (priority := 10000) : BEq Key := instBEqOfDecidableEq
end L2
set_option Elab.async false
set_option linter.all false
set_option maxRecDepth 100000
set_option Elab.async false
set_option linter.all false
set_option maxRecDepth 100000
set_option Elab.async false
set_option linter.all false
set_option maxRecDepth 100000
namespace L2
open PySem PySem.Spec PyProof.Rows
def iv : Value → Int
  | .int i _ => i
  | _ => 0
theorem ints_of : ∀ {l : List Value}, (∀ v ∈ l, ∃ i t, v = .int i t) → IntsAre l (l.map iv)
  | [], _ => .nil
  | v :: r, h => by
    obtain ⟨i, t, rfl⟩ := h v List.mem_cons_self
    exact .cons i t (ints_of fun v hv => h v (List.mem_cons_of_mem _ hv))
section
variable {P : Program} {w : World} {A : Around} {E : Value → Shared → Prop} {s : Shared}
theorem lt_of_le_nodup {l : List Int} (h1 : l.Pairwise (· ≤ ·)) (h2 : l.Nodup) : l.Pairwise (· < ·) := by
  have := List.Pairwise.and h1 h2
  exact this.imp fun ⟨a, b⟩ => by omega
end
end L2
set_option Elab.async false
set_option linter.all false
set_option maxRecDepth 100000
namespace L2
open PySem PySem.Spec PyProof.Rows
theorem vals_intsT : ∀ {vs : List Value} {ns : List Int}, IntsAre vs ns → Vals (ns.map V.int) vs
  | _, _, .nil => .nil
  | _, _, .cons n t h => .cons ⟨t, rfl⟩ (vals_intsT h)
end L2
set_option Elab.async false
set_option linter.all false
set_option maxRecDepth 100000
set_option Elab.async false
set_option linter.all false
set_option maxRecDepth 100000
namespace L2
open PySem PySem.Spec PyProof.Rows
section
variable {P : Program} {w : World} {A : Around} {E : Value → Shared → Prop} {s : Shared}
theorem collect_dict {a : Addr} {kvs : List (Int × Value)} {Q : List Value → Shared → Prop} (hh : A.handled = none) (lo : (a == sysModules) = false) (x : s.heap.DictOf (intKind P w) a kvs) (hn : kvs.length ≤ sizeLine)
    (q : ∀ (vs : List Value) (h' : Heap) (tk : Nat), vs.length = kvs.length → (∀ (j : Nat) v, vs[j]? = some v → ∃ k x, kvs[j]? = some (k, x) ∧ (intKind P w).is k v = true) → s.heap.objs.size ≤ h'.objs.size → (∀ b u, s.heap.get? b = some u → h'.get? b = some u) → Q vs { s with heap := h', toks := tk }) :
    wpAny (model P w) A (collect (.ref a)) Q E s := by
  obtain ⟨o, es, ep, ho, hx, hd, hk, hp, hnd⟩ := x
  have la : a < s.heap.objs.size := Heap.lt_size ho
  have dat : s.heap.DictAt (intKind P w) a kvs ep := ⟨o, es, ho, hx, hd, hk, hp, hnd⟩
  unfold collect
  refine wpAny_bind (wpAny_runValue (codeAny_builtin F.entry_proto_collect ?_))
  rw [Around.under_plainId F.plain_proto_collect _]
  show wpAny _ A.in1 (newList [] >>= fun l => again (.builtin "list.__iadd__" ⟨[l, .ref a], []⟩)) _ _ s
  refine wpAny_bind (wpAny_newObj_type ?_)
  refine wpAny_pure ⟨plainId_quiet F.plain_list_iadd _, codeAny_builtin F.entry_list_iadd ?_⟩
  rw [Around.under_plainId F.plain_list_iadd _]
  have hS₁ : (s.heap.push { cls := .type "list", data := .seq ([] : List Value).toArray }).get? s.heap.objs.size = some { cls := .type "list", data := .seq ([] : List Value).toArray } := Heap.get?_push_size _ rfl
  show wpAny _ A.in1 (Builtin.List.listExtendWith (.ref s.heap.objs.size) (.ref a) (.ref s.heap.objs.size)) _ _ _
  refine wpAny_mono (PySem.W.kdl_extend (s := { s with heap := s.heap.push { cls := .type "list", data := .seq ([] : List Value).toArray } }) (R := fun r s' => r = .ok (.ret (.ref s.heap.objs.size)) ∧ ∃ acc' c' h' tk, s' = { s with heap := h', toks := tk } ∧ h'.get? s.heap.objs.size = some { cls := .type "list", dict := none, data := .seq acc' c', slots := #[] } ∧ Q acc'.toList s')
    (PySem.W.kdl_dict (knd := intKind P w) (kvs := kvs) (ep := ep) lo) hh (dat.push _) s.heap.objs.size (Nat.ne_of_gt la) (Nat.ne_of_gt la) (.ref s.heap.objs.size) _ hS₁ (fun h' tk acc' c' hk hS' hacc => ⟨rfl, acc', c', h', tk, rfl, hS', ?_⟩) hn) (fun fin s' h => ?_) fun e s' h => (nomatch h.1)
  · exact q acc'.toList h' tk (by rw [Array.length_toList]; exact hacc.1) (fun j v e => hacc.2 j v (by rw [← Array.getElem?_toList]; exact e)) (Nat.le_of_lt (Heap.lt_size hS')) fun b u e => hk b u (Nat.ne_of_lt (Heap.lt_size e)) (Heap.get?_push_of_some _ e)
  · have fine : ∀ (r : Result) (s' : Shared), (r = .ok (.ret (.ref s.heap.objs.size)) ∧ ∃ acc' c' h' tk, s' = { s with heap := h', toks := tk } ∧ h'.get? s.heap.objs.size = some { cls := .type "list", dict := none, data := .seq acc' c', slots := #[] } ∧ Q acc'.toList s') → wpAny (model P w) A (load s.heap.objs.size >>= fun o => match o.data with | .seq xs _ => pure xs.toList | _ => unsupported "internal:collect") Q E s' := by
      rintro r s' ⟨_, acc', c', h', tk, rfl, hS', z⟩
      exact wpAny_bind (wpAny_load hS' (wpAny_pure z))
    cases fin with
    | done f =>
      obtain ⟨e, z⟩ := h
      cases e
      exact fine _ _ ⟨rfl, z⟩
    | again c =>
      refine ⟨h.1, codeAny_mono h.2 fun r s' h => ?_⟩
      obtain ⟨rfl, z⟩ := h
      exact fine _ _ ⟨rfl, z⟩
theorem sorted_dict {a : Addr} {kvs : List (Int × Value)} {ks : List Int} {Q : Value → Shared → Prop} (hh : A.handled = none) (lo : (a == sysModules) = false) (x : s.heap.DictOf (intKind P w) a kvs) (hk : kvs.map (·.1) = ks) (h64 : ks.length < 64)
    (q : ∀ (L : Addr) (vs : List Value) (ns : List Int) (n : Nat) (h' : Heap) (tk : Nat), IntsAre vs ns → ns.Pairwise (· < ·) → (∀ k, k ∈ ns ↔ k ∈ ks) → s.heap.objs.size ≤ L → h'.get? L = some (seqObj "list" vs.toArray n) → (∀ b u, s.heap.get? b = some u → h'.get? b = some u) → Q (.ref L) { s with heap := h', toks := tk }) :
    wpAny (model P w) A (call (.builtin "sorted") [.ref a]) Q E s := by
  have hl : kvs.length = ks.length := by rw [← List.length_map (f := (·.1)) (as := kvs), hk]
  have nd : ks.Nodup := by
    obtain ⟨_, _, _, _, _, _, _, _, nd⟩ := x
    rw [← hk]; exact nd
  refine Calls.call_function_entry kind_sorted plain_sorted entry_sorted (args_sorted1 _) ?_
  unfold Builtin.«sorted»
  refine wpAny_bind (m := checkCount "sorted" 1 1 _) (wpAny_pure ?_)
  refine wpAny_bind (collect_dict hh lo x (show kvs.length ≤ sizeLine by unfold sizeLine; omega) fun vs h' tk vl0 at0 le hkk => ?_)
  have atk : ∀ (j : Nat) v, vs[j]? = some v → ∃ i t, ks[j]? = some i ∧ v = .int i t := fun j v e => by
    obtain ⟨k, x, e1, e2⟩ := at0 j v e
    have e3 : (kvs.map (·.1))[j]? = some k := by rw [List.getElem?_map, e1]; rfl
    rw [hk] at e3
    obtain ⟨t, e5⟩ := Value.isInt_shape e2
    exact ⟨k, t, e3, e5⟩
  have hint : ∀ v ∈ vs, ∃ i t, v = .int i t := fun v hv => by
    obtain ⟨j, hj, rfl⟩ := List.getElem_of_mem hv
    obtain ⟨i, t, _, e⟩ := atk j _ (List.getElem?_eq_getElem hj)
    exact ⟨i, t, e⟩
  have hI := ints_of hint
  have ivk : vs.map iv = ks := by
    refine List.ext_getElem? fun j => ?_
    rw [List.getElem?_map]
    cases e : vs[j]? with
    | none => rw [List.getElem?_eq_none (by have := List.getElem?_eq_none_iff.mp e; omega)]; rfl
    | some v =>
      obtain ⟨i, t, e1, rfl⟩ := atk j v e
      rw [e1]; rfl
  have vl : vs.length < 64 := by omega
  refine wpAny_bind (wpAny_newList ?_)
  have hoL : (h'.push (seqObj "list" vs.toArray 0)).get? h'.objs.size = some (seqObj "list" vs.toArray 0) := Heap.get?_push_size _ rfl
  show wpAny _ _ _ _ _ { s with heap := h'.push (seqObj "list" vs.toArray 0), toks := tk }
  refine wpAny_bind (wpAny_holding (wpAny_call_entry slot_list_sort ⟨_, hoL, rfl⟩ entry_list_sort (list_sort_tree hoL hI vl fun out ns' a1 a2 a3 => ⟨_, rfl, ?_⟩) (args_list_sort _)))
  rw [ivk] at a2
  obtain ⟨ne, hat⟩ := sortedHeap_at (out := out) hoL
  refine wpAny_pure ⟨_, rfl, q _ out.toList ns' ne _ tk a1 (lt_of_le_nodup a3 (a2.nodup_iff.mpr nd)) (fun k => a2.mem_iff) le hat fun b u e => ?_⟩
  have lb : b < h'.objs.size := Nat.lt_of_lt_of_le (Heap.lt_size e) le
  refine (sortedHeap_old (Nat.ne_of_lt lb) ?_).trans (Heap.get?_push_of_some _ (hkk b u e))
  rw [Heap.size_push]; exact Nat.lt_succ_of_lt lb
end
open PyProof.Rows.LSm
end L2
set_option Elab.async false
set_option linter.all false
set_option maxRecDepth 100000
namespace L2
open PySem PySem.Spec PyProof.Rows
def dJ (P : Program) (w : World) (a : Addr) (ep : Nat) (kvs : List (Int × V)) : HO := .ext fun h => (a == sysModules) = false ∧ kvs.length ≤ sizeLine ∧ ∃ vs : List (Int × Value), KV kvs vs ∧ h.DictAt (intKind P w) a vs ep
theorem dj_new {P : Program} {w : World} {H : Hp} {h : Heap} {a : Addr} {ep : Nat} {kvs : List (Int × V)} {vs : List (Int × Value)} (lo : (a == sysModules) = false) (z : kvs.length ≤ sizeLine) (r : KV kvs vs) (d : h.DictAt (intKind P w) a vs ep) : ObjOk P w H h a (dJ P w a ep kvs) := by
  obtain ⟨o, es, ho, q⟩ := id d
  refine ⟨⟨lo, z, vs, r, d⟩, ⟨o, ho⟩, ?_⟩
  rintro h1 h2 ⟨lo, z, vs, r, o, es, ho, q⟩ k
  exact ⟨lo, z, vs, r, o, es, k o ho, q⟩
theorem kv_keys {kvs : List (Int × V)} {vs : List (Int × Value)} (r : KV kvs vs) : vs.map (·.1) = kvs.map (·.1) := by
  unfold KV at r
  induction r with
  | nil => rfl
  | cons h _ ih => rw [List.map_cons, List.map_cons, ih, h.1]
theorem int_is {P : Program} {w : World} (k : Int) (t : Tok) : (intKind P w).is k (.int k t) = true := by show Value.isInt k (.int k t) = true; unfold Value.isInt; simp
section
variable {X : Cx} {pins : List (Addr × Obj)} {σ : St} {H : Hp} {s : Shared} {a : Addr} {ep : Nat} {kvs : List (Int × V)}
theorem dj_rd (I : Inv X pins σ H s) (e : H a = some (dJ X.prog X.w a ep kvs)) : (a == sysModules) = false ∧ kvs.length ≤ sizeLine ∧ ∃ vs : List (Int × Value), KV kvs vs ∧ s.heap.DictAt (intKind X.prog X.w) a vs ep := by
  obtain ⟨x, _⟩ := I.hok _ _ e
  exact x
end
section
variable {X : Cx} {o i e value : Expr} {pos pos' : Pos} {td ty tv tx : TE}
def tDGetJ (P : Program) (w : World) (td ty : TE) : TE := fun σ H Q => td σ H fun x H1 => ty σ H1 fun y H2 => ∃ a ep kvs k v, x = .ref a ∧ y = .int k ∧ H2 a = some (dJ P w a ep kvs) ∧ valV kvs k = some v ∧ Q v H2
theorem pe_dgetJ (ho : PE X o td) (hi : PE X i ty) (hs : NoSl i) : PE X (.Subscript o i pos) (tDGetJ X.prog X.w td ty) := by
  intro pins s σ H Q I h
  refine subD_of PySem.F.slot_dict_getitem.lookup hs (thn (ho pins s σ H _ I h) fun u s1 ⟨x, H1, I1, rx, q1⟩ => thn (hi pins s1 σ H1 _ I1 q1) fun iv s2 ⟨y, H2, I2, ry, a, ep, kvs, k, v, ex, ey, e, hv, q2⟩ => ?_)
  subst ex ey
  obtain rfl : u = Value.ref a := rx
  obtain ⟨t, rfl⟩ := ry
  obtain ⟨lo, hz, vs, rel, dd⟩ := dj_rd I2 e
  obtain ⟨w', hw, rw'⟩ := RelO.some_of (v := v) (o := valueAt vs k) (by rw [← hv]; exact rel.val k)
  exact ⟨dd.dictOf.typeIs, wpAny_getItem_of (int_is k t) dd.dictOf.mapOf hw ⟨v, H2, I2.tok _, rw', q2⟩⟩
def rInJ (P : Program) (w : World) (b : Bool) : R2 := fun y x H Q => ∃ a ep kvs k, x = .ref a ∧ y = .int k ∧ H a = some (dJ P w a ep kvs) ∧ Q (.bl (xor b (valV kvs k).isSome)) H
theorem op_inJ : OpR X (compareOp .In) (rInJ X.prog X.w false) := by
  intro pins s σ H y x v u Q I ry rx h
  obtain ⟨a, ep, kvs, k, rfl, rfl, e, q⟩ := h
  obtain rfl : u = Value.ref a := rx
  obtain ⟨t, rfl⟩ := ry
  obtain ⟨lo, hz, vs, rel, dd⟩ := dj_rd I e
  refine wpAny_in_of (int_is k t) lo dd.dictOf.mapOf ?_
  rw [← (rel.val k).isSome_eq]
  exact ⟨.bl (valV kvs k).isSome, H, I.tok _, rfl, by rw [Bool.false_xor] at q; exact q⟩
theorem op_notinJ : OpR X (compareOp .NotIn) (rInJ X.prog X.w true) := by
  intro pins s σ H y x v u Q I ry rx h
  obtain ⟨a, ep, kvs, k, rfl, rfl, e, q⟩ := h
  obtain rfl : u = Value.ref a := rx
  obtain ⟨t, rfl⟩ := ry
  obtain ⟨lo, hz, vs, rel, dd⟩ := dj_rd I e
  refine wpAny_notIn_of (int_is k t) lo dd.dictOf.mapOf ?_
  rw [← (rel.val k).isSome_eq]
  exact ⟨.bl (!(valV kvs k).isSome), H, I.tok _, rfl, by rw [Bool.true_xor] at q; exact q⟩
def sDPutJ (P : Program) (w : World) (td ty tv : TE) : TS := fun D σ H => tv σ H fun v H1 => td σ H1 fun x H2 => ty σ H2 fun y H3 => ∃ a ep kvs k, x = .ref a ∧ y = .int k ∧ H3 a = some (dJ P w a ep kvs) ∧ kvs.length < sizeLine ∧
  ∀ ep' H4, H4 = upd H3 a (dJ P w a ep' (putK kvs k v)) → D.nx σ H4
theorem ps_dputJ (ho : PE X o td) (hi : PE X i ty) (hv : PE X value tv) (hs : swapsWith value (some (.Subscript o i pos')) pos.line X.env = pure false) :
    PS X (.Assign [.Subscript o i pos'] value pos) (sDPutJ X.prog X.w td ty tv) := by
  intro pins s σ H D I h
  refine wpAny_Assign_Subscript (thn (hv pins s σ H _ I h) fun r s1 ⟨v, H1, I1, rv, q1⟩ => thn (ho pins s1 σ H1 _ I1 q1) fun u s2 ⟨x, H2, I2, rx, q2⟩ => thn (hi pins s2 σ H2 _ I2 q2) fun iv s3 ⟨y, H3, I3, ry, a, ep, kvs, k, ex, ey, e, hl, q3⟩ => ?_) hs
  subst ex ey
  obtain rfl : u = Value.ref a := rx
  obtain ⟨t, rfl⟩ := ry
  obtain ⟨lo, hz, vs, rel, dd⟩ := dj_rd I3 e
  have hzx : vs.length ≤ sizeLine := by rw [← rel.length]; exact hz
  refine wpAny_setItem_pairs (knd := intKind X.prog X.w) (k := k) (hsz := hzx) (int_is k t) dd.dictOf fun h' dd' ss => ?_
  have he : ∃ q, h'.get? a = some q := let ⟨q, _, _, hq, _⟩ := dd'; ⟨q, hq⟩
  obtain ⟨ep', dd2⟩ := dd'.dictAt
  refine ⟨σ, _, d_write I3 (by rw [e]; exact True.intro) ss he (dj_new lo ?_ (rel.put k rv) dd2), q3 _ _ rfl⟩
  have := length_putK kvs k v
  omega
def tDGet2J (P : Program) (w : World) (td ty tx : TE) : TE := fun σ H Q => td σ H fun x H1 => ∃ a, x = .ref a ∧ (∃ ep kvs, H1 a = some (dJ P w a ep kvs)) ∧ ty σ H1 fun y H2 => tx σ H2 fun z H3 => ∃ ep kvs k, y = .int k ∧ H3 a = some (dJ P w a ep kvs) ∧ Q ((valV kvs k).getD z) H3
theorem pe_dget2J {f : Expr} {apos cpos : Pos} (ho : PE X o td) (he : PE X e ty) (hf : PE X f tx) (m : M2 X o "get" apos e f cpos) : PE X (.Call (.Attribute o "get" apos) [e, f] [] cpos) (tDGet2J X.prog X.w td ty tx) := by
  intro pins s σ H Q I h
  refine wpAny_Call_method m.base m.few m.line PySem.F.plainAttrs_dict PySem.F.slot_dict_get PySem.F.type_dict_get (thn (ho pins s σ H _ I h) fun u s1 ⟨x, H1, I1, rx, a, ex, ⟨ep, kvs, ed⟩, q1⟩ => ?_)
  subst ex
  obtain rfl : u = Value.ref a := rx
  obtain ⟨lo, hz, vs, rel, dd⟩ := dj_rd I1 ed
  refine ⟨dd.dictOf.typeIs, fun b q => ?_, ?_⟩
  · cases q
    obtain ⟨ob, es, h1, h2, _⟩ := dd
    exact ⟨ob, h1, h2.2.1⟩
  rw [m.trees]
  refine Calls.callWith_builtin rfl (Calls.evalArgs_plain (Calls.spliced_cons (thn (he pins s1 σ H1 _ I1 q1) fun iv s2 ⟨y, H2, I2, ry, q2⟩ =>
    Calls.spliced_cons (thn (hf pins s2 σ H2 _ I2 q2) fun fv s3 ⟨z, H3, I3, rz, ep', kvs', k, ey, e3, q3⟩ => Calls.spliced_nil ?_))))
  subst ey
  obtain ⟨t, rfl⟩ := ry
  obtain ⟨lo3, hz3, vs3, rel3, dd3⟩ := dj_rd I3 e3
  refine call_meetsIn PySem.F.slot_dict_get dd3.dictOf.typeIs PySem.F.entry_dict_get (PySem.F.args_dict_get_3 _ _ _) (meets_dict_get_default (intKind X.prog X.w) a (int_is k t) lo3 fv) ⟨_, dd3.dictOf.mapOf, ?_⟩
  exact ⟨_, H3, I3.tok _, (rel3.val k).getD rz, q3⟩
def tDisp1J (P : Program) (w : World) (tk tv : TE) : TE := fun σ H Q => ∀ p ep H1, New H p (dJ P w p ep []) H1 → tk σ H1 fun y H2 => tv σ H2 fun z H3 => ∃ k, y = .int k ∧ H3 p = some (dJ P w p ep []) ∧ ∀ ep' H4, H4 = upd H3 p (dJ P w p ep' [(k, z)]) → Q (.ref p) H4
theorem dj_empty {P : Program} {w : World} {H : Hp} (h : Heap) (hb : sysModules < h.objs.size) : ObjOk P w H (h.push { cls := .type "dict", data := .dict #[] }) h.objs.size (dJ P w h.objs.size 0 []) := by
  refine dj_new (vs := []) (beq_eq_false_iff_ne.mpr (Nat.ne_of_gt hb)) (Nat.zero_le _) .nil ?_
  exact ⟨_, #[], Heap.get?_push_size _ rfl, ⟨rfl, rfl, rfl⟩, rfl, fun _ he => by simp at he, Pairs.nil, List.nodup_nil⟩
theorem pe_disp1J {k v : Expr} {tk tv : TE} {pos : Pos} (hk : PE X k tk) (hv : PE X v tv) : PE X (.Dict [some k] [v] pos) (tDisp1J X.prog X.w tk tv) := by
  intro pins s σ H Q I q
  have I1 := I.laid (a := s.heap.objs.size) (o := dJ X.prog X.w s.heap.objs.size 0 []) (h' := s.heap.push { cls := .type "dict", data := .dict #[] }) (t' := s.toks) (fun _ _ q => Heap.get?_push_of_some _ q) (Nat.le_refl _) (dj_empty s.heap I.big)
  have e : (evalEachOpt [some k] X.env).zip ((evalEach [v] X.env).map fun v => do let x ← v; standAt pos; pure x) = [(eval k X.env, do let x ← eval v X.env; standAt pos; pure x)].map fun p => (some p.1, p.2) := rfl
  rw [arm_eval_Dict, e, dictDisplay_pairs _ (by simp) (by simp)]
  refine wpAny_bind (wpAny_standAt (wpAny_bind ?_))
  unfold subDict
  refine wpAny_bind (wpAny_alloc (wpAny_bind (wpAny_holding ?_)))
  rw [if_pos (by simp)]
  refine wpAny_bind (evalPairs_cons ?_)
  refine thn (hk pins _ σ _ _ I1 (q _ _ _ (.mk' I.fresh _))) fun kv s2 ⟨y, H2, I2, ry, q2⟩ => ?_
  refine wpAny_bind (thn (hv pins s2 σ H2 _ I2 q2) fun vv s3 ⟨z, H3, I3, rz, kk, ey, ep, q3⟩ => ?_)
  subst ey
  obtain ⟨t, rfl⟩ := ry
  refine wpAny_bind (wpAny_standAt (wpAny_pure (evalPairs_nil (wpAny_holding ?_))))
  rw [List.forIn_cons]
  obtain ⟨hd, hz, vs, rel, dd⟩ := dj_rd I3 ep
  cases rel
  refine wpAny_bind (wpAny_bind ?_)
  show wpAny _ _ (dictSet s.heap.objs.size (Value.int kk t) vv >>= _) _ _ _
  refine wpAny_bind (wpAny_dictSet_pairs (knd := intKind X.prog X.w) (k := kk) (hsz := by rw [List.length_nil]; exact Nat.zero_le _) (int_is kk t) dd.dictOf fun h' dd' hs => wpAny_pure ?_)
  dsimp only
  rw [List.forIn_nil]
  refine wpAny_pure (wpAny_pure (wpAny_pure (wpAny_pure ?_)))
  have he : ∃ q, h'.get? s.heap.objs.size = some q := let ⟨q, _, _, hq, _⟩ := dd'; ⟨q, hq⟩
  obtain ⟨ep', dd2⟩ := dd'.dictAt
  exact ⟨.ref s.heap.objs.size, _, d_write I3 (by rw [ep]; exact True.intro) hs he (dj_new hd (small_line (by simp)) (.cons ⟨rfl, rz⟩ .nil) dd2), rfl, q3 _ _ rfl⟩
end
def Itd (P : Program) (w : World) (a : Addr) (ep : Nat) (kvs : List (Int × V)) : It :=
  ⟨fun i H => H a = some (dJ P w a ep kvs) ∧ i < kvs.length, fun i H x H' => H' = H ∧ ∃ k v, kvs[i]? = some (k, v) ∧ x = .int k, fun i H => H a = some (dJ P w a ep kvs) ∧ kvs.length ≤ i⟩
theorem turn_dict {P : Program} {w : World} {K : PySem.W.Frag} {tg : Expr} (a it : Addr) (ep : Nat) (kvs : List (Int × V)) (lo : (a == sysModules) = false) : Turn P w K tg (Itd P w a ep kvs) [it] it (fun i h => h.IsKeyIter it a i kvs.length ep) where
  mem := by simp
  obj := fun i h st b hb => by
    have e : b = it := by simpa using hb
    subst e
    obtain ⟨o, e, c, d⟩ := st
    exact ⟨o, e, fun v z => by rw [d] at z; cases z⟩
  keep := fun i h h' st k => st.at fun o e => k it (by simp) o e
  item := by
    intro X hP hw hK hc i pins s σ H E I hf st hg
    subst hP hw hK
    obtain ⟨hq, hx⟩ := hg
    obtain ⟨_, hz, vs, rel, dd⟩ := dj_rd I hq
    have hl := rel.length
    obtain ⟨f0, f1, f2, f3, f4, f5⟩ := hf it (by simp)
    obtain ⟨⟨k, v⟩, ek⟩ : ∃ p, vs[i]? = some p := ⟨vs[i]'(by omega), List.getElem?_eq_getElem _⟩
    have ekv : ∃ v, kvs[i]? = some (k, v) := by
      have e1 : (kvs.map (·.1))[i]? = some k := by rw [← kv_keys rel, List.getElem?_map, ek]; rfl
      rw [List.getElem?_map] at e1
      obtain ⟨⟨k', v'⟩, e2, rfl⟩ := Option.map_eq_some_iff.mp e1
      exact ⟨v', e2⟩
    rw [hl] at st
    refine wpAny_pyNext_dict_item st dd ek fun key h' hkey st' sb => ?_
    rw [← hl] at st'
    have I1 : Inv X pins σ H { s with heap := h' } := I.turned (t' := s.toks) (fun b o hb e => (sb.2 b hb).trans e) f0 f1 f3 f4 f5
    obtain ⟨o, e, c, d⟩ := id st'
    obtain ⟨t, rfl⟩ := Value.isInt_shape hkey
    obtain ⟨v', ev⟩ := ekv
    exact ⟨_, rfl, go_of (s := { s with heap := h' }) e c d (by decide) ⟨.int k, H, I1, ⟨t, rfl⟩, ⟨rfl, k, v', ev, rfl⟩, st', fun b hb => (hf b hb).1⟩⟩
  done := by
    intro X hP hw hK hc i pins s σ H E I hf st hg
    subst hP hw hK
    obtain ⟨hq, hx⟩ := hg
    obtain ⟨_, hz, vs, rel, dd⟩ := dj_rd I hq
    have hl := rel.length
    obtain ⟨f0, f1, f2, f3, f4, f5⟩ := hf it (by simp)
    rw [hl] at st
    exact wpAny_pyNext_dict_end (I.ok.hd hc) st dd (List.getElem?_eq_none (by omega)) fun h' eb => ⟨rfl, I.turned (t' := s.toks) (fun b o hb e => eb b o hb e) f0 f1 f3 f4 f5⟩
  self := fun _ _ _ _ _ st h => wpAny_pyIter_keyiter st h
def iDict (P : Program) (w : World) (te : TE) : TI := fun σ H R => te σ H fun x H1 => ∃ a ep kvs, x = .ref a ∧ H1 a = some (dJ P w a ep kvs) ∧ R (Itd P w a ep kvs) H1
theorem pi_dict {X : Cx} {tg l : Expr} {tl : TE} (hl : PE X l tl) : PI X tg l (iDict X.prog X.w tl) := by
  intro pins s σ H R I h
  refine thn (hl pins s σ H _ I h) fun v s1 ⟨x, H1, I1, r1, q1⟩ => ?_
  obtain ⟨a, ep, kvs, e, hq, q⟩ := q1
  subst e
  cases r1
  obtain ⟨lo, hz, vs, rel, dd⟩ := dj_rd I1 hq
  refine wpAny_pyIter_dict lo dd ?_
  refine ⟨s1.heap.objs.size, [s1.heap.objs.size], _, _, H1, rfl, I1.kept (t' := s1.toks) fun b o e => Heap.get?_push_of_some _ e, turn_dict a _ ep kvs lo, ⟨_, Heap.get?_push_size _ rfl, rfl, by rw [rel.length]; rfl⟩, fun b hb => ?_, q⟩
  have e : b = s1.heap.objs.size := by simpa using hb
  subst e
  exact I1.fpOk (Nat.le_refl _) (I1.hok.fresh (Nat.le_refl _))
theorem fb_dict {P : Program} {w : World} {a : Addr} {ep : Nat} {kvs : List (Int × V)} {g : TG} {tb : TS} {D : Ends} {σ0 : St} {H1 : Hp} (Pv : Nat → St → Hp → Prop) (h0 : Pv 0 σ0 H1) (hl : ∀ i σ H, i ≤ kvs.length → Pv i σ H → H a = some (dJ P w a ep kvs))
    (hs : ∀ i k v σ H, kvs[i]? = some (k, v) → Pv i σ H → g (.int k) σ H fun σ2 H2 => tb { D with nx := Pv (i + 1), ct := Pv (i + 1), bk := D.nx } σ2 H2) (hd : ∀ σ H, Pv kvs.length σ H → D.nx σ H) : fBody g tb D σ0 (Itd P w a ep kvs) H1 := by
  refine ⟨fun i m σ H => m = kvs.length - i ∧ i ≤ kvs.length ∧ Pv i σ H, ⟨kvs.length, by simp, Nat.zero_le _, h0⟩, ?_⟩
  rintro i m σ H ⟨rfl, hi, p⟩
  by_cases hlt : i < kvs.length
  · refine .inr ⟨⟨hl i σ H hi p, hlt⟩, Pv (i + 1), fun σ' H' p' => ⟨kvs.length - (i + 1), by omega, rfl, hlt, p'⟩, fun x H' y => ?_⟩
    obtain ⟨rfl, k, v, e, rfl⟩ := y
    exact hs i k v σ H' e p
  · have : i = kvs.length := by omega
    subst this
    exact .inl ⟨⟨hl _ σ H hi p, Nat.le_refl _⟩, hd σ H p⟩
def rSortJ (P : Program) (w : World) : List V → Hp → VK → Prop := fun xs H Q => ∃ (p : Addr) (ep : Nat) (kvs : List (Int × V)), xs = [.ref p] ∧ H p = some (dJ P w p ep kvs) ∧ kvs.length < 64 ∧ ∀ (ms : List Int), ms.Pairwise (· < ·) → (∀ k, k ∈ ms ↔ k ∈ kvs.map (·.1)) → ∀ L H', New H L (.lst (ms.map V.int)) H' → Q (.ref L) H'
theorem call_sortedJ {X : Cx} (hc : X.calm = true) : CallR X (.builtin "sorted") (rSortJ X.prog X.w) := by
  intro pins s σ H xs us Q I r h
  obtain ⟨p, ep, kvs, rfl, hx, hz, q⟩ := h
  obtain ⟨u, rfl, rx⟩ := vals1 r
  cases (show u = Value.ref p from rx)
  obtain ⟨lo, _, vs, rel, x⟩ := dj_rd I hx
  have ek := kv_keys rel
  refine sorted_dict (I.ok.hd hc) lo x.dictOf ek (by rw [List.length_map]; exact hz) fun L vs ms n h' tk a1 a2 a3 le hat k => ?_
  have vl : Vals (ms.map V.int) vs := vals_intsT a1
  have nf : H L = none := I.hok.fresh le
  refine ⟨.ref L, _, I.laid (t' := tk) (o := .lst (ms.map V.int)) k le ⟨?_, vs, n, vl, hat⟩, rfl, q ms a2 a3 L _ (New.mk' nf _)⟩
  rw [List.length_map]
  have nd : ms.Nodup := a2.imp fun h => by omega
  have : ms.length ≤ (kvs.map (·.1)).length := nd.length_le_of_subset fun y hy => (a3 y).mp hy
  rw [List.length_map] at this
  exact small_line (by omega)
end L2
set_option Elab.async false
set_option linter.all false
set_option maxRecDepth 100000
namespace L2
open PySem PySem.Spec PyProof.Rows
def lexLt : List Int → List Int → Bool
  | x :: xs, y :: ys => if x = y then lexLt xs ys else decide (x < y)
  | [], _ :: _ => true
  | _, [] => false
set_option maxHeartbeats 1000000 in
theorem tuple_ltAt (l b : Addr) (items items2 : Array Value) (n n2 : Nat) (dd dd2 : Option Addr) (sl sl2 : Array (Option Value)) (ns ms : List Int) (h1 : IntsAre items.toList ns) (h2 : IntsAre items2.toList ms) (hl2 : ns.length = ms.length) :
    Meets (Builtin.«tuple.__lt__» ⟨[.ref l, .ref b], []⟩)
      (fun A R s => s.heap.get? l = some { cls := .type "tuple", dict := dd, data := .seq items n, slots := sl } ∧ s.heap.get? b = some { cls := .type "tuple", dict := dd2, data := .seq items2 n2, slots := sl2 } ∧
        R (.ok (.ret (.bool (lexLt ns ms)))) s) :=
  .of_wp fun prog w A R s h => by
    obtain ⟨hp, g, d, tk, os⟩ := s; obtain ⟨hl, hb, h⟩ := h
    have f2 := AutoSeq1.sub_tuple_tuple
    wp_walk using wpAny_loadPart' hl, wpAny_loadPart' hb, wpAny_forIn_list _ (fun rest b s' => b.1 = none ∧ s' = ⟨hp, g, d, tk, os⟩ ∧ ∃ (xs ys : List Value) (as bs : List Int), rest = xs.zip ys ∧ IntsAre xs as ∧ IntsAre ys bs ∧ as.length = bs.length ∧
      R (.ok (.ret (.bool (lexLt as bs)))) ⟨hp, g, d, tk, os⟩) _
    case turn =>
      rintro ⟨y, x⟩ rest b s' ⟨hb', rfl, xs, ys, as, bs, hz, i1, i2, il, hR⟩
      cases i1 with
      | nil => cases hz
      | @cons k1 t1 xs as i1 =>
        cases i2 with
        | nil => cases hz
        | @cons k2 t2 ys bs i2 =>
          rw [List.zip_cons_cons] at hz
          injection hz with hyx hrest
          injection hyx with hy hx
          subst hy hx
          refine wpAny_bind (SeqAt.EqAt.int_int k1 t1 k2 t2 prog w _ _ ?_)
          by_cases hk : k1 = k2
          · rw [show (k1 == k2) = true by simp [hk]]
            rw [lexLt, if_pos hk] at hR
            wp_walk
            exact ⟨rfl, rfl, xs, ys, as, bs, hrest, i1, i2, by simpa using il, hR⟩
          · rw [show (k1 == k2) = false by simp [hk]]
            rw [lexLt, if_neg hk] at hR
            rw [if_pos (by rfl)]
            refine wpAny_bind (wpAny_rule (wpAny_bind (wpAny_lt_int (wpAny_bind (wpAny_pure (wpAny_pure ?_))))))
            exact wpAny_pure ⟨_, rfl, hR⟩
    case fin =>
      rintro ⟨b1, b2⟩ s' ⟨hb', rfl, xs, ys, as, bs, hz, i1, i2, il, hR⟩
      simp only at hb'
      subst hb'
      have hxl := i1.length
      have hyl := i2.length
      have e : as = [] := by
        cases i1 with
        | nil => rfl
        | cons k1 t1 i1 =>
          cases i2 with
          | nil => cases il
          | cons k2 t2 i2 => cases hz
      subst e
      have e2 : bs = [] := by cases bs with | nil => rfl | cons _ _ => cases il
      subst e2
      have e3 : (Builtin.Tuple.tupleCompareSizes CmpOp.Lt items.size items2.size) = Value.bool false := by
        have l1 := h1.length
        have l2 := h2.length
        rw [Array.length_toList] at l1 l2
        show Value.bool (decide (items.size < items2.size)) = _
        rw [decide_eq_false (by omega)]
      rw [e3]
      exact wpAny_pure ⟨_, rfl, hR⟩
    case h =>
      exact ⟨rfl, rfl, _, _, ns, ms, rfl, h1, h2, hl2, h⟩
theorem lt_tuples {prog : Program} {w : World} {A : Around} {E : Value → Shared → Prop} {s : Shared} {l b : Addr} {items items2 : Array Value} {ns ms : List Int} {Q : Value → Shared → Prop} (hl : s.heap.IsTuple l items) (hb : s.heap.IsTuple b items2) (hu : A.units < cLine)
    (h1 : IntsAre items.toList ns) (h2 : IntsAre items2.toList ms) (hl2 : ns.length = ms.length) (h : Q (.bool (lexLt ns ms)) s) : wpAny (model prog w) A (richCompare .Lt (.ref l) (.ref b)) Q E s := by
  obtain ⟨⟨cls, dd, data, sl⟩, ho, hc, n, hd⟩ := id hl
  obtain ⟨⟨cls2, dd2, data2, sl2⟩, ho2, hc2, n2, hd2⟩ := id hb
  simp only at hc hd hc2 hd2
  subst hc hd hc2 hd2
  exact richCompare_meets_room (op := .Lt) ⟨_, ho, rfl⟩ ⟨_, ho2, rfl⟩ PySem.F.slot_tuple_lt PySem.F.entry_tuple_lt (PySem.F.args_tuple_lt_2 _ _) (tuple_ltAt l b items items2 n n2 dd dd2 sl sl2 ns ms h1 h2 hl2)
    ⟨ho, ho2, show Value.bool (lexLt ns ms) ≠ Value.notImplemented ∧ Q (.bool (lexLt ns ms)) s from ⟨(fun x => nomatch x), h⟩⟩ hu
section
variable {P : Program} {w : World} {A : Around} {R : Result → Shared → Prop} {I S : Addr} {fp wr : List Addr} {n : Nat} {Pv : Nat → Value → Prop} {St : Nat → Heap → Prop} {bt : Nat → Nat → Bool} {B : Heap → Prop}
def Kp (wr : List Addr) (S : Addr) (h h' : Heap) : Prop := ∀ b o, b ∉ wr → b ≠ S → h.get? b = some o → h'.get? b = some o
theorem Kp.put {h h' : Heap} {f : Obj → Obj} (k : ∀ b o, b ∉ wr → h.get? b = some o → h'.get? b = some o) : Kp wr S h (h'.update S f) := fun b o hw hS e => (Heap.get?_update_other _ _ (Ne.symm hS)).trans (k b o hw e)
def CmpB (P : Program) (w : World) (A : Around) (B : Heap → Prop) (Pv : Nat → Value → Prop) (bt : Nat → Nat → Bool) : Prop := ∀ i j u v (s : Shared) (Q : Value → Shared → Prop) (E : Value → Shared → Prop), B s.heap → Pv i u → Pv j v → Q (.bool (bt i j)) s → wpAny (model P w) A (richCompare .Lt u v) Q E s
theorem min_turns (W : Walks P w A.in1 I fp wr n Pv St) (cmp : CmpB P w A.in1 B Pv bt) (kB : ∀ h h', B h → Kp wr S h h' → B h') (hS : S ∉ fp) (m : Nat) : ∀ (j : Nat) (s : Shared) (u : Value) (c : Nat), j + 1 + m = n → St (j + 1) s.heap → B s.heap → Pv (argBest bt j) u →
    s.heap.get? S = some { cls := .type "list", dict := none, data := .seq #[u, u] c, slots := #[] } → (∀ v h' tk, Pv (argBest bt (n - 1)) v → Kp wr S s.heap h' → R (.ok (.ret v)) { s with heap := h', toks := tk }) →
    codeAny (model P w) A (.builtin "min.loop" ⟨[.ref I, .none, .ref S], []⟩) R s := by
  have hSw : S ∉ wr := fun z => hS (W.sub _ z)
  have nm : (toString "min" ++ toString ".loop" : String) = "min.loop" := by decide
  induction m with
  | zero =>
    intro j s u c e st hB hu ho q
    have e : n = j + 1 := by omega
    refine codeAny_builtin PySem.F.entry_min_loop ?_
    rw [Around.under_plainId PySem.F.plain_min_loop _]
    show wpAny _ _ (seqItems? (.ref S) >>= _) _ _ _
    refine wpAny_bind (wpAny_seqItems ho rfl ?_)
    show wpAny _ _ (tryCatch (pyNext (.ref I)) _ >>= _) _ _ _
    refine wpAny_bind (wpAny_tryCatch (W.done s _ _ (e ▸ st) fun h' tk k => ?_))
    show wpAny _ _ (updateSeq S (fun _ => #[]) >>= _) _ _ _
    refine wpAny_bind (wpAny_updateSeq (k S _ hSw ho) rfl (wpAny_bind (wpAny_letGo (wpAny_pure ?_))))
    exact q u _ tk (by rw [e]; exact hu) (Kp.put k)
  | succ m ih =>
    intro j s u c e st hB hu ho q
    refine codeAny_builtin PySem.F.entry_min_loop ?_
    rw [Around.under_plainId PySem.F.plain_min_loop _]
    show wpAny _ _ (seqItems? (.ref S) >>= _) _ _ _
    refine wpAny_bind (wpAny_seqItems ho rfl ?_)
    show wpAny _ _ (tryCatch (pyNext (.ref I)) _ >>= _) _ _ _
    refine wpAny_bind (wpAny_tryCatch (W.item (j + 1) s _ _ (by omega) st fun v h' tk hv st' k => ?_))
    have ho' := k S _ hSw ho
    have hB' : B h' := kB _ _ hB fun b o hw _ e => k b o hw e
    show wpAny _ _ (tryCatch (holding [v, v] (richCompare .Lt v u >>= _)) _ >>= _) _ _ _
    refine wpAny_bind (wpAny_tryCatch (wpAny_holding (wpAny_bind (cmp (j + 1) (argBest bt j) v u _ _ _ hB' hv hu (wpAny_bind (wpAny_holding (wpAny_truthy_bool (wpAny_bind (wpAny_letGo (wpAny_pure ?_))))))))))
    by_cases hb : bt (j + 1) (argBest bt j) = true
    · rw [hb]
      simp only [if_true]
      refine wpAny_bind (wpAny_updateSeq ho' rfl (wpAny_bind (wpAny_letGo ?_)))
      rw [nm]
      refine wpAny_pure ⟨plainId_quiet PySem.F.plain_min_loop _, ih (j + 1) _ v _ (by omega) (W.frame _ _ _ st' fun b hf o e => ?_) (kB _ _ hB (Kp.put k)) (by simp only [argBest, hb, if_true]; exact hv) (Heap.get?_update_self _ ho' rfl) fun x h2 tk2 hx k2 => ?_⟩
      · exact (Heap.get?_update_other _ _ fun z : S = b => hS (z ▸ hf)).trans e
      · exact q x h2 tk2 hx fun b o hw hn e => k2 b o hw hn (Kp.put (S := S) k b o hw hn e)
    · have hb : bt (j + 1) (argBest bt j) = false := by simpa using hb
      rw [hb]
      simp only [Bool.false_eq_true, if_false]
      refine wpAny_bind (wpAny_letGo ?_)
      rw [nm]
      refine wpAny_pure ⟨plainId_quiet PySem.F.plain_min_loop _, ih (j + 1) _ u c (by omega) st' hB' (by simp only [argBest, hb, Bool.false_eq_true, if_false]; exact hu) ho' fun x h2 tk2 hx k2 => ?_⟩
      exact q x h2 tk2 hx fun b o hw hn e => k2 b o hw hn (k b o hw e)
theorem call_min_list {E : Value → Shared → Prop} {s : Shared} {l : Addr} {vs : Array Value} {Q : Value → Shared → Prop} (hh : A.handled = none) (hl : s.heap.IsList l vs) (ne : 0 < vs.size) (hB : B s.heap)
    (kB : ∀ h h' : Heap, B h → (∀ b o, b < s.heap.objs.size → h.get? b = some o → h'.get? b = some o) → B h') (cmp : CmpB P w A.in1 B (fun i v => vs[i]? = some v) bt)
    (q : ∀ v h' tk, vs[argBest bt (vs.size - 1)]? = some v → (∀ b o, s.heap.get? b = some o → h'.get? b = some o) → Q v { s with heap := h', toks := tk }) : wpAny (model P w) A (call (.builtin "min") [.ref l]) Q E s := by
  have nm : (toString "min" ++ toString ".loop" : String) = "min.loop" := by decide
  have ll : l < s.heap.objs.size := by obtain ⟨_, e, _⟩ := hl; exact Heap.lt_size e
  refine call_function_tree PySem.F.kind_min PySem.F.plain_min PySem.F.entry_min (PySem.F.args_min1 _) ?_
  show wpAny _ _ (Builtin.Builtins.bindParams "min" ["key", "default"] 0 ⟨[], []⟩ >>= _) _ _ _
  refine wpAny_bind (wpAny_of_eq (show Builtin.Builtins.bindParams "min" ["key", "default"] 0 ⟨[], []⟩ = pure [none, none] from rfl) ?_)
  refine wpAny_bind (wpAny_pure (wpAny_bind (wpAny_pyIter_list hl ?_)))
  refine wpAny_bind (wpAny_newObj_type ?_)
  rw [nm]
  generalize eh1 : s.heap.push { cls := .type "list_iterator", data := .fields #[.ref l, .int 0 0] } = h1
  have z1 : h1.objs.size = s.heap.objs.size + 1 := by rw [← eh1]; exact Heap.size_push ..
  have k1 : ∀ b o, s.heap.get? b = some o → h1.get? b = some o := fun b o e => by rw [← eh1]; exact Heap.get?_push_of_some _ e
  have W := Walks.list (prog := P) (w := w) (A := A.in1) hh s.heap.objs.size l (Nat.ne_of_lt ll) vs
  have n1 : ∀ b : Addr, b < s.heap.objs.size → b ∉ [s.heap.objs.size] := fun b hb hm => Nat.ne_of_lt hb (List.mem_singleton.mp hm)
  have n2 : ∀ b : Addr, b < s.heap.objs.size → b ≠ h1.objs.size := fun b hb => Nat.ne_of_lt (by rw [z1]; exact Nat.lt_succ_of_lt hb)
  have n3 : h1.objs.size ∉ [s.heap.objs.size] := fun hm => Nat.ne_of_gt (Nat.lt_succ_self _) (z1.symm.trans (List.mem_singleton.mp hm))
  have nS : h1.objs.size ∉ [s.heap.objs.size, l] := fun hm => by
    rcases List.mem_cons.mp hm with e | e
    · exact n3 (List.mem_singleton.mpr e)
    · exact n2 l ll (List.mem_singleton.mp e).symm
  have kB' : ∀ h h' : Heap, B h → Kp [s.heap.objs.size] h1.objs.size h h' → B h' := fun h h' b k => kB h h' b fun x o hx e => k x o (n1 x hx) (n2 x hx) e
  have st0 : h1.IsListIter s.heap.objs.size l 0 ∧ h1.IsList l vs := by rw [← eh1]; exact ⟨⟨_, Heap.get?_push_size _ rfl, rfl, rfl⟩, hl.push _⟩
  refine wpAny_pure ⟨plainId_quiet PySem.F.plain_min_loop _, codeAny_builtin PySem.F.entry_min_loop ?_⟩
  rw [Around.under_plainId PySem.F.plain_min_loop _]
  show wpAny _ _ (seqItems? (.ref h1.objs.size) >>= _) _ _ _
  refine wpAny_bind (wpAny_seqItems (Heap.get?_push_size _ rfl) rfl ?_)
  show wpAny _ _ (tryCatch (pyNext (.ref s.heap.objs.size)) _ >>= _) _ _ _
  refine wpAny_bind (wpAny_tryCatch (W.item 0 _ _ _ ne (W.frame _ _ _ st0 fun b _ o e => Heap.get?_push_of_some _ e) fun v h' tk hv st' k => ?_))
  have hS' := k h1.objs.size _ n3 (Heap.get?_push_size _ rfl)
  show wpAny _ _ (updateSeq h1.objs.size (fun _ => #[v, v]) >>= _) _ _ _
  refine wpAny_bind (wpAny_updateSeq hS' rfl ?_)
  rw [nm]
  have kk : Kp [s.heap.objs.size] h1.objs.size s.heap (h'.update h1.objs.size (Obj.mapSeq fun _ => #[v, v])) := Kp.put fun b o hw e => k b o hw (Heap.get?_push_of_some _ (k1 b o e))
  refine wpAny_pure ⟨plainId_quiet PySem.F.plain_min_loop _, min_turns W cmp kB' nS (vs.size - 1) 0 _ v _ (by omega) (W.frame _ _ _ st' fun b hf o e => ?_) (kB' _ _ hB kk) hv (Heap.get?_update_self _ hS' rfl) fun x h2 tk2 hx k2 => ?_⟩
  · exact (Heap.get?_update_other _ _ fun z : h1.objs.size = b => nS (by rw [z]; exact hf)).trans e
  · exact q x h2 tk2 hx fun b o e => k2 b o (n1 b (Heap.lt_size e)) (n2 b (Heap.lt_size e)) (kk b o (n1 b (Heap.lt_size e)) (n2 b (Heap.lt_size e)) e)
end
theorem lexLt_irr : ∀ a : List Int, lexLt a a = false
  | [] => rfl
  | x :: a => by rw [lexLt, if_pos rfl]; exact lexLt_irr a
theorem lexLt_trans : ∀ {a b c : List Int}, lexLt a b = true → lexLt b c = true → lexLt a c = true
  | [], _ :: _, [], _, h => by cases h
  | [], _ :: _, _ :: _, _, _ => rfl
  | [], [], _, h, _ => by cases h
  | _ :: _, [], _, h, _ => by cases h
  | _ :: _, _ :: _, [], _, h => by cases h
  | x :: a, y :: b, z :: c, h1, h2 => by
    rw [lexLt] at h1 h2 ⊢
    by_cases e1 : x = y
    · rw [if_pos e1] at h1
      by_cases e2 : y = z
      · rw [if_pos e2] at h2
        rw [if_pos (e1.trans e2)]
        exact lexLt_trans h1 h2
      · rw [if_neg e2] at h2
        rw [if_neg (by rw [e1]; exact e2), e1]
        exact h2
    · rw [if_neg e1] at h1
      have l1 := of_decide_eq_true h1
      by_cases e2 : y = z
      · rw [if_neg (by rw [← e2]; exact e1), ← e2]
        exact h1
      · rw [if_neg e2] at h2
        have l2 := of_decide_eq_true h2
        rw [if_neg (by omega)]
        exact decide_eq_true (by omega)
theorem best_le (f : Nat → List Int) : ∀ n, argBest (fun i j => lexLt (f i) (f j)) n ≤ n ∧ ∀ k, k ≤ n → lexLt (f k) (f (argBest (fun i j => lexLt (f i) (f j)) n)) = false
  | 0 => ⟨Nat.le_refl _, fun k hk => by rw [show k = 0 by omega]; exact lexLt_irr _⟩
  | n + 1 => by
    obtain ⟨h0, ih⟩ := best_le f n
    rw [argBest]
    by_cases hb : lexLt (f (n + 1)) (f (argBest (fun i j => lexLt (f i) (f j)) n)) = true
    · rw [if_pos hb]
      refine ⟨Nat.le_refl _, fun k hk => ?_⟩
      by_cases e : k = n + 1
      · rw [e]; exact lexLt_irr _
      · cases z : lexLt (f k) (f (n + 1)) with
        | false => rfl
        | true =>
          have := lexLt_trans z hb
          rw [ih k (by omega)] at this
          cases this
    · rw [if_neg hb]
      refine ⟨by omega, fun k hk => ?_⟩
      by_cases e : k = n + 1
      · rw [e]; simpa using hb
      · exact ih k (by omega)
theorem paired_get {α β : Type} {R : α → β → Prop} {xs : List α} {ys : List β} (h : Paired R xs ys) : ∀ {i : Nat} {x : α} {y : β}, xs[i]? = some x → ys[i]? = some y → R x y := by
  induction h with
  | nil => intro i x y e; simp at e
  | cons r _ ih =>
    intro i x y e1 e2
    cases i with
    | zero => simp at e1 e2; rw [← e1, ← e2]; exact r
    | succ i => exact ih (by simpa using e1) (by simpa using e2)
def ILine (H : Hp) (v : V) (l : List Int) : Prop := ∃ a, v = .ref a ∧ H a = some (.tup (l.map V.int))
def rMinT (K : PySem.W.Frag) : List V → Hp → VK → Prop := fun xs H Q => ∃ (p : Addr) (rs : List V) (ls : List (List Int)) (len : Nat), xs = [.ref p] ∧ SqL K H p rs ∧ Paired (ILine H) rs ls ∧ (∀ l ∈ ls, l.length = len) ∧ 0 < ls.length ∧
  ∀ (i : Nat) v l, rs[i]? = some v → ls[i]? = some l → (∀ l' ∈ ls, lexLt l' l = false) → Q v H
theorem call_min_tups {X : Cx} (hc : X.calm = true) (hu : X.A.units + 8 < cLine) : CallR X (.builtin "min") (rMinT X.K) := by
  intro pins s σ H xs us Q I r h
  obtain ⟨p, rs, ls, len, rfl, hx, pr, hlen, hne, q⟩ := h
  obtain ⟨u, rfl, rx⟩ := vals1 r
  cases (show u = Value.ref p from rx)
  obtain ⟨vs, rv, pl, _⟩ := I.list hx
  have l1 := rv.length
  have l2 := Paired.length pr
  have key : ∀ (j : Nat) v, vs[j]? = some v → ∃ a its, v = .ref a ∧ s.heap.IsTuple a its ∧ IntsAre its.toList (ls.getD j []) ∧ (ls.getD j []).length = len := fun j v e => by
    have hj : j < vs.length := (List.getElem?_eq_some_iff.mp e).1
    have er : rs[j]? = some (rs[j]'(by omega)) := List.getElem?_eq_getElem _
    have el : ls[j]? = some (ls[j]'(by omega)) := List.getElem?_eq_getElem _
    obtain ⟨u, eu, ru⟩ := rv.get er
    rw [e] at eu
    cases eu
    obtain ⟨a, ea, ha⟩ := paired_get pr er el
    rw [ea] at ru
    cases (show v = Value.ref a from ru)
    obtain ⟨its, ri, pi, _⟩ := I.tuple (.of ha)
    rw [List.getD_eq_getElem?_getD, el]
    exact ⟨a, its.toArray, rfl, pi, intsAre_of ri, hlen _ (List.getElem_mem _)⟩
  refine call_min_list (bt := fun i j => lexLt (ls.getD i []) (ls.getD j [])) (B := fun h => ∀ (j : Nat) v, vs[j]? = some v → ∃ a its, a < s.heap.objs.size ∧ v = .ref a ∧ h.IsTuple a its ∧ IntsAre its.toList (ls.getD j []) ∧ (ls.getD j []).length = len) (I.ok.hd hc) pl.isList (by rw [List.size_toArray]; omega) ?_ ?_ ?_ fun v h' tk hv k => ?_
  · intro j v e
    obtain ⟨a, its, rfl, ht, hi, hl⟩ := key j v e
    exact ⟨a, its, (by obtain ⟨_, z, _⟩ := ht; exact Heap.lt_size z), rfl, ht, hi, hl⟩
  · intro h h' hB k j v e
    obtain ⟨a, its, la, rfl, ht, hi, hl⟩ := hB j v e
    exact ⟨a, its, la, rfl, ht.at fun o z => k a o la z, hi, hl⟩
  · intro i j u v s' Q' E' hB hu' hv' q'
    obtain ⟨a, its, _, rfl, ht, hi, hl⟩ := hB i u (by simpa using hu')
    obtain ⟨b, its2, _, rfl, ht2, hi2, hl2⟩ := hB j v (by simpa using hv')
    exact lt_tuples ht ht2 (show X.A.units + 1 < cLine by omega) hi hi2 (hl.trans hl2.symm) q'
  · rw [List.size_toArray] at hv
    obtain ⟨b1, b2⟩ := best_le (fun i => ls.getD i []) (vs.length - 1)
    generalize argBest (fun i j => lexLt (ls.getD i []) (ls.getD j [])) (vs.length - 1) = i at hv b1 b2
    have er : rs[i]? = some (rs[i]'(by omega)) := List.getElem?_eq_getElem _
    have el : ls[i]? = some (ls[i]'(by omega)) := List.getElem?_eq_getElem _
    obtain ⟨u, eu, ru⟩ := rv.get er
    have hv' : vs[i]? = some v := by simpa using hv
    rw [hv'] at eu
    cases eu
    refine ⟨_, H, I.kept k, ru, q i _ _ er el fun l' hl' => ?_⟩
    obtain ⟨j, hj, rfl⟩ := List.getElem_of_mem hl'
    have := b2 j (by omega)
    rw [List.getD_eq_getElem?_getD, List.getElem?_eq_getElem hj, List.getD_eq_getElem?_getD, el] at this
    exact this
theorem call_min_tupsK {X : Cx} (K : PySem.W.Frag) (hc : X.calm = true) (hu : X.A.units + 8 < cLine) (h : X.K = K := by rfl) : CallR X (.builtin "min") (rMinT K) := h ▸ call_min_tups hc hu
def rMinL (K : PySem.W.Frag) : List V → Hp → VK → Prop := fun xs H Q => ∃ (p : Addr) (ns : List Int), xs = [.ref p] ∧ SqL K H p (ns.map V.int) ∧ 0 < ns.length ∧ ∀ M, M ∈ ns → (∀ a ∈ ns, M ≤ a) → Q (.int M) H
theorem call_min_l {X : Cx} (hc : X.calm = true) : CallR X (.builtin "min") (rMinL X.K) := by
  intro pins s σ H xs us Q I r h
  obtain ⟨p, ns, rfl, hx, hne, q⟩ := h
  obtain ⟨u, rfl, rx⟩ := vals1 r
  cases (show u = Value.ref p from rx)
  obtain ⟨vs, rv, pl, _⟩ := I.list hx
  have hi := intsAre_of rv
  obtain ⟨xs, e⟩ := hi.allInts.items
  have hns : ns = xs.toList.map (·.1) := by
    rw [← nums_intItems, ← e]
    exact (show numsOf vs.toArray.toList = ns from hi.numsOf).symm
  have hsz : 0 < xs.size := by rw [hns, List.length_map, Array.length_toList] at hne; exact hne
  refine min_intList (I.ok.hd hc) (e ▸ pl.isList) hsz fun v h' tk hv hk => ?_
  obtain ⟨t, rfl⟩ := intItems_at hv
  obtain ⟨h1, h2⟩ := argBest_lt (numAt xs) (xs.size - 1)
  refine ⟨.int _, H, I.kept hk, ⟨_, rfl⟩, q _ ?_ fun a ha => ?_⟩
  · rw [hns, numAt_eq]; exact getD_mem (by rw [List.length_map, Array.length_toList]; omega)
  · rw [hns] at ha
    obtain ⟨j, hj, rfl⟩ := mem_getD ha
    rw [List.length_map, Array.length_toList] at hj
    rw [← numAt_eq]; exact h2 j (by omega)
theorem call_min_lK {X : Cx} (K : PySem.W.Frag) (hc : X.calm = true) (h : X.K = K := by rfl) : CallR X (.builtin "min") (rMinL K) := h ▸ call_min_l hc
end L2
set_option Elab.async false
set_option linter.all false
set_option maxRecDepth 100000
namespace L2
open PySem PySem.Spec PyProof.Rows
theorem draws_tup {P : Program} {w : World} {A : Around} (hh : A.handled = none) (it l : Addr) (hne : l ≠ it) (its : Array Value) : Draws P w A it [it, l] its.size (fun i v => its[i]? = some v) (fun i h => h.IsTupleIter it l i ∧ h.IsTuple l its) where
  live := fun _ _ st => by obtain ⟨o, ho, _⟩ := st.1; exact ⟨o, ho⟩
  frame := fun _ _ _ st k => ⟨st.1.at fun o e => k it (by simp) o e, st.2.at fun o e => k l (by simp) o e⟩
  item := fun i s Q E hi st q => nx_tup_item st.1 st.2 (y := its[i]) (by simp [hi]) fun h' st' sb => q _ h' s.toks (by simp [hi]) ⟨st', st.2.at fun o e => (sb.2 l hne).trans e⟩ sb
  done := fun s Q E st q => nx_tup_end hh st.1 st.2 (by simp) q
set_option maxHeartbeats 1000000 in
theorem enum_newT (l : Addr) (its : Array Value) (n : Nat) (dd : Option Addr) (sl : Array (Option Value)) :
    Meets (Builtin.«enumerate.__new__» ⟨[.type "enumerate", .ref l], []⟩) (fun _ R s => s.heap.get? l = some { cls := .type "tuple", dict := dd, data := .seq its n, slots := sl } ∧
      R (.ok (.ret (.ref (s.heap.push { cls := .type "tuple_iterator", data := .fields #[.ref l, .int 0 0] }).objs.size))) { s with heap := (s.heap.push { cls := .type "tuple_iterator", data := .fields #[.ref l, .int 0 0] }).push { cls := .type "enumerate", data := .fields #[.none, .bool false, .ref s.heap.objs.size, rawInt 0, .none, .none] } }) :=
  .of_wp fun prog w A R s h => by
    obtain ⟨hp, g, d, tk, os⟩ := s; obtain ⟨hl, h⟩ := h
    have hsub := sub_enumerate
    have hL : Heap.IsTuple (Shared.heap ⟨hp, g, d, tk, os⟩) l its := ⟨_, hl, rfl, _, rfl⟩
    wp_walk using AutoSeq1.wpAny_loadPart' hl
    refine wpAny_stack_any fun st => wpAny_pure ?_
    split
    · rename_i c _ _ _ _ _
      cases (c == Value.type "enumerate")
      · wp_walk using AutoSeq1.wpAny_loadPart' hl, wpAny_pyIter_tuple hL
        exact ⟨_, rfl, h⟩
      · wp_walk using AutoSeq1.wpAny_loadPart' hl, wpAny_pyIter_tuple hL
        exact ⟨_, rfl, h⟩
    · wp_walk using AutoSeq1.wpAny_loadPart' hl, wpAny_pyIter_tuple hL
      exact ⟨_, rfl, h⟩
def IteT (K : PySem.W.Frag) (a : Addr) : It :=
  ⟨fun i H => ∃ xs x, SqT K H a xs ∧ xs[i]? = some x, fun i H v H' => ∃ p x, v = .ref p ∧ New H p (.tup [.int (i : Int), x]) H' ∧ ∀ xs, SqT K H a xs → xs[i]? = some x, fun i H => ∃ xs, SqT K H a xs ∧ xs.length = i⟩
theorem turn_enumT {P : Program} {w : World} {K : PySem.W.Frag} {elts : List Expr} {x1} {tpos : Pos} (e it a : Addr) (hne : e ≠ it) (hea : e ≠ a) (hia : a ≠ it) :
    Turn P w K (.Tuple elts x1 tpos) (IteT K a) [e, it] e (fun i h => (∃ old, IsEnum h e it (i : Int) old) ∧ h.IsTupleIter it a i) where
  mem := by simp
  obj := fun i h st c hc => by
    obtain ⟨⟨old, se⟩, o1, e1, c1, d1⟩ := st
    simp only [List.mem_cons, List.not_mem_nil, or_false] at hc
    rcases hc with rfl | rfl
    · exact ⟨_, se, fun v q => nomatch q⟩
    · exact ⟨_, e1, fun v q => by rw [d1] at q; cases q⟩
  keep := fun i h h' st k => ⟨let ⟨old, se⟩ := st.1; ⟨old, k e (by simp) _ se⟩, st.2.at fun o z => k it (by simp) o z⟩
  item := by
    intro X hP hw hK hc i pins s σ H E I hf st hg
    subst hP hw hK
    obtain ⟨xs, x, hx, ex⟩ := hg
    obtain ⟨its, r, pl, _⟩ := I.tuple hx
    obtain ⟨u, hu, ru⟩ := r.get ex
    obtain ⟨⟨old, se⟩, si⟩ := st
    refine wpAny_pyNext_enum_itemD (draws_tup (A := X.A.in1) (I.ok.hd hc) it a hia its.toArray) se ⟨si, pl⟩ (by rw [List.size_toArray]; exact (List.getElem?_eq_some_iff.mp hu).1) hne (by simp [hne, hea]) fun u' h1 tk hu' eo1 si1 q1 sz1 k1 => ⟨_, rfl, ?_⟩
    have hu' : its[i]? = some u' := by simpa using hu'
    rw [hu] at hu'
    cases hu'
    replace si1 := si1.1
    refine wpAny_letOwnedTupleGo_enum eo1 fun h2 e2 sb2 => ?_
    have hlt : ∀ c ∈ [e, it], c ≠ s.heap.objs.size := fun c hc => by
      simp only [List.mem_cons, List.not_mem_nil, or_false] at hc
      rcases hc with rfl | rfl
      · exact Nat.ne_of_lt (Heap.lt_size se)
      · obtain ⟨o, z, _⟩ := si
        exact Nat.ne_of_lt (Heap.lt_size z)
    have k2 : ∀ c o, c ∉ [e, it] → s.heap.get? c = some o → h2.get? c = some o := fun c o hc z =>
      sb2.extBut _ _ (fun q => hc (by simp [q])) (k1 c o (fun q => hc (by simp [q])) (fun q => hc (by simp [q])) z)
    have tup2 := sb2.extBut _ _ (Ne.symm (hlt e (by simp))) q1
    have si2 : h2.IsTupleIter it a (i + 1) := si1.at fun o z => sb2.extBut _ _ (Ne.symm hne) z
    have e2' : IsEnum h2 e it ((i + 1 : Nat) : Int) u := by rw [show ((i + 1 : Nat) : Int) = (i : Int) + 1 by omega]; exact e2
    have there : ∀ c ∈ [e, it], ∃ o, h2.get? c = some o := fun c hc => by
      simp only [List.mem_cons, List.not_mem_nil, or_false] at hc
      rcases hc with rfl | rfl
      · exact ⟨_, e2⟩
      · obtain ⟨o, z, _⟩ := si2
        exact ⟨o, z⟩
    have I2 : Inv X pins σ (upd H s.heap.objs.size (.tup [.int (i : Int), x])) { s with heap := h2, toks := tk + 1 } := I.turnedNew k2 hf (Nat.le_refl _) ⟨small_line (by simp), [.int i tk, u], .cons ⟨_, rfl⟩ (.cons ru .nil), ⟨_, tup2, rfl, _, rfl⟩⟩ there
    refine ⟨.ref s.heap.objs.size, _, I2, rfl, ⟨_, x, rfl, .mk' I.fresh _, fun ws hw => by rw [I.tuple_inj hw hx]; exact ex⟩, ⟨⟨_, e2'⟩, si2⟩, fun c hc => ?_⟩
    rw [upd_ne (hlt c hc)]
    exact (hf c hc).1
  done := by
    intro X hP hw hK hc i pins s σ H E I hf st hg
    subst hP hw hK
    obtain ⟨xs, hx, hl⟩ := hg
    obtain ⟨its, r, pl, _⟩ := I.tuple hx
    have l1 := r.length
    obtain ⟨⟨old, se⟩, si⟩ := st
    have hi : i = its.toArray.size := by rw [List.size_toArray]; omega
    exact wpAny_pyNext_enum_endD (draws_tup (A := X.A.in1) (I.ok.hd hc) it a hia its.toArray) se (hi ▸ ⟨si, pl⟩) fun h' k => ⟨rfl, I.turnedL (t' := s.toks) (fun c o hc z => k c o (fun q => hc (by simp [q])) z) hf⟩
  self := fun _ _ _ _ _ st h => let ⟨_, se⟩ := st.1; wpAny_pyIter_enum se h
theorem enum_callT {P : Program} {w : World} {A : Around} {E : Value → Shared → Prop} {s : Shared} {l : Addr} {its : Array Value} {Q : Value → Shared → Prop} (ht : s.heap.IsTuple l its)
    (q : ∀ h', IsEnum h' (s.heap.objs.size + 1) s.heap.objs.size 0 .none → h'.IsTupleIter s.heap.objs.size l 0 → (∀ c o, s.heap.get? c = some o → h'.get? c = some o) → Q (.ref (s.heap.objs.size + 1)) { s with heap := h' }) :
    wpAny (model P w) A (call (.type "enumerate") [.ref l]) Q E s := by
  obtain ⟨⟨cl, dd, data, sl⟩, ho, hc, n, hd⟩ := id ht
  simp only at hc hd
  subst hc hd
  refine callType_new F.called_enumerate (by decide) (F.typeCall_enumerate_1 _) (F.newCall_enumerate_1 _) (fun obj => F.args_object_init_2 obj _) F.entry_enumerate_new (enum_newT l its n dd sl) ⟨ho, ?_⟩
  show _ ∧ _
  have z : (s.heap.push { cls := .type "tuple_iterator", data := .fields #[.ref l, .int 0 0] }).objs.size = s.heap.objs.size + 1 := Heap.size_push ..
  rw [z]
  have he : IsEnum ((s.heap.push { cls := .type "tuple_iterator", data := .fields #[.ref l, .int 0 0] }).push { cls := .type "enumerate", data := .fields #[.none, .bool false, .ref s.heap.objs.size, rawInt 0, .none, .none] }) (s.heap.objs.size + 1) s.heap.objs.size 0 .none := by
    rw [← z]; exact Heap.get?_push_size _ rfl
  exact ⟨⟨_, he, rfl⟩, q _ he ⟨_, Heap.get?_push_of_some _ (Heap.get?_push_size _ rfl), rfl, rfl⟩ fun c o x => Heap.get?_push_of_some _ (Heap.get?_push_of_some _ x)⟩
def iEnumT (K : PySem.W.Frag) (ta : TA) : TI := fun σ H R => ta σ H fun vs H1 => ∃ a, vs = [.ref a] ∧ (∃ xs, SqT K H1 a xs) ∧ R (IteT K a) H1
theorem pi_enumT {X : Cx} {elts : List Expr} {x1} {tpos : Pos} {a : Expr} {ta : TA} {p pos : Pos} (hg : Gl X "enumerate") (hm : X.mg "enumerate" = none) (ha : PA X [a] ta) (h1 : notStar a = true := by rfl) : PI X (.Tuple elts x1 tpos) (.Call (.Name "enumerate" p) [a] [] pos) (iEnumT X.K ta) := by
  intro pins s σ H R I h
  have hs : starEach [a] X.env = [(false, eval a X.env)] := by rw [star_cons h1, starEach.eq_def]
  refine Call_ (ld_blt I hg hm boot_enumerate (PyProof.Rows.callWith_type1 (thn (ha pos pins s σ H _ I h) fun us s1 ⟨vs, H1, I1, r1, q1⟩ => ?_) hs rfl))
  obtain ⟨p1, e, ⟨xs, hx⟩, q⟩ := q1
  subst e
  obtain ⟨u, rfl, ru⟩ := vals1 r1
  cases (show u = Value.ref p1 from ru)
  obtain ⟨its, _, t1, _⟩ := I1.tuple hx
  have lp : p1 < s1.heap.objs.size := by obtain ⟨_, z, _⟩ := t1; exact Heap.lt_size z
  refine enum_callT t1 fun h' se si k => wpAny_pyIter_enum se ?_
  refine ⟨_, [s1.heap.objs.size + 1, s1.heap.objs.size], _, _, H1, rfl, I1.kept (t' := s1.toks) k, turn_enumT _ _ p1 (Nat.succ_ne_self _) (Nat.ne_of_gt (Nat.lt_succ_of_lt lp)) (Nat.ne_of_lt lp), ⟨⟨_, se⟩, si⟩, fun c hc => ?_, q⟩
  have hle : s1.heap.objs.size ≤ c := by
    simp only [List.mem_cons, List.not_mem_nil, or_false] at hc
    rcases hc with rfl | rfl
    · exact Nat.le_add_right _ _
    · exact Nat.le_refl _
  exact I1.fpOk hle (I1.hok.fresh hle)
theorem pi_enumTK {X : Cx} (K : PySem.W.Frag) {elts : List Expr} {x1} {tpos : Pos} {a : Expr} {ta : TA} {p pos : Pos} (hg : Gl X "enumerate") (hm : X.mg "enumerate" = none) (ha : PA X [a] ta) (h : X.K = K := by rfl) (h1 : notStar a = true := by rfl) :
    PI X (.Tuple elts x1 tpos) (.Call (.Name "enumerate" p) [a] [] pos) (iEnumT K ta) := h ▸ pi_enumT hg hm ha h1
theorem fb_enumT {K : PySem.W.Frag} {a : Addr} {xs : List V} {g : TG} {tb : TS} {D : Ends} {σ0 : St} {H1 : Hp} (Pv : Nat → St → Hp → Prop) (h0 : Pv 0 σ0 H1) (hl : ∀ i σ H, i ≤ xs.length → Pv i σ H → SqT K H a xs)
    (hs : ∀ i x σ H p H', xs[i]? = some x → Pv i σ H → New H p (.tup [.int (i : Int), x]) H' → g (.ref p) σ H' fun σ2 H2 => tb { D with nx := Pv (i + 1), ct := Pv (i + 1), bk := D.nx } σ2 H2) (hd : ∀ σ H, Pv xs.length σ H → D.nx σ H) : fBody g tb D σ0 (IteT K a) H1 := by
  refine ⟨fun i m σ H => m = xs.length - i ∧ i ≤ xs.length ∧ Pv i σ H, ⟨xs.length, by simp, Nat.zero_le _, h0⟩, ?_⟩
  rintro i m σ H ⟨rfl, hi, p⟩
  have hq := hl i σ H hi p
  by_cases hlt : i < xs.length
  · refine .inr ⟨⟨xs, xs[i], hq, List.getElem?_eq_getElem hlt⟩, Pv (i + 1), fun σ' H' p' => ⟨xs.length - (i + 1), by omega, rfl, hlt, p'⟩, fun v H' y => ?_⟩
    obtain ⟨pp, x, rfl, nw, ex⟩ := y
    exact hs i x σ H pp H' (ex xs hq) p nw
  · have : i = xs.length := by omega
    subst this
    exact .inl ⟨⟨xs, hq, rfl⟩, hd σ H p⟩
end L2
set_option Elab.async false
set_option linter.all false
set_option maxRecDepth 100000
namespace SM
open PySem PySem.Spec PyProof.Rows L2 SS
def RowV (H : Hp) (kv : Int × V) (e : LRow) : Prop := kv.1 = (e.1 : Int) ∧ ∃ q v, kv.2 = .ref q ∧ H q = some (.tup [nV e.2.1, v]) ∧ TreeV H v e.2.2
theorem RowV.ts {H H' : Hp} {kv : Int × V} {e : LRow} (h : RowV H kv e) (g : TupS H H') : RowV H' kv e := let ⟨e1, q, v, e2, e3, t⟩ := h; ⟨e1, q, v, e2, g _ _ e3, t.ts g⟩
theorem _root_.L2.ILine.ts {H H' : Hp} {v : V} {l : List Int} (h : ILine H v l) (g : TupS H H') : ILine H' v l := let ⟨a, e, z⟩ := h; ⟨a, e, g _ _ z⟩
theorem rows_at {H : Hp} {kvs : List (Int × V)} {es : List LRow} (pr : Paired (RowV H) kvs es) : (rms es).Nodup → ∀ e ∈ es, ∃ q v, valV kvs (e.1 : Int) = some (.ref q) ∧ H q = some (.tup [nV e.2.1, v]) ∧ TreeV H v e.2.2 := by
  induction pr with
  | nil => intro _ e he; cases he
  | @cons kv x kvs es r _ ih =>
    intro nd e he
    rw [rms, List.map_cons, List.nodup_cons] at nd
    obtain ⟨e1, q, v, e2, e3, t⟩ := r
    rcases List.mem_cons.mp he with rfl | he
    · exact ⟨q, v, by rw [valV_pos e1, e2], e3, t⟩
    · obtain ⟨q', v', a1, a2, a3⟩ := ih nd.2 e he
      refine ⟨q', v', ?_, a2, a3⟩
      rw [valV_neg (fun z => nd.1 ?_), a1]
      have z : x.1 = e.1 := Int.ofNat_inj.mp (e1.symm.trans z)
      exact List.mem_map.mpr ⟨e, he, z.symm⟩
theorem rows_in {H : Hp} {kvs : List (Int × V)} {es : List LRow} (pr : Paired (RowV H) kvs es) (r : Nat) : (valV kvs (r : Int)).isSome = decide (r ∈ rms es) := by
  induction pr with
  | nil => simp [valV]
  | @cons kv x kvs es e _ ih =>
    by_cases h : kv.1 = (r : Int)
    · rw [valV_pos h]
      have z : x.1 = r := Int.ofNat_inj.mp (e.1.symm.trans h)
      simp [rms, z]
    · rw [valV_neg h, ih]
      have z : ¬ r = x.1 := fun z => h (by rw [e.1, z])
      simp [rms, z]
theorem rows_keys {H : Hp} {kvs : List (Int × V)} {es : List LRow} (pr : Paired (RowV H) kvs es) {i : Nat} {kv : Int × V} (h : kvs[i]? = some kv) : ∃ e, es[i]? = some e ∧ RowV H kv e := by
  induction pr generalizing i with
  | nil => simp at h
  | @cons a b as bs r _ ih =>
    cases i with
    | zero => simp at h; subst h; exact ⟨b, rfl, r⟩
    | succ i => exact ih (by simpa using h)
abbrev stepOf (m : Tm) (l : Nat) (a b : LRow) : List Int := [((1 + a.2.1 + b.2.1 : Nat) : Int), ((m.go l a.1 b.1 : Nat) : Int), (l : Int), (a.1 : Int), (b.1 : Int)]
structure BeyI (m : Tm) (es : List LRow) (i j k : Nat) (ls : List (List Int)) : Prop where
  ok : ∀ x ∈ ls, ∃ l a b, Beyond m es l a b ∧ x = stepOf m l a b
  all : ∀ (i' j' l : Nat) (a b : LRow), es[i']? = some a → es[j']? = some b → l < 2 ^ m.w → m.go l a.1 b.1 ∉ rms es → (i' < i ∨ i' = i ∧ (j' < j ∨ j' = j ∧ l < k)) → stepOf m l a b ∈ ls
  len : ls.length ≤ 36 * i + 4 * j + k
section
variable {m : Tm} {es : List LRow} {i j k : Nat} {ls : List (List Int)}
theorem BeyI.start : BeyI m es 0 0 0 [] := ⟨(fun _ h => nomatch h), fun i' j' l a b _ _ _ _ h => by omega, Nat.le_refl _⟩
theorem BeyI.skip (h : BeyI m es i j k ls) {a b : LRow} (ha : es[i]? = some a) (hb : es[j]? = some b) (hn : m.go k a.1 b.1 ∈ rms es) : BeyI m es i j (k + 1) ls := by
  refine ⟨h.ok, fun i' j' l a' b' e1 e2 hl hr hd => ?_, by have := h.len; omega⟩
  by_cases z : i' = i ∧ j' = j ∧ l = k
  · obtain ⟨rfl, rfl, rfl⟩ := z
    rw [ha] at e1
    rw [hb] at e2
    cases e1
    cases e2
    exact absurd hn hr
  · exact h.all i' j' l a' b' e1 e2 hl hr (by omega)
theorem BeyI.put (h : BeyI m es i j k ls) {a b : LRow} (ha : es[i]? = some a) (hb : es[j]? = some b) (hk : k < 2 ^ m.w) (hn : m.go k a.1 b.1 ∉ rms es) : BeyI m es i j (k + 1) (ls ++ [stepOf m k a b]) := by
  refine ⟨fun x hx => ?_, fun i' j' l a' b' e1 e2 hl hr hd => ?_, by have := h.len; rw [List.length_append, List.length_singleton]; omega⟩
  · rcases List.mem_append.mp hx with hx | hx
    · exact h.ok x hx
    · exact ⟨k, a, b, ⟨hk, List.mem_of_getElem? ha, List.mem_of_getElem? hb, hn⟩, List.mem_singleton.mp hx⟩
  · by_cases z : i' = i ∧ j' = j ∧ l = k
    · obtain ⟨rfl, rfl, rfl⟩ := z
      rw [ha] at e1
      rw [hb] at e2
      cases e1
      cases e2
      exact List.mem_append_right _ (List.mem_singleton.mpr rfl)
    · exact List.mem_append_left _ (h.all i' j' l a' b' e1 e2 hl hr (by omega))
theorem BeyI.row (h : BeyI m es i j (2 ^ m.w) ls) (h4 : 2 ^ m.w ≤ 4) : BeyI m es i (j + 1) 0 ls :=
  ⟨h.ok, fun i' j' l a' b' e1 e2 hl hr hd => h.all i' j' l a' b' e1 e2 hl hr (by omega), by have := h.len; omega⟩
theorem BeyI.out (h : BeyI m es i es.length 0 ls) (h9 : es.length ≤ 9) : BeyI m es (i + 1) 0 0 ls :=
  ⟨h.ok, fun i' j' l a' b' e1 e2 hl hr hd => h.all i' j' l a' b' e1 e2 hl hr (by have := (List.getElem?_eq_some_iff.mp e2).1; omega), by have := h.len; omega⟩
theorem BeyI.whole (h : BeyI m es es.length 0 0 ls) {l : Nat} {a b : LRow} (hb : Beyond m es l a b) : stepOf m l a b ∈ ls := by
  obtain ⟨hl, ha, hb, hn⟩ := hb
  obtain ⟨i', ea⟩ := List.getElem?_of_mem ha
  obtain ⟨j', eb⟩ := List.getElem?_of_mem hb
  exact h.all i' j' l a b ea eb hl hn (.inl (List.getElem?_eq_some_iff.mp ea).1)
end
theorem TupS.wrJ {P : Program} {w : World} {H : Hp} {p : Addr} {ep : Nat} {kvs : List (Int × V)} (h : H p = some (dJ P w p ep kvs)) (o : HO) : TupS H (upd H p o) := fun b ys e => by
  rw [upd_ne (ne_of e h (by intro z; unfold dJ at z; cases z))]; exact e
theorem lex_hd {a a' : Int} {x x' : List Int} (h : L2.lexLt (a' :: x') (a :: x) = false) : a ≤ a' := by
  rw [L2.lexLt] at h
  split at h
  · omega
  · have := of_decide_eq_false h
    omega
theorem rows_put {H : Hp} {kvs : List (Int × V)} {es : List LRow} (pr : Paired (RowV H) kvs es) {r : Nat} (hr : r ∉ rms es) (v : V) : putK kvs (r : Int) v = kvs ++ [((r : Int), v)] := putK_new v (by
  have := rows_in pr r
  rw [decide_eq_false hr] at this
  exact Option.not_isSome_iff_eq_none.mp (by rw [this]; decide))
def sp_beyond (P : Program) (w : World) : Sp := fun vs H Q _ => ∃ (a p : Addr) (m : Tm) (ep : Nat) (kvs : List (Int × V)) (es : List LRow), vs = [.ref a, .ref p] ∧ RepT H a m ∧ m.Ok ∧ m.w ≤ 2 ∧ H p = some (dJ P w p ep kvs) ∧ Paired (RowV H) kvs es ∧ (rms es).Nodup ∧ es.length ≤ 9 ∧ (∀ e ∈ es, e.1 < m.n) ∧
  ∀ L rs ls H', Same H H' → H' L = some (.lst rs) → Paired (ILine H') rs ls → (∀ x ∈ ls, ∃ l a b, Beyond m es l a b ∧ x = stepOf m l a b) → (∀ l a b, Beyond m es l a b → stepOf m l a b ∈ ls) → Q (.ref L) H'
structure AllL (m : Tm) (es : List LRow) : Prop where
  least : ∃ top, LeastI m es top
  whole : ∀ t r, Leads m t r → r ∈ rms es
def sp_least (P : Program) (w : World) : Sp := fun vs H Q _ => ∃ (a : Addr) (m : Tm), vs = [.ref a] ∧ RepT H a m ∧ m.Ok ∧ m.w ≤ 2 ∧ m.n ≤ 9 ∧
  ∀ p ep kvs es H', Same H H' → H' p = some (dJ P w p ep kvs) → Paired (RowV H') kvs es → AllL m es → Q (.ref p) H'
theorem pe_dgetJK {X : Cx} (P : Program) (w : World) {o i : Expr} {pos : Pos} {td ty : TE} (ho : PE X o td) (hi : PE X i ty) (hs : NoSl i) (hp : X.prog = P := by rfl) (hw : X.w = w := by rfl) : PE X (.Subscript o i pos) (tDGetJ P w td ty) := by
  subst hp hw
  exact pe_dgetJ ho hi hs
structure Smallest (m : Tm) (t : Tr) : Prop where
  lets : t.Let (2 ^ m.w)
  fin : m.fin (t.up 0 m.go) = true
  min : ∀ u : Tr, u.Let (2 ^ m.w) → m.fin (u.up 0 m.go) = true → t.size ≤ u.size
  deep : t.depth < 10
theorem AllL.some {m : Tm} {es : List LRow} (h : AllL m es) {u : Tr} (hu : u.Let (2 ^ m.w)) (hf : m.fin (u.up 0 m.go) = true) : ∃ e ∈ es.filter (fun e => m.fin e.1), e.2.1 ≤ u.size := by
  obtain ⟨e, he, ee⟩ := List.mem_map.mp (h.whole u _ ⟨hu, rfl⟩)
  obtain ⟨top, lI⟩ := h.least
  exact ⟨e, List.mem_filter.mpr ⟨he, by show m.fin e.1 = true; rw [show e.1 = u.up 0 m.go from ee]; exact hf⟩, lI.min e he u ⟨hu, ee.symm⟩⟩
theorem AllL.none {m : Tm} {es : List LRow} (h : AllL m es) (hf : es.filter (fun e => m.fin e.1) = []) (u : Tr) (hu : u.Let (2 ^ m.w)) : m.fin (u.up 0 m.go) = false := by
  cases e : m.fin (u.up 0 m.go) with
  | false => rfl
  | true =>
    obtain ⟨x, hx, _⟩ := h.some hu e
    rw [hf] at hx
    cases hx
theorem AllL.first {m : Tm} {es r : List LRow} {e : LRow} (h : AllL m es) (ok : m.Ok) (h9 : m.n ≤ 9) (hf : es.filter (fun e => m.fin e.1) = e :: r) : Smallest m e.2.2 ∧ e.2.2.size = e.2.1 := by
  obtain ⟨top, lI⟩ := h.least
  have me : e ∈ es.filter (fun e => m.fin e.1) := by rw [hf]; exact List.mem_cons_self
  obtain ⟨he, fe⟩ := List.mem_filter.mp me
  obtain ⟨⟨l1, l2⟩, l3, l4⟩ := lI.ok e he
  have len := lI.len ok
  refine ⟨⟨l1, by rw [l2]; exact fe, fun u hu hfu => ?_, by omega⟩, l3⟩
  obtain ⟨x, hx, sx⟩ := h.some hu hfu
  have asc := List.Pairwise.filter (fun e : LRow => m.fin e.1) lI.asc
  rw [hf] at asc hx
  rw [l3]
  rcases List.mem_cons.mp hx with rfl | hx
  · exact sx
  · exact Nat.le_trans ((List.pairwise_cons.mp asc).1 x hx) sx
theorem cb_dict {P : Program} {w : World} {a : Addr} {ep : Nat} {kvs : List (Int × V)} {tn : List Str} {cp : List (Nat × Str)} {g : TG} {tif : TT} {te : TE} {σ0 : L2.St} {Q : VK} {H1 : Hp} (Pv : Addr → Nat → List V → L2.St → Hp → Prop) (hn : kvs.length ≤ sizeLine) (h0 : ∀ D, H1 D = none → Pv D 0 [] (stB tn cp σ0) (upd H1 D (.lst [])))
    (hl : ∀ D i ys σ H, H1 D = none → i ≤ kvs.length → H D = some (.lst ys) → Pv D i ys σ H → H a = some (dJ P w a ep kvs))
    (hs : ∀ D i ys σ H k v, H1 D = none → i < kvs.length → kvs[i]? = some (k, v) → H D = some (.lst ys) → ys.length ≤ i → Pv D i ys σ H → g (.int k) σ H fun σ2 H2 => tif σ2 H2 fun c H3 =>
      if c = true then te σ2 H3 fun y H4 => CStep D kvs.length i (Pv D) σ2 y H4 else CSkip D kvs.length i (Pv D) σ2 H3)
    (hd : ∀ D ys σ H, H1 D = none → H D = some (.lst ys) → ys.length ≤ kvs.length → Pv D kvs.length ys σ H → Q (.ref D) H) : cBody tn cp g tif te σ0 Q (Itd P w a ep kvs) H1 :=
  cb_by kvs.length Pv hn h0 (fun D i ys σ H hD hi hH p => ⟨hl D i ys σ H hD (Nat.le_of_lt hi) hH p, hi⟩) (fun D ys σ H hD hH p => ⟨hl D _ ys σ H hD (Nat.le_refl _) hH p, Nat.le_refl _⟩) (fun D i ys σ H x H' hD hi hH hl' p y => by
    obtain ⟨rfl, k, v, e, rfl⟩ := y
    exact hs D i ys σ H' k v hD hi e hH hl' p) hd
def PairW (H : Hp) (y : V) (e : LRow) : Prop := ∃ q v, y = .ref q ∧ H q = some (.tup [nV e.2.1, v]) ∧ TreeV H v e.2.2
theorem PairW.ts {H H' : Hp} {y : V} {e : LRow} (h : PairW H y e) (g : TupS H H') : PairW H' y e := let ⟨q, v, e2, e3, t⟩ := h; ⟨q, v, e2, g _ _ e3, t.ts g⟩
def sp_smallest (C : Addr) : Sp := fun vs H Q E => ∃ (a : Addr) (m : Tm), vs = [.ref a] ∧ RepT H a m ∧ m.Ok ∧ m.w ≤ 2 ∧ m.n ≤ 9 ∧
  ((∀ u : Tr, u.Let (2 ^ m.w) → m.fin (u.up 0 m.go) = false) → ∀ H', Same H H' → Q .non H') ∧
  (∀ t, Smallest m t → 100 < t.size → ∀ e H', Same H H' → H' e = none → E (.ref C) (some e) H') ∧
  (∀ t, Smallest m t → t.size = 0 → ∀ p H', Same H H' → H' p = some (.tup [.str "none"]) → Q (.ref p) H') ∧
  (∀ t, Smallest m t → 0 < t.size → t.size ≤ 100 → ∀ p v H', Same H H' → H' p = some (.tup [.str "tree", v]) → TreeV H' v t → Q (.ref p) H')
def sp_istree (d : Nat) : Sp := fun vs H Q _ => ∃ (v : V) (t : Tr) (L : Nat), vs = [v, nV L] ∧ TreeV H v t ∧ t.Let L ∧ t.depth < d ∧ Q (.bl true) H
def ToldS (m : Tm) (H : Hp) (word : Str) (v : V) : Prop :=
  (word = "told" ∧ v = .non ∧ ∀ u : Tr, u.Let (2 ^ m.w) → m.fin (u.up 0 m.go) = false) ∨ (word = "great" ∧ v = .non ∧ ∃ t, Smallest m t ∧ 100 < t.size) ∨
  (word = "told" ∧ ∃ p t, v = .ref p ∧ H p = some (.tup [.str "none"]) ∧ Smallest m t ∧ t.size = 0) ∨
  (word = "told" ∧ ∃ p u t, v = .ref p ∧ H p = some (.tup [.str "tree", u]) ∧ TreeV H u t ∧ Smallest m t ∧ 0 < t.size ∧ t.size ≤ 100)
def sp_told49 : Sp := fun vs H Q _ => ∃ (a : Addr) (m : Tm), vs = [.ref a] ∧ RepT H a m ∧ m.Ok ∧ m.w ≤ 2 ∧ m.n ≤ 9 ∧ ∀ p word v H', Same H H' → H' p = some (.tup [.str word, v]) → ToldS m H' word v → Q (.ref p) H'
structure SizeC (m : Tm) (kv : List (Nat × Nat)) : Prop where
  ok : SizeI m kv
  clo : ∀ l x y, l < 2 ^ m.w → x ∈ kv → y ∈ kv → ∃ z ∈ kv, z.1 = m.go l x.1 y.1 ∧ z.2 ≤ x.2 + y.2 + 1
abbrev kvJ (kv : List (Nat × Nat)) : List (Int × V) := kv.map fun e => ((e.1 : Int), nV e.2)
def sp_sizes49 (P : Program) (w : World) : Sp := fun vs H Q _ => ∃ (a : Addr) (m : Tm), vs = [.ref a] ∧ RepT H a m ∧ m.Ok ∧ m.w ≤ 2 ∧ m.n ≤ 9 ∧ ∀ p ep kv H', Same H H' → H' p = some (dJ P w p ep (kvJ kv)) → SizeC m kv → Q (.ref p) H'
def sp_right49 : Sp := fun vs H Q _ => ∃ (a : Addr) (m : Tm), vs = [.ref a] ∧ RepT H a m ∧ m.Ok ∧ m.w ≤ 2 ∧ m.n ≤ 9 ∧ ∀ H', Same H H' → Q (.bl true) H'
def sp_steps49 : Sp := fun vs H Q _ => ∃ (n wd : Nat) (x : Int), vs = [nV n, nV wd, .int x] ∧ wd ≤ 2 ∧ 1 ≤ n ∧ n ≤ 9 ∧ 0 ≤ x ∧ ∀ p m H', Same H H' → RepT H' p m → m.Ok → m.w = wd → m.ends.length = n → Q (.ref p) H'
theorem kvJ_val (r : Nat) : ∀ kv : List (Nat × Nat), valV (kvJ kv) (r : Int) = (look kv r).map nV
  | [] => rfl
  | e :: kv => by
    rw [kvJ, List.map_cons, look]
    by_cases h : e.1 = r
    · rw [valV_pos (by show (e.1 : Int) = r; rw [h]), if_pos h]
      rfl
    · rw [valV_neg (by show ¬ (e.1 : Int) = r; omega), if_neg h]
      exact kvJ_val r kv
theorem kvJ_put (kv : List (Nat × Nat)) (r v : Nat) : putK (kvJ kv) (r : Int) (nV v) = kvJ (putS kv r v) := by
  unfold putS
  by_cases hr : r ∈ kv.map (·.1)
  · rw [if_pos hr]
    have : ((kvJ kv).any fun e => decide (e.1 = (r : Int))) = true := by
      rw [valV_any, kvJ_val]
      cases e : look kv r with
      | none => exact absurd hr (look_none.mp e)
      | some u => rfl
    unfold putK
    rw [if_pos this, kvJ, kvJ, List.map_map, List.map_map]
    refine List.map_congr_left fun e _ => ?_
    by_cases h : e.1 = r
    · simp [h]
    · have h' : ¬ (e.1 : Int) = r := by omega
      simp [h, h']
  · rw [if_neg hr, putK_new _ (by rw [kvJ_val, look_none.mpr hr]; rfl), kvJ, kvJ, List.map_append]
    rfl
end SM
set_option Elab.async false
set_option linter.all false
set_option maxRecDepth 100000
namespace L2
open PySem PySem.Spec PyProof.Rows
def without (h : Heap) : List Addr → Heap
  | [] => h
  | b :: L => without (h.update b fun _ => { cls := .none, data := .freed }) L
theorem freed_none (h : Heap) (a : Addr) : (h.update a fun _ => { cls := .none, data := .freed }).get? a = none := by
  obtain ⟨objs, l⟩ := h
  show (match (objs.modify a fun _ => ({ cls := .none, data := .freed } : Obj))[a]? with
    | some ⟨_, _, .freed, _⟩ => none
    | o => o) = none
  by_cases h : a < objs.size
  · rw [Array.getElem?_eq_getElem (by simpa using h), Array.getElem_modify]
    simp
  · rw [Array.getElem?_eq_none (by simpa using h)]
theorem without_get (b : Addr) : ∀ (L : List Addr) (h : Heap), (without h L).get? b = if b ∈ L then none else h.get? b
  | [], h => by simp [without]
  | c :: L, h => by
    rw [without, without_get b L]
    by_cases hb : b ∈ L
    · rw [if_pos hb, if_pos (List.mem_cons_of_mem _ hb)]
    · rw [if_neg hb]
      by_cases hc : b = c
      · subst hc; rw [if_pos List.mem_cons_self, freed_none]
      · rw [if_neg (by simp [hc, hb]), Heap.get?_update_other _ _ (Ne.symm hc)]
theorem without_in {b : Addr} {L : List Addr} {h : Heap} (hb : b ∈ L) : (without h L).get? b = none := by rw [without_get, if_pos hb]
theorem without_out {b : Addr} {L : List Addr} {h : Heap} (hb : b ∉ L) : (without h L).get? b = h.get? b := by rw [without_get, if_neg hb]
theorem without_stays (h : Heap) (L : List Addr) : (without h L).StaysIn h := fun b o e => by
  by_cases hb : b ∈ L
  · rw [without_in hb] at e; cases e
  · rw [without_out hb] at e; exact e
theorem funs_rebase {h base base' : Heap} : ∀ {l : List Env}, h.FunFrames base l → (∀ b ∈ frs l, base'.get? b = none) → h.FunFrames base' l
  | [], _, _ => trivial
  | env :: rest, ⟨hk, ⟨L, o, hf, hn, ho, hd⟩, hr⟩, k => by
    have e : frs (env :: rest) = L :: frs rest := by show List.filterMap _ (env :: rest) = _; rw [List.filterMap_cons, hf]; rfl
    rw [e] at k
    exact ⟨hk, ⟨L, o, hf, k L List.mem_cons_self, ho, hd⟩, funs_rebase hr fun b hb => k b (List.mem_cons_of_mem _ hb)⟩
def Flown (h0 : Heap) (H : Hp) (h : Heap) (a : Addr) (cls : Value) : Prop :=
  ∃ (oe : Obj) (vs : Array Value) (T : Addr) (oT : Obj) (ts : Array Value), h.get? a = some oe ∧ oe.cls = cls ∧ oe.data = .fields vs ∧ vs[1]? = some (.ref T) ∧ T ≠ a ∧ h.get? T = some oT ∧ oT.data = .fields ts ∧ ts[3]? = some .none ∧
    h0.get? a = none ∧ h0.get? T = none ∧ H a = none ∧ H T = none
def CXE (P : Program) (w : World) : CXT := fun outer H s E e s' => ∃ (a : Addr) (cls : Value) (H' : Hp), e = .ref a ∧ s'.os = s.os ∧ AllBare s'.gens ∧ Un (frs outer) [] H H' s.heap s'.heap ∧ HOk P w H' s'.heap ∧ Flown s.heap H' s'.heap a cls ∧ E cls (some a) H'
theorem objok_there {P : Program} {w : World} {H : Hp} {h : Heap} {a : Addr} {o : HO} (x : ObjOk P w H h a o) : ∃ ob, h.get? a = some ob := by
  induction o with
  | lst xs => obtain ⟨_, _, _, _, e⟩ := x; exact ⟨_, e⟩
  | tup xs => obtain ⟨_, _, _, ob, e, _⟩ := x; exact ⟨_, e⟩
  | dK kvs => obtain ⟨_, _, _, _, ob, _, _, e, _⟩ := x; exact ⟨_, e⟩
  | dT kvs => obtain ⟨_, _, _, _, ob, _, _, e, _⟩ := x; exact ⟨_, e⟩
  | set S n => obtain ⟨ob, _, _, _, e, _⟩ := x; exact ⟨_, e⟩
  | ins C dx fs => obtain ⟨_, _, _, e, _⟩ := x; exact ⟨_, e⟩
  | own _ => exact x
  | xd fs => obtain ⟨_, ⟨ob, es, ep, e, _⟩, _⟩ := x; exact ⟨_, e⟩
  | rng lo hi => obtain ⟨_, _, _, e⟩ := x; exact ⟨_, e⟩
  | frz ob u => exact ⟨_, x.1⟩
  | tbl qs ps => obtain ⟨_, e, _⟩ := x; exact ⟨_, e⟩
  | met f y => exact ⟨_, x⟩
  | ext φ => exact x.2.1
section
variable {X : Cx} {pins : List (Addr × Obj)} {σ : St} {H : Hp} {s : Shared} {Ex : Value → Shared → Prop}
theorem left_cxe {a : Addr} {cls : Value} {E : XK} {h'' : Heap} {L : List Addr} (I : Inv X pins σ H s) (hx : X.ex = []) (hL : ∀ b ∈ L, X.s₀.heap.get? b = none ∧ H b = none)
    (l1 : (without s.heap (frs X.stack ++ L)).StaysIn h'') (l2 : h''.FunFrames (without s.heap (frs X.stack ++ L)) X.stack) (l3 : h''.Traced (without s.heap (frs X.stack ++ L)) a cls)
    (l4 : ∀ b o, s.heap.get? b = some o → (∀ vs, o.data ≠ .fields vs) → ∃ sl, h''.get? b = some { o with slots := sl }) (ha : a ∈ L) (q : E cls (some a) H) :
    CXE X.prog X.w X.outer X.H₀ X.s₀ E (.ref a) { s with heap := h'' } := by
  obtain ⟨oe, vs', T, oT, ts, t1, t2, t3, t4, t5, t6, t7, t8, t9⟩ := l3
  have hTf : T ∉ frs X.stack := fun z => by
    obtain ⟨_, o, e1, e2⟩ := l2.mem z
    rw [t7] at e1; cases e1
    exact e2 _ t8
  have nx : ∀ b, b ∉ X.ex := fun b z => by rw [hx] at z; cases z
  have st : ∀ b o, b ∉ frs X.stack → b ∉ L → s.heap.get? b = some o → h''.get? b = some o := fun b o h1 h2 e => l1 b o (by rw [without_out (fun z => (List.mem_append.mp z).elim h1 h2)]; exact e)
  have out : ∀ b o, X.s₀.heap.get? b = some o → b ∉ frs X.outer → b ∉ frs X.stack := fun b o e h z => by
    rcases List.mem_cons.mp (I.stkSub b z) with w | w
    · exact Nat.ne_of_lt (Nat.lt_of_lt_of_le (Heap.lt_size e) I.ok.above) w
    · exact h w
  have nL : ∀ b o, X.s₀.heap.get? b = some o → b ∉ L := fun b o e z => by rw [(hL b z).1] at e; cases e
  have T0 : X.s₀.heap.get? T = none := by
    cases e : X.s₀.heap.get? T with
    | none => rfl
    | some o =>
      obtain ⟨o', e'⟩ := I.base.there T o e (nx T)
      rw [without_out (fun z => (List.mem_append.mp z).elim hTf (nL T o e))] at t5
      rw [t5] at e'; cases e'
  have HT : H T = none := by
    cases e : H T with
    | none => rfl
    | some o =>
      obtain ⟨o', e'⟩ := objok_there (I.hok T o e)
      by_cases hTL : T ∈ L
      · rw [(hL T hTL).2] at e; cases e
      · rw [without_out (fun z => (List.mem_append.mp z).elim hTf hTL)] at t5
        rw [t5] at e'; cases e'
  refine ⟨a, cls, H, rfl, I.os, I.bare, ⟨fun b o e n hb _ => ?_, fun b o e n hb _ => ?_, fun b o e n _ => I.base.free b o e n (nx b), fun b o e _ => ?_, I.base.tups, I.base.frzs, I.base.tbls⟩, fun b o e => ?_, ⟨oe, vs', T, oT, ts, t1, t2, t3, t4, t6, t7, t8, t9, (hL a ha).1, T0, (hL a ha).2, HT⟩, q⟩
  · exact st b o (out b o e hb) (nL b o e) (I.base.keep b o e n hb (nx b))
  · obtain ⟨sl, e1⟩ := I.base.slot b o e n hb (nx b)
    obtain ⟨_, o', e2, nf⟩ := I.ok.funs.mem hb
    rw [e] at e2; cases e2
    obtain ⟨sl', e3⟩ := l4 b _ e1 nf
    exact ⟨sl', e3⟩
  · obtain ⟨o', e1⟩ := I.base.there b o e (nx b)
    by_cases hb : b ∈ frs X.stack
    · obtain ⟨_, o2, e2, _⟩ := l2.mem hb
      exact ⟨o2, e2⟩
    · exact ⟨o', st b o' hb (nL b o e) e1⟩
  · refine (I.hok b o e).stay (fun c u hc ec => st c u (fun z => ?_) (fun z => ?_) ec) (fun _ z => z) (fun _ _ _ _ _ z => z) fun _ _ z => z
    · have := I.stkFree c z
      rcases hc with rfl | hc
      · rw [this] at e; cases e
      · rw [this] at hc; cases hc
    · have := (hL c z).2
      rcases hc with rfl | hc
      · rw [this] at e; cases e
      · rw [this] at hc; cases hc
theorem leave_first {h' : Heap} {a : Addr} {cls : Value} {vs : List Value} {E : XK} (I : Inv X pins σ H s) (hx : X.ex = []) (hs : X.stack = X.env :: X.outer) (hf : X.env.frame = some X.env.locals) (M : Heap.MadeExcOf s.heap h' a cls vs) (q : E cls (some a) H) :
    wpAny (model X.prog X.w) X.A (leaving X.env (.ref a)) (fun _ s'' => CXE X.prog X.w X.outer X.H₀ X.s₀ E (.ref a) s'') Ex { s with heap := h' } := by
  obtain ⟨t, he, _, _⟩ := M.there
  have I' : Inv X pins σ H { s with heap := h', toks := s.toks } := I.kept M.keeps
  have Ha : H a = none := by
    cases e : H a with
    | none => rfl
    | some o =>
      obtain ⟨o', e'⟩ := objok_there (I.hok a o e)
      rw [M.new] at e'; cases e'
  have s0 : X.s₀.heap.get? a = none := by
    cases e : X.s₀.heap.get? a with
    | none => rfl
    | some o =>
      obtain ⟨o', e'⟩ := I.base.there a o e (fun z => by rw [hx] at z; cases z)
      rw [M.new] at e'; cases e'
  refine wpAny_leaving_first (base := without h' (frs X.stack ++ [a])) (outer := X.outer) (L := X.env.locals) (by rw [← hs]; exact I.ok.frames) (by rw [← hs]; exact funs_rebase I'.stack fun b hb => without_in (List.mem_append_left _ hb)) hf he (without_stays _ _)
    (without_in (List.mem_append_right _ (List.mem_singleton.mpr rfl))) rfl rfl fun h'' ⟨l1, l2, l3, l4⟩ => ?_
  rw [← hs] at l2
  exact left_cxe (L := [a]) I' hx (fun b hb => by rw [List.mem_singleton.mp hb]; exact ⟨s0, Ha⟩) l1 l2 l3 l4 (List.mem_singleton.mpr rfl) q
theorem made_free {h' : Heap} {a : Addr} {cls : Value} {vs : List Value} (I : Inv X pins σ H s) (M : Heap.MadeExcOf s.heap h' a cls vs) : H a = none := by
  cases e : H a with
  | none => rfl
  | some o =>
    obtain ⟨o', e'⟩ := objok_there (I.hok a o e)
    rw [M.new] at e'; cases e'
end
structure Rs (X : Cx) (E : XK) : Prop where
  ex : X.ex = []
  st : X.stack = X.env :: X.outer
  fr : X.env.frame = some X.env.locals
  xe : ∀ e s', wpAny (model X.prog X.w) X.A (leaving X.env e) (fun _ s'' => CXE X.prog X.w X.outer X.H₀ X.s₀ E e s'') (fun e' s'' => CXE X.prog X.w X.outer X.H₀ X.s₀ E e' s'') s' → X.xe e s'
def tRaise (E : XK) (cls : Value) (t : TA) : TS := fun D σ H => t σ H fun vs H1 => vs.length ≤ sizeLine ∧ ∀ a, H1 a = none → E cls (some a) H1
theorem ps_raise {X : Cx} {E : XK} {x : Str} {C : Addr} {B newId initId : String} {bm : List Value} {np cpos pos : Pos} {e₀ : Expr} {rest : List Expr} {t : TA} (R : Rs X E) (hc : X.calm = true) (hg : Gl X x) (O : OwnCls x C bm newId X.mg X.base) (FB : ExcBaseFacts B newId initId bm) (ha : PA X (e₀ :: rest) t)
    (he : starEach (e₀ :: rest) X.env = (false, eval e₀ X.env) :: starEach rest X.env := by rfl) (hp : (backTo cpos (starEach rest X.env)).any (·.1) = false := by rfl) (hd : (x == ("__debug__" : Str)) = false := by decide) :
    PS X (.Raise (some (.Call (.Name x np) (e₀ :: rest) [] cpos)) none pos) (tRaise E (.ref C) t) := by
  intro pins s σ H D I h
  obtain ⟨tl, N, nm, q, bs, hdct, sn, sub, ab, col, dd, k0, k1, k2, k3, k5, mN, hC, hN, hni, T⟩ := O.obj
  refine wpAny_Raise_call_subT (C := C) (nm := nm) (q := q) (N := N) (bs := bs) (bm := tl) (hdct := hdct) (sn := sn) (sub := sub) (ab := ab) (col := col) (dd := dd) (k0 := k0) (k1 := k1) (k2 := k2) (k3 := k3) (k5 := k5)
    FB (mN := mN) (T.hasType FB.hasBase) (I.ok.hd hc) (by rw [he]; show (false || (backTo cpos (starEach rest X.env)).any (·.1)) = false; rw [hp]; rfl) hni ?_
  refine thn (pe_glob (v := .ref C) (pos := np) hg O.bound rfl hd pins s σ H (fun v H' => v = .ref C ∧ H' = H) I ⟨rfl, rfl⟩) fun u s1 ⟨v, H1, I1, r1, e1, e2⟩ => ?_
  subst e1 e2
  refine ⟨r1, ?_⟩
  have hh := ha cpos pins s1 σ H1 _ I1 h
  rw [he] at hh ⊢
  refine Calls.evalArgs_plain (thn hh fun us s2 ⟨vs, H2, I2, r2, z, q⟩ => ⟨rfl, by rw [← r2.length]; exact z, I2.bk _ _ hC, hN.keeps I2.bk, T.keeps I2.bk, fun h' a M => R.xe _ _ (leave_first I2 R.ex R.st R.fr M (q a (made_free I2 M)))⟩)
theorem Fun.okE {P : Program} {w : World} {K : PySem.W.Frag} {mg : Str → Option Value} {base : Heap} {x qual : Str} {st : Stmt} {f : Addr} {fd : FuncData} {N ps : List Str} {k : Nat} {sp : Sp} (F : Fun K x qual st f fd) (S : FnScope N ps (defScope st)) (len : ∀ vs H Q E, sp vs H Q E → vs.length = ps.length)
    (hbody : ∀ (cdv : Value) (A : Around) (outer : List Env) (s : Shared) (H : Hp) (vs : List V) (Q : VK) (E : XK), Room k (A.deeper (envOfC qual (defScope st) s.heap.objs.size f cdv)) → sp vs H Q E → Rs (cxOf (CXE P w) P w K mg base N qual (defScope st) f cdv A outer s H E) E →
      ∃ t, PSs (cxOf (CXE P w) P w K mg base N qual (defScope st) f cdv A outer s H E) (defBody st) t ∧ t { nx := fun _ H' => Q .non H', rt := Q } (start N vs) H) : FnOk P w K mg base (CXE P w) (k + 1) f fd ps sp := by
  obtain ⟨oc, od, kV, doc, pm, an, cdv, ct, osl, rfl, lk, hcd⟩ := F.ex
  exact fn_of lk hcd S len fun A outer s H vs Q E hr hsp => hbody cdv A outer s H vs Q E hr hsp ⟨rfl, rfl, rfl, fun _ _ h => h⟩
end L2
set_option Elab.async false
set_option linter.all false
set_option maxRecDepth 100000
namespace L2
open PySem PySem.Spec PyProof.Rows PySem.Calls
section
variable {X : Cx} {pins : List (Addr × Obj)} {σ : St} {H : Hp} {s : Shared}
def Cx.held (X : Cx) (a : Addr) : Cx := { X with A := X.A.mark (some (.ref a)), calm := false, xe := fun _ _ => False }
theorem Cx.Ok.held {a : Addr} (ok : X.Ok) : (X.held a).Ok := ⟨ok.mod, ok.kind, ok.glob, ok.blt, ok.above, ok.inj, ok.has, ok.cab, (fun h => nomatch h), ok.frames, ok.stk, ok.exf, ok.bs, ok.bsz, ok.noex, ok.exfs, ok.funs, ok.frf⟩
theorem Inv.held {a : Addr} (I : Inv X pins σ H s) : Inv (X.held a) pins σ H s := ⟨I.ok.held, I.os, I.bare, I.base, I.loc, I.cell, I.free, I.freeC, I.pin, I.hok, I.len⟩
theorem Inv.unheld {a : Addr} (ok : X.Ok) (I : Inv (X.held a) pins σ H s) : Inv X pins σ H s := ⟨ok, I.os, I.bare, I.base, I.loc, I.cell, I.free, I.freeC, I.pin, I.hok, I.len⟩
theorem Inv.adopt {a : Addr} {o : HO} {vs : Array Value} {oe : Obj} (I : Inv X pins σ H s) (ha : H a = none) (h0 : X.s₀.heap.get? a = none) (he : s.heap.get? a = some oe) (hd : oe.data = .fields vs) (hp : ∀ p ∈ X.pn ++ pins, p.1 ≠ a) (new : ObjOk X.prog X.w (upd H a o) s.heap a o) :
    Inv X pins σ (upd H a o) s := by
  have nL : X.env.locals ≠ a := fun z => by
    obtain ⟨m, ⟨ob, es, ep, e, dd, _⟩, _⟩ := I.loc
    rw [z, he] at e; cases e
    rw [hd] at dd; cases dd
  have nC : ∀ x c, X.env.cells.lookup x = some c → c ≠ a := fun x c e z => by
    obtain ⟨v, ob, e1, dd⟩ := I.cell x c e
    rw [z, he] at e1; cases e1
    rw [hd] at dd; cases dd
  have up : ∀ b u, H b = some u → upd H a o b = some u := fun b u e => by rw [upd_ne (fun z => by rw [z, ha] at e; cases e)]; exact e
  refine ⟨I.ok, I.os, I.bare, ⟨I.base.keep, I.base.slot, fun b ob e k hx => ?_, I.base.there, fun b xs e => up _ _ (I.base.tups b xs e), fun b ob u e => up _ _ (I.base.frzs b ob u e), fun b qs ps e => up _ _ (I.base.tbls b qs ps e)⟩, I.loc, I.cell, by rw [upd_ne nL]; exact I.free, fun x c e => by rw [upd_ne (nC x c e)]; exact I.freeC x c e, fun p hpp => ?_, fun b u e => ?_, I.len⟩
  · rw [upd_ne (fun z => by rw [z, h0] at e; cases e)]
    exact I.base.free b ob e k hx
  · obtain ⟨e, k, r⟩ := I.pin p hpp
    exact ⟨e, by rw [upd_ne (hp p hpp)]; exact k, r⟩
  · by_cases hb : b = a
    · subst hb; rw [upd_same] at e; cases e; exact new
    · rw [upd_ne hb] at e
      exact (I.hok b u e).stay (fun _ _ _ q => q) (fun c q => up c _ q) (fun c _ _ _ _ q => up c _ q) fun c xs q => up c _ q
theorem Inv.touch {h' : Heap} {L : List Addr} {t' : Nat} (I : Inv X pins σ H s) (k : ∀ b o, b ∉ frs X.stack → b ∉ L → s.heap.get? b = some o → h'.get? b = some o) (sl : ∀ b o, b ∈ frs X.stack → s.heap.get? b = some o → ∃ sl, h'.get? b = some { o with slots := sl })
    (hL : ∀ b ∈ L, ∃ φ, H b = some (.ext φ) ∧ φ h' ∧ ∃ o, h'.get? b = some o) : Inv X pins σ H { s with heap := h', toks := t' } := by
  have fr : ∀ b ∈ frs X.stack, H b = none := I.stkFree
  refine I.call' (ch := []) rfl ⟨fun b o e n hb _ => k b o hb (fun z => ?_) e, fun b o e n hb _ => sl b o hb e, fun _ _ _ n _ => n, fun b o e _ => ?_, fun _ _ e => e, fun _ _ _ e => e, fun _ _ _ e => e⟩ (fun b u e => ?_) I.bare fun b z => nomatch z
  · obtain ⟨φ, e', _⟩ := hL b z
    rw [n] at e'; cases e'
  · by_cases hb : b ∈ frs X.stack
    · obtain ⟨q, e'⟩ := sl b o hb e
      exact ⟨_, e'⟩
    · by_cases hl : b ∈ L
      · obtain ⟨_, _, _, o', e'⟩ := hL b hl
        exact ⟨o', e'⟩
      · exact ⟨o, k b o hb hl e⟩
  · by_cases hl : b ∈ L
    · obtain ⟨φ, e', p, o', e''⟩ := hL b hl
      rw [e] at e'; cases e'
      exact ⟨p, ⟨o', e''⟩, (I.hok b _ e).2.2⟩
    · refine (I.hok b u e).stay (fun c w hc ec => k c w (fun z => ?_) (fun z => ?_) ec) (fun _ z => z) (fun _ _ _ _ _ z => z) fun _ _ z => z
      · have := fr c z
        rcases hc with rfl | hc
        · rw [this] at e; cases e
        · rw [this] at hc; cases hc
      · rcases hc with rfl | hc
        · exact hl z
        · obtain ⟨φ, e', _⟩ := hL c z
          rw [hc] at e'; cases e'
def ExcIs (a : Addr) (cls : Value) (h : Heap) : Prop := ∃ (o : Obj) (vs : Array Value), h.get? a = some o ∧ o.cls = cls ∧ o.data = .fields vs
def TbIs (T : Addr) (h : Heap) : Prop := ∃ (o : Obj) (vs : Array Value), h.get? T = some o ∧ o.data = .fields vs
def excO (a : Addr) (cls : Value) : HO := .ext (ExcIs a cls)
def tbO (T : Addr) : HO := .ext (TbIs T)
theorem exc_ok {P : Program} {w : World} {h : Heap} {H : Hp} {a : Addr} {cls : Value} (x : ExcIs a cls h) : ObjOk P w H h a (excO a cls) :=
  ⟨x, let ⟨o, _, e, _⟩ := x; ⟨o, e⟩, fun h1 h2 ⟨o, vs, e, r⟩ k => ⟨o, vs, k o e, r⟩⟩
theorem tb_ok {P : Program} {w : World} {h : Heap} {H : Hp} {T : Addr} (x : TbIs T h) : ObjOk P w H h T (tbO T) :=
  ⟨x, let ⟨o, _, e, _⟩ := x; ⟨o, e⟩, fun h1 h2 ⟨o, vs, e, r⟩ k => ⟨o, vs, k o e, r⟩⟩
end
section
variable {prog : Program} {w : World} {A : Around} {E : Value → Shared → Prop} {s : Shared} {env : Env}
theorem note_all {base : Heap} {outer : List Env} {L e T : Addr} {oe oT : Obj} {vs ts : Array Value} {Q : Unit → Shared → Prop} (hfr : A.frames = some (env :: outer)) (hl : s.heap.FunFrames base (env :: outer)) (hf : env.frame = some L) (he : s.heap.get? e = some oe) (hd : oe.data = .fields vs) (h1 : vs[1]? = some (.ref T))
    (hTe : T ≠ e) (hT : s.heap.get? T = some oT) (hdT : oT.data = .fields ts) (h3 : ts[3]? = some .none)
    (h : ∀ h', (∀ b o, b ∉ frs (env :: outer) → b ≠ e → b ≠ T → s.heap.get? b = some o → h'.get? b = some o) → (∀ b o, b ∈ frs (env :: outer) → s.heap.get? b = some o → ∃ sl, h'.get? b = some { o with slots := sl }) → TbIs T h' →
      (∃ (oe' : Obj) (vs' : Array Value) (T2 : Addr) (oT2 : Obj) (ts2 : Array Value), h'.get? e = some oe' ∧ oe'.cls = oe.cls ∧ oe'.data = .fields vs' ∧ vs'[1]? = some (.ref T2) ∧ T2 ≠ e ∧ h'.get? T2 = some oT2 ∧ oT2.data = .fields ts2 ∧ ts2[3]? = some .none ∧ s.heap.get? T2 = none) → Q () { s with heap := h' }) :
    wpAny (model prog w) A (noteFrame (.ref e) env) (fun _ s' => wpAny (model prog w) A (setFlight (.ref e) none) Q E s') E s := by
  unfold noteFrame
  simp only [hf]
  refine wpAny_bind (wpAny_field he hd h1 ?_)
  rw [if_pos (show (Value.ref T != Value.none) = true from by simp)]
  refine wpAny_bind (wpAny_field hT hdT h3 ?_)
  rw [if_neg (show ¬ ((Value.none == rawInt L) = true) from by simp [rawInt])]
  refine wpAny_bind (wpAny_setField hT hdT (Array.getElem?_eq_some_iff.mp h3).1 ?_)
  have other : ∀ b, b ≠ T → (s.heap.update T (Obj.mapFields (·.setIfInBounds 3 Value.none))).get? b = s.heap.get? b := fun b hb => Heap.get?_update_other _ _ (Ne.symm hb)
  have hdT' := Obj.data_mapFields hdT (·.setIfInBounds 3 Value.none)
  have hT' := Heap.get?_update_self (Obj.mapFields (·.setIfInBounds 3 Value.none)) hT (Obj.isFreed_of_fields hdT')
  generalize s.heap.update T (Obj.mapFields (·.setIfInBounds 3 Value.none)) = h2 at other hT'
  have nr : ∀ b o, s.heap.get? b = some o → (∀ vs, o.data ≠ .fields vs) → b ≠ T := fun b o hb hnf q => by
    rw [q, hT] at hb; injection hb with hb; subst hb; exact hnf ts hdT
  have hl2 : h2.FunFrames base (env :: outer) := hl.of_keeps fun b o hb hnf => ⟨o, (other b (nr b o hb hnf)).trans hb, rfl⟩
  have fT : T ∉ frs (env :: outer) := fun z => by
    obtain ⟨_, o, e1, e2⟩ := hl.mem z
    rw [hT] at e1; cases e1; exact e2 _ hdT
  have fe : e ∉ frs (env :: outer) := fun z => by
    obtain ⟨_, o, e1, e2⟩ := hl.mem z
    rw [he] at e1; cases e1; exact e2 _ hd
  refine wpAny_newEntry (base := without h2 (frs (env :: outer) ++ [e])) hfr (funs_rebase hl2 fun b hb => without_in (List.mem_append_left _ hb)) hf ((other e (Ne.symm hTe)).trans he) (without_stays _ _) (without_in (List.mem_append_right _ (List.mem_singleton.mpr rfl))) hd (Array.getElem?_eq_some_iff.mp h1).1
    fun h' ⟨x1, x2, x3, x4⟩ => ?_
  have st : ∀ b o, b ∉ frs (env :: outer) → b ≠ e → h2.get? b = some o → h'.get? b = some o := fun b o n1 n2 q => x1 b o (by rw [without_out (fun z => (List.mem_append.mp z).elim n1 fun z => n2 (List.mem_singleton.mp z))]; exact q)
  obtain ⟨oe', vs', T2, oT2, ts2, t1, t2, t3, t4, t5, t6, t7, t8, t9⟩ := x3
  have f2 : T2 ∉ frs (env :: outer) := fun z => by
    obtain ⟨_, o, e1, e2⟩ := x2.mem z
    rw [t7] at e1; cases e1; exact e2 _ t8
  have n2 : h2.get? T2 = none := by rw [without_out (fun z => (List.mem_append.mp z).elim f2 fun z => t6 (List.mem_singleton.mp z))] at t5; exact t5
  have n2T : T2 ≠ T := fun z => by rw [z, hT'] at n2; cases n2
  refine h h' (fun b o b1 b2 b3 q => st b o b1 b2 ((other b b3).trans q)) (fun b o hb q => ?_) ⟨_, _, st T _ fT hTe hT', hdT'⟩ ⟨oe', vs', T2, oT2, ts2, t1, t2, t3, t4, t6, t7, t8, t9, by rw [← other T2 n2T]; exact n2⟩
  obtain ⟨_, o', e1, e2⟩ := hl.mem hb
  rw [q] at e1; cases e1
  exact x4 b o ((other b (nr b o q e2)).trans q) e2
end
section
variable {X : Cx} {pins : List (Addr × Obj)} {σ : St} {H : Hp} {s : Shared} {k : Nat} {fa : Addr} {fd : FuncData} {ps : List Str} {sp : Sp}
theorem ex_call {Ec : XK} {Q : VK} {Xe : Value → Shared → Prop} {x : Str} {e : Expr} {es : List Expr} {t : TA} {p pos : Pos} (F : FnOk X.prog X.w X.K X.mg X.base (CXE X.prog X.w) k fa fd ps sp) (hr : Room k X.A) (hg : Gl X x) (hm : X.mg x = some (.ref fa)) (hk : PySem.W.keepIn X.K (.ref fa) = true) (hb : Binds X.K fd ps [])
    (ha : PA X.nox (e :: es) t) (I : Inv X pins σ H s) (h : t σ H fun vs H1 => sp vs H1 Q Ec) (hx : ∀ H1 s1 e s', Inv X pins σ H1 s1 → CXE X.prog X.w X.stack H1 s1 Ec e s' → Xe e s')
    (hdb : (x == ("__debug__" : Str)) = false := by decide) (he : starEach (e :: es) X.env = (false, eval e X.env) :: starEach es X.env := by rfl) (hpl : (backTo pos (starEach es X.env)).any (·.1) = false := by rfl) :
    wpAny (model X.prog X.w) X.A (eval (.Call (.Name x p) (e :: es) [] pos) X.env) (EP X pins σ Q) Xe s := by
  refine wpAny_Call_Name_kw (ld_glob I hg hm ?_ hdb)
  refine PySem.W.callWith_K (h₀ := X.base) I.ok.mod.kin hk (wpAny_mono (ha pos pins s σ H _ (I.wish _) h) (fun us s1 ⟨vs, H1, I1, r, q⟩ => ⟨I1.unwish.kIn, ?_⟩) fun _ _ z => False.elim z) he hpl
  have I1' := I1.unwish
  have hl : us.length = ps.length := by rw [← r.length]; exact F.len _ _ _ _ q
  refine wpAny_call (codeAny_mono (F.run X.A X.stack s1 H1 ⟨us, []⟩ us vs Q Ec hr I1'.env0 (by have := hb s1 us I1'.kIn (by rw [List.append_nil]; exact hl); rw [List.append_nil] at this; exact this) r q) fun r s' hq => ?_)
  cases r with
  | error e => exact hx H1 s1 e s' I1' hq
  | ok fl =>
    cases fl with
    | ret u => exact I1'.after hq
    | next => exact False.elim hq
    | brk => exact False.elim hq
    | cont => exact False.elim hq
theorem flight_ok {M : Model} {A : Around} {E : Value → Shared → Prop} {a T : Addr} {oe oT : Obj} {vs ts : Array Value} {Q : Unit → Shared → Prop} (I : Inv X pins σ H s) (he : s.heap.get? a = some oe) (hd : oe.data = .fields vs) (h1 : vs[1]? = some (.ref T)) (hT : s.heap.get? T = some oT) (hdT : oT.data = .fields ts) (h3 : 3 < ts.size)
    (tr : H T = some (tbO T)) (h : ∀ h', Inv X pins σ H { s with heap := h' } → Q () { s with heap := h' }) : wpAny M A (setFlight (.ref a) none) Q E s := by
  unfold setFlight
  refine wpAny_bind (wpAny_field he hd h1 ?_)
  rw [if_pos (show (Value.ref T != Value.none) = true from by simp)]
  refine wpAny_setField hT hdT h3 ?_
  have other : ∀ b, b ≠ T → (s.heap.update T (Obj.mapFields (·.setIfInBounds 3 ((none : Option Addr).elim Value.none fun f => rawInt f)))).get? b = s.heap.get? b := fun b hb => Heap.get?_update_other _ _ (Ne.symm hb)
  have hdT' := Obj.data_mapFields hdT (·.setIfInBounds 3 ((none : Option Addr).elim Value.none fun f => rawInt f))
  have hT' := Heap.get?_update_self (Obj.mapFields (·.setIfInBounds 3 ((none : Option Addr).elim Value.none fun f => rawInt f))) hT (Obj.isFreed_of_fields hdT')
  refine h _ (I.touch (L := [T]) (t' := s.toks) (fun b o _ n q => (other b (fun z => n (List.mem_singleton.mpr z))).trans q) (fun b o hb q => ⟨o.slots, (other b (fun z => ?_)).trans q⟩) fun b hb => ?_)
  · have := I.stkFree b hb
    rw [z, tr] at this; cases this
  · rw [List.mem_singleton.mp hb]
    exact ⟨_, tr, ⟨_, _, hT', hdT'⟩, _, hT'⟩
end
end L2
set_option Elab.async false
set_option linter.all false
set_option maxRecDepth 100000
namespace L2
open PySem PySem.Spec PyProof.Rows PySem.W
structure KExc (K : PySem.W.Frag) (C : Addr) : Prop where
  ga : findIn K (.ref C) "__getattribute__" = some (some (.builtin "BaseException.__getattribute__"))
  gn : findIn K (.ref C) "__getattr__" = some none
  cl : findIn K (.ref C) "__class__" = some (some (.builtin "object.__class__"))
  mb : mroIn K C (.type "BaseException") = some true
  mo : mroIn K C (.type "object") = some true
  ic : hasDictIn K C = true
section
variable {prog : Program} {w : World} {A : Around} {E : Value → Shared → Prop} {K : PySem.W.Frag} {h : Heap} {g : Array GenState} {d : Drawn} {t : Nat} {os : OsState} {a C : Addr} {o : Obj}
theorem sub_at {M : Model} {base : Value} {r : Bool} {Q : Bool → Shared → Prop} (X : K.In h) (e : mroIn K C base = some r) (hq : Q r ⟨h, g, d, t, os⟩) : wpAny M A (isSubtype (.ref C) base) Q E ⟨h, g, d, t, os⟩ := looks_mroIn X e A Q E _ (fun _ _ e => e) hq
end
end L2
set_option Elab.async false
set_option linter.all false
set_option maxRecDepth 100000
namespace L2
open PySem PySem.Spec PyProof.Rows PySem.W PySem.Calls
section
variable {M : Model} {A : Around} {E : Value → Shared → Prop} {K : PySem.W.Frag} {h : Heap} {g : Array GenState} {d : Drawn} {t : Nat} {os : OsState}
theorem type_at {v c : Value} {Q : Value → Shared → Prop} (X : K.In h) (e : typeIn K v = some c) (hq : Q c ⟨h, g, d, t, os⟩) : wpAny M A (typeOf v) Q E ⟨h, g, d, t, os⟩ := looks_typeIn X e A Q E _ (fun _ _ e => e) hq
structure KSup (K : PySem.W.Frag) (S : Addr) : Prop where
  ty : typeIn K (.ref S) = some (.type "type")
  mb : mroIn K S (.type "BaseException") = some true
  ic : hasDictIn K S = true
theorem excMatches_K {e C S : Addr} {oe : Obj} {Q : Bool → Shared → Prop} (X : K.In h) (k : KSup K S) (he : h.get? e = some oe) (hcls : oe.cls = .ref C) (ms : mroIn K C (.ref S) = some true) (hq : Q true ⟨h, g, d, t, os⟩) : wpAny M A (excMatches (.ref e) (.ref S)) Q E ⟨h, g, d, t, os⟩ := by
  have ty := k.ty
  have mb := k.mb
  have f := tc_notTuple
  obtain ⟨cd, hcd, _⟩ := any_some k.ic
  unfold clsIn at hcd
  split at hcd
  · rename_i c' d' cd' sl' ho
    have hS := X _ _ ho
    unfold excMatches
    repeat (first | (with_reducible refine wpAny_loadPart_at he ?_; rw [hcls]) | (with_reducible refine type_at X ty ?_) | with_reducible refine wpAny_loadPart_at hS ?_ | (with_reducible refine sub_at X mb ?_) | (with_reducible refine sub_at X ms ?_) | wp_step)
    exact hq
  · cases hcd
end
theorem own_K {K : PySem.W.Frag} {h : Heap} {mg : Str → Option Value} {x : Str} {C : Addr} {bmB : List Value} {newId : String} (X : K.In h) (hm : mg x = some (.ref C)) (q : excIn K C bmB newId = true) : OwnCls x C bmB newId mg h := by
  refine ⟨hm, ?_⟩
  unfold excIn at q
  split at q
  · rename_i dd cd sl ho
    split at q
    · rename_i C' bm k0 k1 k2 k3 n k5 e1 e2
      simp only [Bool.and_eq_true, beq_iff_eq, Bool.not_eq_true'] at q
      obtain ⟨⟨⟨⟨⟨z1, z2⟩, z3⟩, z4⟩, z5⟩, z6⟩ := q
      have hC := X _ _ ho
      obtain ⟨nm, bs, mro, ns, qn, hd, sn, sub, ab, col, del⟩ := cd
      simp only at e1 z3 z5 z6
      subst e1 z1 z2 z3
      obtain ⟨l⟩ := sl
      simp only at e2
      subst e2
      exact ⟨bm, ns, nm, qn, bs, hd, sn, sub, ab, col, dd, k0, k1, k2, k3, k5, _, hC, .of_isNs (isNs_of_in X z5), nsMap_none_of_in X z5 z6, tail_of_in X z4⟩
    · cases q
  · cases q
theorem ps_raiseK {X : Cx} {E : XK} {x : Str} {C : Addr} {B newId initId : String} {bm : List Value} {np cpos pos : Pos} {e₀ : Expr} {rest : List Expr} {t : TA} (R : Rs X E) (hc : X.calm = true) (hg : Gl X x) (hm : X.mg x = some (.ref C)) (hq : excIn X.K C bm newId = true) (FB : ExcBaseFacts B newId initId bm) (ha : PA X (e₀ :: rest) t)
    (he : starEach (e₀ :: rest) X.env = (false, eval e₀ X.env) :: starEach rest X.env := by rfl) (hp : (backTo cpos (starEach rest X.env)).any (·.1) = false := by rfl) (hd : (x == ("__debug__" : Str)) = false := by decide) :
    PS X (.Raise (some (.Call (.Name x np) (e₀ :: rest) [] cpos)) none pos) (tRaise E (.ref C) t) := fun pins s σ H D I h =>
  ps_raise R hc hg (own_K I.ok.mod.kin hm hq) FB ha he hp hd pins s σ H D I h
structure CalE (P : Program) (w : World) (K : PySem.W.Frag) (mg : Str → Option Value) (base : Heap) (n : Nat) (x : Str) (ps : List Str) (sp : Sp) : Prop where
  ex : ∃ f fd, FnOk P w K mg base (CXE P w) n f fd ps sp ∧ Binds K fd ps [] ∧ PySem.W.keepIn K (.ref f) = true ∧ mg x = some (.ref f)
theorem Dfn.calE {P : Program} {w : World} {K : PySem.W.Frag} {mg : Str → Option Value} {base : Heap} {x : Str} {st : Stmt} {N ps : List Str} {k : Nat} {sp : Sp} (d : Dfn K mg x st ps) (S : FnScope N ps (defScope st)) (len : ∀ vs H Q E, sp vs H Q E → vs.length = ps.length)
    (hbody : ∀ (f : Addr) (cdv : Value) (A : Around) (outer : List Env) (s : Shared) (H : Hp) (vs : List V) (Q : VK) (E : XK), Room k (A.deeper (envOfC x (defScope st) s.heap.objs.size f cdv)) → sp vs H Q E → Rs (cxOf (CXE P w) P w K mg base N x (defScope st) f cdv A outer s H E) E →
      ∃ t, PSs (cxOf (CXE P w) P w K mg base N x (defScope st) f cdv A outer s H E) (defBody st) t ∧ t { nx := fun _ H' => Q .non H', rt := Q } (start N vs) H) : CalE P w K mg base (k + 1) x ps sp := by
  obtain ⟨f, fd, F, b, m⟩ := d.ex
  exact ⟨f, fd, F.okE S len (hbody f), b, F.kp, m⟩
end L2
set_option Elab.async false
set_option linter.all false
set_option maxRecDepth 100000
namespace L2
open PySem PySem.Spec PyProof.Rows PySem.W PySem.Calls
section
variable {prog : Program} {w : World} {A : Around} {E : Value → Shared → Prop} {s : Shared} {env : Env}
theorem handle_no {K : PySem.W.Frag} {a C S : Addr} {t : Expr} {b₀ : Stmt} {suite : List Stmt} {pos : Pos} {rest : List ExceptHandler} {Q : Flow → Shared → Prop} (k : KSup K S) (ms : mroIn K C (.ref S) = some true)
    (h : wpAny (model prog w) (A.mark (some (.ref a))) (eval t env) (fun c s₁ => c = .ref S ∧ K.In s₁.heap ∧ (∃ oe, s₁.heap.get? a = some oe ∧ oe.cls = .ref C) ∧
      wpAny (model prog w) (A.mark (some (.ref a))) (setFlight (.ref a) none) (fun _ s₂ => wpAny (model prog w) (A.mark (some (.ref a))) (execs (b₀ :: suite) env) Q (fun _ _ => False) s₂) (fun _ _ => False) s₁) (fun _ _ => False) s) :
    wpAny (model prog w) A (handleBy (.ref a) env (.ExceptHandler (some t) none (b₀ :: suite) pos :: rest)) Q E s := by
  refine wpAny_handleBy_cons (codeAny_handlers_test (wpAny_mono h (fun c s₁ h₁ => ?_) fun _ _ y => False.elim y)) (by intro q; cases q)
  obtain ⟨rfl, KI, ⟨oe, he, hcls⟩, hk⟩ := h₁
  obtain ⟨hh, g, d, tk, os⟩ := s₁
  refine excMatches_K KI k he hcls ms (codeAny_handlers_suite ?_)
  exact wpAny_mono hk (fun _ s₂ h₂ => wpAny_mono h₂ (fun _ _ y => y) fun _ _ y => False.elim y) fun _ _ y => False.elim y
end
end L2
set_option Elab.async false
set_option linter.all false
set_option maxRecDepth 100000
set_option Elab.async false
set_option linter.all false
set_option maxRecDepth 100000
set_option Elab.async false
set_option linter.all false
set_option maxRecDepth 100000
namespace L2
open PySem PySem.Spec PyProof.Rows PySem.W PySem.Calls
section
variable {X : Cx} {pins : List (Addr × Obj)} {σ : St} {H : Hp} {s : Shared} {k : Nat} {fa : Addr} {fd : FuncData} {ps : List Str} {sp : Sp}
def tTryX (K : PySem.W.Frag) (S : Addr) (sp : Sp) (i : Nat) (t : TA) (ts : TS) : TS := fun D σ H => t σ H fun vs H1 => sp vs H1 (fun v H2 => D.nx (σ.set i (some v)) H2) fun cls oa H2 => ∀ a, oa = some a → ∃ C, cls = .ref C ∧ mroIn K C (.ref S) = some true ∧
  ∀ H3, Same H2 H3 → ts { nx := D.nx, rt := fun _ _ => False } σ H3
theorem ps_tryX {x f c : Str} {i : Nat} {S : Addr} {e : Expr} {es : List Expr} {t : TA} {ts : TS} {px np cpos apos cp hpos pos : Pos} {b₀ : Stmt} {suite : List Stmt} (F : FnOk X.prog X.w X.K X.mg X.base (CXE X.prog X.w) k fa fd ps sp) (hr : Room k X.A) (hg : Gl X f) (hm : X.mg f = some (.ref fa))
    (hkp : PySem.W.keepIn X.K (.ref fa) = true) (hb : Binds X.K fd ps []) (ha : PA X.nox (e :: es) t) (hgS : Gl X c) (hmS : X.mg c = some (.ref S)) (kS : KSup X.K S)
    (hx : X.ex = []) (hst : X.stack = X.env :: X.outer) (hfr : X.env.frame = some X.env.locals) (hN : X.N.Nodup) (hi : X.N[i]? = some x) (hxl : Loc X.env.scope x) (hsu : ∀ a, PSs (X.held a) (b₀ :: suite) ts)
    (hs : swapsWith (.Call (.Name f np) (e :: es) [] cpos) (some (.Name x px)) apos.line X.env = pure false := by rfl) (hf : X.fn x = true ∨ X.env.scope.names.lookup x = some .local := by first | exact .inl rfl | exact .inr rfl | assumption) (hdb : (f == ("__debug__" : Str)) = false := by decide)
    (hdc : (c == ("__debug__" : Str)) = false := by decide) (he : starEach (e :: es) X.env = (false, eval e X.env) :: starEach es X.env := by rfl) (hpl : (backTo cpos (starEach es X.env)).any (·.1) = false := by rfl) :
    PS X (.Try [.Assign [.Name x px] (.Call (.Name f np) (e :: es) [] cpos) apos] [.ExceptHandler (some (.Name c cp)) none (b₀ :: suite) hpos] [] [] pos) (tTryX X.K S sp i t ts) := by
  intro pins s σ H D I h
  refine wpAny_Try_except (wpAny_execs_cons (wpAny_Assign_Name (wpAny_mono (ex_call F hr hg hm hkp hb ha I h (Xe := _) (fun H1 s1 ev s' I1 cx => ?_) hdb he hpl) (fun v s1 ⟨y, H1, I1, r1, q1⟩ => ?_) fun _ _ z => z) hs))
  · -- an exception
    obtain ⟨a, cls, H2, rfl, os, bare, un, hok, ⟨oe, vs, T, oT, tts, t1, t2, t3, t4, t6, t7, t8, t9, n1, n2, h1, h2⟩, ee⟩ := cx
    obtain ⟨C, rfl, ms, ht⟩ := ee a rfl
    have I2 : Inv X pins σ H2 s' := I1.call' (ch := []) os un hok bare fun b z => nomatch z
    have nex : ∀ b, b ∉ X.ex := fun b z => by rw [hx] at z; cases z
    have s0 : ∀ b, s1.heap.get? b = none → X.s₀.heap.get? b = none := fun b z => by
      cases q : X.s₀.heap.get? b with
      | none => rfl
      | some o =>
        obtain ⟨o', e'⟩ := I1.base.there b o q (nex b)
        rw [z] at e'; cases e'
    have pn : ∀ b, s1.heap.get? b = none → ∀ p ∈ X.pn ++ pins, p.1 ≠ b := fun b z p hp q => by
      have := (I1.pin p hp).1
      rw [q, z] at this; cases this
    have I3 := I2.adopt (o := excO a (.ref C)) h1 (s0 a n1) t1 t3 (pn a n1) (exc_ok ⟨oe, vs, t1, t2, t3⟩)
    have h2' : upd H2 a (excO a (.ref C)) T = none := by rw [upd_ne t6]; exact h2
    have I4 := I3.adopt (o := tbO T) h2' (s0 T n2) t7 t8 (pn T n2) (tb_ok ⟨oT, tts, t7, t8⟩)
    refine note_all (base := X.base) (outer := X.outer) (L := X.env.locals) (T := T) (by rw [← hst]; exact I.ok.frames) (by rw [← hst]; exact I2.stack) hfr t1 t3 t4 t6 t7 t8 t9 fun h'' kk sl tb ⟨oe', vs', T2, oT2, ts2, u1, u2, u3, u4, u5, u6, u7, u8, u9⟩ => ?_
    rw [← hst] at kk sl
    have ea4 : upd (upd H2 a (excO a (.ref C))) T (tbO T) a = some (excO a (.ref C)) := by rw [upd_ne (Ne.symm t6), upd_same]
    have I5 := I4.touch (L := [a, T]) (t' := s'.toks) (h' := h'') (fun b o b1 b2 q => kk b o b1 (fun z => b2 (by simp [z])) (fun z => b2 (by simp [z])) q) sl fun b hb => by
      simp only [List.mem_cons, List.not_mem_nil, or_false] at hb
      rcases hb with rfl | rfl
      · exact ⟨_, ea4, ⟨oe', vs', u1, u2.trans t2, u3⟩, _, u1⟩
      · obtain ⟨o, w, e1, e2⟩ := id tb
        exact ⟨_, upd_same, tb, o, e1⟩
    have T2n : s1.heap.get? T2 = none := by
      cases q : s1.heap.get? T2 with
      | none => rfl
      | some o =>
        obtain ⟨o', e'⟩ := un.there T2 o q (fun z => nomatch z)
        rw [u9] at e'; cases e'
    have T2T : T2 ≠ T := fun z => by rw [z, t7] at u9; cases u9
    have HT2 : upd (upd H2 a (excO a (.ref C))) T (tbO T) T2 = none := by
      rw [upd_ne T2T, upd_ne u5]
      cases q : H2 T2 with
      | none => rfl
      | some o =>
        obtain ⟨o', e'⟩ := objok_there (hok T2 o q)
        rw [u9] at e'; cases e'
    have I6 := I5.adopt (o := tbO T2) HT2 (s0 T2 T2n) u6 u7 (pn T2 T2n) (tb_ok ⟨oT2, ts2, u6, u7⟩)
    generalize eH : upd (upd (upd H2 a (excO a (.ref C))) T (tbO T)) T2 (tbO T2) = H3 at I6
    have g3 : Same H2 H3 := by rw [← eH]; exact (same_upd h1 _).trans ((same_upd h2' _).trans (same_upd HT2 _))
    have ea3 : H3 a = some (excO a (.ref C)) := by rw [← eH, upd_ne (Ne.symm u5)]; exact ea4
    have eT3 : H3 T2 = some (tbO T2) := by rw [← eH]; exact upd_same
    refine handle_no kS ms (ld_glob (X := X.held a) (I6.held (a := a)) hgS hmS ⟨rfl, I6.kIn, ⟨oe', u1, u2.trans t2⟩, ?_⟩ hdc)
    refine flight_ok I6 u1 u3 u4 u6 u7 (Array.getElem?_eq_some_iff.mp u8).1 eT3 fun h7 I7 => ?_
    refine wpAny_mono (hsu a pins _ _ H3 _ (I7.held (a := a)) (ht H3 g3)) (fun fl s9 hp => ?_) fun _ _ z => False.elim z
    cases fl with
    | next =>
      obtain ⟨σ9, H9, I9, q9⟩ := hp
      exact ⟨_, H9, I9.unheld I.ok, q9⟩
    | brk => obtain ⟨_, _, _, z⟩ := hp; exact False.elim z
    | cont => obtain ⟨_, _, _, z⟩ := hp; exact False.elim z
    | ret u => obtain ⟨_, _, _, _, _, z⟩ := hp; exact False.elim z
  · exact store_ok I1 hN hi hxl r1 (fun s2 I2 => wpAny_execs_nil (wpAny_execs_nil ⟨_, H1, I2, q1⟩)) hf
end
theorem ps_tryXC {X : Cx} {k m : Nat} {x f c : Str} {i : Nat} {S : Addr} {ps : List Str} {sp : Sp} {e : Expr} {es : List Expr} {t : TA} {ts : TS} {px np cpos apos cp hpos pos : Pos} {b₀ : Stmt} {suite : List Stmt} (C : CalE X.prog X.w X.K X.mg X.base m f ps sp) (hr : Room k X.A) (hle : m ≤ k) (hg : Gl X f)
    (ha : PA X.nox (e :: es) t) (hgS : Gl X c) (hmS : X.mg c = some (.ref S)) (kS : KSup X.K S) (hx : X.ex = []) (hst : X.stack = X.env :: X.outer) (hfr : X.env.frame = some X.env.locals) (hN : X.N.Nodup) (hi : X.N[i]? = some x) (hxl : Loc X.env.scope x) (hsu : ∀ a, PSs (X.held a) (b₀ :: suite) ts)
    (hs : swapsWith (.Call (.Name f np) (e :: es) [] cpos) (some (.Name x px)) apos.line X.env = pure false := by rfl) (hf : X.fn x = true ∨ X.env.scope.names.lookup x = some .local := by first | exact .inl rfl | exact .inr rfl | assumption) (hdb : (f == ("__debug__" : Str)) = false := by decide)
    (hdc : (c == ("__debug__" : Str)) = false := by decide) (h1 : notStar e = true := by rfl) (h2 : es.all notStar = true := by rfl) :
    PS X (.Try [.Assign [.Name x px] (.Call (.Name f np) (e :: es) [] cpos) apos] [.ExceptHandler (some (.Name c cp)) none (b₀ :: suite) hpos] [] [] pos) (tTryX X.K S sp i t ts) := by
  obtain ⟨fa, fd, F, b, kp, mm⟩ := C.ex
  exact ps_tryX F (hr.mono hle) hg mm kp b ha hgS hmS kS hx hst hfr hN hi hxl hsu hs hf hdb hdc (star_cons h1) (star_any h2)
end L2
set_option Elab.async false
set_option linter.all false
set_option maxRecDepth 100000
set_option maxHeartbeats 4000000
namespace K49
open PySem PySem.Spec PyProof.Rows L2 SS SM
def top (i : Nat) : Stmt := PySem.Challenge.pw_setsays_k49_smallest_trees.main.body.getD i (.Pass ⟨0, 0, 0, 0⟩)
abbrev veM : List Value := [.type "ValueError", .type "Exception", .type "BaseException", .type "object"]
structure Txt (K : PySem.W.Frag) (mg : Str → Option Value) (cTooGreat : Addr) : Prop where
  b_isinstance : mg "isinstance" = none
  b_tuple : mg "tuple" = none
  b_list : mg "list" = none
  b_int : mg "int" = none
  b_bool : mg "bool" = none
  b_len : mg "len" = none
  b_min : mg "min" = none
  b_enumerate : mg "enumerate" = none
  g_MOST_NODES : GlV mg "MOST_NODES" (.int 100)
  b_all : mg "all" = none
  b_sum : mg "sum" = none
  b_range : mg "range" = none
  b_sorted : mg "sorted" = none
  b_any : mg "any" = none
  b_ValueError : mg "ValueError" = none
  m_TooGreat : mg "TooGreat" = some (.ref cTooGreat)
  k_TooGreat : KSup K cTooGreat
  ms : PySem.W.mroIn K cTooGreat (.ref cTooGreat) = some true
  kx : KExc K cTooGreat
  i1 : PySem.W.kitOne K (.ref cTooGreat) (.ref cTooGreat) = some true
  x_TooGreat : PySem.W.excIn K cTooGreat veM "ValueError.__new__" = true
end K49
set_option Elab.async false
set_option linter.all false
set_option maxRecDepth 100000
set_option maxHeartbeats 4000000
set_option pp.deepTerms true
set_option pp.maxSteps 100000
namespace K49
open PySem PySem.Spec PyProof.Rows L2 SS SM
seal PE PT PW PA PS PSs
section
variable {P : Program} {w : World} {K : PySem.W.Frag} {mg : Str → Option Value} {base : Heap} {cTooGreat : Addr}
abbrev s_steps_beyond : Stmt := top 5
theorem sc_steps_beyond : FnScope ["machine", "least", "steps", "left", "right", "nodes", "letter", "ways"] ["machine", "least"] (defScope s_steps_beyond) := ⟨rfl, rfl, rfl, by decide +kernel, rfl, by decide +kernel, by decide +kernel⟩
theorem ok_beyond (T : Txt K mg cTooGreat) (d : Dfn K mg "steps_beyond" s_steps_beyond ["machine", "least"]) : Cal P w K mg base 1 "steps_beyond" ["machine", "least"] (sp_beyond P w) := by
  refine d.cal sc_steps_beyond (fun vs H Q E h => ?_) (fun f cdv A outer s H vs Q E hr h => ?_)
  · obtain ⟨a, p, m, ep, kvs, es, rfl, _⟩ := h
    rfl
  obtain ⟨a, p, m, ep, kvs, es, rfl, ⟨b1, c1, ts1, ea, eb1, pr1, ec1⟩, ok, hw, edp, prk, nd, h9, hrm, q⟩ := h
  have hlen : kvs.length = es.length := SS.Paired.len prk
  have h4 : 2 ^ m.w ≤ 4 := Nat.pow_le_pow_right (n := 2) (by decide) hw
  have lts : ts1.length = 2 ^ m.w := (SS.Paired.len pr1).trans ok.len
  refine ⟨_, (pss_cons (ps_set (i := 2) sc_steps_beyond.nd rfl (Or.inl rfl) (pe_lstN pa_nil)) (pss_cons (ps_for PassesOwn.never rfl (pi_dict (pv 1)) (pg_name (i := 3) sc_steps_beyond.nd (by rfl) (Or.inl (by rfl))) (pss_one (ps_for PassesOwn.never rfl (pi_dict (pv 1)) (pg_name (i := 4) sc_steps_beyond.nd (by rfl) (Or.inl (by rfl))) (pss_cons (ps_set (i := 5) sc_steps_beyond.nd rfl (Or.inl rfl) (pe_op op_add (pe_op op_add pe_int (pe_ix (ix_tupK K) (pe_dgetJ (pv 1) (pv 3) (fun _ _ => rfl)) pe_int (fun _ _ => rfl))) (pe_ix (ix_tupK K) (pe_dgetJ (pv 1) (pv 4) (fun _ _ => rfl)) pe_int (fun _ _ => rfl)))) (pss_one (ps_for PassesOwn.never rfl (pi_enumTK K (by rfl) T.b_enumerate (pa_c (pe_ix (ix_tupK K) (pv 0) pe_int (fun _ _ => rfl)) pa_nil)) (pg_tupK K (n := 2) rfl (pgs_cons (pg_name (i := 6) sc_steps_beyond.nd (by rfl) (Or.inl (by rfl))) (pgs_cons (pg_name (i := 7) sc_steps_beyond.nd (by rfl) (Or.inl (by rfl))) pgs_nil))) (pss_one (ps_if (pt_cmpR op_notinJ (pe_ix (ix_tupK K) (pe_ix (ix_tupK K) (pv 7) (pv 3) (fun _ _ => rfl)) (pv 4) (fun _ _ => rfl)) (pv 1) (by with_unfolding_all rfl)) (pss_one (ps_expr (pe_bmK K PySem.F.plainAttrs_list PySem.F.slot_list_append PySem.F.type_list_append mt_append (pv 2) (pa_c (pe_tupN (pa_c (pv 5) (pa_c (pe_ix (ix_tupK K) (pe_ix (ix_tupK K) (pv 7) (pv 3) (fun _ _ => rfl)) (pv 4) (fun _ _ => rfl)) (pa_c (pv 6) (pa_c (pv 3) (pa_c (pv 4) pa_nil)))))) pa_nil)))) pss_nil)))))))) (pss_one (ps_ret (pv 2))))), ?_⟩
  refine rd_st [some (.ref a), some (.ref p), none, none, none, none, none, none] rfl ?_
  simp only [exists_eq', rEqI, rNeI, rInDc, rLenD, rLenT, rDictOf, rMaxL, rIndex, rCatTN, rCatTE, tDNewN, tDNewTN, tDisp1T, rNeM, rRange2, rListRng, rRepN, rPopAt, rSetL, gSub, ipI, tDGet, tDGet2, sDPut, iEnum, iEZ, iZipL, tDGetJ, rInJ, sDPutJ, tDGet2J, tDisp1J, iDict, iEnumT, rSortJ, rMinT, rMinL, tRaise, tTryX, iZip, rInD, rIxD, rLen, rAll, rAny, rSum, rListOf, rEqS, rNeS, rSlTN, rStrB, tTupN, tLstN, rSlLN, rCatN, cxK, cxP, cxW, tSeq, tIfS, tTest, tB, tOp, tUn, tC, tAnd, tOr, tNot, tAndV, tOrV, tNotV, tIf, tNext, tBreak, tCont, tDrop, tRet, tRetN, gName, gNil, gCons, gTup, tAsg, tPar, tAug, rI, rI0, rU, rEq, rNe, tChain, tNil, tCons, tTup, tLst, tCall, tCB, tNoPart, tPart, tSl, rSlT, rSlL, rSlS, rIxL, rIxT, rIxS, rIn, tBM0, tBM, tyV, rAppend, rExtend, rCat, rZfill, rEqD, iList, iTup, iStr, iRng1, iRng2, tYes, tDisp, tPairs, rd_v0, rd_vS, rd_comp, rd_for, rd_ite_t, rd_ite_f, List.set_cons_zero, List.set_cons_succ, List.nil_append, List.cons_append, List.append_nil, V.int.injEq, V.str.injEq, V.bl.injEq, V.ref.injEq, V.ty.injEq, List.cons.injEq, and_true, true_and, exists_eq_left, exists_eq_left', exists_and_left, exists_eq, exists_const, if_true, if_false, ite_true, ite_false, rd_ss, rd_si, rd_is, rd_ii, rd_bb, Option.some.injEq, exists_eq_right, exists_eq_right', and_assoc, reduceCtorEq, false_and, and_false, false_or, or_false, exists_false]
  refine ⟨by decide, fun p0 H0 n0 => ⟨ep, kvs, n0.g _ _ edp, ?_⟩⟩
  refine fb_dict (fun i σ H' => Same H H' ∧ ∃ v3 v4 v5 v6 v7 : Option V, σ = [some (.ref a), some (.ref p), some (.ref p0), v3, v4, v5, v6, v7] ∧ ∃ rs ls, H' p0 = some (.lst rs) ∧ Paired (ILine H') rs ls ∧ BeyI m es i 0 0 ls) ⟨n0.g, none, none, none, none, none, rfl, [], [], n0.at', .nil, .start⟩ (fun i σ H' _ z => z.1 _ _ edp) ?_ ?_
  · rintro i k v σ H' hk ⟨g, v3, v4, v5, v6, v7, rfl, rs, ls, e0, pr0, bI⟩
    obtain ⟨x, ex, ⟨rfl : k = (x.1 : Int), _⟩⟩ := rows_keys prk hk
    have mx := List.mem_of_getElem? ex
    obtain ⟨qx, ux, vx, hqx, _⟩ := rows_at prk nd x mx
    simp only [exists_eq', rEqI, rNeI, rInDc, rLenD, rLenT, rDictOf, rMaxL, rIndex, rCatTN, rCatTE, tDNewN, tDNewTN, tDisp1T, rNeM, rRange2, rListRng, rRepN, rPopAt, rSetL, gSub, ipI, tDGet, tDGet2, sDPut, iEnum, iEZ, iZipL, tDGetJ, rInJ, sDPutJ, tDGet2J, tDisp1J, iDict, iEnumT, rSortJ, rMinT, rMinL, tRaise, tTryX, iZip, rInD, rIxD, rLen, rAll, rAny, rSum, rListOf, rEqS, rNeS, rSlTN, rStrB, tTupN, tLstN, rSlLN, rCatN, cxK, cxP, cxW, tSeq, tIfS, tTest, tB, tOp, tUn, tC, tAnd, tOr, tNot, tAndV, tOrV, tNotV, tIf, tNext, tBreak, tCont, tDrop, tRet, tRetN, gName, gNil, gCons, gTup, tAsg, tPar, tAug, rI, rI0, rU, rEq, rNe, tChain, tNil, tCons, tTup, tLst, tCall, tCB, tNoPart, tPart, tSl, rSlT, rSlL, rSlS, rIxL, rIxT, rIxS, rIn, tBM0, tBM, tyV, rAppend, rExtend, rCat, rZfill, rEqD, iList, iTup, iStr, iRng1, iRng2, tYes, tDisp, tPairs, rd_v0, rd_vS, rd_comp, rd_for, rd_ite_t, rd_ite_f, List.set_cons_zero, List.set_cons_succ, List.nil_append, List.cons_append, List.append_nil, V.int.injEq, V.str.injEq, V.bl.injEq, V.ref.injEq, V.ty.injEq, List.cons.injEq, and_true, true_and, exists_eq_left, exists_eq_left', exists_and_left, exists_eq, exists_const, if_true, if_false, ite_true, ite_false, rd_ss, rd_si, rd_is, rd_ii, rd_bb, Option.some.injEq, exists_eq_right, exists_eq_right', and_assoc, reduceCtorEq, false_and, and_false, false_or, or_false, exists_false]
    refine ⟨ep, kvs, g _ _ edp, ?_⟩
    refine fb_dict (fun j σ H' => Same H H' ∧ ∃ v4 v5 v6 v7 : Option V, σ = [some (.ref a), some (.ref p), some (.ref p0), some (nV x.1), v4, v5, v6, v7] ∧ ∃ rs ls, H' p0 = some (.lst rs) ∧ Paired (ILine H') rs ls ∧ BeyI m es i j 0 ls) ⟨g, v4, v5, v6, v7, rfl, rs, ls, e0, pr0, bI⟩ (fun i σ H' _ z => z.1 _ _ edp) ?_ ?_
    · rintro j k v σ H' hk ⟨g, v4, v5, v6, v7, rfl, rs, ls, e0, pr0, bI⟩
      obtain ⟨y, ey, ⟨rfl : k = (y.1 : Int), _⟩⟩ := rows_keys prk hk
      have my := List.mem_of_getElem? ey
      obtain ⟨qy, uy, vy, hqy, _⟩ := rows_at prk nd y my
      have ii := (List.getElem?_eq_some_iff.mp ex).1
      have jj := (List.getElem?_eq_some_iff.mp ey).1
      simp only [exists_eq', rEqI, rNeI, rInDc, rLenD, rLenT, rDictOf, rMaxL, rIndex, rCatTN, rCatTE, tDNewN, tDNewTN, tDisp1T, rNeM, rRange2, rListRng, rRepN, rPopAt, rSetL, gSub, ipI, tDGet, tDGet2, sDPut, iEnum, iEZ, iZipL, tDGetJ, rInJ, sDPutJ, tDGet2J, tDisp1J, iDict, iEnumT, rSortJ, rMinT, rMinL, tRaise, tTryX, iZip, rInD, rIxD, rLen, rAll, rAny, rSum, rListOf, rEqS, rNeS, rSlTN, rStrB, tTupN, tLstN, rSlLN, rCatN, cxK, cxP, cxW, tSeq, tIfS, tTest, tB, tOp, tUn, tC, tAnd, tOr, tNot, tAndV, tOrV, tNotV, tIf, tNext, tBreak, tCont, tDrop, tRet, tRetN, gName, gNil, gCons, gTup, tAsg, tPar, tAug, rI, rI0, rU, rEq, rNe, tChain, tNil, tCons, tTup, tLst, tCall, tCB, tNoPart, tPart, tSl, rSlT, rSlL, rSlS, rIxL, rIxT, rIxS, rIn, tBM0, tBM, tyV, rAppend, rExtend, rCat, rZfill, rEqD, iList, iTup, iStr, iRng1, iRng2, tYes, tDisp, tPairs, rd_v0, rd_vS, rd_comp, rd_for, rd_ite_t, rd_ite_f, List.set_cons_zero, List.set_cons_succ, List.nil_append, List.cons_append, List.append_nil, V.int.injEq, V.str.injEq, V.bl.injEq, V.ref.injEq, V.ty.injEq, List.cons.injEq, and_true, true_and, exists_eq_left, exists_eq_left', exists_and_left, exists_eq, exists_const, if_true, if_false, ite_true, ite_false, rd_ss, rd_si, rd_is, rd_ii, rd_bb, Option.some.injEq, exists_eq_right, exists_eq_right', and_assoc, reduceCtorEq, false_and, and_false, false_or, or_false, exists_false]
      refine ⟨_, _, g _ _ edp, _, vx, _, rfl, _, .of (g _ _ hqx), _, atI_0, _, rfl, _, _, g _ _ edp, _, vy, _, rfl, _, .of (g _ _ hqy), _, atI_0, _, rfl, _, .of (g _ _ ea), _, atI_nat (j := 1) rfl, b1, rfl, ⟨_, .of (g _ _ eb1)⟩, ?_⟩
      refine fb_enumT (xs := ts1) (fun k σ H' => Same H H' ∧ ∃ v6 v7 : Option V, σ = [some (.ref a), some (.ref p), some (.ref p0), some (nV x.1), some (nV y.1), some (.int (1 + (x.2.1 : Int) + (y.2.1 : Int))), v6, v7] ∧ ∃ rs ls, H' p0 = some (.lst rs) ∧ Paired (ILine H') rs ls ∧ BeyI m es i j k ls) ⟨g, v6, v7, rfl, rs, ls, e0, pr0, bI⟩ (fun i σ H' _ z => .of (z.1 _ _ eb1)) ?_ ?_
      · rintro k u σ H' pe He hu ⟨g, v6, v7, rfl, rs, ls, e0, pr0, bI⟩ ne
        have kk : k < 2 ^ m.w := lts ▸ (List.getElem?_eq_some_iff.mp hu).1
        obtain ⟨t1, t2, rs1, ln, h1, h2, h3, h4', h5⟩ := RepT.row pr1 ok kk (hrm x mx) (hrm y my)
        rw [hu] at h1
        cases h1
        have ge := g.trans ne.g
        simp only [exists_eq', rEqI, rNeI, rInDc, rLenD, rLenT, rDictOf, rMaxL, rIndex, rCatTN, rCatTE, tDNewN, tDNewTN, tDisp1T, rNeM, rRange2, rListRng, rRepN, rPopAt, rSetL, gSub, ipI, tDGet, tDGet2, sDPut, iEnum, iEZ, iZipL, tDGetJ, rInJ, sDPutJ, tDGet2J, tDisp1J, iDict, iEnumT, rSortJ, rMinT, rMinL, tRaise, tTryX, iZip, rInD, rIxD, rLen, rAll, rAny, rSum, rListOf, rEqS, rNeS, rSlTN, rStrB, tTupN, tLstN, rSlLN, rCatN, cxK, cxP, cxW, tSeq, tIfS, tTest, tB, tOp, tUn, tC, tAnd, tOr, tNot, tAndV, tOrV, tNotV, tIf, tNext, tBreak, tCont, tDrop, tRet, tRetN, gName, gNil, gCons, gTup, tAsg, tPar, tAug, rI, rI0, rU, rEq, rNe, tChain, tNil, tCons, tTup, tLst, tCall, tCB, tNoPart, tPart, tSl, rSlT, rSlL, rSlS, rIxL, rIxT, rIxS, rIn, tBM0, tBM, tyV, rAppend, rExtend, rCat, rZfill, rEqD, iList, iTup, iStr, iRng1, iRng2, tYes, tDisp, tPairs, rd_v0, rd_vS, rd_comp, rd_for, rd_ite_t, rd_ite_f, List.set_cons_zero, List.set_cons_succ, List.nil_append, List.cons_append, List.append_nil, V.int.injEq, V.str.injEq, V.bl.injEq, V.ref.injEq, V.ty.injEq, List.cons.injEq, and_true, true_and, exists_eq_left, exists_eq_left', exists_and_left, exists_eq, exists_const, if_true, if_false, ite_true, ite_false, rd_ss, rd_si, rd_is, rd_ii, rd_bb, Option.some.injEq, exists_eq_right, exists_eq_right', and_assoc, reduceCtorEq, false_and, and_false, false_or, or_false, exists_false]
        refine ⟨_, .of ne.at', rfl, _, _, rfl, _, _, rfl, rfl, t1, rfl, _, .of (ge _ _ h2), _, atI_nat h3, t2, rfl, _, .of (ge _ _ h4'), _, atI_nat h5, _, _, _, rfl, ge _ _ edp, ?_⟩
        rw [rows_in prk]
        by_cases hin : m.go k x.1 y.1 ∈ rms es
        · rw [decide_eq_true hin]
          exact iteF ⟨ge, rs, ne.g _ _ e0, ls, L2.Paired.mapP pr0 fun _ _ z => z.ts ne.g.tups, bI.skip ex ey hin⟩
        · rw [decide_eq_false hin]
          refine iteT ⟨.inl ⟨_, .of (ne.g _ _ e0)⟩, t1, rfl, _, .of (ge _ _ h2), _, atI_nat h3, t2, rfl, _, .of (ge _ _ h4'), _, atI_nat h5, small_line (by simp), fun p5 H5 n5 => ⟨rs, n5.g _ _ (ne.g _ _ e0), small1000 ?_, (ge.trans n5.g).wr n0.nil _, rs ++ [.ref p5], upd_same, ls ++ [stepOf m k x y], ?_, bI.put ex ey kk hin⟩⟩
          · have := SS.Paired.len pr0
            have := bI.len
            omega
          · have tsA : TupS H' (upd H5 p0 (.lst (rs ++ [.ref p5]))) := (ne.g.trans n5.g).tups.trans (TupS.wr (n5.g _ _ (ne.g _ _ e0)) _)
            refine SM.Paired.snoc (L2.Paired.mapP pr0 fun _ _ z => z.ts tsA) ⟨p5, rfl, TupS.wr (n5.g _ _ (ne.g _ _ e0)) _ _ _ ?_⟩
            rw [n5.at']
            show some (HO.tup [_, _, _, _, _]) = some (HO.tup [_, _, _, _, _])
            rw [show (1 : Int) + (x.2.1 : Int) + (y.2.1 : Int) = ((1 + x.2.1 + y.2.1 : Nat) : Int) by omega]
      · rintro σ H' ⟨g, v6, v7, rfl, rs, ls, e0, pr0, bI⟩
        simp only [exists_eq', rEqI, rNeI, rInDc, rLenD, rLenT, rDictOf, rMaxL, rIndex, rCatTN, rCatTE, tDNewN, tDNewTN, tDisp1T, rNeM, rRange2, rListRng, rRepN, rPopAt, rSetL, gSub, ipI, tDGet, tDGet2, sDPut, iEnum, iEZ, iZipL, tDGetJ, rInJ, sDPutJ, tDGet2J, tDisp1J, iDict, iEnumT, rSortJ, rMinT, rMinL, tRaise, tTryX, iZip, rInD, rIxD, rLen, rAll, rAny, rSum, rListOf, rEqS, rNeS, rSlTN, rStrB, tTupN, tLstN, rSlLN, rCatN, cxK, cxP, cxW, tSeq, tIfS, tTest, tB, tOp, tUn, tC, tAnd, tOr, tNot, tAndV, tOrV, tNotV, tIf, tNext, tBreak, tCont, tDrop, tRet, tRetN, gName, gNil, gCons, gTup, tAsg, tPar, tAug, rI, rI0, rU, rEq, rNe, tChain, tNil, tCons, tTup, tLst, tCall, tCB, tNoPart, tPart, tSl, rSlT, rSlL, rSlS, rIxL, rIxT, rIxS, rIn, tBM0, tBM, tyV, rAppend, rExtend, rCat, rZfill, rEqD, iList, iTup, iStr, iRng1, iRng2, tYes, tDisp, tPairs, rd_v0, rd_vS, rd_comp, rd_for, rd_ite_t, rd_ite_f, List.set_cons_zero, List.set_cons_succ, List.nil_append, List.cons_append, List.append_nil, V.int.injEq, V.str.injEq, V.bl.injEq, V.ref.injEq, V.ty.injEq, List.cons.injEq, and_true, true_and, exists_eq_left, exists_eq_left', exists_and_left, exists_eq, exists_const, if_true, if_false, ite_true, ite_false, rd_ss, rd_si, rd_is, rd_ii, rd_bb, Option.some.injEq, exists_eq_right, exists_eq_right', and_assoc, reduceCtorEq, false_and, and_false, false_or, or_false, exists_false]
        rw [lts] at bI
        exact ⟨g, rs, e0, ls, pr0, bI.row h4⟩
    · rintro σ H' ⟨g, v4, v5, v6, v7, rfl, rs, ls, e0, pr0, bI⟩
      simp only [exists_eq', rEqI, rNeI, rInDc, rLenD, rLenT, rDictOf, rMaxL, rIndex, rCatTN, rCatTE, tDNewN, tDNewTN, tDisp1T, rNeM, rRange2, rListRng, rRepN, rPopAt, rSetL, gSub, ipI, tDGet, tDGet2, sDPut, iEnum, iEZ, iZipL, tDGetJ, rInJ, sDPutJ, tDGet2J, tDisp1J, iDict, iEnumT, rSortJ, rMinT, rMinL, tRaise, tTryX, iZip, rInD, rIxD, rLen, rAll, rAny, rSum, rListOf, rEqS, rNeS, rSlTN, rStrB, tTupN, tLstN, rSlLN, rCatN, cxK, cxP, cxW, tSeq, tIfS, tTest, tB, tOp, tUn, tC, tAnd, tOr, tNot, tAndV, tOrV, tNotV, tIf, tNext, tBreak, tCont, tDrop, tRet, tRetN, gName, gNil, gCons, gTup, tAsg, tPar, tAug, rI, rI0, rU, rEq, rNe, tChain, tNil, tCons, tTup, tLst, tCall, tCB, tNoPart, tPart, tSl, rSlT, rSlL, rSlS, rIxL, rIxT, rIxS, rIn, tBM0, tBM, tyV, rAppend, rExtend, rCat, rZfill, rEqD, iList, iTup, iStr, iRng1, iRng2, tYes, tDisp, tPairs, rd_v0, rd_vS, rd_comp, rd_for, rd_ite_t, rd_ite_f, List.set_cons_zero, List.set_cons_succ, List.nil_append, List.cons_append, List.append_nil, V.int.injEq, V.str.injEq, V.bl.injEq, V.ref.injEq, V.ty.injEq, List.cons.injEq, and_true, true_and, exists_eq_left, exists_eq_left', exists_and_left, exists_eq, exists_const, if_true, if_false, ite_true, ite_false, rd_ss, rd_si, rd_is, rd_ii, rd_bb, Option.some.injEq, exists_eq_right, exists_eq_right', and_assoc, reduceCtorEq, false_and, and_false, false_or, or_false, exists_false]
      rw [hlen] at bI
      exact ⟨g, rs, e0, ls, pr0, bI.out h9⟩
  · rintro σ H' ⟨g, v3, v4, v5, v6, v7, rfl, rs, ls, e0, pr0, bI⟩
    simp only [exists_eq', rEqI, rNeI, rInDc, rLenD, rLenT, rDictOf, rMaxL, rIndex, rCatTN, rCatTE, tDNewN, tDNewTN, tDisp1T, rNeM, rRange2, rListRng, rRepN, rPopAt, rSetL, gSub, ipI, tDGet, tDGet2, sDPut, iEnum, iEZ, iZipL, tDGetJ, rInJ, sDPutJ, tDGet2J, tDisp1J, iDict, iEnumT, rSortJ, rMinT, rMinL, tRaise, tTryX, iZip, rInD, rIxD, rLen, rAll, rAny, rSum, rListOf, rEqS, rNeS, rSlTN, rStrB, tTupN, tLstN, rSlLN, rCatN, cxK, cxP, cxW, tSeq, tIfS, tTest, tB, tOp, tUn, tC, tAnd, tOr, tNot, tAndV, tOrV, tNotV, tIf, tNext, tBreak, tCont, tDrop, tRet, tRetN, gName, gNil, gCons, gTup, tAsg, tPar, tAug, rI, rI0, rU, rEq, rNe, tChain, tNil, tCons, tTup, tLst, tCall, tCB, tNoPart, tPart, tSl, rSlT, rSlL, rSlS, rIxL, rIxT, rIxS, rIn, tBM0, tBM, tyV, rAppend, rExtend, rCat, rZfill, rEqD, iList, iTup, iStr, iRng1, iRng2, tYes, tDisp, tPairs, rd_v0, rd_vS, rd_comp, rd_for, rd_ite_t, rd_ite_f, List.set_cons_zero, List.set_cons_succ, List.nil_append, List.cons_append, List.append_nil, V.int.injEq, V.str.injEq, V.bl.injEq, V.ref.injEq, V.ty.injEq, List.cons.injEq, and_true, true_and, exists_eq_left, exists_eq_left', exists_and_left, exists_eq, exists_const, if_true, if_false, ite_true, ite_false, rd_ss, rd_si, rd_is, rd_ii, rd_bb, Option.some.injEq, exists_eq_right, exists_eq_right', and_assoc, reduceCtorEq, false_and, and_false, false_or, or_false, exists_false]
    rw [hlen] at bI
    exact q _ rs ls H' g e0 pr0 bI.ok fun l a b hb => bI.whole hb
end
end K49
set_option Elab.async false
set_option linter.all false
set_option maxRecDepth 100000
set_option maxHeartbeats 4000000
set_option pp.deepTerms true
set_option pp.maxSteps 100000
namespace K49
open PySem PySem.Spec PyProof.Rows L2 SS SM
seal PE PT PW PA PS PSs
section
variable {P : Program} {w : World} {K : PySem.W.Frag} {mg : Str → Option Value} {base : Heap} {cTooGreat : Addr}
abbrev s_least_trees : Stmt := top 6
theorem sc_least_trees : FnScope ["machine", "least", "steps", "step"] ["machine"] (defScope s_least_trees) := ⟨rfl, rfl, rfl, by decide +kernel, rfl, by decide +kernel, by decide +kernel⟩
theorem ok_least (T : Txt K mg cTooGreat) (d : Dfn K mg "least_trees" s_least_trees ["machine"]) (C_steps_beyond : Cal P w K mg base 1 "steps_beyond" ["machine", "least"] (sp_beyond P w)) : Cal P w K mg base 2 "least_trees" ["machine"] (sp_least P w) := by
  refine d.cal sc_least_trees (fun vs H Q E h => ?_) (fun f cdv A outer s H vs Q E hr h => ?_)
  · obtain ⟨a, m, rfl, _⟩ := h
    rfl
  obtain ⟨a, m, rfl, rm, ok, hw, hn, q⟩ := h
  have hu := hu_at hr 8 (by decide)
  refine ⟨_, (pss_cons (ps_set (i := 1) sc_least_trees.nd rfl (Or.inl rfl) (pe_disp1J pe_int (pe_tupN (pa_c pe_int (pa_c pe_non pa_nil))))) (pss_cons (ps_set (i := 2) sc_least_trees.nd rfl (Or.inl rfl) (pe_callC C_steps_beyond hr (by omega) (by rfl) (pa_c (pv 0) (pa_c (pv 1) pa_nil)))) (pss_cons (ps_while PassesOwn.never (pt_truth (pv 2) (fun _ => rfl)) (pss_cons (ps_set (i := 3) sc_least_trees.nd rfl (Or.inl rfl) (pe_cB (call_min_tupsK K rfl hu) (by rfl) T.b_min (by rfl) (pa_c (pv 2) pa_nil))) (pss_cons (ps_dputJ (pv 1) (pe_ix (ix_tupK K) (pv 3) pe_int (fun _ _ => rfl)) (pe_tupN (pa_c (pe_ix (ix_tupK K) (pv 3) pe_int (fun _ _ => rfl)) (pa_c (pe_tupN (pa_c (pe_ix (ix_tupK K) (pv 3) pe_int (fun _ _ => rfl)) (pa_c (pe_ix (ix_tupK K) (pe_dgetJ (pv 1) (pe_ix (ix_tupK K) (pv 3) pe_int (fun _ _ => rfl)) (fun _ _ => rfl)) pe_int (fun _ _ => rfl)) (pa_c (pe_ix (ix_tupK K) (pe_dgetJ (pv 1) (pe_ix (ix_tupK K) (pv 3) pe_int (fun _ _ => rfl)) (fun _ _ => rfl)) pe_int (fun _ _ => rfl)) pa_nil)))) pa_nil))) rfl) (pss_one (ps_set (i := 2) sc_least_trees.nd rfl (Or.inl rfl) (pe_callC C_steps_beyond hr (by omega) (by rfl) (pa_c (pv 0) (pa_c (pv 1) pa_nil)))))))) (pss_one (ps_ret (pv 1)))))), ?_⟩
  refine rd_st [some (.ref a), none, none, none] rfl ?_
  simp only [exists_eq', rEqI, rNeI, rInDc, rLenD, rLenT, rDictOf, rMaxL, rIndex, rCatTN, rCatTE, tDNewN, tDNewTN, tDisp1T, rNeM, rRange2, rListRng, rRepN, rPopAt, rSetL, gSub, ipI, tDGet, tDGet2, sDPut, iEnum, iEZ, iZipL, tDGetJ, rInJ, sDPutJ, tDGet2J, tDisp1J, iDict, iEnumT, rSortJ, rMinT, rMinL, tRaise, tTryX, iZip, rInD, rIxD, rLen, rAll, rAny, rSum, rListOf, rEqS, rNeS, rSlTN, rStrB, tTupN, tLstN, rSlLN, rCatN, cxK, cxP, cxW, tSeq, tIfS, tTest, tB, tOp, tUn, tC, tAnd, tOr, tNot, tAndV, tOrV, tNotV, tIf, tNext, tBreak, tCont, tDrop, tRet, tRetN, gName, gNil, gCons, gTup, tAsg, tPar, tAug, rI, rI0, rU, rEq, rNe, tChain, tNil, tCons, tTup, tLst, tCall, tCB, tNoPart, tPart, tSl, rSlT, rSlL, rSlS, rIxL, rIxT, rIxS, rIn, tBM0, tBM, tyV, rAppend, rExtend, rCat, rZfill, rEqD, iList, iTup, iStr, iRng1, iRng2, tYes, tDisp, tPairs, rd_v0, rd_vS, rd_comp, rd_for, rd_ite_t, rd_ite_f, List.set_cons_zero, List.set_cons_succ, List.nil_append, List.cons_append, List.append_nil, V.int.injEq, V.str.injEq, V.bl.injEq, V.ref.injEq, V.ty.injEq, List.cons.injEq, and_true, true_and, exists_eq_left, exists_eq_left', exists_and_left, exists_eq, exists_const, if_true, if_false, ite_true, ite_false, rd_ss, rd_si, rd_is, rd_ii, rd_bb, Option.some.injEq, exists_eq_right, exists_eq_right', and_assoc, reduceCtorEq, false_and, and_false, false_or, or_false, exists_false]
  refine fun p ep H1 n1 => ⟨small_line (by simp), fun p1 H2 n2 => ⟨n2.g _ _ n1.at', fun ep' H3 e3 => ?_⟩⟩
  have g3 : Same H H3 := e3 ▸ (n1.g.trans n2.g).wr n1.nil _
  have at3 : H3 p = some (dJ P w p ep' [(0, .ref p1)]) := by rw [e3, upd_same]
  have pr3 : Paired (RowV H3) [((0 : Int), V.ref p1)] [((0, 0, .nil) : LRow)] := .cons ⟨rfl, p1, .non, rfl, by rw [e3]; exact TupS.wrJ (n2.g _ _ n1.at') _ _ _ n2.at', rfl⟩ .nil
  refine ⟨a, p, m, ep', _, _, rfl, rm.same g3, ok, hw, at3, pr3, (LeastI.start ok).nd, by simp, fun e he => (LeastI.start ok).room ok he, fun L rs ls H4 g4 e4 pr4 sok sall => ?_⟩
  refine ⟨fun k σ H' => Same H H' ∧ ∃ (L : Addr) (v3 : Option V) (ep : Nat) (kvs : List (Int × V)) (es : List LRow) (top : Nat) (rs : List V) (ls : List (List Int)), σ = [some (.ref a), some (.ref p), some (.ref L), v3] ∧ k = m.n - es.length ∧ H' p = some (dJ P w p ep kvs) ∧ Paired (RowV H') kvs es ∧ LeastI m es top ∧
    H' L = some (.lst rs) ∧ Paired (ILine H') rs ls ∧ (∀ x ∈ ls, ∃ l a b, Beyond m es l a b ∧ x = stepOf m l a b) ∧ (∀ l a b, Beyond m es l a b → stepOf m l a b ∈ ls), ⟨_, g3.trans g4, L, none, ep', _, _, 0, rs, ls, rfl, rfl, g4 _ _ at3, L2.Paired.mapP pr3 fun _ _ z => z.ts g4.tups, .start ok, e4, pr4, sok, sall⟩, ?_⟩
  rintro k σ H' ⟨g, L, v3, ep, kvs, es, top, rs, ls, rfl, rfl, eD, prk, lI, eL, prs, sok, sall⟩
  simp only [exists_eq', rEqI, rNeI, rInDc, rLenD, rLenT, rDictOf, rMaxL, rIndex, rCatTN, rCatTE, tDNewN, tDNewTN, tDisp1T, rNeM, rRange2, rListRng, rRepN, rPopAt, rSetL, gSub, ipI, tDGet, tDGet2, sDPut, iEnum, iEZ, iZipL, tDGetJ, rInJ, sDPutJ, tDGet2J, tDisp1J, iDict, iEnumT, rSortJ, rMinT, rMinL, tRaise, tTryX, iZip, rInD, rIxD, rLen, rAll, rAny, rSum, rListOf, rEqS, rNeS, rSlTN, rStrB, tTupN, tLstN, rSlLN, rCatN, cxK, cxP, cxW, tSeq, tIfS, tTest, tB, tOp, tUn, tC, tAnd, tOr, tNot, tAndV, tOrV, tNotV, tIf, tNext, tBreak, tCont, tDrop, tRet, tRetN, gName, gNil, gCons, gTup, tAsg, tPar, tAug, rI, rI0, rU, rEq, rNe, tChain, tNil, tCons, tTup, tLst, tCall, tCB, tNoPart, tPart, tSl, rSlT, rSlL, rSlS, rIxL, rIxT, rIxS, rIn, tBM0, tBM, tyV, rAppend, rExtend, rCat, rZfill, rEqD, iList, iTup, iStr, iRng1, iRng2, tYes, tDisp, tPairs, rd_v0, rd_vS, rd_comp, rd_for, rd_ite_t, rd_ite_f, List.set_cons_zero, List.set_cons_succ, List.nil_append, List.cons_append, List.append_nil, V.int.injEq, V.str.injEq, V.bl.injEq, V.ref.injEq, V.ty.injEq, List.cons.injEq, and_true, true_and, exists_eq_left, exists_eq_left', exists_and_left, exists_eq, exists_const, if_true, if_false, ite_true, ite_false, rd_ss, rd_si, rd_is, rd_ii, rd_bb, Option.some.injEq, exists_eq_right, exists_eq_right', and_assoc, reduceCtorEq, false_and, and_false, false_or, or_false, exists_false]
  have lsl := SS.Paired.len prs
  refine ⟨_, .inl ⟨rs, .of eL, rfl⟩, ?_⟩
  cases hls : ls with
  | nil =>
    obtain rfl : rs = [] := List.eq_nil_of_length_eq_zero (by rw [lsl, hls]; rfl)
    refine iteF (q p ep kvs es H' g eD prk ⟨⟨top, lI⟩, fun t r ht => lI.whole (fun l a b hb => ?_) ht⟩)
    have := sall l a b hb
    rw [hls] at this
    cases this
  | cons s0 ls0 =>
    obtain ⟨r0, rs0, rfl⟩ : ∃ r0 rs0, rs = r0 :: rs0 := by
      cases rs with
      | nil => rw [hls] at lsl; cases lsl
      | cons r0 rs0 => exact ⟨r0, rs0, rfl⟩
    refine iteT ?_
    refine ⟨_, fun _ _ z => z, r0 :: rs0, .of eL, ls, prs, 5, (fun l hl => ?_), by rw [hls]; exact Nat.succ_pos _, fun i v l hv hl hmin => ?_⟩
    · obtain ⟨_, _, _, _, rfl⟩ := sok l hl
      rfl
    have ml := List.mem_of_getElem? hl
    obtain ⟨lt, x, y, hB, rfl⟩ := sok l ml
    obtain ⟨pv, rfl, epv⟩ := paired_get prs hv hl
    have hB' := hB
    obtain ⟨hlt, hx, hy, hout⟩ := hB'
    obtain ⟨qx, ux, vx, hqx, tx⟩ := rows_at prk lI.nd x hx
    obtain ⟨qy, uy, vy, hqy, ty⟩ := rows_at prk lI.nd y hy
    have hst : LeastI m _ _ := lI.step hB fun l' a' b' hb' => by
      have := lex_hd (hmin _ (sall l' a' b' hb'))
      omega
    have hle := lI.len ok
    have hle' := hst.len ok
    rw [List.length_append, List.length_singleton] at hle'
    have lkv : kvs.length = es.length := SS.Paired.len prk
    refine ⟨pv, rfl, _, .of epv, _, atI_0, pv, rfl, _, .of epv, _, atI_nat (j := 2) rfl, pv, rfl, _, .of epv, _, atI_nat (j := 3) rfl, _, _, _, rfl, eD, _, vx, _, rfl, _, .of hqx, _, atI_nat (j := 1) rfl, pv, rfl, _, .of epv, _, atI_nat (j := 4) rfl, _, _, _, rfl, eD, _, vy, _, rfl, _, .of hqy, _, atI_nat (j := 1) rfl, small_line (by simp), fun p7 H7 n7 => ⟨small_line (by simp), fun p8 H8 n8 => ⟨pv, rfl, _, .of (n8.g _ _ (n7.g _ _ epv)), _, atI_nat (j := 1) rfl, _, _, _, rfl, n8.g _ _ (n7.g _ _ eD), small_line (by omega), fun ep9 H9 e9 => ?_⟩⟩⟩
    have tsA : TupS H8 H9 := e9 ▸ TupS.wrJ (n8.g _ _ (n7.g _ _ eD)) _
    have tsB : TupS H7 H9 := n8.g.tups.trans tsA
    have tsC : TupS H' H9 := n7.g.tups.trans tsB
    have g9 : Same H H9 := e9 ▸ (g.trans (n7.g.trans n8.g)).wr n1.nil _
    have pr9 : Paired (RowV H9) (putK kvs ((m.go lt x.1 y.1 : Nat) : Int) (.ref p8)) (es ++ [(m.go lt x.1 y.1, 1 + x.2.1 + y.2.1, .node lt x.2.2 y.2.2)]) := by
      rw [rows_put prk hout]
      exact SM.Paired.snoc (L2.Paired.mapP prk fun _ _ z => z.ts tsC) ⟨rfl, p8, .ref p7, rfl, tsA _ _ n8.at', p7, _, _, rfl, tsB _ _ n7.at', tx.ts tsC, ty.ts tsC⟩
    refine ⟨a, p, m, ep9, _, _, rfl, rm.same g9, ok, hw, by rw [e9, upd_same], pr9, hst.nd, by rw [List.length_append, List.length_singleton]; omega, fun e he => hst.room ok he, fun L rs ls H10 g10 e10 pr10 sok' sall' => ?_⟩
    exact ⟨_, by rw [List.length_append, List.length_singleton]; omega, g9.trans g10, L, _, rfl, ep9, _, _, rfl, g10 _ _ (by rw [e9, upd_same]), L2.Paired.mapP pr9 fun _ _ z => z.ts g10.tups, _, hst, rs, e10, ls, pr10, sok', sall'⟩
end
end K49
set_option Elab.async false
set_option linter.all false
set_option maxRecDepth 100000
set_option maxHeartbeats 4000000
set_option pp.deepTerms true
set_option pp.maxSteps 100000
namespace K49
open PySem PySem.Spec PyProof.Rows L2 SS SM
seal PE PT PW PA PS PSs PIfs
section
variable {P : Program} {w : World} {K : PySem.W.Frag} {mg : Str → Option Value} {base : Heap} {cTooGreat : Addr}
abbrev s_smallest : Stmt := top 7
theorem sc_smallest : FnScope ["machine", "least", "taken"] ["machine"] (defScope s_smallest) := ⟨rfl, rfl, rfl, by decide +kernel, rfl, by decide +kernel, by decide +kernel⟩
theorem ok_smallest (T : Txt K mg cTooGreat) (d : Dfn K mg "smallest" s_smallest ["machine"]) (C_least_trees : Cal P w K mg base 2 "least_trees" ["machine"] (sp_least P w)) : CalE P w K mg base 3 "smallest" ["machine"] (sp_smallest cTooGreat) := by
  refine d.calE sc_smallest (fun vs H Q E h => ?_) (fun f cdv A outer s H vs Q E hr h R => ?_)
  · obtain ⟨a, m, rfl, _⟩ := h
    rfl
  obtain ⟨a, m, rfl, rm, ok, hw, hn, q1, q2, q3, q4⟩ := h
  obtain ⟨b1, c1, ts1, ea, eb1, pr1, ec1⟩ := id rm
  refine ⟨_, (pss_cons (ps_set (i := 1) sc_smallest.nd rfl (Or.inr rfl) (pe_callC C_least_trees hr (by omega) (by rfl) (pa_c (pv 0) pa_nil))) (pss_cons (ps_setC (i := 2) sc_smallest.nd rfl (Or.inl rfl) ["room"] [(1, "least"), (0, "machine")] (CompOk.of rfl (by rfl) (by rfl)) (by rfl) (pi_dict (pv 1)) (fun _ _ _ _ _ => (pg_name (i := 0) (show List.Nodup (["room", "least", "machine"] : List Str) by decide +kernel) (by rfl) (Or.inl (by rfl)))) (fun _ _ _ _ _ => (pf_one (pt_val (pe_ix (ix_tupK K) (pe_ix (ix_tupK K) (pv 2) pe_int (fun _ _ => rfl)) (pv 0) (fun _ _ => rfl))))) (fun _ _ _ _ _ => (pe_dgetJK P w (pv 1) (pv 0) (fun _ _ => rfl)))) (pss_cons (ps_if (pt_not (pt_truth (pv 2) (fun _ => rfl))) (pss_one (ps_ret pe_non)) pss_nil) (pss_cons (ps_if (pt_cmpR op_gt (pe_ix (ix_tupK K) (pe_ix (ix_listK K) (pv 2) pe_int (fun _ _ => rfl)) pe_int (fun _ _ => rfl)) (pe_gl (by rfl) T.g_MOST_NODES) (nomark _)) (pss_one (ps_raiseK R rfl (by rfl) T.m_TooGreat T.x_TooGreat F.excBase_ValueError (pa_c pe_str pa_nil))) pss_nil) (pss_one (ps_ret (pe_ifExp (pt_cmpR op_isN (pe_ix (ix_tupK K) (pe_ix (ix_listK K) (pv 2) pe_int (fun _ _ => rfl)) pe_int (fun _ _ => rfl)) pe_non (nomark _)) (pe_tupN (pa_c pe_str pa_nil)) (pe_tupN (pa_c pe_str (pa_c (pe_ix (ix_tupK K) (pe_ix (ix_listK K) (pv 2) pe_int (fun _ _ => rfl)) pe_int (fun _ _ => rfl)) pa_nil)))))))))), ?_⟩
  refine rd_st [some (.ref a), none, none] rfl ?_
  simp only [exists_eq', rEqI, rNeI, rInDc, rLenD, rLenT, rDictOf, rMaxL, rIndex, rCatTN, rCatTE, tDNewN, tDNewTN, tDisp1T, rNeM, rRange2, rListRng, rRepN, rPopAt, rSetL, gSub, ipI, tDGet, tDGet2, sDPut, iEnum, iEZ, iZipL, tDGetJ, rInJ, sDPutJ, tDGet2J, tDisp1J, iDict, iEnumT, rSortJ, rMinT, rMinL, tRaise, tTryX, iZip, rInD, rIxD, rLen, rAll, rAny, rSum, rListOf, rEqS, rNeS, rSlTN, rStrB, tTupN, tLstN, rSlLN, rCatN, cxK, cxP, cxW, tSeq, tIfS, tTest, tB, tOp, tUn, tC, tAnd, tOr, tNot, tAndV, tOrV, tNotV, tIf, tNext, tBreak, tCont, tDrop, tRet, tRetN, gName, gNil, gCons, gTup, tAsg, tPar, tAug, rI, rI0, rU, rEq, rNe, tChain, tNil, tCons, tTup, tLst, tCall, tCB, tNoPart, tPart, tSl, rSlT, rSlL, rSlS, rIxL, rIxT, rIxS, rIn, tBM0, tBM, tyV, rAppend, rExtend, rCat, rZfill, rEqD, iList, iTup, iStr, iRng1, iRng2, tYes, tDisp, tPairs, rd_v0, rd_vS, rd_comp, rd_for, rd_ite_t, rd_ite_f, List.set_cons_zero, List.set_cons_succ, List.nil_append, List.cons_append, List.append_nil, V.int.injEq, V.str.injEq, V.bl.injEq, V.ref.injEq, V.ty.injEq, List.cons.injEq, and_true, true_and, exists_eq_left, exists_eq_left', exists_and_left, exists_eq, exists_const, if_true, if_false, ite_true, ite_false, rd_ss, rd_si, rd_is, rd_ii, rd_bb, Option.some.injEq, exists_eq_right, exists_eq_right', and_assoc, reduceCtorEq, false_and, and_false, false_or, or_false, exists_false]
  refine ⟨a, m, rfl, rm, ok, hw, hn, fun p ep kvs es H1 g1 eD prk aL => ⟨p, rfl, ep, kvs, eD, ?_⟩⟩
  obtain ⟨top, lI⟩ := aL.least
  have lkv : kvs.length = es.length := SS.Paired.len prk
  have len := lI.len ok
  refine cb_dict (fun D i ys σ H' => Same H1 H' ∧ (∃ v0 : Option V, σ = [v0, some (.ref p), some (.ref a)]) ∧ Paired (PairW H') ys ((es.take i).filter fun e => m.fin e.1)) (small_line (by omega)) (fun D hD => ⟨same_upd hD _, ⟨none, rfl⟩, .nil⟩) (fun D i ys σ H' _ _ _ z => z.1 _ _ eD) ?_ ?_
  · rintro D i ys σ H' k v hD hi hk hy hl ⟨g, ⟨v0, rfl⟩, pr⟩
    obtain ⟨e, ee, ⟨rfl : k = (e.1 : Int), _⟩⟩ := rows_keys prk hk
    have me := List.mem_of_getElem? ee
    obtain ⟨q, u, vq, hq, tv⟩ := rows_at prk lI.nd e me
    simp only [exists_eq', rEqI, rNeI, rInDc, rLenD, rLenT, rDictOf, rMaxL, rIndex, rCatTN, rCatTE, tDNewN, tDNewTN, tDisp1T, rNeM, rRange2, rListRng, rRepN, rPopAt, rSetL, gSub, ipI, tDGet, tDGet2, sDPut, iEnum, iEZ, iZipL, tDGetJ, rInJ, sDPutJ, tDGet2J, tDisp1J, iDict, iEnumT, rSortJ, rMinT, rMinL, tRaise, tTryX, iZip, rInD, rIxD, rLen, rAll, rAny, rSum, rListOf, rEqS, rNeS, rSlTN, rStrB, tTupN, tLstN, rSlLN, rCatN, cxK, cxP, cxW, tSeq, tIfS, tTest, tB, tOp, tUn, tC, tAnd, tOr, tNot, tAndV, tOrV, tNotV, tIf, tNext, tBreak, tCont, tDrop, tRet, tRetN, gName, gNil, gCons, gTup, tAsg, tPar, tAug, rI, rI0, rU, rEq, rNe, tChain, tNil, tCons, tTup, tLst, tCall, tCB, tNoPart, tPart, tSl, rSlT, rSlL, rSlS, rIxL, rIxT, rIxS, rIn, tBM0, tBM, tyV, rAppend, rExtend, rCat, rZfill, rEqD, iList, iTup, iStr, iRng1, iRng2, tYes, tDisp, tPairs, rd_v0, rd_vS, rd_comp, rd_for, rd_ite_t, rd_ite_f, List.set_cons_zero, List.set_cons_succ, List.nil_append, List.cons_append, List.append_nil, V.int.injEq, V.str.injEq, V.bl.injEq, V.ref.injEq, V.ty.injEq, List.cons.injEq, and_true, true_and, exists_eq_left, exists_eq_left', exists_and_left, exists_eq, exists_const, if_true, if_false, ite_true, ite_false, rd_ss, rd_si, rd_is, rd_ii, rd_bb, Option.some.injEq, exists_eq_right, exists_eq_right', and_assoc, reduceCtorEq, false_and, and_false, false_or, or_false, exists_false]
    refine ⟨_, .of ((g1.trans g) _ _ ea), _, atI_nat (j := 2) rfl, c1, rfl, _, .of ((g1.trans g) _ _ ec1), _, atI_nat (by rw [List.getElem?_map, Tm.fin_at (lI.room ok me)]; rfl), m.fin e.1, rfl, ?_⟩
    have tk : (es.take (i + 1)).filter (fun e => m.fin e.1) = (es.take i).filter (fun e => m.fin e.1) ++ [e].filter (fun e => m.fin e.1) := by rw [List.take_add_one, ee, Option.toList_some, List.filter_append]
    cases hf : m.fin e.1 with
    | true =>
      refine iteT ⟨_, _, g _ _ eD, _, vq, cstep (small_line (by omega)) hi hy hl ⟨g.wr hD _, ⟨_, rfl⟩, ?_⟩⟩
      rw [tk, List.filter_cons_of_pos (by exact hf), List.filter_nil]
      have ts : TupS H' (upd H' D (.lst (ys ++ [.ref q]))) := TupS.wr hy _
      exact SM.Paired.snoc (L2.Paired.mapP pr fun _ _ z => z.ts ts) (PairW.ts ⟨q, u, rfl, g _ _ hq, tv.same g⟩ ts)
    | false =>
      refine iteF (cskip hi hy hl ⟨g, ⟨_, rfl⟩, ?_⟩)
      rw [tk, List.filter_cons_of_neg (by rw [hf]; decide), List.filter_nil, List.append_nil]
      exact pr
  · rintro D ys σ H' hD hy hl ⟨g, ⟨v0, rfl⟩, pr⟩
    rw [lkv, List.take_of_length_le (Nat.le_refl _)] at pr
    have gg := g1.trans g
    refine ⟨_, .inl ⟨ys, .of hy, rfl⟩, ?_⟩
    cases hF : es.filter (fun e => m.fin e.1) with
    | nil =>
      rw [hF] at pr
      cases pr
      exact iteT (q1 (aL.none hF) H' gg)
    | cons e r =>
      rw [hF] at pr
      cases pr with
      | cons ph pt =>
        obtain ⟨q, u, rfl, hq, tv⟩ := ph
        obtain ⟨sm, hsz⟩ := aL.first ok hn hF
        refine iteF ⟨D, rfl, _, .of hy, _, atI_0, q, rfl, _, .of hq, _, atI_0, _, rfl, ?_⟩
        by_cases h100 : 100 < e.2.1
        · rw [decide_eq_true (by omega)]
          exact iteT ⟨small_line (by simp), fun x hx => q2 _ sm (by omega) x H' gg hx⟩
        · rw [decide_eq_false (by omega)]
          refine iteF ⟨D, rfl, _, .of hy, _, atI_0, q, rfl, _, .of hq, _, atI_nat (j := 1) rfl, ?_⟩
          cases ht : e.2.2 with
          | nil =>
            rw [ht] at tv
            obtain rfl : u = .non := tv
            rw [decide_eq_true rfl]
            exact iteT ⟨small_line (by simp), fun p2 H2 n2 => q3 _ sm (by rw [ht]; rfl) p2 H2 (gg.trans n2.g) n2.at'⟩
          | node l x y =>
            have tv' := tv
            rw [ht] at tv'
            obtain ⟨pp, va, vb, rfl, _⟩ := tv'
            rw [decide_eq_false (fun h => nomatch h)]
            exact iteF ⟨D, rfl, _, .of hy, _, atI_0, q, rfl, _, .of hq, _, atI_nat (j := 1) rfl, small_line (by simp), fun p2 H2 n2 => q4 _ sm (by rw [ht]; show 0 < 1 + x.size + y.size; omega) (by omega) p2 _ H2 (gg.trans n2.g) n2.at' (tv.same n2.g)⟩
end
end K49
set_option Elab.async false
set_option linter.all false
set_option maxRecDepth 100000
set_option maxHeartbeats 4000000
set_option pp.deepTerms true
set_option pp.maxSteps 100000
namespace K49
open PySem PySem.Spec PyProof.Rows L2 SS SM
seal PE PT PW PA PS PSs
section
variable {P : Program} {w : World} {K : PySem.W.Frag} {mg : Str → Option Value} {base : Heap} {cTooGreat : Addr}
abbrev s_law_cell_at : Stmt := top 9
theorem sc_law_cell_at : FnScope ["_law_script", "_law_k"] ["_law_script", "_law_k"] (defScope s_law_cell_at) := ⟨rfl, rfl, rfl, by decide +kernel, rfl, by decide +kernel, by decide +kernel⟩
theorem ok_cell (T : Txt K mg cTooGreat) (d : Dfn K mg "_law_cell_at" s_law_cell_at ["_law_script", "_law_k"]) : Cal P w K mg base 1 "_law_cell_at" ["_law_script", "_law_k"] (sp_cell K) := by
  refine d.cal sc_law_cell_at (fun vs H Q E h => ?_) (fun f cdv A outer s H vs Q E hr h => ?_)
  · obtain ⟨a, ns, k, rfl, _⟩ := h
    rfl
  obtain ⟨a, ns, k, rfl, hS, h0, q⟩ := h
  refine ⟨_, (pss_cons (ps_if (pt_cmpR op_lt (pv 1) (pe_cB (call_len_seqK K) (by rfl) T.b_len boot_len (pa_c (pv 0) pa_nil)) (nomark _)) (pss_one (ps_ret (pe_ix (ix_listK K) (pv 0) (pv 1) (fun _ _ => rfl)))) pss_nil) (pss_one (ps_ret pe_int))), ?_⟩
  refine rd_st [some (.ref a), some (.int k)] rfl ?_
  simp only [exists_eq', rEqI, rNeI, rInDc, rLenD, rLenT, rDictOf, rMaxL, rIndex, rCatTN, rCatTE, tDNewN, tDNewTN, tDisp1T, rNeM, rRange2, rListRng, rRepN, rPopAt, rSetL, gSub, ipI, tDGet, tDGet2, sDPut, iEnum, iEZ, iZipL, tDGetJ, rInJ, sDPutJ, tDGet2J, tDisp1J, iDict, iEnumT, rSortJ, rMinT, rMinL, tRaise, tTryX, iZip, rInD, rIxD, rLen, rAll, rAny, rSum, rListOf, rEqS, rNeS, rSlTN, rStrB, tTupN, tLstN, rSlLN, rCatN, cxK, cxP, cxW, tSeq, tIfS, tTest, tB, tOp, tUn, tC, tAnd, tOr, tNot, tAndV, tOrV, tNotV, tIf, tNext, tBreak, tCont, tDrop, tRet, tRetN, gName, gNil, gCons, gTup, tAsg, tPar, tAug, rI, rI0, rU, rEq, rNe, tChain, tNil, tCons, tTup, tLst, tCall, tCB, tNoPart, tPart, tSl, rSlT, rSlL, rSlS, rIxL, rIxT, rIxS, rIn, tBM0, tBM, tyV, rAppend, rExtend, rCat, rZfill, rEqD, iList, iTup, iStr, iRng1, iRng2, tYes, tDisp, tPairs, rd_v0, rd_vS, rd_comp, rd_for, rd_ite_t, rd_ite_f, List.set_cons_zero, List.set_cons_succ, List.nil_append, List.cons_append, List.append_nil, V.int.injEq, V.str.injEq, V.bl.injEq, V.ref.injEq, V.ty.injEq, List.cons.injEq, and_true, true_and, exists_eq_left, exists_eq_left', exists_and_left, exists_eq, exists_const, if_true, if_false, ite_true, ite_false, rd_ss, rd_si, rd_is, rd_ii, rd_bb, Option.some.injEq, exists_eq_right, exists_eq_right', and_assoc, reduceCtorEq, false_and, and_false, false_or, or_false, exists_false]
  refine ⟨_, .inl hS, ite2 (fun c => ?_) (fun _ => q 0)⟩
  have c' := of_decide_eq_true c
  rw [List.length_map] at c'
  have hk : k.toNat < ns.length := by omega
  have ek : k = ((k.toNat : Nat) : Int) := by omega
  have e : atI (ns.map V.int) ((k.toNat : Nat) : Int) = some (.int ns[k.toNat]) := atI_nat (by simp [hk])
  rw [← ek] at e
  exact ⟨_, hS, _, e, q _⟩
abbrev s_law_machine : Stmt := top 10
theorem sc_law_machine : FnScope ["_law_number", "_law_rooms", "_law_width", "_law_ways", "_law_letter", "_law_table", "_law_one", "_law_row", "_law_other", "_law_ends", "_law_room_here"] ["_law_number", "_law_rooms", "_law_width"] (defScope s_law_machine) := ⟨rfl, rfl, rfl, by decide +kernel, rfl, by decide +kernel, by decide +kernel⟩
theorem ok_machT (T : Txt K mg cTooGreat) (d : Dfn K mg "_law_machine" s_law_machine ["_law_number", "_law_rooms", "_law_width"]) : Cal P w K mg base 1 "_law_machine" ["_law_number", "_law_rooms", "_law_width"] sp_machT := by
  refine d.cal sc_law_machine (fun vs H Q E h => ?_) (fun f cdv A outer s H vs Q E hr h => ?_)
  · obtain ⟨x, n, wd, rfl, _⟩ := h
    rfl
  obtain ⟨x, n, wd, rfl, hw, hn1, hn, q⟩ := h
  have hps : 1 ≤ 2 ^ wd ∧ 2 ^ wd ≤ 16 := pow_small (by omega)
  have hat : atI [V.int 1, V.int 2, V.int 4, V.int 8] ((wd : Nat) : Int) = some (nV (2 ^ wd)) := by
    have : wd = 0 ∨ wd = 1 ∨ wd = 2 ∨ wd = 3 := by omega
    rcases this with rfl | rfl | rfl | rfl <;> exact atI_nat rfl
  refine ⟨_, (pss_cons (ps_set (i := 3) sc_law_machine.nd rfl (Or.inl rfl) (pe_lstN pa_nil)) (pss_cons (ps_for PassesOwn.never rfl (pi_range1 (by rfl) T.b_range (pa_c (pe_ix (ix_listK K) (pe_lstN (pa_c pe_int (pa_c pe_int (pa_c pe_int (pa_c pe_int pa_nil))))) (pv 2) (fun _ _ => rfl)) pa_nil)) (pg_name (i := 4) sc_law_machine.nd (by rfl) (Or.inl (by rfl))) (pss_cons (ps_set (i := 5) sc_law_machine.nd rfl (Or.inl rfl) (pe_lstN pa_nil)) (pss_cons (ps_for PassesOwn.never rfl (pi_range1 (by rfl) T.b_range (pa_c (pv 1) pa_nil)) (pg_name (i := 6) sc_law_machine.nd (by rfl) (Or.inl (by rfl))) (pss_cons (ps_set (i := 7) sc_law_machine.nd rfl (Or.inl rfl) (pe_lstN pa_nil)) (pss_cons (ps_for PassesOwn.never rfl (pi_range1 (by rfl) T.b_range (pa_c (pv 1) pa_nil)) (pg_name (i := 8) sc_law_machine.nd (by rfl) (Or.inl (by rfl))) (pss_cons (ps_set (i := 0) sc_law_machine.nd rfl (Or.inl rfl) (pe_op op_mod (pe_op op_add (pe_op op_add (pe_op op_add (pe_op op_add (pe_op op_mul (pv 0) pe_int) (pe_op op_mul pe_int (pv 4))) (pe_op op_mul pe_int (pv 6))) (pv 8)) pe_int) pe_int)) (pss_one (ps_expr (pe_bmK K PySem.F.plainAttrs_list PySem.F.slot_list_append PySem.F.type_list_append mt_append (pv 7) (pa_c (pe_op op_mod (pe_op op_fdiv (pv 0) pe_int) (pv 1)) pa_nil)))))) (pss_one (ps_expr (pe_bmK K PySem.F.plainAttrs_list PySem.F.slot_list_append PySem.F.type_list_append mt_append (pv 5) (pa_c (pe_cTy call_tuple_ofN (by rfl) T.b_tuple boot_tuple (pa_c (pv 7) pa_nil)) pa_nil))))))) (pss_one (ps_expr (pe_bmK K PySem.F.plainAttrs_list PySem.F.slot_list_append PySem.F.type_list_append mt_append (pv 3) (pa_c (pe_cTy call_tuple_ofN (by rfl) T.b_tuple boot_tuple (pa_c (pv 5) pa_nil)) pa_nil))))))) (pss_cons (ps_set (i := 9) sc_law_machine.nd rfl (Or.inl rfl) (pe_lstN pa_nil)) (pss_cons (ps_for PassesOwn.never rfl (pi_range1 (by rfl) T.b_range (pa_c (pv 1) pa_nil)) (pg_name (i := 10) sc_law_machine.nd (by rfl) (Or.inl (by rfl))) (pss_cons (ps_set (i := 0) sc_law_machine.nd rfl (Or.inl rfl) (pe_op op_mod (pe_op op_add (pe_op op_add (pe_op op_mul (pv 0) pe_int) (pv 10)) pe_int) pe_int)) (pss_one (ps_expr (pe_bmK K PySem.F.plainAttrs_list PySem.F.slot_list_append PySem.F.type_list_append mt_append (pv 9) (pa_c (pe_cmpR op_eq (pe_op op_mod (pe_op op_fdiv (pv 0) pe_int) pe_int) pe_int (nomark _)) pa_nil)))))) (pss_one (ps_ret (pe_tupN (pa_c (pv 2) (pa_c (pe_cTy call_tuple_ofN (by rfl) T.b_tuple boot_tuple (pa_c (pv 3) pa_nil)) (pa_c (pe_cTy call_tuple_ofN (by rfl) T.b_tuple boot_tuple (pa_c (pv 9) pa_nil)) pa_nil)))))))))), ?_⟩
  refine rd_st [some (.int x), some (nV n), some (nV wd), none, none, none, none, none, none, none, none] rfl ?_
  simp only [exists_eq', rEqI, rNeI, rInDc, rLenD, rLenT, rDictOf, rMaxL, rIndex, rCatTN, rCatTE, tDNewN, tDNewTN, tDisp1T, rNeM, rRange2, rListRng, rRepN, rPopAt, rSetL, gSub, ipI, tDGet, tDGet2, sDPut, iEnum, iEZ, iZipL, tDGetJ, rInJ, sDPutJ, tDGet2J, tDisp1J, iDict, iEnumT, rSortJ, rMinT, rMinL, tRaise, tTryX, iZip, rInD, rIxD, rLen, rAll, rAny, rSum, rListOf, rEqS, rNeS, rSlTN, rStrB, tTupN, tLstN, rSlLN, rCatN, cxK, cxP, cxW, tSeq, tIfS, tTest, tB, tOp, tUn, tC, tAnd, tOr, tNot, tAndV, tOrV, tNotV, tIf, tNext, tBreak, tCont, tDrop, tRet, tRetN, gName, gNil, gCons, gTup, tAsg, tPar, tAug, rI, rI0, rU, rEq, rNe, tChain, tNil, tCons, tTup, tLst, tCall, tCB, tNoPart, tPart, tSl, rSlT, rSlL, rSlS, rIxL, rIxT, rIxS, rIn, tBM0, tBM, tyV, rAppend, rExtend, rCat, rZfill, rEqD, iList, iTup, iStr, iRng1, iRng2, tYes, tDisp, tPairs, rd_v0, rd_vS, rd_comp, rd_for, rd_ite_t, rd_ite_f, List.set_cons_zero, List.set_cons_succ, List.nil_append, List.cons_append, List.append_nil, V.int.injEq, V.str.injEq, V.bl.injEq, V.ref.injEq, V.ty.injEq, List.cons.injEq, and_true, true_and, exists_eq_left, exists_eq_left', exists_and_left, exists_eq, exists_const, if_true, if_false, ite_true, ite_false, rd_ss, rd_si, rd_is, rd_ii, rd_bb, Option.some.injEq, exists_eq_right, exists_eq_right', and_assoc, reduceCtorEq, false_and, and_false, false_or, or_false, exists_false]
  refine ⟨by decide, fun p H1 n1 => ⟨small_line (by simp), fun pl H2 n2 => ⟨_, .of n2.at', _, hat, _, rfl, by omega, by omega, ?_⟩⟩⟩
  rw [show ((2 ^ wd : Nat) : Int).toNat = 2 ^ wd from rfl]
  refine fb_range (fun i σ H' => Same H H' ∧ (∃ v0 v4 v5 v6 v7 v8, σ = [some (.int v0), some (nV n), some (nV wd), some (.ref p), v4, v5, v6, v7, v8, none, none]) ∧
    ∃ rs tabs, H' p = some (.lst rs) ∧ Paired (Tab H') rs tabs ∧ tabs.length = i ∧ ∀ t ∈ tabs, t.length = n ∧ ∀ l ∈ t, l.length = n ∧ ∀ r ∈ l, r < n) ⟨n1.g.trans n2.g, ⟨x, none, none, none, none, none, rfl⟩, [], [], n2.g _ _ n1.at', .nil, rfl, fun _ h => (nomatch h)⟩ ?_ ?_
  · rintro i σ H' hi ⟨g, ⟨v0, v4, v5, v6, v7, v8, rfl⟩, rs, tabs, ep, pr, ll, hg⟩
    simp only [exists_eq', rEqI, rNeI, rInDc, rLenD, rLenT, rDictOf, rMaxL, rIndex, rCatTN, rCatTE, tDNewN, tDNewTN, tDisp1T, rNeM, rRange2, rListRng, rRepN, rPopAt, rSetL, gSub, ipI, tDGet, tDGet2, sDPut, iEnum, iEZ, iZipL, tDGetJ, rInJ, sDPutJ, tDGet2J, tDisp1J, iDict, iEnumT, rSortJ, rMinT, rMinL, tRaise, tTryX, iZip, rInD, rIxD, rLen, rAll, rAny, rSum, rListOf, rEqS, rNeS, rSlTN, rStrB, tTupN, tLstN, rSlLN, rCatN, cxK, cxP, cxW, tSeq, tIfS, tTest, tB, tOp, tUn, tC, tAnd, tOr, tNot, tAndV, tOrV, tNotV, tIf, tNext, tBreak, tCont, tDrop, tRet, tRetN, gName, gNil, gCons, gTup, tAsg, tPar, tAug, rI, rI0, rU, rEq, rNe, tChain, tNil, tCons, tTup, tLst, tCall, tCB, tNoPart, tPart, tSl, rSlT, rSlL, rSlS, rIxL, rIxT, rIxS, rIn, tBM0, tBM, tyV, rAppend, rExtend, rCat, rZfill, rEqD, iList, iTup, iStr, iRng1, iRng2, tYes, tDisp, tPairs, rd_v0, rd_vS, rd_comp, rd_for, rd_ite_t, rd_ite_f, List.set_cons_zero, List.set_cons_succ, List.nil_append, List.cons_append, List.append_nil, V.int.injEq, V.str.injEq, V.bl.injEq, V.ref.injEq, V.ty.injEq, List.cons.injEq, and_true, true_and, exists_eq_left, exists_eq_left', exists_and_left, exists_eq, exists_const, if_true, if_false, ite_true, ite_false, rd_ss, rd_si, rd_is, rd_ii, rd_bb, Option.some.injEq, exists_eq_right, exists_eq_right', and_assoc, reduceCtorEq, false_and, and_false, false_or, or_false, exists_false]
    refine ⟨by decide, fun p2 H2 n2 => ⟨by omega, by omega, ?_⟩⟩
    rw [show ((n : Nat) : Int).toNat = n from rfl]
    have ne2 : p ≠ p2 := ne_of_none ep n2.nil
    refine fb_range (fun j σ H'' => Same H H'' ∧ TupS H2 H'' ∧ (∃ v0 v6 v7 v8, σ = [some (.int v0), some (nV n), some (nV wd), some (.ref p), some (.int (0 + (i : Int))), some (.ref p2), v6, v7, v8, none, none]) ∧ H'' p = some (.lst rs) ∧
      ∃ rs2 lines, H'' p2 = some (.lst rs2) ∧ Paired (Line H'') rs2 lines ∧ lines.length = j ∧ ∀ l ∈ lines, l.length = n ∧ ∀ r ∈ l, r < n) ⟨g.trans n2.g, TupS.refl _, ⟨_, _, _, _, rfl⟩, n2.g _ _ ep, [], [], n2.at', .nil, rfl, fun _ h => (nomatch h)⟩ ?_ ?_
    · rintro j σ H'' hj ⟨g2, ts, ⟨v0, v6, v7, v8, rfl⟩, ep2, rs2, lines, e2, pr2, le, hr2⟩
      simp only [exists_eq', rEqI, rNeI, rInDc, rLenD, rLenT, rDictOf, rMaxL, rIndex, rCatTN, rCatTE, tDNewN, tDNewTN, tDisp1T, rNeM, rRange2, rListRng, rRepN, rPopAt, rSetL, gSub, ipI, tDGet, tDGet2, sDPut, iEnum, iEZ, iZipL, tDGetJ, rInJ, sDPutJ, tDGet2J, tDisp1J, iDict, iEnumT, rSortJ, rMinT, rMinL, tRaise, tTryX, iZip, rInD, rIxD, rLen, rAll, rAny, rSum, rListOf, rEqS, rNeS, rSlTN, rStrB, tTupN, tLstN, rSlLN, rCatN, cxK, cxP, cxW, tSeq, tIfS, tTest, tB, tOp, tUn, tC, tAnd, tOr, tNot, tAndV, tOrV, tNotV, tIf, tNext, tBreak, tCont, tDrop, tRet, tRetN, gName, gNil, gCons, gTup, tAsg, tPar, tAug, rI, rI0, rU, rEq, rNe, tChain, tNil, tCons, tTup, tLst, tCall, tCB, tNoPart, tPart, tSl, rSlT, rSlL, rSlS, rIxL, rIxT, rIxS, rIn, tBM0, tBM, tyV, rAppend, rExtend, rCat, rZfill, rEqD, iList, iTup, iStr, iRng1, iRng2, tYes, tDisp, tPairs, rd_v0, rd_vS, rd_comp, rd_for, rd_ite_t, rd_ite_f, List.set_cons_zero, List.set_cons_succ, List.nil_append, List.cons_append, List.append_nil, V.int.injEq, V.str.injEq, V.bl.injEq, V.ref.injEq, V.ty.injEq, List.cons.injEq, and_true, true_and, exists_eq_left, exists_eq_left', exists_and_left, exists_eq, exists_const, if_true, if_false, ite_true, ite_false, rd_ss, rd_si, rd_is, rd_ii, rd_bb, Option.some.injEq, exists_eq_right, exists_eq_right', and_assoc, reduceCtorEq, false_and, and_false, false_or, or_false, exists_false]
      refine ⟨by decide, fun p3 H3 n3 => ⟨by omega, by omega, ?_⟩⟩
      rw [show ((n : Nat) : Int).toNat = n from rfl]
      have ne3 : p ≠ p3 := ne_of_none ep2 n3.nil
      have ne4 : p2 ≠ p3 := ne_of_none e2 n3.nil
      refine fb_range (fun k σ H4 => Same H H4 ∧ TupS H3 H4 ∧ (∃ v0 v8, σ = [some (.int v0), some (nV n), some (nV wd), some (.ref p), some (.int (0 + (i : Int))), some (.ref p2), some (.int (0 + (j : Int))), some (.ref p3), v8, none, none]) ∧ H4 p = some (.lst rs) ∧ H4 p2 = some (.lst rs2) ∧
        ∃ ln : List Nat, H4 p3 = some (.lst (ln.map nV)) ∧ ln.length = k ∧ ∀ r ∈ ln, r < n) ⟨g2.trans n3.g, TupS.refl _, ⟨_, _, rfl⟩, n3.g _ _ ep2, n3.g _ _ e2, [], n3.at', rfl, fun _ h => (nomatch h)⟩ ?_ ?_
      · rintro k σ H4 hk ⟨g3, ts3, ⟨v0, v8, rfl⟩, ep3, ep32, ln, e3, lk, hr3⟩
        simp only [exists_eq', rEqI, rNeI, rInDc, rLenD, rLenT, rDictOf, rMaxL, rIndex, rCatTN, rCatTE, tDNewN, tDNewTN, tDisp1T, rNeM, rRange2, rListRng, rRepN, rPopAt, rSetL, gSub, ipI, tDGet, tDGet2, sDPut, iEnum, iEZ, iZipL, tDGetJ, rInJ, sDPutJ, tDGet2J, tDisp1J, iDict, iEnumT, rSortJ, rMinT, rMinL, tRaise, tTryX, iZip, rInD, rIxD, rLen, rAll, rAny, rSum, rListOf, rEqS, rNeS, rSlTN, rStrB, tTupN, tLstN, rSlLN, rCatN, cxK, cxP, cxW, tSeq, tIfS, tTest, tB, tOp, tUn, tC, tAnd, tOr, tNot, tAndV, tOrV, tNotV, tIf, tNext, tBreak, tCont, tDrop, tRet, tRetN, gName, gNil, gCons, gTup, tAsg, tPar, tAug, rI, rI0, rU, rEq, rNe, tChain, tNil, tCons, tTup, tLst, tCall, tCB, tNoPart, tPart, tSl, rSlT, rSlL, rSlS, rIxL, rIxT, rIxS, rIn, tBM0, tBM, tyV, rAppend, rExtend, rCat, rZfill, rEqD, iList, iTup, iStr, iRng1, iRng2, tYes, tDisp, tPairs, rd_v0, rd_vS, rd_comp, rd_for, rd_ite_t, rd_ite_f, List.set_cons_zero, List.set_cons_succ, List.nil_append, List.cons_append, List.append_nil, V.int.injEq, V.str.injEq, V.bl.injEq, V.ref.injEq, V.ty.injEq, List.cons.injEq, and_true, true_and, exists_eq_left, exists_eq_left', exists_and_left, exists_eq, exists_const, if_true, if_false, ite_true, ite_false, rd_ss, rd_si, rd_is, rd_ii, rd_bb, Option.some.injEq, exists_eq_right, exists_eq_right', and_assoc, reduceCtorEq, false_and, and_false, false_or, or_false, exists_false]
        refine ⟨.inr ⟨by decide, by decide⟩, .inl ⟨by decide, by decide⟩, .inl ⟨by decide, by decide⟩, by decide, .inl ⟨_, .of e3⟩, ⟨by decide, by decide⟩, by omega, _, e3, by rw [List.length_map]; exact small1000 (by omega), ?_⟩
        generalize (v0 * 48271 + 31 * (0 + (i : Int)) + 7 * (0 + (j : Int)) + (0 + (k : Int)) + 1) % 2147483629 / 64 = r
        have r0 := Int.emod_nonneg r (show (n : Int) ≠ 0 by omega)
        have r1 := Int.emod_lt_of_pos r (show (0 : Int) < (n : Int) by omega)
        refine ⟨g3.wr (g2.free n3.nil) _, ts3.trans (TupS.wr e3 _), by rw [upd_ne ne3]; exact ep3, by rw [upd_ne ne4]; exact ep32, ln ++ [(r % (n : Int)).toNat], ?_, by rw [List.length_append, List.length_singleton, lk], fun x hx => ?_⟩
        · rw [upd_same, List.map_append]
          have er : r % (n : Int) = (((r % (n : Int)).toNat : Nat) : Int) := by omega
          rw [er]
          rfl
        · rcases List.mem_append.mp hx with h | h
          · exact hr3 x h
          · rw [List.mem_singleton.mp h]; omega
      · rintro σ H4 ⟨g3, ts3, ⟨v0, v8, rfl⟩, ep3, ep32, ln, e3, lk, hr3⟩
        simp only [exists_eq', rEqI, rNeI, rInDc, rLenD, rLenT, rDictOf, rMaxL, rIndex, rCatTN, rCatTE, tDNewN, tDNewTN, tDisp1T, rNeM, rRange2, rListRng, rRepN, rPopAt, rSetL, gSub, ipI, tDGet, tDGet2, sDPut, iEnum, iEZ, iZipL, tDGetJ, rInJ, sDPutJ, tDGet2J, tDisp1J, iDict, iEnumT, rSortJ, rMinT, rMinL, tRaise, tTryX, iZip, rInD, rIxD, rLen, rAll, rAny, rSum, rListOf, rEqS, rNeS, rSlTN, rStrB, tTupN, tLstN, rSlLN, rCatN, cxK, cxP, cxW, tSeq, tIfS, tTest, tB, tOp, tUn, tC, tAnd, tOr, tNot, tAndV, tOrV, tNotV, tIf, tNext, tBreak, tCont, tDrop, tRet, tRetN, gName, gNil, gCons, gTup, tAsg, tPar, tAug, rI, rI0, rU, rEq, rNe, tChain, tNil, tCons, tTup, tLst, tCall, tCB, tNoPart, tPart, tSl, rSlT, rSlL, rSlS, rIxL, rIxT, rIxS, rIn, tBM0, tBM, tyV, rAppend, rExtend, rCat, rZfill, rEqD, iList, iTup, iStr, iRng1, iRng2, tYes, tDisp, tPairs, rd_v0, rd_vS, rd_comp, rd_for, rd_ite_t, rd_ite_f, List.set_cons_zero, List.set_cons_succ, List.nil_append, List.cons_append, List.append_nil, V.int.injEq, V.str.injEq, V.bl.injEq, V.ref.injEq, V.ty.injEq, List.cons.injEq, and_true, true_and, exists_eq_left, exists_eq_left', exists_and_left, exists_eq, exists_const, if_true, if_false, ite_true, ite_false, rd_ss, rd_si, rd_is, rd_ii, rd_bb, Option.some.injEq, exists_eq_right, exists_eq_right', and_assoc, reduceCtorEq, false_and, and_false, false_or, or_false, exists_false]
        refine ⟨.inl ⟨_, .of ep32⟩, _, .inl ⟨.of e3, fun t H5 n5 => ⟨_, n5.g _ _ ep32, ?_, ?_⟩⟩⟩
        · have := SS.Paired.len pr2
          exact small1000 (by omega)
        have tsA : TupS H'' (upd H5 p2 (.lst (rs2 ++ [.ref t]))) := (n3.g.tups.trans ts3).trans (n5.g.tups.trans (TupS.wr (n5.g _ _ ep32) _))
        refine ⟨(g3.trans n5.g).wr (g.free n2.nil) _, ts.trans tsA, by rw [upd_ne ne2]; exact n5.g _ _ ep3, rs2 ++ [.ref t], upd_same, lines ++ [ln], SM.Paired.snoc (L2.Paired.mapP pr2 fun _ _ z => z.ts tsA) ⟨t, rfl, TupS.wr (n5.g _ _ ep32) _ _ _ n5.at'⟩, by rw [List.length_append, List.length_singleton, le], fun l hl => ?_⟩
        rcases List.mem_append.mp hl with h | h
        · exact hr2 l h
        · rw [List.mem_singleton.mp h]
          exact ⟨lk, hr3⟩
    · rintro σ H'' ⟨g2, ts, ⟨v0, v6, v7, v8, rfl⟩, ep2, rs2, lines, e2, pr2, le, hr2⟩
      simp only [exists_eq', rEqI, rNeI, rInDc, rLenD, rLenT, rDictOf, rMaxL, rIndex, rCatTN, rCatTE, tDNewN, tDNewTN, tDisp1T, rNeM, rRange2, rListRng, rRepN, rPopAt, rSetL, gSub, ipI, tDGet, tDGet2, sDPut, iEnum, iEZ, iZipL, tDGetJ, rInJ, sDPutJ, tDGet2J, tDisp1J, iDict, iEnumT, rSortJ, rMinT, rMinL, tRaise, tTryX, iZip, rInD, rIxD, rLen, rAll, rAny, rSum, rListOf, rEqS, rNeS, rSlTN, rStrB, tTupN, tLstN, rSlLN, rCatN, cxK, cxP, cxW, tSeq, tIfS, tTest, tB, tOp, tUn, tC, tAnd, tOr, tNot, tAndV, tOrV, tNotV, tIf, tNext, tBreak, tCont, tDrop, tRet, tRetN, gName, gNil, gCons, gTup, tAsg, tPar, tAug, rI, rI0, rU, rEq, rNe, tChain, tNil, tCons, tTup, tLst, tCall, tCB, tNoPart, tPart, tSl, rSlT, rSlL, rSlS, rIxL, rIxT, rIxS, rIn, tBM0, tBM, tyV, rAppend, rExtend, rCat, rZfill, rEqD, iList, iTup, iStr, iRng1, iRng2, tYes, tDisp, tPairs, rd_v0, rd_vS, rd_comp, rd_for, rd_ite_t, rd_ite_f, List.set_cons_zero, List.set_cons_succ, List.nil_append, List.cons_append, List.append_nil, V.int.injEq, V.str.injEq, V.bl.injEq, V.ref.injEq, V.ty.injEq, List.cons.injEq, and_true, true_and, exists_eq_left, exists_eq_left', exists_and_left, exists_eq, exists_const, if_true, if_false, ite_true, ite_false, rd_ss, rd_si, rd_is, rd_ii, rd_bb, Option.some.injEq, exists_eq_right, exists_eq_right', and_assoc, reduceCtorEq, false_and, and_false, false_or, or_false, exists_false]
      refine ⟨.inl ⟨_, .of ep2⟩, _, .inl ⟨.of e2, fun t H5 n5 => ⟨_, n5.g _ _ ep2, ?_, ?_⟩⟩⟩
      · have := SS.Paired.len pr
        exact small1000 (by omega)
      have tsA : TupS H' (upd H5 p (.lst (rs ++ [.ref t]))) := (n2.g.tups.trans ts).trans (n5.g.tups.trans (TupS.wr (n5.g _ _ ep2) _))
      have tsB : TupS H'' (upd H5 p (.lst (rs ++ [.ref t]))) := n5.g.tups.trans (TupS.wr (n5.g _ _ ep2) _)
      refine ⟨(g2.trans n5.g).wr n1.nil _, rs ++ [.ref t], upd_same, tabs ++ [lines], SM.Paired.snoc (L2.Paired.mapP pr fun _ _ z => z.ts tsA) ⟨t, rs2, rfl, TupS.wr (n5.g _ _ ep2) _ _ _ n5.at', L2.Paired.mapP pr2 fun _ _ z => z.ts tsB⟩, by rw [List.length_append, List.length_singleton, ll], fun l hl => ?_⟩
      rcases List.mem_append.mp hl with h | h
      · exact hg l h
      · rw [List.mem_singleton.mp h]
        exact ⟨le, hr2⟩
  · rintro σ H' ⟨g, ⟨v0, v4, v5, v6, v7, v8, rfl⟩, rs, tabs, ep, pr, ll, hg⟩
    simp only [exists_eq', rEqI, rNeI, rInDc, rLenD, rLenT, rDictOf, rMaxL, rIndex, rCatTN, rCatTE, tDNewN, tDNewTN, tDisp1T, rNeM, rRange2, rListRng, rRepN, rPopAt, rSetL, gSub, ipI, tDGet, tDGet2, sDPut, iEnum, iEZ, iZipL, tDGetJ, rInJ, sDPutJ, tDGet2J, tDisp1J, iDict, iEnumT, rSortJ, rMinT, rMinL, tRaise, tTryX, iZip, rInD, rIxD, rLen, rAll, rAny, rSum, rListOf, rEqS, rNeS, rSlTN, rStrB, tTupN, tLstN, rSlLN, rCatN, cxK, cxP, cxW, tSeq, tIfS, tTest, tB, tOp, tUn, tC, tAnd, tOr, tNot, tAndV, tOrV, tNotV, tIf, tNext, tBreak, tCont, tDrop, tRet, tRetN, gName, gNil, gCons, gTup, tAsg, tPar, tAug, rI, rI0, rU, rEq, rNe, tChain, tNil, tCons, tTup, tLst, tCall, tCB, tNoPart, tPart, tSl, rSlT, rSlL, rSlS, rIxL, rIxT, rIxS, rIn, tBM0, tBM, tyV, rAppend, rExtend, rCat, rZfill, rEqD, iList, iTup, iStr, iRng1, iRng2, tYes, tDisp, tPairs, rd_v0, rd_vS, rd_comp, rd_for, rd_ite_t, rd_ite_f, List.set_cons_zero, List.set_cons_succ, List.nil_append, List.cons_append, List.append_nil, V.int.injEq, V.str.injEq, V.bl.injEq, V.ref.injEq, V.ty.injEq, List.cons.injEq, and_true, true_and, exists_eq_left, exists_eq_left', exists_and_left, exists_eq, exists_const, if_true, if_false, ite_true, ite_false, rd_ss, rd_si, rd_is, rd_ii, rd_bb, Option.some.injEq, exists_eq_right, exists_eq_right', and_assoc, reduceCtorEq, false_and, and_false, false_or, or_false, exists_false]
    refine ⟨by decide, fun p2 H2 n2 => ⟨by omega, by omega, ?_⟩⟩
    rw [show ((n : Nat) : Int).toNat = n from rfl]
    have ne2 : p ≠ p2 := ne_of_none ep n2.nil
    refine fb_range (fun j σ H'' => Same H H'' ∧ TupS H2 H'' ∧ (∃ v0 v10, σ = [some (.int v0), some (nV n), some (nV wd), some (.ref p), v4, v5, v6, v7, v8, some (.ref p2), v10]) ∧ H'' p = some (.lst rs) ∧
      ∃ bs : List Bool, H'' p2 = some (.lst (bs.map V.bl)) ∧ bs.length = j) ⟨g.trans n2.g, TupS.refl _, ⟨_, _, rfl⟩, n2.g _ _ ep, [], n2.at', rfl⟩ ?_ ?_
    · rintro j σ H'' hj ⟨g2, ts, ⟨v0, v10, rfl⟩, ep2, bs, e2, le⟩
      simp only [exists_eq', rEqI, rNeI, rInDc, rLenD, rLenT, rDictOf, rMaxL, rIndex, rCatTN, rCatTE, tDNewN, tDNewTN, tDisp1T, rNeM, rRange2, rListRng, rRepN, rPopAt, rSetL, gSub, ipI, tDGet, tDGet2, sDPut, iEnum, iEZ, iZipL, tDGetJ, rInJ, sDPutJ, tDGet2J, tDisp1J, iDict, iEnumT, rSortJ, rMinT, rMinL, tRaise, tTryX, iZip, rInD, rIxD, rLen, rAll, rAny, rSum, rListOf, rEqS, rNeS, rSlTN, rStrB, tTupN, tLstN, rSlLN, rCatN, cxK, cxP, cxW, tSeq, tIfS, tTest, tB, tOp, tUn, tC, tAnd, tOr, tNot, tAndV, tOrV, tNotV, tIf, tNext, tBreak, tCont, tDrop, tRet, tRetN, gName, gNil, gCons, gTup, tAsg, tPar, tAug, rI, rI0, rU, rEq, rNe, tChain, tNil, tCons, tTup, tLst, tCall, tCB, tNoPart, tPart, tSl, rSlT, rSlL, rSlS, rIxL, rIxT, rIxS, rIn, tBM0, tBM, tyV, rAppend, rExtend, rCat, rZfill, rEqD, iList, iTup, iStr, iRng1, iRng2, tYes, tDisp, tPairs, rd_v0, rd_vS, rd_comp, rd_for, rd_ite_t, rd_ite_f, List.set_cons_zero, List.set_cons_succ, List.nil_append, List.cons_append, List.append_nil, V.int.injEq, V.str.injEq, V.bl.injEq, V.ref.injEq, V.ty.injEq, List.cons.injEq, and_true, true_and, exists_eq_left, exists_eq_left', exists_and_left, exists_eq, exists_const, if_true, if_false, ite_true, ite_false, rd_ss, rd_si, rd_is, rd_ii, rd_bb, Option.some.injEq, exists_eq_right, exists_eq_right', and_assoc, reduceCtorEq, false_and, and_false, false_or, or_false, exists_false]
      refine ⟨.inr ⟨by decide, by decide⟩, by decide, .inl ⟨_, .of e2⟩, ⟨by decide, by decide⟩, by decide, _, e2, by rw [List.length_map]; exact small1000 (by omega), ?_⟩
      exact ⟨g2.wr (g.free n2.nil) _, ts.trans (TupS.wr e2 _), by rw [upd_ne ne2]; exact ep2, bs ++ [_], by rw [upd_same, List.map_append]; rfl, by rw [List.length_append, List.length_singleton, le]⟩
    · rintro σ H'' ⟨g2, ts, ⟨v0, v10, rfl⟩, ep2, bs, e2, le⟩
      simp only [exists_eq', rEqI, rNeI, rInDc, rLenD, rLenT, rDictOf, rMaxL, rIndex, rCatTN, rCatTE, tDNewN, tDNewTN, tDisp1T, rNeM, rRange2, rListRng, rRepN, rPopAt, rSetL, gSub, ipI, tDGet, tDGet2, sDPut, iEnum, iEZ, iZipL, tDGetJ, rInJ, sDPutJ, tDGet2J, tDisp1J, iDict, iEnumT, rSortJ, rMinT, rMinL, tRaise, tTryX, iZip, rInD, rIxD, rLen, rAll, rAny, rSum, rListOf, rEqS, rNeS, rSlTN, rStrB, tTupN, tLstN, rSlLN, rCatN, cxK, cxP, cxW, tSeq, tIfS, tTest, tB, tOp, tUn, tC, tAnd, tOr, tNot, tAndV, tOrV, tNotV, tIf, tNext, tBreak, tCont, tDrop, tRet, tRetN, gName, gNil, gCons, gTup, tAsg, tPar, tAug, rI, rI0, rU, rEq, rNe, tChain, tNil, tCons, tTup, tLst, tCall, tCB, tNoPart, tPart, tSl, rSlT, rSlL, rSlS, rIxL, rIxT, rIxS, rIn, tBM0, tBM, tyV, rAppend, rExtend, rCat, rZfill, rEqD, iList, iTup, iStr, iRng1, iRng2, tYes, tDisp, tPairs, rd_v0, rd_vS, rd_comp, rd_for, rd_ite_t, rd_ite_f, List.set_cons_zero, List.set_cons_succ, List.nil_append, List.cons_append, List.append_nil, V.int.injEq, V.str.injEq, V.bl.injEq, V.ref.injEq, V.ty.injEq, List.cons.injEq, and_true, true_and, exists_eq_left, exists_eq_left', exists_and_left, exists_eq, exists_const, if_true, if_false, ite_true, ite_false, rd_ss, rd_si, rd_is, rd_ii, rd_bb, Option.some.injEq, exists_eq_right, exists_eq_right', and_assoc, reduceCtorEq, false_and, and_false, false_or, or_false, exists_false]
      refine ⟨_, .inl ⟨.of ep2, fun t1 H4 n4 => ⟨_, .inl ⟨.of (n4.g _ _ e2), fun t2 H5 n5 => ⟨small_line (by simp), fun t3 H6 n6 => ?_⟩⟩⟩⟩⟩
      have gA : Same H'' H6 := n4.g.trans (n5.g.trans n6.g)
      refine q t3 ⟨wd, tabs, bs⟩ H6 (g2.trans gA) ⟨t1, t2, rs, n6.at', (n5.g.trans n6.g) _ _ n4.at', L2.Paired.mapP pr fun _ _ z => z.ts ((n2.g.tups.trans ts).trans gA.tups), n6.g _ _ n5.at'⟩ ⟨?_, ?_, ?_, ?_, ?_, ?_, ?_⟩ rfl le
      · exact hw
      · show 0 < bs.length; omega
      · show bs.length ≤ 30; omega
      · exact ll
      · intro t ht; show t.length = bs.length; rw [le]; exact (hg t ht).1
      · intro t ht l hl; show l.length = bs.length; rw [le]; exact ((hg t ht).2 l hl).1
      · intro t ht l hl r hr; show r < bs.length; rw [le]; exact ((hg t ht).2 l hl).2 r hr
abbrev s_law_room : Stmt := top 15
theorem sc_law_room : FnScope ["_law_machine_here", "_law_tree"] ["_law_machine_here", "_law_tree"] (defScope s_law_room) := ⟨rfl, rfl, rfl, by decide +kernel, rfl, by decide +kernel, by decide +kernel⟩
theorem ok_roomT (T : Txt K mg cTooGreat) (d : Dfn K mg "_law_room" s_law_room ["_law_machine_here", "_law_tree"]) : ∀ dd, Cal P w K mg base (1 + dd) "_law_room" ["_law_machine_here", "_law_tree"] (sp_roomT dd)
  | 0 => (d.never fun vs H Q E ⟨a, v, m, t, _, _, _, _, _, h, _⟩ => absurd h (Nat.not_lt_zero _)).mono (by omega)
  | dd + 1 => by
    have C_law_room := ok_roomT T d dd
    refine d.cal sc_law_room (fun vs H Q E h => ?_) (fun f cdv A outer s H vs Q E hr h => ?_)
    · obtain ⟨a, v, m, t, rfl, _⟩ := h
      rfl
    obtain ⟨a, v, m, t, rfl, rm, ok, tv, hl, hd, q⟩ := h
    change Room (1 + dd) _ at hr
    obtain ⟨b1, c1, ts, ea, eb, pr, ec⟩ := id rm
    refine ⟨_, (pss_cons (ps_if (pt_cmpR op_isN (pv 1) pe_non (nomark _)) (pss_one (ps_ret pe_int)) pss_nil) (pss_one (ps_ret (pe_ix (ix_tupK K) (pe_ix (ix_tupK K) (pe_ix (ix_tupK K) (pe_ix (ix_tupK K) (pv 0) pe_int (fun _ _ => rfl)) (pe_ix (ix_tupK K) (pv 1) pe_int (fun _ _ => rfl)) (fun _ _ => rfl)) (pe_callC C_law_room hr (by omega) (by rfl) (pa_c (pv 0) (pa_c (pe_ix (ix_tupK K) (pv 1) pe_int (fun _ _ => rfl)) pa_nil))) (fun _ _ => rfl)) (pe_callC C_law_room hr (by omega) (by rfl) (pa_c (pv 0) (pa_c (pe_ix (ix_tupK K) (pv 1) pe_int (fun _ _ => rfl)) pa_nil))) (fun _ _ => rfl))))), ?_⟩
    refine rd_st [some (.ref a), some v] rfl ?_
    simp only [exists_eq', rEqI, rNeI, rInDc, rLenD, rLenT, rDictOf, rMaxL, rIndex, rCatTN, rCatTE, tDNewN, tDNewTN, tDisp1T, rNeM, rRange2, rListRng, rRepN, rPopAt, rSetL, gSub, ipI, tDGet, tDGet2, sDPut, iEnum, iEZ, iZipL, tDGetJ, rInJ, sDPutJ, tDGet2J, tDisp1J, iDict, iEnumT, rSortJ, rMinT, rMinL, tRaise, tTryX, iZip, rInD, rIxD, rLen, rAll, rAny, rSum, rListOf, rEqS, rNeS, rSlTN, rStrB, tTupN, tLstN, rSlLN, rCatN, cxK, cxP, cxW, tSeq, tIfS, tTest, tB, tOp, tUn, tC, tAnd, tOr, tNot, tAndV, tOrV, tNotV, tIf, tNext, tBreak, tCont, tDrop, tRet, tRetN, gName, gNil, gCons, gTup, tAsg, tPar, tAug, rI, rI0, rU, rEq, rNe, tChain, tNil, tCons, tTup, tLst, tCall, tCB, tNoPart, tPart, tSl, rSlT, rSlL, rSlS, rIxL, rIxT, rIxS, rIn, tBM0, tBM, tyV, rAppend, rExtend, rCat, rZfill, rEqD, iList, iTup, iStr, iRng1, iRng2, tYes, tDisp, tPairs, rd_v0, rd_vS, rd_comp, rd_for, rd_ite_t, rd_ite_f, List.set_cons_zero, List.set_cons_succ, List.nil_append, List.cons_append, List.append_nil, V.int.injEq, V.str.injEq, V.bl.injEq, V.ref.injEq, V.ty.injEq, List.cons.injEq, and_true, true_and, exists_eq_left, exists_eq_left', exists_and_left, exists_eq, exists_const, if_true, if_false, ite_true, ite_false, rd_ss, rd_si, rd_is, rd_ii, rd_bb, Option.some.injEq, exists_eq_right, exists_eq_right', and_assoc, reduceCtorEq, false_and, and_false, false_or, or_false, exists_false]
    cases t with
    | nil =>
      obtain rfl : v = .non := tv
      rw [decide_eq_true rfl]
      exact iteT q
    | node l x y =>
      obtain ⟨p, va, vb, rfl, ep, ta, tb⟩ := tv
      have hx : x.depth < dd := by have : 1 + max x.depth y.depth < dd + 1 := hd; omega
      have hy : y.depth < dd := by have : 1 + max x.depth y.depth < dd + 1 := hd; omega
      obtain ⟨u1, u2, rs, ln, h1, h2, h3, h4, h5⟩ := RepT.row pr ok hl.1 (Tr.up_lt ok x hl.2.1) (Tr.up_lt ok y hl.2.2)
      rw [decide_eq_false (fun h => nomatch h)]
      exact iteF ⟨_, .of ea, _, atI_nat (j := 1) rfl, p, rfl, _, .of ep, _, atI_0, b1, rfl, _, _, rfl, .of eb, _, atI_nat h1, p, rfl, _, .of ep, _, atI_nat (j := 1) rfl, a, va, m, x, rfl, rm, ok, ta, hl.2.1, hx, u1, rfl, _, _, rfl, .of h2, _, atI_nat h3, p, rfl, _, .of ep, _, atI_nat (j := 2) rfl, a, vb, m, y, rfl, rm, ok, tb, hl.2.2, hy, u2, rfl, _, _, rfl, .of h4, _, atI_nat h5, q⟩
abbrev s_law_size : Stmt := top 13
theorem sc_law_size : FnScope ["_law_tree"] ["_law_tree"] (defScope s_law_size) := ⟨rfl, rfl, rfl, by decide +kernel, rfl, by decide +kernel, by decide +kernel⟩
theorem ok_sizeT (T : Txt K mg cTooGreat) (d : Dfn K mg "_law_size" s_law_size ["_law_tree"]) : ∀ dd, Cal P w K mg base (1 + dd) "_law_size" ["_law_tree"] (sp_sizeT dd)
  | 0 => (d.never fun vs H Q E ⟨v, t, _, _, h, _⟩ => absurd h (Nat.not_lt_zero _)).mono (by omega)
  | dd + 1 => by
    have C_law_size := ok_sizeT T d dd
    refine d.cal sc_law_size (fun vs H Q E h => ?_) (fun f cdv A outer s H vs Q E hr h => ?_)
    · obtain ⟨v, t, rfl, _⟩ := h
      rfl
    obtain ⟨v, t, rfl, tv, hd, q⟩ := h
    change Room (1 + dd) _ at hr
    refine ⟨_, (pss_cons (ps_if (pt_cmpR op_isN (pv 0) pe_non (nomark _)) (pss_one (ps_ret pe_int)) pss_nil) (pss_one (ps_ret (pe_op op_add (pe_op op_add pe_int (pe_callC C_law_size hr (by omega) (by rfl) (pa_c (pe_ix (ix_tupK K) (pv 0) pe_int (fun _ _ => rfl)) pa_nil))) (pe_callC C_law_size hr (by omega) (by rfl) (pa_c (pe_ix (ix_tupK K) (pv 0) pe_int (fun _ _ => rfl)) pa_nil)))))), ?_⟩
    refine rd_st [some v] rfl ?_
    simp only [exists_eq', rEqI, rNeI, rInDc, rLenD, rLenT, rDictOf, rMaxL, rIndex, rCatTN, rCatTE, tDNewN, tDNewTN, tDisp1T, rNeM, rRange2, rListRng, rRepN, rPopAt, rSetL, gSub, ipI, tDGet, tDGet2, sDPut, iEnum, iEZ, iZipL, tDGetJ, rInJ, sDPutJ, tDGet2J, tDisp1J, iDict, iEnumT, rSortJ, rMinT, rMinL, tRaise, tTryX, iZip, rInD, rIxD, rLen, rAll, rAny, rSum, rListOf, rEqS, rNeS, rSlTN, rStrB, tTupN, tLstN, rSlLN, rCatN, cxK, cxP, cxW, tSeq, tIfS, tTest, tB, tOp, tUn, tC, tAnd, tOr, tNot, tAndV, tOrV, tNotV, tIf, tNext, tBreak, tCont, tDrop, tRet, tRetN, gName, gNil, gCons, gTup, tAsg, tPar, tAug, rI, rI0, rU, rEq, rNe, tChain, tNil, tCons, tTup, tLst, tCall, tCB, tNoPart, tPart, tSl, rSlT, rSlL, rSlS, rIxL, rIxT, rIxS, rIn, tBM0, tBM, tyV, rAppend, rExtend, rCat, rZfill, rEqD, iList, iTup, iStr, iRng1, iRng2, tYes, tDisp, tPairs, rd_v0, rd_vS, rd_comp, rd_for, rd_ite_t, rd_ite_f, List.set_cons_zero, List.set_cons_succ, List.nil_append, List.cons_append, List.append_nil, V.int.injEq, V.str.injEq, V.bl.injEq, V.ref.injEq, V.ty.injEq, List.cons.injEq, and_true, true_and, exists_eq_left, exists_eq_left', exists_and_left, exists_eq, exists_const, if_true, if_false, ite_true, ite_false, rd_ss, rd_si, rd_is, rd_ii, rd_bb, Option.some.injEq, exists_eq_right, exists_eq_right', and_assoc, reduceCtorEq, false_and, and_false, false_or, or_false, exists_false]
    cases t with
    | nil =>
      obtain rfl : v = .non := tv
      rw [decide_eq_true rfl]
      exact iteT q
    | node l x y =>
      obtain ⟨p, va, vb, rfl, ep, ta, tb⟩ := tv
      have hx : x.depth < dd := by have : 1 + max x.depth y.depth < dd + 1 := hd; omega
      have hy : y.depth < dd := by have : 1 + max x.depth y.depth < dd + 1 := hd; omega
      rw [decide_eq_false (fun h => nomatch h)]
      refine iteF ⟨p, rfl, _, .of ep, _, atI_nat (j := 1) rfl, va, x, rfl, ta, hx, _, rfl, p, rfl, _, .of ep, _, atI_nat (j := 2) rfl, vb, y, rfl, tb, hy, _, rfl, ?_⟩
      rw [show (1 : Int) + (x.size : Int) + (y.size : Int) = ((1 + x.size + y.size : Nat) : Int) by omega]
      exact q
abbrev s_law_is_tree : Stmt := top 14
theorem sc_law_is_tree : FnScope ["_law_tree", "_law_letters"] ["_law_tree", "_law_letters"] (defScope s_law_is_tree) := ⟨rfl, rfl, rfl, by decide +kernel, rfl, by decide +kernel, by decide +kernel⟩
theorem ok_istree (T : Txt K mg cTooGreat) (d : Dfn K mg "_law_is_tree" s_law_is_tree ["_law_tree", "_law_letters"]) : ∀ dd, Cal P w K mg base (1 + dd) "_law_is_tree" ["_law_tree", "_law_letters"] (sp_istree dd)
  | 0 => (d.never fun vs H Q E ⟨v, t, L, _, _, _, h, _⟩ => absurd h (Nat.not_lt_zero _)).mono (by omega)
  | dd + 1 => by
    have C_law_is_tree := ok_istree T d dd
    refine d.cal sc_law_is_tree (fun vs H Q E h => ?_) (fun f cdv A outer s H vs Q E hr h => ?_)
    · obtain ⟨v, t, L, rfl, _⟩ := h
      rfl
    obtain ⟨v, t, L, rfl, tv, hl, hd, q⟩ := h
    change Room (1 + dd) _ at hr
    refine ⟨_, (pss_cons (ps_if (pt_cmpR op_isN (pv 0) pe_non (nomark _)) (pss_one (ps_ret pe_bl)) pss_nil) (pss_cons (ps_if (PW.pt (pw_or (pt_not (pt_val (pe_cB call_isk (by rfl) T.b_isinstance boot_isinstance (pa_c (pv 0) (pa_c (pe_bltn (v := .ty "tuple") (by rfl) T.b_tuple boot_tuple (by rfl)) pa_nil))))) (pw_or (pt_cmpR op_ne (pe_cB (call_len_seqK K) (by rfl) T.b_len boot_len (pa_c (pv 0) pa_nil)) pe_int (nomark _)) (pw_or (pt_not (pt_val (pe_cB call_isk (by rfl) T.b_isinstance boot_isinstance (pa_c (pe_ix (ix_tupK K) (pv 0) pe_int (fun _ _ => rfl)) (pa_c (pe_bltn (v := .ty "int") (by rfl) T.b_int boot_int (by rfl)) pa_nil))))) (pw_or1 (pt_val (pe_cB call_isk (by rfl) T.b_isinstance boot_isinstance (pa_c (pe_ix (ix_tupK K) (pv 0) pe_int (fun _ _ => rfl)) (pa_c (pe_bltn (v := .ty "bool") (by rfl) T.b_bool boot_bool (by rfl)) pa_nil))))))))) (pss_one (ps_ret pe_bl)) pss_nil) (pss_one (ps_ret (pe_and (pe_chain op_le op_lt pe_int (pe_ix (ix_tupK K) (pv 0) pe_int (fun _ _ => rfl)) (pv 1)) (pe_and (pe_callC C_law_is_tree hr (by omega) (by rfl) (pa_c (pe_ix (ix_tupK K) (pv 0) pe_int (fun _ _ => rfl)) (pa_c (pv 1) pa_nil))) (pe_one (pe_callC C_law_is_tree hr (by omega) (by rfl) (pa_c (pe_ix (ix_tupK K) (pv 0) pe_int (fun _ _ => rfl)) (pa_c (pv 1) pa_nil)))))))))), ?_⟩
    refine rd_st [some v, some (nV L)] rfl ?_
    simp only [exists_eq', rEqI, rNeI, rInDc, rLenD, rLenT, rDictOf, rMaxL, rIndex, rCatTN, rCatTE, tDNewN, tDNewTN, tDisp1T, rNeM, rRange2, rListRng, rRepN, rPopAt, rSetL, gSub, ipI, tDGet, tDGet2, sDPut, iEnum, iEZ, iZipL, tDGetJ, rInJ, sDPutJ, tDGet2J, tDisp1J, iDict, iEnumT, rSortJ, rMinT, rMinL, tRaise, tTryX, iZip, rInD, rIxD, rLen, rAll, rAny, rSum, rListOf, rEqS, rNeS, rSlTN, rStrB, tTupN, tLstN, rSlLN, rCatN, cxK, cxP, cxW, tSeq, tIfS, tTest, tB, tOp, tUn, tC, tAnd, tOr, tNot, tAndV, tOrV, tNotV, tIf, tNext, tBreak, tCont, tDrop, tRet, tRetN, gName, gNil, gCons, gTup, tAsg, tPar, tAug, rI, rI0, rU, rEq, rNe, tChain, tNil, tCons, tTup, tLst, tCall, tCB, tNoPart, tPart, tSl, rSlT, rSlL, rSlS, rIxL, rIxT, rIxS, rIn, tBM0, tBM, tyV, rAppend, rExtend, rCat, rZfill, rEqD, iList, iTup, iStr, iRng1, iRng2, tYes, tDisp, tPairs, rd_v0, rd_vS, rd_comp, rd_for, rd_ite_t, rd_ite_f, List.set_cons_zero, List.set_cons_succ, List.nil_append, List.cons_append, List.append_nil, V.int.injEq, V.str.injEq, V.bl.injEq, V.ref.injEq, V.ty.injEq, List.cons.injEq, and_true, true_and, exists_eq_left, exists_eq_left', exists_and_left, exists_eq, exists_const, if_true, if_false, ite_true, ite_false, rd_ss, rd_si, rd_is, rd_ii, rd_bb, Option.some.injEq, exists_eq_right, exists_eq_right', and_assoc, reduceCtorEq, false_and, and_false, false_or, or_false, exists_false]
    cases t with
    | nil =>
      obtain rfl : v = .non := tv
      rw [decide_eq_true rfl]
      exact iteT q
    | node l x y =>
      obtain ⟨p, va, vb, rfl, ep, ta, tb⟩ := tv
      have hx : x.depth < dd := by have : 1 + max x.depth y.depth < dd + 1 := hd; omega
      have hy : y.depth < dd := by have : 1 + max x.depth y.depth < dd + 1 := hd; omega
      rw [decide_eq_false (fun h => nomatch h)]
      refine iteF ⟨_, .tup ep, by decide, iteF ⟨p, rfl, _, .inr (.of ep), ?_⟩⟩
      rw [decide_eq_true (show (([nV l, va, vb].length : Nat) : Int) = 3 from rfl)]
      refine iteF ⟨p, rfl, _, .of ep, _, atI_0, _, .int _, by decide, iteF ⟨p, rfl, _, .of ep, _, atI_0, _, .int _, by decide, iteF ⟨p, rfl, _, .of ep, _, atI_0, _, rfl, ?_⟩⟩⟩
      rw [decide_eq_true (Int.natCast_nonneg l)]
      refine iteT ⟨_, rfl, ?_⟩
      rw [decide_eq_true (by exact Int.ofNat_lt.mpr hl.1)]
      exact iteT ⟨p, rfl, _, .of ep, _, atI_nat (j := 1) rfl, va, x, L, rfl, ta, hl.2.1, hx, true, rfl, iteT ⟨p, rfl, _, .of ep, _, atI_nat (j := 2) rfl, vb, y, L, rfl, tb, hl.2.2, hy, q⟩⟩
end
end K49
set_option Elab.async false
set_option linter.all false
set_option maxRecDepth 100000
set_option maxHeartbeats 4000000
set_option pp.deepTerms true
set_option pp.maxSteps 100000
namespace K49
open PySem PySem.Spec PyProof.Rows L2 SS SM
seal PE PT PW PA PS PSs
section
variable {P : Program} {w : World} {K : PySem.W.Frag} {mg : Str → Option Value} {base : Heap} {cTooGreat : Addr}
abbrev s_law_told : Stmt := top 16
theorem sc_law_told : FnScope ["_law_machine_here", "_law_word", "_law_found"] ["_law_machine_here"] (defScope s_law_told) := ⟨rfl, rfl, rfl, by decide +kernel, rfl, by decide +kernel, by decide +kernel⟩
theorem ok_told49 (T : Txt K mg cTooGreat) (d : Dfn K mg "_law_told" s_law_told ["_law_machine_here"]) (C_smallest : CalE P w K mg base 3 "smallest" ["machine"] (sp_smallest cTooGreat)) : Cal P w K mg base 4 "_law_told" ["_law_machine_here"] sp_told49 := by
  refine d.cal sc_law_told (fun vs H Q E h => ?_) (fun f cdv A outer s H vs Q E hr h => ?_)
  · obtain ⟨a, m, rfl, _⟩ := h
    rfl
  obtain ⟨a, m, rfl, rm, ok, hw, hn, q⟩ := h
  refine ⟨_, (pss_cons (ps_set (i := 1) sc_law_told.nd rfl (Or.inl rfl) pe_str) (pss_cons (ps_set (i := 2) sc_law_told.nd rfl (Or.inl rfl) pe_non) (pss_cons (ps_tryXC C_smallest hr (by omega) (by rfl) (pa_c (pv 0) pa_nil) (by rfl) T.m_TooGreat T.k_TooGreat rfl rfl rfl sc_law_told.nd (i := 2) rfl (Or.inl rfl) fun _ => (pss_one (ps_set (i := 1) sc_law_told.nd rfl (Or.inl rfl) pe_str))) (pss_one (ps_ret (pe_tupN (pa_c (pv 1) (pa_c (pv 2) pa_nil)))))))), ?_⟩
  refine rd_st [some (.ref a), none, none] rfl ?_
  simp only [exists_eq', rEqI, rNeI, rInDc, rLenD, rLenT, rDictOf, rMaxL, rIndex, rCatTN, rCatTE, tDNewN, tDNewTN, tDisp1T, rNeM, rRange2, rListRng, rRepN, rPopAt, rSetL, gSub, ipI, tDGet, tDGet2, sDPut, iEnum, iEZ, iZipL, tDGetJ, rInJ, sDPutJ, tDGet2J, tDisp1J, iDict, iEnumT, rSortJ, rMinT, rMinL, tRaise, tTryX, iZip, rInD, rIxD, rLen, rAll, rAny, rSum, rListOf, rEqS, rNeS, rSlTN, rStrB, tTupN, tLstN, rSlLN, rCatN, cxK, cxP, cxW, tSeq, tIfS, tTest, tB, tOp, tUn, tC, tAnd, tOr, tNot, tAndV, tOrV, tNotV, tIf, tNext, tBreak, tCont, tDrop, tRet, tRetN, gName, gNil, gCons, gTup, tAsg, tPar, tAug, rI, rI0, rU, rEq, rNe, tChain, tNil, tCons, tTup, tLst, tCall, tCB, tNoPart, tPart, tSl, rSlT, rSlL, rSlS, rIxL, rIxT, rIxS, rIn, tBM0, tBM, tyV, rAppend, rExtend, rCat, rZfill, rEqD, iList, iTup, iStr, iRng1, iRng2, tYes, tDisp, tPairs, rd_v0, rd_vS, rd_comp, rd_for, rd_ite_t, rd_ite_f, List.set_cons_zero, List.set_cons_succ, List.nil_append, List.cons_append, List.append_nil, V.int.injEq, V.str.injEq, V.bl.injEq, V.ref.injEq, V.ty.injEq, List.cons.injEq, and_true, true_and, exists_eq_left, exists_eq_left', exists_and_left, exists_eq, exists_const, if_true, if_false, ite_true, ite_false, rd_ss, rd_si, rd_is, rd_ii, rd_bb, Option.some.injEq, exists_eq_right, exists_eq_right', and_assoc, reduceCtorEq, false_and, and_false, false_or, or_false, exists_false]
  refine ⟨a, m, rfl, rm, ok, hw, hn, fun no H1 g1 => ⟨small_line (by simp), fun p H2 n2 => q p _ _ H2 (g1.trans n2.g) n2.at' (.inl ⟨rfl, rfl, no⟩)⟩, fun t st h100 e H1 g1 _ a' ea' => ⟨_, rfl, T.ms, fun H3 g3 => ⟨small_line (by simp), fun p H2 n2 => q p _ _ H2 (g1.trans (g3.trans n2.g)) n2.at' (.inr (.inl ⟨rfl, rfl, t, st, h100⟩))⟩⟩, ?_, ?_⟩
  · intro t st h0 p H1 g1 ep
    exact ⟨small_line (by simp), fun p2 H2 n2 => q p2 _ _ H2 (g1.trans n2.g) n2.at' (.inr (.inr (.inl ⟨rfl, p, t, rfl, n2.g _ _ ep, st, h0⟩)))⟩
  · intro t st h0 h100 p v H1 g1 ep tv
    exact ⟨small_line (by simp), fun p2 H2 n2 => q p2 _ _ H2 (g1.trans n2.g) n2.at' (.inr (.inr (.inr ⟨rfl, p, v, t, rfl, n2.g _ _ ep, tv.same n2.g, st, h0, h100⟩)))⟩
end
end K49
set_option Elab.async false
set_option linter.all false
set_option maxRecDepth 100000
namespace SM
structure SzI (m : Tm) (kv0 : List (Nat × Nat)) (b : Bool) (kv : List (Nat × Nat)) (i j k : Nat) : Prop where
  ok : SizeI m kv
  no : b = false → kv = kv0 ∧ ∀ l x y, l < 2 ^ m.w → x ∈ kv → y ∈ kv → (l < i ∨ l = i ∧ (x.1 < j ∨ x.1 = j ∧ y.1 < k)) → ∃ z ∈ kv, z.1 = m.go l x.1 y.1 ∧ z.2 ≤ x.2 + y.2 + 1
  yes : b = true → massS m.n kv < massS m.n kv0
section
variable {m : Tm} {kv0 kv : List (Nat × Nat)} {b : Bool} {i j k : Nat}
theorem SzI.start (h : SizeI m kv0) : SzI m kv0 false kv0 0 0 0 := ⟨h, fun _ => ⟨rfl, fun l x y _ _ _ z => by omega⟩, (fun z => nomatch z)⟩
theorem look_key {x : Nat × Nat} {r : Nat} (hx : x ∈ kv) (e : x.1 = r) (n : look kv r = none) : False := look_none.mp n (List.mem_map.mpr ⟨x, hx, e⟩)
theorem SzI.skip (h : SzI m kv0 b kv i j k) (n : look kv j = none ∨ look kv k = none) : SzI m kv0 b kv i j (k + 1) := by
  refine ⟨h.ok, fun z => ⟨(h.no z).1, fun l x y hl hx hy hd => ?_⟩, h.yes⟩
  by_cases e : l = i ∧ x.1 = j ∧ y.1 = k
  · rcases n with n | n
    · exact (look_key hx e.2.1 n).elim
    · exact (look_key hy e.2.2 n).elim
  · exact (h.no z).2 l x y hl hx hy (by omega)
theorem SzI.keep (h : SzI m kv0 b kv i j k) {u v : Nat} (hu : look kv j = some u) (hv : look kv k = some v) (hz : ¬ u + v + 1 < (look kv (m.go i j k)).getD (u + v + 1 + 1)) : SzI m kv0 b kv i j (k + 1) := by
  refine ⟨h.ok, fun z => ⟨(h.no z).1, fun l x y hl hx hy hd => ?_⟩, h.yes⟩
  by_cases e : l = i ∧ x.1 = j ∧ y.1 = k
  · obtain ⟨rfl, rfl, rfl⟩ := e
    have e1 := look_of h.ok.nd (show (x.1, x.2) ∈ kv from hx)
    have e2 := look_of h.ok.nd (show (y.1, y.2) ∈ kv from hy)
    rw [hu] at e1
    rw [hv] at e2
    cases e1
    cases e2
    cases e3 : look kv (m.go l x.1 y.1) with
    | none =>
      rw [e3] at hz
      exact absurd (Nat.lt_succ_self _) hz
    | some zv =>
      rw [e3] at hz
      exact ⟨_, look_mem e3, rfl, Nat.le_of_not_lt hz⟩
  · exact (h.no z).2 l x y hl hx hy (by omega)
theorem SzI.put (h : SzI m kv0 b kv i j k) (ok : m.Ok) (hi : i < 2 ^ m.w) {u v : Nat} (hu : look kv j = some u) (hv : look kv k = some v) (hz : u + v + 1 < (look kv (m.go i j k)).getD (u + v + 1 + 1)) : SzI m kv0 true (putS kv (m.go i j k) (u + v + 1)) i j (k + 1) := by
  have less : ∀ z ∈ kv, z.1 = m.go i j k → u + v + 1 < z.2 := fun z hzm ez => by
    have := look_of h.ok.nd (show (z.1, z.2) ∈ kv from hzm)
    rw [ez] at this
    rw [this] at hz
    exact hz
  have mu := look_mem hu
  have mv := look_mem hv
  have ms := h.ok.mass ok hi mu mv less
  refine ⟨h.ok.put hi mu mv less, (fun z => nomatch z), fun _ => ?_⟩
  cases hb : b with
  | false =>
    have := (h.no hb).1
    rw [← this]
    exact ms
  | true => exact Nat.lt_trans ms (h.yes hb)
theorem SzI.row (h : SzI m kv0 b kv i j m.n) (ok : m.Ok) : SzI m kv0 b kv i (j + 1) 0 :=
  ⟨h.ok, fun z => ⟨(h.no z).1, fun l x y hl hx hy hd => (h.no z).2 l x y hl hx hy (by have := h.ok.room ok hy; omega)⟩, h.yes⟩
theorem SzI.out (h : SzI m kv0 b kv i m.n 0) (ok : m.Ok) : SzI m kv0 b kv (i + 1) 0 0 :=
  ⟨h.ok, fun z => ⟨(h.no z).1, fun l x y hl hx hy hd => (h.no z).2 l x y hl hx hy (by have := h.ok.room ok hx; omega)⟩, h.yes⟩
theorem SzI.whole (h : SzI m kv0 false kv (2 ^ m.w) 0 0) : SizeC m kv := ⟨h.ok, fun l x y hl hx hy => (h.no rfl).2 l x y hl hx hy (.inl hl)⟩
end
structure EndI (m : Tm) (kv : List (Nat × Nat)) (ms : List Int) (i : Nat) (xs : List Int) : Prop where
  ok : ∀ M ∈ xs, ∃ e ∈ kv, m.fin e.1 = true ∧ M = (e.2 : Int)
  all : ∀ e ∈ kv, m.fin e.1 = true → ∀ j, j < i → ms[j]? = some (e.1 : Int) → (e.2 : Int) ∈ xs
section
variable {m : Tm} {kv : List (Nat × Nat)} {ms xs : List Int} {i : Nat}
theorem EndI.start : EndI m kv ms 0 [] := ⟨(fun _ h => nomatch h), fun _ _ _ j h => absurd h (Nat.not_lt_zero j)⟩
theorem EndI.put (h : EndI m kv ms i xs) (c : SizeC m kv) {e : Nat × Nat} (he : e ∈ kv) (hm : ms[i]? = some (e.1 : Int)) (hf : m.fin e.1 = true) : EndI m kv ms (i + 1) (xs ++ [(e.2 : Int)]) := by
  refine ⟨fun M hM => ?_, fun e' he' hf' j hj ej => ?_⟩
  · rcases List.mem_append.mp hM with h' | h'
    · exact h.ok M h'
    · exact ⟨e, he, hf, List.mem_singleton.mp h'⟩
  · by_cases z : j = i
    · subst z
      rw [hm] at ej
      have e1 : e.1 = e'.1 := Int.ofNat_inj.mp (Option.some.inj ej)
      have a1 := look_of c.ok.nd (show (e.1, e.2) ∈ kv from he)
      have a2 := look_of c.ok.nd (show (e'.1, e'.2) ∈ kv from he')
      rw [e1, a2] at a1
      rw [Option.some.inj a1]
      exact List.mem_append_right _ (List.mem_singleton.mpr rfl)
    · exact List.mem_append_left _ (h.all e' he' hf' j (by omega) ej)
theorem EndI.skip (h : EndI m kv ms i xs) {e : Nat × Nat} (hm : ms[i]? = some (e.1 : Int)) (hf : m.fin e.1 = false) : EndI m kv ms (i + 1) xs := by
  refine ⟨h.ok, fun e' he' hf' j hj ej => ?_⟩
  by_cases z : j = i
  · subst z
    rw [hm] at ej
    have e1 : e.1 = e'.1 := Int.ofNat_inj.mp (Option.some.inj ej)
    rw [← e1, hf] at hf'
    cases hf'
  · exact h.all e' he' hf' j (by omega) ej
theorem EndI.mem (h : EndI m kv ms ms.length xs) (keys : ∀ e ∈ kv, (e.1 : Int) ∈ ms) {e : Nat × Nat} (he : e ∈ kv) (hf : m.fin e.1 = true) : (e.2 : Int) ∈ xs := by
  obtain ⟨j, ej⟩ := List.getElem?_of_mem (keys e he)
  exact h.all e he hf j (List.getElem?_eq_some_iff.mp ej).1 ej
theorem EndI.none (h : EndI m kv ms ms.length xs) (c : SizeC m kv) (no : ∀ u : Tr, u.Let (2 ^ m.w) → m.fin (u.up 0 m.go) = false) : xs = [] := by
  cases xs with
  | nil => rfl
  | cons M r =>
    obtain ⟨e, he, hf, _⟩ := h.ok M List.mem_cons_self
    obtain ⟨t, ⟨t1, t2⟩, _⟩ := c.ok.ok e he
    have := no t t1
    rw [t2, hf] at this
    cases this
theorem EndI.le (h : EndI m kv ms ms.length xs) (c : SizeC m kv) (keys : ∀ e ∈ kv, (e.1 : Int) ∈ ms) {t : Tr} (st : Smallest m t) : ∃ M ∈ xs, M ≤ (t.size : Int) := by
  obtain ⟨z, hz, z1, z2⟩ := c.ok.least c.clo t _ ⟨st.lets, rfl⟩
  exact ⟨_, h.mem keys hz (by rw [z1]; exact st.fin), by omega⟩
theorem EndI.pos (h : EndI m kv ms ms.length xs) (c : SizeC m kv) (keys : ∀ e ∈ kv, (e.1 : Int) ∈ ms) {t : Tr} (st : Smallest m t) : 0 < xs.length := by
  obtain ⟨M, hM, _⟩ := h.le c keys st
  exact List.length_pos_of_mem hM
theorem EndI.min (h : EndI m kv ms ms.length xs) (c : SizeC m kv) (keys : ∀ e ∈ kv, (e.1 : Int) ∈ ms) {t : Tr} (st : Smallest m t) {M : Int} (hM : M ∈ xs) (least : ∀ a ∈ xs, M ≤ a) : M = (t.size : Int) := by
  obtain ⟨z, hz, z1⟩ := h.le c keys st
  have := least z hz
  obtain ⟨e, he, hf, rfl⟩ := h.ok M hM
  obtain ⟨u, ⟨u1, u2⟩, u3⟩ := c.ok.ok e he
  have := st.min u u1 (by rw [u2]; exact hf)
  omega
end
open PySem PySem.Spec PyProof.Rows L2 SS in
theorem rc_none {X : Cx} {H : Hp} {a b : Addr} {z : Str} {k : Nat} (ha : H a = some (.tup [.str z])) (hb : H b = some (.tup [.str z])) : RcOk X (k + 1) H (.ref a) (.ref b) true := by
  have r := rcok_tups (X := X) (k := k) (.of ha) (.of hb) (fun _ => true) fun j h1 h2 => by
    have e : ([V.str z] : List V)[j] = V.str z := by
      have : j = 0 := by simpa using h1
      subst this
      rfl
    rw [e]
    have z' := eqok_flat (X := X) (k := k) (H := H) (x := V.str z) (y := V.str z) rfl rfl
    rw [show eqV (V.str z) (V.str z) = true by simp [eqV]] at z'
    exact z'
  rw [all_range_true, show (([V.str z] : List V).length == ([V.str z] : List V).length) = true by simp, Bool.true_and] at r
  exact r
end SM
set_option Elab.async false
set_option linter.all false
set_option maxRecDepth 100000
set_option maxHeartbeats 4000000
set_option pp.deepTerms true
set_option pp.maxSteps 100000
namespace K49
open PySem PySem.Spec PyProof.Rows L2 SS SM
seal PE PT PW PA PS PSs
section
variable {P : Program} {w : World} {K : PySem.W.Frag} {mg : Str → Option Value} {base : Heap} {cTooGreat : Addr}
abbrev s_law_sizes : Stmt := top 12
theorem sc_law_sizes : FnScope ["_law_machine_here", "_law_sizes_here", "_law_changed", "_law_table", "_law_one", "_law_other", "_law_size_here"] ["_law_machine_here"] (defScope s_law_sizes) := ⟨rfl, rfl, rfl, by decide +kernel, rfl, by decide +kernel, by decide +kernel⟩
theorem ok_sizes49 (T : Txt K mg cTooGreat) (d : Dfn K mg "_law_sizes" s_law_sizes ["_law_machine_here"]) : Cal P w K mg base 1 "_law_sizes" ["_law_machine_here"] (sp_sizes49 P w) := by
  refine d.cal sc_law_sizes (fun vs H Q E h => ?_) (fun f cdv A outer s H vs Q E hr h => ?_)
  · obtain ⟨a, m, rfl, _⟩ := h
    rfl
  obtain ⟨a, m, rfl, ⟨b1, c1, ts1, ea, eb1, pr1, ec1⟩, ok, hw, hn, q⟩ := h
  refine ⟨_, (pss_cons (ps_set (i := 1) sc_law_sizes.nd rfl (Or.inl rfl) (pe_disp1J pe_int pe_int)) (pss_cons (ps_set (i := 2) sc_law_sizes.nd rfl (Or.inl rfl) pe_bl) (pss_cons (ps_while PassesOwn.never (pt_val (pv 2)) (pss_cons (ps_set (i := 2) sc_law_sizes.nd rfl (Or.inl rfl) pe_bl) (pss_one (ps_for PassesOwn.never rfl (pi_tupK K (pe_ix (ix_tupK K) (pv 0) pe_int (fun _ _ => rfl))) (pg_name (i := 3) sc_law_sizes.nd (by rfl) (Or.inl (by rfl))) (pss_one (ps_for PassesOwn.never rfl (pi_range1 (by rfl) T.b_range (pa_c (pe_cB (call_len_seqK K) (by rfl) T.b_len boot_len (pa_c (pv 3) pa_nil)) pa_nil)) (pg_name (i := 4) sc_law_sizes.nd (by rfl) (Or.inl (by rfl))) (pss_one (ps_for PassesOwn.never rfl (pi_range1 (by rfl) T.b_range (pa_c (pe_cB (call_len_seqK K) (by rfl) T.b_len boot_len (pa_c (pv 3) pa_nil)) pa_nil)) (pg_name (i := 5) sc_law_sizes.nd (by rfl) (Or.inl (by rfl))) (pss_one (ps_if (PW.pt (pw_and (pt_cmpR op_inJ (pv 4) (pv 1) (by with_unfolding_all rfl)) (pw_and1 (pt_cmpR op_inJ (pv 5) (pv 1) (by with_unfolding_all rfl))))) (pss_cons (ps_set (i := 6) sc_law_sizes.nd rfl (Or.inl rfl) (pe_op op_add (pe_op op_add (pe_dgetJ (pv 1) (pv 4) (fun _ _ => rfl)) (pe_dgetJ (pv 1) (pv 5) (fun _ _ => rfl))) pe_int)) (pss_one (ps_if (pt_cmpR op_gt (pe_dget2J (pv 1) (pe_ix (ix_tupK K) (pe_ix (ix_tupK K) (pv 3) (pv 4) (fun _ _ => rfl)) (pv 5) (fun _ _ => rfl)) (pe_op op_add (pv 6) pe_int) ⟨rfl, rfl, rfl, rfl⟩) (pv 6) (nomark _)) (pss_cons (ps_dputJ (pv 1) (pe_ix (ix_tupK K) (pe_ix (ix_tupK K) (pv 3) (pv 4) (fun _ _ => rfl)) (pv 5) (fun _ _ => rfl)) (pv 6) rfl) (pss_one (ps_set (i := 2) sc_law_sizes.nd rfl (Or.inl rfl) pe_bl))) pss_nil))) pss_nil)))))))))) (pss_one (ps_ret (pv 1)))))), ?_⟩
  refine rd_st [some (.ref a), none, none, none, none, none, none] rfl ?_
  simp only [exists_eq', rEqI, rNeI, rInDc, rLenD, rLenT, rDictOf, rMaxL, rIndex, rCatTN, rCatTE, tDNewN, tDNewTN, tDisp1T, rNeM, rRange2, rListRng, rRepN, rPopAt, rSetL, gSub, ipI, tDGet, tDGet2, sDPut, iEnum, iEZ, iZipL, tDGetJ, rInJ, sDPutJ, tDGet2J, tDisp1J, iDict, iEnumT, rSortJ, rMinT, rMinL, tRaise, tTryX, iZip, rInD, rIxD, rLen, rAll, rAny, rSum, rListOf, rEqS, rNeS, rSlTN, rStrB, tTupN, tLstN, rSlLN, rCatN, cxK, cxP, cxW, tSeq, tIfS, tTest, tB, tOp, tUn, tC, tAnd, tOr, tNot, tAndV, tOrV, tNotV, tIf, tNext, tBreak, tCont, tDrop, tRet, tRetN, gName, gNil, gCons, gTup, tAsg, tPar, tAug, rI, rI0, rU, rEq, rNe, tChain, tNil, tCons, tTup, tLst, tCall, tCB, tNoPart, tPart, tSl, rSlT, rSlL, rSlS, rIxL, rIxT, rIxS, rIn, tBM0, tBM, tyV, rAppend, rExtend, rCat, rZfill, rEqD, iList, iTup, iStr, iRng1, iRng2, tYes, tDisp, tPairs, rd_v0, rd_vS, rd_comp, rd_for, rd_ite_t, rd_ite_f, List.set_cons_zero, List.set_cons_succ, List.nil_append, List.cons_append, List.append_nil, V.int.injEq, V.str.injEq, V.bl.injEq, V.ref.injEq, V.ty.injEq, List.cons.injEq, and_true, true_and, exists_eq_left, exists_eq_left', exists_and_left, exists_eq, exists_const, if_true, if_false, ite_true, ite_false, rd_ss, rd_si, rd_is, rd_ii, rd_bb, Option.some.injEq, exists_eq_right, exists_eq_right', and_assoc, reduceCtorEq, false_and, and_false, false_or, or_false, exists_false]
  refine fun p ep H1 n1 => ⟨n1.at', fun ep1 H2 e2 => ?_⟩
  have g2 : Same H H2 := e2 ▸ n1.g.wr n1.nil _
  have at2 : H2 p = some (dJ P w p ep1 (kvJ [(0, 0)])) := by rw [e2, upd_same]; rfl
  have lts : ts1.length = 2 ^ m.w := (SS.Paired.len pr1).trans ok.len
  refine ⟨fun k σ H' => Same H H' ∧ ∃ (b : Bool) (v3 v4 v5 v6 : Option V) (ep : Nat) (kv : List (Nat × Nat)), σ = [some (.ref a), some (.ref p), some (.bl b), v3, v4, v5, v6] ∧ H' p = some (dJ P w p ep (kvJ kv)) ∧ SizeI m kv ∧ (b = false → SizeC m kv) ∧ k = massS m.n kv + b.toNat,
    ⟨_, g2, true, none, none, none, none, ep1, [(0, 0)], rfl, at2, .start ok, (fun z => nomatch z), rfl⟩, ?_⟩
  rintro k σ H' ⟨g, b, v3, v4, v5, v6, ep, kv, rfl, eD, sI, sC, rfl⟩
  simp only [exists_eq', rEqI, rNeI, rInDc, rLenD, rLenT, rDictOf, rMaxL, rIndex, rCatTN, rCatTE, tDNewN, tDNewTN, tDisp1T, rNeM, rRange2, rListRng, rRepN, rPopAt, rSetL, gSub, ipI, tDGet, tDGet2, sDPut, iEnum, iEZ, iZipL, tDGetJ, rInJ, sDPutJ, tDGet2J, tDisp1J, iDict, iEnumT, rSortJ, rMinT, rMinL, tRaise, tTryX, iZip, rInD, rIxD, rLen, rAll, rAny, rSum, rListOf, rEqS, rNeS, rSlTN, rStrB, tTupN, tLstN, rSlLN, rCatN, cxK, cxP, cxW, tSeq, tIfS, tTest, tB, tOp, tUn, tC, tAnd, tOr, tNot, tAndV, tOrV, tNotV, tIf, tNext, tBreak, tCont, tDrop, tRet, tRetN, gName, gNil, gCons, gTup, tAsg, tPar, tAug, rI, rI0, rU, rEq, rNe, tChain, tNil, tCons, tTup, tLst, tCall, tCB, tNoPart, tPart, tSl, rSlT, rSlL, rSlS, rIxL, rIxT, rIxS, rIn, tBM0, tBM, tyV, rAppend, rExtend, rCat, rZfill, rEqD, iList, iTup, iStr, iRng1, iRng2, tYes, tDisp, tPairs, rd_v0, rd_vS, rd_comp, rd_for, rd_ite_t, rd_ite_f, List.set_cons_zero, List.set_cons_succ, List.nil_append, List.cons_append, List.append_nil, V.int.injEq, V.str.injEq, V.bl.injEq, V.ref.injEq, V.ty.injEq, List.cons.injEq, and_true, true_and, exists_eq_left, exists_eq_left', exists_and_left, exists_eq, exists_const, if_true, if_false, ite_true, ite_false, rd_ss, rd_si, rd_is, rd_ii, rd_bb, Option.some.injEq, exists_eq_right, exists_eq_right', and_assoc, reduceCtorEq, false_and, and_false, false_or, or_false, exists_false]
  cases b with
  | false => exact iteF (q p ep kv H' g eD (sC rfl))
  | true =>
    refine iteT ⟨fun σ' H'' => Same H H'' ∧ ∃ (b : Bool) (v3 v4 v5 v6 : Option V) (ep : Nat) (kv' : List (Nat × Nat)), σ' = [some (.ref a), some (.ref p), some (.bl b), v3, v4, v5, v6] ∧ H'' p = some (dJ P w p ep (kvJ kv')) ∧ SzI m kv b kv' (2 ^ m.w) 0 0, ?_, ?_⟩
    · rintro σ' H'' ⟨g', b, v3, v4, v5, v6, ep, kv', rfl, eD', sz⟩
      refine ⟨_, ?_, g', b, v3, v4, v5, v6, rfl, ep, kv', eD', sz.ok, fun z => ?_, rfl⟩
      · cases b with
        | false => rw [(sz.no rfl).1]; exact Nat.lt_succ_self _
        | true => exact Nat.succ_lt_succ (sz.yes rfl)
      · subst z
        exact sz.whole
    · refine ⟨_, .of (g _ _ ea), _, atI_nat (j := 1) rfl, b1, rfl, ⟨_, .of (g _ _ eb1)⟩, ?_⟩
      refine fb_tup (K := K) (a := b1) (xs := ts1) (fun i σ H' => Same H H' ∧ ∃ (b : Bool) (v3 v4 v5 v6 : Option V) (ep : Nat) (kv' : List (Nat × Nat)), σ = [some (.ref a), some (.ref p), some (.bl b), v3, v4, v5, v6] ∧ H' p = some (dJ P w p ep (kvJ kv')) ∧ SzI m kv b kv' i 0 0) ⟨g, false, v3, v4, v5, v6, ep, kv, rfl, eD, .start sI⟩ (fun i σ H' _ z => .of (z.1 _ _ eb1)) ?_ ?_
      · rintro i u σ H1 hu ⟨g, b, v3, v4, v5, v6, ep, kv', rfl, eD, sz⟩
        obtain ⟨t, et, tq, rs, rfl, etq, prt⟩ := SS.Paired.at pr1 hu
        have ii : i < 2 ^ m.w := lts ▸ (List.getElem?_eq_some_iff.mp hu).1
        have hrs : rs.length = m.n := (SS.Paired.len prt).trans (ok.tab t (List.mem_of_getElem? et))
        simp only [exists_eq', rEqI, rNeI, rInDc, rLenD, rLenT, rDictOf, rMaxL, rIndex, rCatTN, rCatTE, tDNewN, tDNewTN, tDisp1T, rNeM, rRange2, rListRng, rRepN, rPopAt, rSetL, gSub, ipI, tDGet, tDGet2, sDPut, iEnum, iEZ, iZipL, tDGetJ, rInJ, sDPutJ, tDGet2J, tDisp1J, iDict, iEnumT, rSortJ, rMinT, rMinL, tRaise, tTryX, iZip, rInD, rIxD, rLen, rAll, rAny, rSum, rListOf, rEqS, rNeS, rSlTN, rStrB, tTupN, tLstN, rSlLN, rCatN, cxK, cxP, cxW, tSeq, tIfS, tTest, tB, tOp, tUn, tC, tAnd, tOr, tNot, tAndV, tOrV, tNotV, tIf, tNext, tBreak, tCont, tDrop, tRet, tRetN, gName, gNil, gCons, gTup, tAsg, tPar, tAug, rI, rI0, rU, rEq, rNe, tChain, tNil, tCons, tTup, tLst, tCall, tCB, tNoPart, tPart, tSl, rSlT, rSlL, rSlS, rIxL, rIxT, rIxS, rIn, tBM0, tBM, tyV, rAppend, rExtend, rCat, rZfill, rEqD, iList, iTup, iStr, iRng1, iRng2, tYes, tDisp, tPairs, rd_v0, rd_vS, rd_comp, rd_for, rd_ite_t, rd_ite_f, List.set_cons_zero, List.set_cons_succ, List.nil_append, List.cons_append, List.append_nil, V.int.injEq, V.str.injEq, V.bl.injEq, V.ref.injEq, V.ty.injEq, List.cons.injEq, and_true, true_and, exists_eq_left, exists_eq_left', exists_and_left, exists_eq, exists_const, if_true, if_false, ite_true, ite_false, rd_ss, rd_si, rd_is, rd_ii, rd_bb, Option.some.injEq, exists_eq_right, exists_eq_right', and_assoc, reduceCtorEq, false_and, and_false, false_or, or_false, exists_false]
        refine ⟨rs, .inr (.of (g _ _ etq)), by omega, by omega, ?_⟩
        rw [show ((rs.length : Nat) : Int).toNat = m.n from hrs]
        refine fb_range (fun j σ H' => Same H H' ∧ ∃ (b : Bool) (v4 v5 v6 : Option V) (ep : Nat) (kv' : List (Nat × Nat)), σ = [some (.ref a), some (.ref p), some (.bl b), some (.ref tq), v4, v5, v6] ∧ H' p = some (dJ P w p ep (kvJ kv')) ∧ SzI m kv b kv' i j 0) ⟨g, b, v4, v5, v6, ep, kv', rfl, eD, sz⟩ ?_ ?_
        · rintro j σ H1 hj ⟨g, b, v4, v5, v6, ep, kv', rfl, eD, sz⟩
          rw [Int.zero_add]
          simp only [exists_eq', rEqI, rNeI, rInDc, rLenD, rLenT, rDictOf, rMaxL, rIndex, rCatTN, rCatTE, tDNewN, tDNewTN, tDisp1T, rNeM, rRange2, rListRng, rRepN, rPopAt, rSetL, gSub, ipI, tDGet, tDGet2, sDPut, iEnum, iEZ, iZipL, tDGetJ, rInJ, sDPutJ, tDGet2J, tDisp1J, iDict, iEnumT, rSortJ, rMinT, rMinL, tRaise, tTryX, iZip, rInD, rIxD, rLen, rAll, rAny, rSum, rListOf, rEqS, rNeS, rSlTN, rStrB, tTupN, tLstN, rSlLN, rCatN, cxK, cxP, cxW, tSeq, tIfS, tTest, tB, tOp, tUn, tC, tAnd, tOr, tNot, tAndV, tOrV, tNotV, tIf, tNext, tBreak, tCont, tDrop, tRet, tRetN, gName, gNil, gCons, gTup, tAsg, tPar, tAug, rI, rI0, rU, rEq, rNe, tChain, tNil, tCons, tTup, tLst, tCall, tCB, tNoPart, tPart, tSl, rSlT, rSlL, rSlS, rIxL, rIxT, rIxS, rIn, tBM0, tBM, tyV, rAppend, rExtend, rCat, rZfill, rEqD, iList, iTup, iStr, iRng1, iRng2, tYes, tDisp, tPairs, rd_v0, rd_vS, rd_comp, rd_for, rd_ite_t, rd_ite_f, List.set_cons_zero, List.set_cons_succ, List.nil_append, List.cons_append, List.append_nil, V.int.injEq, V.str.injEq, V.bl.injEq, V.ref.injEq, V.ty.injEq, List.cons.injEq, and_true, true_and, exists_eq_left, exists_eq_left', exists_and_left, exists_eq, exists_const, if_true, if_false, ite_true, ite_false, rd_ss, rd_si, rd_is, rd_ii, rd_bb, Option.some.injEq, exists_eq_right, exists_eq_right', and_assoc, reduceCtorEq, false_and, and_false, false_or, or_false, exists_false]
          refine ⟨rs, .inr (.of (g _ _ etq)), by omega, by omega, ?_⟩
          rw [show ((rs.length : Nat) : Int).toNat = m.n from hrs]
          refine fb_range (fun k σ H' => Same H H' ∧ ∃ (b : Bool) (v5 v6 : Option V) (ep : Nat) (kv' : List (Nat × Nat)), σ = [some (.ref a), some (.ref p), some (.bl b), some (.ref tq), some (nV j), v5, v6] ∧ H' p = some (dJ P w p ep (kvJ kv')) ∧ SzI m kv b kv' i j k) ⟨g, b, v5, v6, ep, kv', rfl, eD, sz⟩ ?_ ?_
          · rintro k σ H1 hk ⟨g, b, v5, v6, ep, kv', rfl, eD, sz⟩
            rw [Int.zero_add]
            simp only [exists_eq', rEqI, rNeI, rInDc, rLenD, rLenT, rDictOf, rMaxL, rIndex, rCatTN, rCatTE, tDNewN, tDNewTN, tDisp1T, rNeM, rRange2, rListRng, rRepN, rPopAt, rSetL, gSub, ipI, tDGet, tDGet2, sDPut, iEnum, iEZ, iZipL, tDGetJ, rInJ, sDPutJ, tDGet2J, tDisp1J, iDict, iEnumT, rSortJ, rMinT, rMinL, tRaise, tTryX, iZip, rInD, rIxD, rLen, rAll, rAny, rSum, rListOf, rEqS, rNeS, rSlTN, rStrB, tTupN, tLstN, rSlLN, rCatN, cxK, cxP, cxW, tSeq, tIfS, tTest, tB, tOp, tUn, tC, tAnd, tOr, tNot, tAndV, tOrV, tNotV, tIf, tNext, tBreak, tCont, tDrop, tRet, tRetN, gName, gNil, gCons, gTup, tAsg, tPar, tAug, rI, rI0, rU, rEq, rNe, tChain, tNil, tCons, tTup, tLst, tCall, tCB, tNoPart, tPart, tSl, rSlT, rSlL, rSlS, rIxL, rIxT, rIxS, rIn, tBM0, tBM, tyV, rAppend, rExtend, rCat, rZfill, rEqD, iList, iTup, iStr, iRng1, iRng2, tYes, tDisp, tPairs, rd_v0, rd_vS, rd_comp, rd_for, rd_ite_t, rd_ite_f, List.set_cons_zero, List.set_cons_succ, List.nil_append, List.cons_append, List.append_nil, V.int.injEq, V.str.injEq, V.bl.injEq, V.ref.injEq, V.ty.injEq, List.cons.injEq, and_true, true_and, exists_eq_left, exists_eq_left', exists_and_left, exists_eq, exists_const, if_true, if_false, ite_true, ite_false, rd_ss, rd_si, rd_is, rd_ii, rd_bb, Option.some.injEq, exists_eq_right, exists_eq_right', and_assoc, reduceCtorEq, false_and, and_false, false_or, or_false, exists_false]
            obtain ⟨t1, t2, rs1, ln, h1, h2, h3, h4, h5⟩ := RepT.row pr1 ok ii hj hk
            rw [hu] at h1
            cases h1
            refine ⟨_, _, eD, ?_⟩
            cases hl1 : look kv' j with
            | none =>
              rw [kvJ_val, hl1]
              exact iteF ⟨g, _, _, eD, sz.skip (.inl hl1)⟩
            | some u1 =>
              rw [kvJ_val, hl1]
              refine iteT ⟨_, _, eD, ?_⟩
              cases hl2 : look kv' k with
              | none =>
                rw [kvJ_val, hl2]
                exact iteF ⟨g, _, _, eD, sz.skip (.inr hl2)⟩
              | some u2 =>
                rw [kvJ_val, hl2]
                have len := (sz.ok.len ok)
                refine iteT ⟨_, _, eD, _, by rw [kvJ_val, hl1]; rfl, _, _, eD, _, by rw [kvJ_val, hl2]; rfl, _, rfl, _, rfl, ⟨_, _, eD⟩, _, .of (g _ _ h2), _, atI_nat h3, t2, rfl, _, .of (g _ _ h4), _, atI_nat h5, _, _, _, rfl, eD, (((look kv' (m.go i j k)).getD (u1 + u2 + 1 + 1) : Nat) : Int), ?_, ?_⟩
                · rw [kvJ_val]
                  cases look kv' (m.go i j k) with
                  | none => rfl
                  | some z => rfl
                by_cases hz : u1 + u2 + 1 < (look kv' (m.go i j k)).getD (u1 + u2 + 1 + 1)
                · rw [decide_eq_true (by omega)]
                  refine iteT ⟨_, .of (g _ _ h2), _, atI_nat h3, t2, rfl, _, .of (g _ _ h4), _, atI_nat h5, _, _, _, rfl, eD, small_line (by rw [List.length_map]; omega), fun ep5 H5 e5 => ?_⟩
                  refine ⟨e5 ▸ g.wr n1.nil _, ep5, putS kv' (m.go i j k) (u1 + u2 + 1), ?_, sz.put ok ii hl1 hl2 hz⟩
                  rw [e5, upd_same, ← kvJ_put]
                  rfl
                · rw [decide_eq_false (by omega)]
                  exact iteF ⟨g, _, _, eD, sz.keep hl1 hl2 hz⟩
          · rintro σ H1 ⟨g, b, v5, v6, ep, kv', rfl, eD, sz⟩
            simp only [exists_eq', rEqI, rNeI, rInDc, rLenD, rLenT, rDictOf, rMaxL, rIndex, rCatTN, rCatTE, tDNewN, tDNewTN, tDisp1T, rNeM, rRange2, rListRng, rRepN, rPopAt, rSetL, gSub, ipI, tDGet, tDGet2, sDPut, iEnum, iEZ, iZipL, tDGetJ, rInJ, sDPutJ, tDGet2J, tDisp1J, iDict, iEnumT, rSortJ, rMinT, rMinL, tRaise, tTryX, iZip, rInD, rIxD, rLen, rAll, rAny, rSum, rListOf, rEqS, rNeS, rSlTN, rStrB, tTupN, tLstN, rSlLN, rCatN, cxK, cxP, cxW, tSeq, tIfS, tTest, tB, tOp, tUn, tC, tAnd, tOr, tNot, tAndV, tOrV, tNotV, tIf, tNext, tBreak, tCont, tDrop, tRet, tRetN, gName, gNil, gCons, gTup, tAsg, tPar, tAug, rI, rI0, rU, rEq, rNe, tChain, tNil, tCons, tTup, tLst, tCall, tCB, tNoPart, tPart, tSl, rSlT, rSlL, rSlS, rIxL, rIxT, rIxS, rIn, tBM0, tBM, tyV, rAppend, rExtend, rCat, rZfill, rEqD, iList, iTup, iStr, iRng1, iRng2, tYes, tDisp, tPairs, rd_v0, rd_vS, rd_comp, rd_for, rd_ite_t, rd_ite_f, List.set_cons_zero, List.set_cons_succ, List.nil_append, List.cons_append, List.append_nil, V.int.injEq, V.str.injEq, V.bl.injEq, V.ref.injEq, V.ty.injEq, List.cons.injEq, and_true, true_and, exists_eq_left, exists_eq_left', exists_and_left, exists_eq, exists_const, if_true, if_false, ite_true, ite_false, rd_ss, rd_si, rd_is, rd_ii, rd_bb, Option.some.injEq, exists_eq_right, exists_eq_right', and_assoc, reduceCtorEq, false_and, and_false, false_or, or_false, exists_false]
            exact ⟨g, ep, kv', eD, sz.row ok⟩
        · rintro σ H1 ⟨g, b, v4, v5, v6, ep, kv', rfl, eD, sz⟩
          simp only [exists_eq', rEqI, rNeI, rInDc, rLenD, rLenT, rDictOf, rMaxL, rIndex, rCatTN, rCatTE, tDNewN, tDNewTN, tDisp1T, rNeM, rRange2, rListRng, rRepN, rPopAt, rSetL, gSub, ipI, tDGet, tDGet2, sDPut, iEnum, iEZ, iZipL, tDGetJ, rInJ, sDPutJ, tDGet2J, tDisp1J, iDict, iEnumT, rSortJ, rMinT, rMinL, tRaise, tTryX, iZip, rInD, rIxD, rLen, rAll, rAny, rSum, rListOf, rEqS, rNeS, rSlTN, rStrB, tTupN, tLstN, rSlLN, rCatN, cxK, cxP, cxW, tSeq, tIfS, tTest, tB, tOp, tUn, tC, tAnd, tOr, tNot, tAndV, tOrV, tNotV, tIf, tNext, tBreak, tCont, tDrop, tRet, tRetN, gName, gNil, gCons, gTup, tAsg, tPar, tAug, rI, rI0, rU, rEq, rNe, tChain, tNil, tCons, tTup, tLst, tCall, tCB, tNoPart, tPart, tSl, rSlT, rSlL, rSlS, rIxL, rIxT, rIxS, rIn, tBM0, tBM, tyV, rAppend, rExtend, rCat, rZfill, rEqD, iList, iTup, iStr, iRng1, iRng2, tYes, tDisp, tPairs, rd_v0, rd_vS, rd_comp, rd_for, rd_ite_t, rd_ite_f, List.set_cons_zero, List.set_cons_succ, List.nil_append, List.cons_append, List.append_nil, V.int.injEq, V.str.injEq, V.bl.injEq, V.ref.injEq, V.ty.injEq, List.cons.injEq, and_true, true_and, exists_eq_left, exists_eq_left', exists_and_left, exists_eq, exists_const, if_true, if_false, ite_true, ite_false, rd_ss, rd_si, rd_is, rd_ii, rd_bb, Option.some.injEq, exists_eq_right, exists_eq_right', and_assoc, reduceCtorEq, false_and, and_false, false_or, or_false, exists_false]
          exact ⟨g, ep, kv', eD, sz.out ok⟩
      · rintro σ H1 ⟨g, b, v3, v4, v5, v6, ep, kv', rfl, eD, sz⟩
        simp only [exists_eq', rEqI, rNeI, rInDc, rLenD, rLenT, rDictOf, rMaxL, rIndex, rCatTN, rCatTE, tDNewN, tDNewTN, tDisp1T, rNeM, rRange2, rListRng, rRepN, rPopAt, rSetL, gSub, ipI, tDGet, tDGet2, sDPut, iEnum, iEZ, iZipL, tDGetJ, rInJ, sDPutJ, tDGet2J, tDisp1J, iDict, iEnumT, rSortJ, rMinT, rMinL, tRaise, tTryX, iZip, rInD, rIxD, rLen, rAll, rAny, rSum, rListOf, rEqS, rNeS, rSlTN, rStrB, tTupN, tLstN, rSlLN, rCatN, cxK, cxP, cxW, tSeq, tIfS, tTest, tB, tOp, tUn, tC, tAnd, tOr, tNot, tAndV, tOrV, tNotV, tIf, tNext, tBreak, tCont, tDrop, tRet, tRetN, gName, gNil, gCons, gTup, tAsg, tPar, tAug, rI, rI0, rU, rEq, rNe, tChain, tNil, tCons, tTup, tLst, tCall, tCB, tNoPart, tPart, tSl, rSlT, rSlL, rSlS, rIxL, rIxT, rIxS, rIn, tBM0, tBM, tyV, rAppend, rExtend, rCat, rZfill, rEqD, iList, iTup, iStr, iRng1, iRng2, tYes, tDisp, tPairs, rd_v0, rd_vS, rd_comp, rd_for, rd_ite_t, rd_ite_f, List.set_cons_zero, List.set_cons_succ, List.nil_append, List.cons_append, List.append_nil, V.int.injEq, V.str.injEq, V.bl.injEq, V.ref.injEq, V.ty.injEq, List.cons.injEq, and_true, true_and, exists_eq_left, exists_eq_left', exists_and_left, exists_eq, exists_const, if_true, if_false, ite_true, ite_false, rd_ss, rd_si, rd_is, rd_ii, rd_bb, Option.some.injEq, exists_eq_right, exists_eq_right', and_assoc, reduceCtorEq, false_and, and_false, false_or, or_false, exists_false]
        rw [lts] at sz
        exact ⟨g, ep, kv', eD, sz⟩
end
end K49
set_option Elab.async false
set_option linter.all false
set_option maxRecDepth 100000
set_option maxHeartbeats 4000000
set_option pp.deepTerms true
set_option pp.maxSteps 100000
namespace K49
open PySem PySem.Spec PyProof.Rows L2 SS SM
seal PE PT PW PA PS PSs
section
variable {P : Program} {w : World} {K : PySem.W.Frag} {mg : Str → Option Value} {base : Heap} {cTooGreat : Addr}
abbrev s_law_right : Stmt := top 17
theorem sc_law_right : FnScope ["_law_machine_here", "_law_sizes_here", "_law_ended", "_law_word", "_law_found"] ["_law_machine_here"] (defScope s_law_right) := ⟨rfl, rfl, rfl, by decide +kernel, rfl, by decide +kernel, by decide +kernel⟩
theorem ok_right49 (T : Txt K mg cTooGreat) (d : Dfn K mg "_law_right" s_law_right ["_law_machine_here"]) (C_law_sizes : Cal P w K mg base 1 "_law_sizes" ["_law_machine_here"] (sp_sizes49 P w)) (C_law_told : Cal P w K mg base 4 "_law_told" ["_law_machine_here"] sp_told49)
    (C_law_is_tree : Cal P w K mg base 11 "_law_is_tree" ["_law_tree", "_law_letters"] (sp_istree 10)) (C_law_size : Cal P w K mg base 11 "_law_size" ["_law_tree"] (sp_sizeT 10)) (C_law_room : Cal P w K mg base 11 "_law_room" ["_law_machine_here", "_law_tree"] (sp_roomT 10)) : Cal P w K mg base 12 "_law_right" ["_law_machine_here"] sp_right49 := by
  refine d.cal sc_law_right (fun vs H Q E h => ?_) (fun f cdv A outer s H vs Q E hr h => ?_)
  · obtain ⟨a, m, rfl, _⟩ := h
    rfl
  obtain ⟨a, m, rfl, rm, ok, hw, hn, q⟩ := h
  have hu := hu_at hr 8 (by decide)
  refine ⟨_, (pss_cons (ps_set (i := 1) sc_law_right.nd rfl (Or.inr rfl) (pe_callC C_law_sizes hr (by omega) (by rfl) (pa_c (pv 0) pa_nil))) (pss_cons (ps_setC (i := 2) sc_law_right.nd rfl (Or.inl rfl) ["_law_room_here"] [(1, "_law_sizes_here"), (0, "_law_machine_here")] (CompOk.of rfl (by rfl) (by rfl)) (by rfl) (pi_listK K (pe_cB (call_sortedJ rfl) (by rfl) T.b_sorted (by rfl) (pa_c (pv 1) pa_nil))) (fun _ _ _ _ _ => (pg_name (i := 0) (show List.Nodup (["_law_room_here", "_law_sizes_here", "_law_machine_here"] : List Str) by decide +kernel) (by rfl) (Or.inl (by rfl)))) (fun _ _ _ _ _ => (pf_one (pt_val (pe_ix (ix_tupK K) (pe_ix (ix_tupK K) (pv 2) pe_int (fun _ _ => rfl)) (pv 0) (fun _ _ => rfl))))) (fun _ _ _ _ _ => (pe_dgetJK P w (pv 1) (pv 0) (fun _ _ => rfl)))) (pss_cons (ps_asg (pe_callC C_law_told hr (by omega) (by rfl) (pa_c (pv 0) pa_nil)) (pg_tupK K (n := 2) rfl (pgs_cons (pg_name (i := 3) sc_law_right.nd (by rfl) (Or.inl (by rfl))) (pgs_cons (pg_name (i := 4) sc_law_right.nd (by rfl) (Or.inl (by rfl))) pgs_nil)))) (pss_cons (ps_if (pt_cmpR (op_eqIK K hu) (pv 2) (pe_lstN pa_nil) (nomark _)) (pss_one (ps_ret (pe_and (pe_cmpR op_eq (pv 3) pe_str (nomark _)) (pe_one (pe_cmpR op_isN (pv 4) pe_non (nomark _)))))) pss_nil) (pss_cons (ps_if (pt_cmpR op_gt (pe_cB (call_min_lK K rfl) (by rfl) T.b_min (by rfl) (pa_c (pv 2) pa_nil)) pe_int (nomark _)) (pss_one (ps_ret (pe_cmpR op_eq (pv 3) pe_str (nomark _)))) pss_nil) (pss_cons (ps_if (PW.pt (pw_or (pt_cmpR op_ne (pv 3) pe_str (nomark _)) (pw_or (pt_not (pt_val (pe_cB call_isk (by rfl) T.b_isinstance boot_isinstance (pa_c (pv 4) (pa_c (pe_bltn (v := .ty "tuple") (by rfl) T.b_tuple boot_tuple (by rfl)) pa_nil))))) (pw_or1 (pt_cmpR op_eq (pe_cB (call_len_seqK K) (by rfl) T.b_len boot_len (pa_c (pv 4) pa_nil)) pe_int (nomark _)))))) (pss_one (ps_ret pe_bl)) pss_nil) (pss_cons (ps_if (pt_cmpR op_eq (pe_cB (call_min_lK K rfl) (by rfl) T.b_min (by rfl) (pa_c (pv 2) pa_nil)) pe_int (nomark _)) (pss_one (ps_ret (pe_cmpR (op_eqD hu) (pv 4) (pe_tupN (pa_c pe_str pa_nil)) (nomark _)))) pss_nil) (pss_cons (ps_if (PW.pt (pw_or (pt_cmpR op_ne (pe_cB (call_len_seqK K) (by rfl) T.b_len boot_len (pa_c (pv 4) pa_nil)) pe_int (nomark _)) (pw_or (pt_cmpR op_ne (pe_ix (ix_tupK K) (pv 4) pe_int (fun _ _ => rfl)) pe_str (nomark _)) (pw_or1 (pt_not (pt_val (pe_callC C_law_is_tree hr (by omega) (by rfl) (pa_c (pe_ix (ix_tupK K) (pv 4) pe_int (fun _ _ => rfl)) (pa_c (pe_cB (call_len_seqK K) (by rfl) T.b_len boot_len (pa_c (pe_ix (ix_tupK K) (pv 0) pe_int (fun _ _ => rfl)) pa_nil)) pa_nil))))))))) (pss_one (ps_ret pe_bl)) pss_nil) (pss_one (ps_ret (pe_and (pe_cmpR op_eq (pe_callC C_law_size hr (by omega) (by rfl) (pa_c (pe_ix (ix_tupK K) (pv 4) pe_int (fun _ _ => rfl)) pa_nil)) (pe_cB (call_min_lK K rfl) (by rfl) T.b_min (by rfl) (pa_c (pv 2) pa_nil)) (nomark _)) (pe_one (pe_ix (ix_tupK K) (pe_ix (ix_tupK K) (pv 0) pe_int (fun _ _ => rfl)) (pe_callC C_law_room hr (by omega) (by rfl) (pa_c (pv 0) (pa_c (pe_ix (ix_tupK K) (pv 4) pe_int (fun _ _ => rfl)) pa_nil))) (fun _ _ => rfl)))))))))))))), ?_⟩
  refine rd_st [some (.ref a), none, none, none, none] rfl ?_
  simp only [exists_eq', rEqI, rNeI, rInDc, rLenD, rLenT, rDictOf, rMaxL, rIndex, rCatTN, rCatTE, tDNewN, tDNewTN, tDisp1T, rNeM, rRange2, rListRng, rRepN, rPopAt, rSetL, gSub, ipI, tDGet, tDGet2, sDPut, iEnum, iEZ, iZipL, tDGetJ, rInJ, sDPutJ, tDGet2J, tDisp1J, iDict, iEnumT, rSortJ, rMinT, rMinL, tRaise, tTryX, iZip, rInD, rIxD, rLen, rAll, rAny, rSum, rListOf, rEqS, rNeS, rSlTN, rStrB, tTupN, tLstN, rSlLN, rCatN, cxK, cxP, cxW, tSeq, tIfS, tTest, tB, tOp, tUn, tC, tAnd, tOr, tNot, tAndV, tOrV, tNotV, tIf, tNext, tBreak, tCont, tDrop, tRet, tRetN, gName, gNil, gCons, gTup, tAsg, tPar, tAug, rI, rI0, rU, rEq, rNe, tChain, tNil, tCons, tTup, tLst, tCall, tCB, tNoPart, tPart, tSl, rSlT, rSlL, rSlS, rIxL, rIxT, rIxS, rIn, tBM0, tBM, tyV, rAppend, rExtend, rCat, rZfill, rEqD, iList, iTup, iStr, iRng1, iRng2, tYes, tDisp, tPairs, rd_v0, rd_vS, rd_comp, rd_for, rd_ite_t, rd_ite_f, List.set_cons_zero, List.set_cons_succ, List.nil_append, List.cons_append, List.append_nil, V.int.injEq, V.str.injEq, V.bl.injEq, V.ref.injEq, V.ty.injEq, List.cons.injEq, and_true, true_and, exists_eq_left, exists_eq_left', exists_and_left, exists_eq, exists_const, if_true, if_false, ite_true, ite_false, rd_ss, rd_si, rd_is, rd_ii, rd_bb, Option.some.injEq, exists_eq_right, exists_eq_right', and_assoc, reduceCtorEq, false_and, and_false, false_or, or_false, exists_false]
  obtain ⟨b1, c1, ts1, ea, eb1, pr1, ec1⟩ := id rm
  refine ⟨a, m, rfl, rm, ok, hw, hn, fun p ep kv H1 g1 eD sC => ⟨p, rfl, ep, _, eD, ?_, fun ms hms hk L H2 n2 => ⟨⟨_, .of n2.at'⟩, ?_⟩⟩⟩
  · have := sC.ok.len ok
    rw [List.length_map]
    omega
  have keys : ∀ e ∈ kv, (e.1 : Int) ∈ ms := fun e he => (hk _).mpr (by rw [kvJ, List.map_map]; exact List.mem_map.mpr ⟨e, he, rfl⟩)
  have back : ∀ k ∈ ms, ∃ e ∈ kv, k = (e.1 : Int) := fun k hkm => by
    have := (hk k).mp hkm
    rw [kvJ, List.map_map] at this
    obtain ⟨e, he, rfl⟩ := List.mem_map.mp this
    exact ⟨e, he, rfl⟩
  have mlen : ms.length ≤ 1000 := by
    have nd : ms.Nodup := hms.imp fun {x y} h e => by rw [e] at h; exact Int.lt_irrefl _ h
    have := nd.length_le_of_subset (l₂ := (kvJ kv).map (·.1)) fun x hx => (hk x).mp hx
    have := sC.ok.len ok
    rw [List.length_map, List.length_map] at *
    omega
  have g12 := g1.trans n2.g
  refine cb_list (K := K) (a := L) (xs := ms.map V.int) (fun D i ys σ H' => Same H2 H' ∧ (∃ v0 : Option V, σ = [v0, some (.ref p), some (.ref a)]) ∧ ∃ xs, ys = xs.map V.int ∧ EndI m kv ms i xs) (small_line (by rw [List.length_map]; omega)) (fun D hD => ⟨same_upd hD _, ⟨none, rfl⟩, [], rfl, .start⟩) (fun D i ys σ H' _ _ _ z => .of (z.1 _ _ n2.at')) ?_ ?_
  · rintro D i ys σ H' x hD hi hx hy hl ⟨g, ⟨v0, rfl⟩, xs, rfl, eI⟩
    rw [List.getElem?_map] at hx
    obtain ⟨k, ek, rfl⟩ := Option.map_eq_some_iff.mp hx
    obtain ⟨e, he, rfl⟩ := back k (List.mem_of_getElem? ek)
    have hval : valV (kvJ kv) (e.1 : Int) = some (nV e.2) := by rw [kvJ_val, look_of sC.ok.nd (show (e.1, e.2) ∈ kv from he)]; rfl
    simp only [exists_eq', rEqI, rNeI, rInDc, rLenD, rLenT, rDictOf, rMaxL, rIndex, rCatTN, rCatTE, tDNewN, tDNewTN, tDisp1T, rNeM, rRange2, rListRng, rRepN, rPopAt, rSetL, gSub, ipI, tDGet, tDGet2, sDPut, iEnum, iEZ, iZipL, tDGetJ, rInJ, sDPutJ, tDGet2J, tDisp1J, iDict, iEnumT, rSortJ, rMinT, rMinL, tRaise, tTryX, iZip, rInD, rIxD, rLen, rAll, rAny, rSum, rListOf, rEqS, rNeS, rSlTN, rStrB, tTupN, tLstN, rSlLN, rCatN, cxK, cxP, cxW, tSeq, tIfS, tTest, tB, tOp, tUn, tC, tAnd, tOr, tNot, tAndV, tOrV, tNotV, tIf, tNext, tBreak, tCont, tDrop, tRet, tRetN, gName, gNil, gCons, gTup, tAsg, tPar, tAug, rI, rI0, rU, rEq, rNe, tChain, tNil, tCons, tTup, tLst, tCall, tCB, tNoPart, tPart, tSl, rSlT, rSlL, rSlS, rIxL, rIxT, rIxS, rIn, tBM0, tBM, tyV, rAppend, rExtend, rCat, rZfill, rEqD, iList, iTup, iStr, iRng1, iRng2, tYes, tDisp, tPairs, rd_v0, rd_vS, rd_comp, rd_for, rd_ite_t, rd_ite_f, List.set_cons_zero, List.set_cons_succ, List.nil_append, List.cons_append, List.append_nil, V.int.injEq, V.str.injEq, V.bl.injEq, V.ref.injEq, V.ty.injEq, List.cons.injEq, and_true, true_and, exists_eq_left, exists_eq_left', exists_and_left, exists_eq, exists_const, if_true, if_false, ite_true, ite_false, rd_ss, rd_si, rd_is, rd_ii, rd_bb, Option.some.injEq, exists_eq_right, exists_eq_right', and_assoc, reduceCtorEq, false_and, and_false, false_or, or_false, exists_false]
    refine ⟨_, .of ((g12.trans g) _ _ ea), _, atI_nat (j := 2) rfl, c1, rfl, _, .of ((g12.trans g) _ _ ec1), _, atI_nat (by rw [List.getElem?_map, Tm.fin_at (sC.ok.room ok he)]; rfl), m.fin e.1, rfl, ?_⟩
    cases hf : m.fin e.1 with
    | true => exact iteT ⟨_, _, (n2.g.trans g) _ _ eD, _, hval, cstep (small_line (by rw [List.length_map]; omega)) hi hy hl ⟨g.wr hD _, ⟨_, rfl⟩, xs ++ [(e.2 : Int)], by rw [List.map_append]; rfl, eI.put sC he ek hf⟩⟩
    | false => exact iteF (cskip hi hy hl ⟨g, ⟨_, rfl⟩, xs, rfl, eI.skip ek hf⟩)
  · rintro D ys σ H3 hD hy hl ⟨g3, ⟨v0, rfl⟩, xs, rfl, eI⟩
    rw [List.length_map] at eI
    have g13 := g12.trans g3
    refine ⟨a, m, rfl, rm.same g13, ok, hw, hn, fun p4 word v H4 g4 e4 told => ⟨p4, rfl, _, .of e4, rfl, _, _, rfl, _, _, rfl, rfl, by decide, fun p5 H5 n5 => ⟨D, rfl, xs, .of ((g4.trans n5.g) _ _ hy), [], .of n5.at', ?_⟩⟩⟩
    have gA := g13.trans (g4.trans n5.g)
    have eX := (g4.trans n5.g) _ _ hy
    have ne : ∀ t, Smallest m t → xs ≠ [] := fun t st z => by have := eI.pos sC keys st; rw [z] at this; cases this
    rcases told with ⟨rfl, rfl, no⟩ | ⟨rfl, rfl, t, st, h100⟩ | ⟨rfl, p6, t, rfl, e6, st, h0⟩ | ⟨rfl, p6, u, t, rfl, e6, tv, st, h0, h100⟩
    · rw [decide_eq_true (eI.none sC no)]
      refine iteT ⟨rfl, ?_⟩
      rw [decide_eq_true rfl, decide_eq_true rfl]
      exact iteT (q H5 gA)
    · rw [decide_eq_false (ne t st)]
      refine iteF ⟨D, rfl, xs, .of eX, eI.pos sC keys st, fun M hM least => ?_⟩
      have := eI.min sC keys st hM least
      rw [decide_eq_true (by omega)]
      refine iteT ⟨rfl, ?_⟩
      rw [decide_eq_true rfl]
      exact q H5 gA
    · rw [decide_eq_false (ne t st)]
      refine iteF ⟨D, rfl, xs, .of eX, eI.pos sC keys st, fun M hM least => ?_⟩
      have := eI.min sC keys st hM least
      have e6' := n5.g _ _ e6
      rw [decide_eq_false (by omega)]
      refine iteF ⟨rfl, ?_⟩
      rw [decide_eq_true rfl]
      refine iteF ⟨_, .tup e6', by decide, iteF ⟨p6, rfl, _, .inr (.of e6'), iteF ⟨D, rfl, xs, .of eX, eI.pos sC keys st, fun M hM least => ?_⟩⟩⟩
      have := eI.min sC keys st hM least
      rw [decide_eq_true (by omega)]
      exact iteT ⟨by decide, fun p7 H7 n7 => ⟨true, rc_none (n7.g _ _ e6') n7.at', q H7 (gA.trans n7.g)⟩⟩
    · rw [decide_eq_false (ne t st)]
      refine iteF ⟨D, rfl, xs, .of eX, eI.pos sC keys st, fun M hM least => ?_⟩
      have := eI.min sC keys st hM least
      have e6' := n5.g _ _ e6
      rw [decide_eq_false (by omega)]
      refine iteF ⟨rfl, ?_⟩
      rw [decide_eq_true rfl]
      refine iteF ⟨_, .tup e6', by decide, iteF ⟨p6, rfl, _, .inr (.of e6'), iteF ⟨D, rfl, xs, .of eX, eI.pos sC keys st, fun M hM least => ?_⟩⟩⟩
      have := eI.min sC keys st hM least
      rw [decide_eq_false (by omega)]
      have lts : ts1.length = 2 ^ m.w := (SS.Paired.len pr1).trans ok.len
      have tv5 := tv.same n5.g
      refine iteF ⟨p6, rfl, _, .inr (.of e6'), iteF ⟨p6, rfl, _, .of e6', _, atI_0, rfl, ?_⟩⟩
      rw [decide_eq_true rfl]
      refine iteF ⟨p6, rfl, _, .of e6', _, atI_nat (j := 1) rfl, _, .of (gA _ _ ea), _, atI_nat (j := 1) rfl, b1, rfl, ts1, .inr (.of (gA _ _ eb1)), u, t, 2 ^ m.w, by rw [lts], tv5, st.lets, st.deep, true, rfl, iteF ⟨p6, rfl, _, .of e6', _, atI_nat (j := 1) rfl, u, t, rfl, tv5, st.deep, D, rfl, xs, .of eX, eI.pos sC keys st, fun M hM least => ?_⟩⟩
      have hM' := eI.min sC keys st hM least
      refine ⟨rfl, ?_⟩
      rw [hM', decide_eq_true rfl]
      refine iteT ⟨_, .of (gA _ _ ea), _, atI_nat (j := 2) rfl, p6, rfl, _, .of e6', _, atI_nat (j := 1) rfl, a, u, m, t, rfl, rm.same gA, ok, tv5, st.lets, st.deep, c1, rfl, _, _, rfl, .of (gA _ _ ec1), _, atI_nat (by rw [List.getElem?_map, Tm.fin_at (Tr.up_lt ok t st.lets)]; rfl), ?_⟩
      rw [st.fin]
      exact q H5 gA
end
end K49
set_option Elab.async false
set_option linter.all false
set_option maxRecDepth 100000
set_option maxHeartbeats 4000000
set_option pp.deepTerms true
set_option pp.maxSteps 100000
namespace K49
open PySem PySem.Spec PyProof.Rows L2 SS SM
seal PE PT PW PA PS PSs
section
variable {P : Program} {w : World} {K : PySem.W.Frag} {mg : Str → Option Value} {base : Heap} {cTooGreat : Addr}
abbrev s_law_steps : Stmt := top 11
theorem sc_law_steps : FnScope ["_law_rooms", "_law_width", "_law_number", "_law_ways", "_law_letter", "_law_table", "_law_one", "_law_row", "_law_other", "_law_both"] ["_law_rooms", "_law_width", "_law_number"] (defScope s_law_steps) := ⟨rfl, rfl, rfl, by decide +kernel, rfl, by decide +kernel, by decide +kernel⟩
theorem ok_steps49 (T : Txt K mg cTooGreat) (d : Dfn K mg "_law_steps" s_law_steps ["_law_rooms", "_law_width", "_law_number"]) : Cal P w K mg base 1 "_law_steps" ["_law_rooms", "_law_width", "_law_number"] sp_steps49 := by
  refine d.cal sc_law_steps (fun vs H Q E h => ?_) (fun f cdv A outer s H vs Q E hr h => ?_)
  · obtain ⟨n, wd, x, rfl, _⟩ := h
    rfl
  obtain ⟨n, wd, x, rfl, hw, hn1, hn, hx0, q⟩ := h
  have hps : 1 ≤ 2 ^ wd ∧ 2 ^ wd ≤ 16 := pow_small (by omega)
  have hat : atI [V.int 1, V.int 2, V.int 4] ((wd : Nat) : Int) = some (nV (2 ^ wd)) := by
    have : wd = 0 ∨ wd = 1 ∨ wd = 2 := by omega
    rcases this with rfl | rfl | rfl <;> exact atI_nat rfl
  refine ⟨_, (pss_cons (ps_set (i := 3) sc_law_steps.nd rfl (Or.inl rfl) (pe_lstN pa_nil)) (pss_cons (ps_for PassesOwn.never rfl (pi_range1 (by rfl) T.b_range (pa_c (pe_ix (ix_listK K) (pe_lstN (pa_c pe_int (pa_c pe_int (pa_c pe_int pa_nil)))) (pv 1) (fun _ _ => rfl)) pa_nil)) (pg_name (i := 4) sc_law_steps.nd (by rfl) (Or.inl (by rfl))) (pss_cons (ps_set (i := 5) sc_law_steps.nd rfl (Or.inl rfl) (pe_lstN pa_nil)) (pss_cons (ps_for PassesOwn.never rfl (pi_range1 (by rfl) T.b_range (pa_c (pv 0) pa_nil)) (pg_name (i := 6) sc_law_steps.nd (by rfl) (Or.inl (by rfl))) (pss_cons (ps_set (i := 7) sc_law_steps.nd rfl (Or.inl rfl) (pe_lstN pa_nil)) (pss_cons (ps_for PassesOwn.never rfl (pi_range1 (by rfl) T.b_range (pa_c (pv 0) pa_nil)) (pg_name (i := 8) sc_law_steps.nd (by rfl) (Or.inl (by rfl))) (pss_cons (ps_set (i := 9) sc_law_steps.nd rfl (Or.inl rfl) (pe_or (pe_cmpR op_eq (pv 6) (pv 8) (nomark _)) (pe_one (pe_and (pe_cmpR op_eq (pv 8) pe_int (nomark _)) (pe_one (pe_cmpR op_eq (pe_op op_and (pe_op op_shr (pv 2) (pv 6)) pe_int) pe_int (nomark _))))))) (pss_one (ps_expr (pe_bmK K PySem.F.plainAttrs_list PySem.F.slot_list_append PySem.F.type_list_append mt_append (pv 7) (pa_c (pe_ix (ix_listK K) (pe_lstN (pa_c (pv 6) (pa_c (pe_cB (call_min2 rfl) (by rfl) T.b_min boot_min (pa_c (pe_op op_add (pv 6) pe_int) (pa_c (pe_op op_sub (pv 0) pe_int) pa_nil))) pa_nil))) (pe_cTy call_int1 (by rfl) T.b_int boot_int (pa_c (pe_and (pv 9) (pe_one (pe_cmpR op_eq (pv 4) pe_int (nomark _)))) pa_nil)) (fun _ _ => rfl)) pa_nil)))))) (pss_one (ps_expr (pe_bmK K PySem.F.plainAttrs_list PySem.F.slot_list_append PySem.F.type_list_append mt_append (pv 5) (pa_c (pe_cTy call_tuple_ofN (by rfl) T.b_tuple boot_tuple (pa_c (pv 7) pa_nil)) pa_nil))))))) (pss_one (ps_expr (pe_bmK K PySem.F.plainAttrs_list PySem.F.slot_list_append PySem.F.type_list_append mt_append (pv 3) (pa_c (pe_cTy call_tuple_ofN (by rfl) T.b_tuple boot_tuple (pa_c (pv 5) pa_nil)) pa_nil))))))) (pss_one (ps_ret (pe_tupN (pa_c (pv 1) (pa_c (pe_cTy call_tuple_ofN (by rfl) T.b_tuple boot_tuple (pa_c (pv 3) pa_nil)) (pa_c (pe_cTy call_tuple_ofN (by rfl) T.b_tuple boot_tuple (pa_c (pe_lcomp ["_law_room_here"] [(0, "_law_rooms"), (2, "_law_number")] (CompOk.of rfl (by rfl) (by rfl)) (by rfl) (pi_range1 (by rfl) T.b_range (pa_c (pv 0) pa_nil)) (fun _ _ _ _ _ => (pg_name (i := 0) (show List.Nodup (["_law_room_here", "_law_rooms", "_law_number"] : List Str) by decide +kernel) (by rfl) (Or.inl (by rfl)))) (fun _ _ _ _ _ => pf_nil) (fun _ _ _ _ _ => (pe_cmpR op_gt (pv 0) (pe_op op_mod (pe_op op_fdiv (pv 2) pe_int) (pv 1)) (nomark _)))) pa_nil)) pa_nil)))))))), ?_⟩
  refine rd_st [some (nV n), some (nV wd), some (.int x), none, none, none, none, none, none, none] rfl ?_
  simp only [exists_eq', rEqI, rNeI, rInDc, rLenD, rLenT, rDictOf, rMaxL, rIndex, rCatTN, rCatTE, tDNewN, tDNewTN, tDisp1T, rNeM, rRange2, rListRng, rRepN, rPopAt, rSetL, gSub, ipI, tDGet, tDGet2, sDPut, iEnum, iEZ, iZipL, tDGetJ, rInJ, sDPutJ, tDGet2J, tDisp1J, iDict, iEnumT, rSortJ, rMinT, rMinL, tRaise, tTryX, iZip, rInD, rIxD, rLen, rAll, rAny, rSum, rListOf, rEqS, rNeS, rSlTN, rStrB, tTupN, tLstN, rSlLN, rCatN, cxK, cxP, cxW, tSeq, tIfS, tTest, tB, tOp, tUn, tC, tAnd, tOr, tNot, tAndV, tOrV, tNotV, tIf, tNext, tBreak, tCont, tDrop, tRet, tRetN, gName, gNil, gCons, gTup, tAsg, tPar, tAug, rI, rI0, rU, rEq, rNe, tChain, tNil, tCons, tTup, tLst, tCall, tCB, tNoPart, tPart, tSl, rSlT, rSlL, rSlS, rIxL, rIxT, rIxS, rIn, tBM0, tBM, tyV, rAppend, rExtend, rCat, rZfill, rEqD, iList, iTup, iStr, iRng1, iRng2, tYes, tDisp, tPairs, rd_v0, rd_vS, rd_comp, rd_for, rd_ite_t, rd_ite_f, List.set_cons_zero, List.set_cons_succ, List.nil_append, List.cons_append, List.append_nil, V.int.injEq, V.str.injEq, V.bl.injEq, V.ref.injEq, V.ty.injEq, List.cons.injEq, and_true, true_and, exists_eq_left, exists_eq_left', exists_and_left, exists_eq, exists_const, if_true, if_false, ite_true, ite_false, rd_ss, rd_si, rd_is, rd_ii, rd_bb, Option.some.injEq, exists_eq_right, exists_eq_right', and_assoc, reduceCtorEq, false_and, and_false, false_or, or_false, exists_false]
  refine ⟨by decide, fun p H1 n1 => ⟨small_line (by simp), fun pl H2 n2 => ⟨_, .of n2.at', _, hat, _, rfl, by omega, by omega, ?_⟩⟩⟩
  rw [show ((2 ^ wd : Nat) : Int).toNat = 2 ^ wd from rfl]
  refine fb_range (fun i σ H' => Same H H' ∧ (∃ v4 v5 v6 v7 v8 v9, σ = [some (nV n), some (nV wd), some (.int x), some (.ref p), v4, v5, v6, v7, v8, v9]) ∧
    ∃ rs tabs, H' p = some (.lst rs) ∧ Paired (Tab H') rs tabs ∧ tabs.length = i ∧ ∀ t ∈ tabs, t.length = n ∧ ∀ l ∈ t, l.length = n ∧ ∀ r ∈ l, r < n) ⟨n1.g.trans n2.g, ⟨none, none, none, none, none, none, rfl⟩, [], [], n2.g _ _ n1.at', .nil, rfl, fun _ h => (nomatch h)⟩ ?_ ?_
  · rintro i σ H' hi ⟨g, ⟨v4, v5, v6, v7, v8, v9, rfl⟩, rs, tabs, ep, pr, ll, hg⟩
    simp only [exists_eq', rEqI, rNeI, rInDc, rLenD, rLenT, rDictOf, rMaxL, rIndex, rCatTN, rCatTE, tDNewN, tDNewTN, tDisp1T, rNeM, rRange2, rListRng, rRepN, rPopAt, rSetL, gSub, ipI, tDGet, tDGet2, sDPut, iEnum, iEZ, iZipL, tDGetJ, rInJ, sDPutJ, tDGet2J, tDisp1J, iDict, iEnumT, rSortJ, rMinT, rMinL, tRaise, tTryX, iZip, rInD, rIxD, rLen, rAll, rAny, rSum, rListOf, rEqS, rNeS, rSlTN, rStrB, tTupN, tLstN, rSlLN, rCatN, cxK, cxP, cxW, tSeq, tIfS, tTest, tB, tOp, tUn, tC, tAnd, tOr, tNot, tAndV, tOrV, tNotV, tIf, tNext, tBreak, tCont, tDrop, tRet, tRetN, gName, gNil, gCons, gTup, tAsg, tPar, tAug, rI, rI0, rU, rEq, rNe, tChain, tNil, tCons, tTup, tLst, tCall, tCB, tNoPart, tPart, tSl, rSlT, rSlL, rSlS, rIxL, rIxT, rIxS, rIn, tBM0, tBM, tyV, rAppend, rExtend, rCat, rZfill, rEqD, iList, iTup, iStr, iRng1, iRng2, tYes, tDisp, tPairs, rd_v0, rd_vS, rd_comp, rd_for, rd_ite_t, rd_ite_f, List.set_cons_zero, List.set_cons_succ, List.nil_append, List.cons_append, List.append_nil, V.int.injEq, V.str.injEq, V.bl.injEq, V.ref.injEq, V.ty.injEq, List.cons.injEq, and_true, true_and, exists_eq_left, exists_eq_left', exists_and_left, exists_eq, exists_const, if_true, if_false, ite_true, ite_false, rd_ss, rd_si, rd_is, rd_ii, rd_bb, Option.some.injEq, exists_eq_right, exists_eq_right', and_assoc, reduceCtorEq, false_and, and_false, false_or, or_false, exists_false]
    refine ⟨by decide, fun p2 H2 n2 => ⟨by omega, by omega, ?_⟩⟩
    rw [show ((n : Nat) : Int).toNat = n from rfl]
    have ne2 : p ≠ p2 := ne_of_none ep n2.nil
    refine fb_range (fun j σ H'' => Same H H'' ∧ TupS H2 H'' ∧ (∃ v6 v7 v8 v9, σ = [some (nV n), some (nV wd), some (.int x), some (.ref p), some (.int (0 + (i : Int))), some (.ref p2), v6, v7, v8, v9]) ∧ H'' p = some (.lst rs) ∧
      ∃ rs2 lines, H'' p2 = some (.lst rs2) ∧ Paired (Line H'') rs2 lines ∧ lines.length = j ∧ ∀ l ∈ lines, l.length = n ∧ ∀ r ∈ l, r < n) ⟨g.trans n2.g, TupS.refl _, ⟨_, _, _, _, rfl⟩, n2.g _ _ ep, [], [], n2.at', .nil, rfl, fun _ h => (nomatch h)⟩ ?_ ?_
    · rintro j σ H'' hj ⟨g2, ts, ⟨v6, v7, v8, v9, rfl⟩, ep2, rs2, lines, e2, pr2, le, hr2⟩
      simp only [exists_eq', rEqI, rNeI, rInDc, rLenD, rLenT, rDictOf, rMaxL, rIndex, rCatTN, rCatTE, tDNewN, tDNewTN, tDisp1T, rNeM, rRange2, rListRng, rRepN, rPopAt, rSetL, gSub, ipI, tDGet, tDGet2, sDPut, iEnum, iEZ, iZipL, tDGetJ, rInJ, sDPutJ, tDGet2J, tDisp1J, iDict, iEnumT, rSortJ, rMinT, rMinL, tRaise, tTryX, iZip, rInD, rIxD, rLen, rAll, rAny, rSum, rListOf, rEqS, rNeS, rSlTN, rStrB, tTupN, tLstN, rSlLN, rCatN, cxK, cxP, cxW, tSeq, tIfS, tTest, tB, tOp, tUn, tC, tAnd, tOr, tNot, tAndV, tOrV, tNotV, tIf, tNext, tBreak, tCont, tDrop, tRet, tRetN, gName, gNil, gCons, gTup, tAsg, tPar, tAug, rI, rI0, rU, rEq, rNe, tChain, tNil, tCons, tTup, tLst, tCall, tCB, tNoPart, tPart, tSl, rSlT, rSlL, rSlS, rIxL, rIxT, rIxS, rIn, tBM0, tBM, tyV, rAppend, rExtend, rCat, rZfill, rEqD, iList, iTup, iStr, iRng1, iRng2, tYes, tDisp, tPairs, rd_v0, rd_vS, rd_comp, rd_for, rd_ite_t, rd_ite_f, List.set_cons_zero, List.set_cons_succ, List.nil_append, List.cons_append, List.append_nil, V.int.injEq, V.str.injEq, V.bl.injEq, V.ref.injEq, V.ty.injEq, List.cons.injEq, and_true, true_and, exists_eq_left, exists_eq_left', exists_and_left, exists_eq, exists_const, if_true, if_false, ite_true, ite_false, rd_ss, rd_si, rd_is, rd_ii, rd_bb, Option.some.injEq, exists_eq_right, exists_eq_right', and_assoc, reduceCtorEq, false_and, and_false, false_or, or_false, exists_false]
      refine ⟨by decide, fun p3 H3 n3 => ⟨by omega, by omega, ?_⟩⟩
      rw [show ((n : Nat) : Int).toNat = n from rfl]
      have ne3 : p ≠ p3 := ne_of_none ep2 n3.nil
      have ne4 : p2 ≠ p3 := ne_of_none e2 n3.nil
      refine fb_range (fun k σ H4 => Same H H4 ∧ TupS H3 H4 ∧ (∃ v8 v9, σ = [some (nV n), some (nV wd), some (.int x), some (.ref p), some (.int (0 + (i : Int))), some (.ref p2), some (.int (0 + (j : Int))), some (.ref p3), v8, v9]) ∧ H4 p = some (.lst rs) ∧ H4 p2 = some (.lst rs2) ∧
        ∃ ln : List Nat, H4 p3 = some (.lst (ln.map nV)) ∧ ln.length = k ∧ ∀ r ∈ ln, r < n) ⟨g2.trans n3.g, TupS.refl _, ⟨_, _, rfl⟩, n3.g _ _ ep2, n3.g _ _ e2, [], n3.at', rfl, fun _ h => (nomatch h)⟩ ?_ ?_
      · rintro k σ H4 hk ⟨g3, ts3, ⟨v8, v9, rfl⟩, ep3, ep32, ln, e3, lk, hr3⟩
        simp only [exists_eq', rEqI, rNeI, rInDc, rLenD, rLenT, rDictOf, rMaxL, rIndex, rCatTN, rCatTE, tDNewN, tDNewTN, tDisp1T, rNeM, rRange2, rListRng, rRepN, rPopAt, rSetL, gSub, ipI, tDGet, tDGet2, sDPut, iEnum, iEZ, iZipL, tDGetJ, rInJ, sDPutJ, tDGet2J, tDisp1J, iDict, iEnumT, rSortJ, rMinT, rMinL, tRaise, tTryX, iZip, rInD, rIxD, rLen, rAll, rAny, rSum, rListOf, rEqS, rNeS, rSlTN, rStrB, tTupN, tLstN, rSlLN, rCatN, cxK, cxP, cxW, tSeq, tIfS, tTest, tB, tOp, tUn, tC, tAnd, tOr, tNot, tAndV, tOrV, tNotV, tIf, tNext, tBreak, tCont, tDrop, tRet, tRetN, gName, gNil, gCons, gTup, tAsg, tPar, tAug, rI, rI0, rU, rEq, rNe, tChain, tNil, tCons, tTup, tLst, tCall, tCB, tNoPart, tPart, tSl, rSlT, rSlL, rSlS, rIxL, rIxT, rIxS, rIn, tBM0, tBM, tyV, rAppend, rExtend, rCat, rZfill, rEqD, iList, iTup, iStr, iRng1, iRng2, tYes, tDisp, tPairs, rd_v0, rd_vS, rd_comp, rd_for, rd_ite_t, rd_ite_f, List.set_cons_zero, List.set_cons_succ, List.nil_append, List.cons_append, List.append_nil, V.int.injEq, V.str.injEq, V.bl.injEq, V.ref.injEq, V.ty.injEq, List.cons.injEq, and_true, true_and, exists_eq_left, exists_eq_left', exists_and_left, exists_eq, exists_const, if_true, if_false, ite_true, ite_false, rd_ss, rd_si, rd_is, rd_ii, rd_bb, Option.some.injEq, exists_eq_right, exists_eq_right', and_assoc, reduceCtorEq, false_and, and_false, false_or, or_false, exists_false]
        have key : ∀ ix : Int, ix = 0 ∨ ix = 1 → ∀ p1 H5, New H4 p1 (.lst [V.int (0 + (j : Int)), V.int (if (n : Int) - 1 < 0 + (j : Int) + 1 then (n : Int) - 1 else 0 + (j : Int) + 1)]) H5 → ∃ x, SqL K H5 p1 x ∧ ∃ x_1, atI x ix = some x_1 ∧ ∃ x, H5 p3 = some (.lst x) ∧ x.length < sizeLine ∧ Same H (upd H5 p3 (.lst (x ++ [x_1]))) ∧ TupS H3 (upd H5 p3 (.lst (x ++ [x_1]))) ∧
            upd H5 p3 (.lst (x ++ [x_1])) p = some (.lst rs) ∧ upd H5 p3 (.lst (x ++ [x_1])) p2 = some (.lst rs2) ∧ ∃ ln : List Nat, upd H5 p3 (.lst (x ++ [x_1])) p3 = some (.lst (ln.map nV)) ∧ ln.length = k + 1 ∧ ∀ r : Nat, r ∈ ln → r < n := by
          intro ix hix p1 H5 n5
          have fin : ∀ r : Nat, r < n → ∃ x, H5 p3 = some (.lst x) ∧ x.length < sizeLine ∧ Same H (upd H5 p3 (.lst (x ++ [nV r]))) ∧ TupS H3 (upd H5 p3 (.lst (x ++ [nV r]))) ∧
              upd H5 p3 (.lst (x ++ [nV r])) p = some (.lst rs) ∧ upd H5 p3 (.lst (x ++ [nV r])) p2 = some (.lst rs2) ∧ ∃ ln : List Nat, upd H5 p3 (.lst (x ++ [nV r])) p3 = some (.lst (ln.map nV)) ∧ ln.length = k + 1 ∧ ∀ r : Nat, r ∈ ln → r < n := by
            intro r hr
            have e5 := n5.g _ _ e3
            refine ⟨_, e5, by rw [List.length_map]; exact small1000 (by omega), (g3.trans n5.g).wr (g2.free n3.nil) _, (ts3.trans n5.g.tups).trans (TupS.wr e5 _), by rw [upd_ne ne3]; exact n5.g _ _ ep3, by rw [upd_ne ne4]; exact n5.g _ _ ep32, ln ++ [r], by rw [upd_same, List.map_append]; rfl, by rw [List.length_append, List.length_singleton, lk], fun y hy => ?_⟩
            rcases List.mem_append.mp hy with h | h
            · exact hr3 y h
            · rw [List.mem_singleton.mp h]; exact hr
          rcases hix with rfl | rfl
          · refine ⟨_, .of n5.at', _, atI_0, ?_⟩
            rw [Int.zero_add]
            exact fin j hj
          · refine ⟨_, .of n5.at', _, atI_nat (j := 1) rfl, ?_⟩
            by_cases hc : (n : Int) - 1 < 0 + (j : Int) + 1
            · rw [if_pos hc, show (n : Int) - 1 = ((n - 1 : Nat) : Int) by omega]
              exact fin (n - 1) (by omega)
            · rw [if_neg hc, show 0 + (j : Int) + 1 = ((j + 1 : Nat) : Int) by omega]
              exact fin (j + 1) (by omega)
        have ixb : ∀ b : Bool, (if b = true then (1 : Int) else 0) = 0 ∨ (if b = true then (1 : Int) else 0) = 1 := fun b => by cases b <;> decide
        by_cases c1 : (0 : Int) + (j : Int) = 0 + (k : Int)
        · rw [decide_eq_true c1]
          exact iteT ⟨.inl ⟨_, .of e3⟩, small_line (by simp), fun p1 H5 n5 => key _ (ixb _) p1 H5 n5⟩
        · rw [decide_eq_false c1]
          refine iteF ?_
          by_cases c2 : (0 : Int) + (k : Int) = 0
          · rw [decide_eq_true c2]
            refine iteT ⟨by omega, .inl ⟨_, .of e3⟩, small_line (by simp), fun p1 H5 n5 => ?_⟩
            cases decide (Builtin.bitAnd (x / 2 ^ (0 + (j : Int)).toNat) 1 = 1) with
            | true => exact iteT (key _ (ixb _) p1 H5 n5)
            | false => exact iteF (key 0 (.inl rfl) p1 H5 n5)
          · rw [decide_eq_false c2]
            exact iteF ⟨.inl ⟨_, .of e3⟩, small_line (by simp), fun p1 H5 n5 => key 0 (.inl rfl) p1 H5 n5⟩
      · rintro σ H4 ⟨g3, ts3, ⟨v8, v9, rfl⟩, ep3, ep32, ln, e3, lk, hr3⟩
        simp only [exists_eq', rEqI, rNeI, rInDc, rLenD, rLenT, rDictOf, rMaxL, rIndex, rCatTN, rCatTE, tDNewN, tDNewTN, tDisp1T, rNeM, rRange2, rListRng, rRepN, rPopAt, rSetL, gSub, ipI, tDGet, tDGet2, sDPut, iEnum, iEZ, iZipL, tDGetJ, rInJ, sDPutJ, tDGet2J, tDisp1J, iDict, iEnumT, rSortJ, rMinT, rMinL, tRaise, tTryX, iZip, rInD, rIxD, rLen, rAll, rAny, rSum, rListOf, rEqS, rNeS, rSlTN, rStrB, tTupN, tLstN, rSlLN, rCatN, cxK, cxP, cxW, tSeq, tIfS, tTest, tB, tOp, tUn, tC, tAnd, tOr, tNot, tAndV, tOrV, tNotV, tIf, tNext, tBreak, tCont, tDrop, tRet, tRetN, gName, gNil, gCons, gTup, tAsg, tPar, tAug, rI, rI0, rU, rEq, rNe, tChain, tNil, tCons, tTup, tLst, tCall, tCB, tNoPart, tPart, tSl, rSlT, rSlL, rSlS, rIxL, rIxT, rIxS, rIn, tBM0, tBM, tyV, rAppend, rExtend, rCat, rZfill, rEqD, iList, iTup, iStr, iRng1, iRng2, tYes, tDisp, tPairs, rd_v0, rd_vS, rd_comp, rd_for, rd_ite_t, rd_ite_f, List.set_cons_zero, List.set_cons_succ, List.nil_append, List.cons_append, List.append_nil, V.int.injEq, V.str.injEq, V.bl.injEq, V.ref.injEq, V.ty.injEq, List.cons.injEq, and_true, true_and, exists_eq_left, exists_eq_left', exists_and_left, exists_eq, exists_const, if_true, if_false, ite_true, ite_false, rd_ss, rd_si, rd_is, rd_ii, rd_bb, Option.some.injEq, exists_eq_right, exists_eq_right', and_assoc, reduceCtorEq, false_and, and_false, false_or, or_false, exists_false]
        refine ⟨.inl ⟨_, .of ep32⟩, _, .inl ⟨.of e3, fun t H5 n5 => ⟨_, n5.g _ _ ep32, ?_, ?_⟩⟩⟩
        · have := SS.Paired.len pr2
          exact small1000 (by omega)
        have tsA : TupS H'' (upd H5 p2 (.lst (rs2 ++ [.ref t]))) := (n3.g.tups.trans ts3).trans (n5.g.tups.trans (TupS.wr (n5.g _ _ ep32) _))
        refine ⟨(g3.trans n5.g).wr (g.free n2.nil) _, ts.trans tsA, by rw [upd_ne ne2]; exact n5.g _ _ ep3, rs2 ++ [.ref t], upd_same, lines ++ [ln], SM.Paired.snoc (L2.Paired.mapP pr2 fun _ _ z => z.ts tsA) ⟨t, rfl, TupS.wr (n5.g _ _ ep32) _ _ _ n5.at'⟩, by rw [List.length_append, List.length_singleton, le], fun l hl => ?_⟩
        rcases List.mem_append.mp hl with h | h
        · exact hr2 l h
        · rw [List.mem_singleton.mp h]
          exact ⟨lk, hr3⟩
    · rintro σ H'' ⟨g2, ts, ⟨v6, v7, v8, v9, rfl⟩, ep2, rs2, lines, e2, pr2, le, hr2⟩
      simp only [exists_eq', rEqI, rNeI, rInDc, rLenD, rLenT, rDictOf, rMaxL, rIndex, rCatTN, rCatTE, tDNewN, tDNewTN, tDisp1T, rNeM, rRange2, rListRng, rRepN, rPopAt, rSetL, gSub, ipI, tDGet, tDGet2, sDPut, iEnum, iEZ, iZipL, tDGetJ, rInJ, sDPutJ, tDGet2J, tDisp1J, iDict, iEnumT, rSortJ, rMinT, rMinL, tRaise, tTryX, iZip, rInD, rIxD, rLen, rAll, rAny, rSum, rListOf, rEqS, rNeS, rSlTN, rStrB, tTupN, tLstN, rSlLN, rCatN, cxK, cxP, cxW, tSeq, tIfS, tTest, tB, tOp, tUn, tC, tAnd, tOr, tNot, tAndV, tOrV, tNotV, tIf, tNext, tBreak, tCont, tDrop, tRet, tRetN, gName, gNil, gCons, gTup, tAsg, tPar, tAug, rI, rI0, rU, rEq, rNe, tChain, tNil, tCons, tTup, tLst, tCall, tCB, tNoPart, tPart, tSl, rSlT, rSlL, rSlS, rIxL, rIxT, rIxS, rIn, tBM0, tBM, tyV, rAppend, rExtend, rCat, rZfill, rEqD, iList, iTup, iStr, iRng1, iRng2, tYes, tDisp, tPairs, rd_v0, rd_vS, rd_comp, rd_for, rd_ite_t, rd_ite_f, List.set_cons_zero, List.set_cons_succ, List.nil_append, List.cons_append, List.append_nil, V.int.injEq, V.str.injEq, V.bl.injEq, V.ref.injEq, V.ty.injEq, List.cons.injEq, and_true, true_and, exists_eq_left, exists_eq_left', exists_and_left, exists_eq, exists_const, if_true, if_false, ite_true, ite_false, rd_ss, rd_si, rd_is, rd_ii, rd_bb, Option.some.injEq, exists_eq_right, exists_eq_right', and_assoc, reduceCtorEq, false_and, and_false, false_or, or_false, exists_false]
      refine ⟨.inl ⟨_, .of ep2⟩, _, .inl ⟨.of e2, fun t H5 n5 => ⟨_, n5.g _ _ ep2, ?_, ?_⟩⟩⟩
      · have := SS.Paired.len pr
        exact small1000 (by omega)
      have tsA : TupS H' (upd H5 p (.lst (rs ++ [.ref t]))) := (n2.g.tups.trans ts).trans (n5.g.tups.trans (TupS.wr (n5.g _ _ ep2) _))
      have tsB : TupS H'' (upd H5 p (.lst (rs ++ [.ref t]))) := n5.g.tups.trans (TupS.wr (n5.g _ _ ep2) _)
      refine ⟨(g2.trans n5.g).wr n1.nil _, rs ++ [.ref t], upd_same, tabs ++ [lines], SM.Paired.snoc (L2.Paired.mapP pr fun _ _ z => z.ts tsA) ⟨t, rs2, rfl, TupS.wr (n5.g _ _ ep2) _ _ _ n5.at', L2.Paired.mapP pr2 fun _ _ z => z.ts tsB⟩, by rw [List.length_append, List.length_singleton, ll], fun l hl => ?_⟩
      rcases List.mem_append.mp hl with h | h
      · exact hg l h
      · rw [List.mem_singleton.mp h]
        exact ⟨le, hr2⟩
  · rintro σ H' ⟨g, ⟨v4, v5, v6, v7, v8, v9, rfl⟩, rs, tabs, ep, pr, ll, hg⟩
    simp only [exists_eq', rEqI, rNeI, rInDc, rLenD, rLenT, rDictOf, rMaxL, rIndex, rCatTN, rCatTE, tDNewN, tDNewTN, tDisp1T, rNeM, rRange2, rListRng, rRepN, rPopAt, rSetL, gSub, ipI, tDGet, tDGet2, sDPut, iEnum, iEZ, iZipL, tDGetJ, rInJ, sDPutJ, tDGet2J, tDisp1J, iDict, iEnumT, rSortJ, rMinT, rMinL, tRaise, tTryX, iZip, rInD, rIxD, rLen, rAll, rAny, rSum, rListOf, rEqS, rNeS, rSlTN, rStrB, tTupN, tLstN, rSlLN, rCatN, cxK, cxP, cxW, tSeq, tIfS, tTest, tB, tOp, tUn, tC, tAnd, tOr, tNot, tAndV, tOrV, tNotV, tIf, tNext, tBreak, tCont, tDrop, tRet, tRetN, gName, gNil, gCons, gTup, tAsg, tPar, tAug, rI, rI0, rU, rEq, rNe, tChain, tNil, tCons, tTup, tLst, tCall, tCB, tNoPart, tPart, tSl, rSlT, rSlL, rSlS, rIxL, rIxT, rIxS, rIn, tBM0, tBM, tyV, rAppend, rExtend, rCat, rZfill, rEqD, iList, iTup, iStr, iRng1, iRng2, tYes, tDisp, tPairs, rd_v0, rd_vS, rd_comp, rd_for, rd_ite_t, rd_ite_f, List.set_cons_zero, List.set_cons_succ, List.nil_append, List.cons_append, List.append_nil, V.int.injEq, V.str.injEq, V.bl.injEq, V.ref.injEq, V.ty.injEq, List.cons.injEq, and_true, true_and, exists_eq_left, exists_eq_left', exists_and_left, exists_eq, exists_const, if_true, if_false, ite_true, ite_false, rd_ss, rd_si, rd_is, rd_ii, rd_bb, Option.some.injEq, exists_eq_right, exists_eq_right', and_assoc, reduceCtorEq, false_and, and_false, false_or, or_false, exists_false]
    refine ⟨_, .inl ⟨.of ep, fun t1 H4 n4 => ⟨by omega, by omega, ?_⟩⟩⟩
    rw [show ((n : Nat) : Int).toNat = n from rfl]
    refine cg_by (n := n) (fun σ => ∃ v, σ = [v, some (nV n), some (.int x)]) (fun j y H => ∃ b : Bool, y = .bl b) (by omega) ⟨none, by simp [stB]⟩ (fun i H' hi gg => hi) (fun H' gg => Nat.le_refl _) ?_ ?_
    · rintro D i ys σ H1 y H1' hi gg hD hD' hll hy ⟨v, rfl⟩ ⟨rfl, rfl⟩
      simp only [exists_eq', rEqI, rNeI, rInDc, rLenD, rLenT, rDictOf, rMaxL, rIndex, rCatTN, rCatTE, tDNewN, tDNewTN, tDisp1T, rNeM, rRange2, rListRng, rRepN, rPopAt, rSetL, gSub, ipI, tDGet, tDGet2, sDPut, iEnum, iEZ, iZipL, tDGetJ, rInJ, sDPutJ, tDGet2J, tDisp1J, iDict, iEnumT, rSortJ, rMinT, rMinL, tRaise, tTryX, iZip, rInD, rIxD, rLen, rAll, rAny, rSum, rListOf, rEqS, rNeS, rSlTN, rStrB, tTupN, tLstN, rSlLN, rCatN, cxK, cxP, cxW, tSeq, tIfS, tTest, tB, tOp, tUn, tC, tAnd, tOr, tNot, tAndV, tOrV, tNotV, tIf, tNext, tBreak, tCont, tDrop, tRet, tRetN, gName, gNil, gCons, gTup, tAsg, tPar, tAug, rI, rI0, rU, rEq, rNe, tChain, tNil, tCons, tTup, tLst, tCall, tCB, tNoPart, tPart, tSl, rSlT, rSlL, rSlS, rIxL, rIxT, rIxS, rIn, tBM0, tBM, tyV, rAppend, rExtend, rCat, rZfill, rEqD, iList, iTup, iStr, iRng1, iRng2, tYes, tDisp, tPairs, rd_v0, rd_vS, rd_comp, rd_for, rd_ite_t, rd_ite_f, List.set_cons_zero, List.set_cons_succ, List.nil_append, List.cons_append, List.append_nil, V.int.injEq, V.str.injEq, V.bl.injEq, V.ref.injEq, V.ty.injEq, List.cons.injEq, and_true, true_and, exists_eq_left, exists_eq_left', exists_and_left, exists_eq, exists_const, if_true, if_false, ite_true, ite_false, rd_ss, rd_si, rd_is, rd_ii, rd_bb, Option.some.injEq, exists_eq_right, exists_eq_right', and_assoc, reduceCtorEq, false_and, and_false, false_or, or_false, exists_false]
      exact ⟨⟨by decide, by decide⟩, by omega, cg_step (fun j y H H' _ z => z) (by omega) hi hD hD' hll hy (TupS.refl _) gg ⟨_, rfl⟩ ⟨_, rfl⟩⟩
    · intro D ys H5 hD g5 eD hll hy
      obtain ⟨bs, rfl⟩ : ∃ bs : List Bool, ys = bs.map V.bl := by
        clear eD hll
        induction ys with
        | nil => exact ⟨[], rfl⟩
        | cons y ys ih =>
          obtain ⟨b, rfl⟩ := hy 0 y rfl
          obtain ⟨bs, rfl⟩ := ih fun j y e => hy (j + 1) y (by simpa using e)
          exact ⟨b :: bs, rfl⟩
      rw [List.length_map] at hll
      refine ⟨D, rfl, _, .inl ⟨.of eD, fun t2 H6 n6 => ⟨small_line (by simp), fun t3 H7 n7 => ?_⟩⟩⟩
      have gA : Same H' H7 := n4.g.trans (g5.trans (n6.g.trans n7.g))
      refine q t3 ⟨wd, tabs, bs⟩ H7 (g.trans gA) ⟨t1, t2, rs, n7.at', (g5.trans (n6.g.trans n7.g)) _ _ n4.at', L2.Paired.mapP pr fun _ _ z => z.ts gA.tups, n7.g _ _ n6.at'⟩ ⟨?_, ?_, ?_, ?_, ?_, ?_, ?_⟩ rfl hll
      · show wd ≤ 3; omega
      · show 0 < bs.length; omega
      · show bs.length ≤ 30; omega
      · exact ll
      · intro t ht; show t.length = bs.length; rw [hll]; exact (hg t ht).1
      · intro t ht l hl; show l.length = bs.length; rw [hll]; exact ((hg t ht).2 l hl).1
      · intro t ht l hl r hr; show r < bs.length; rw [hll]; exact ((hg t ht).2 l hl).2 r hr
end
end K49
set_option Elab.async false
set_option linter.all false
set_option maxRecDepth 100000
set_option maxHeartbeats 4000000
set_option pp.deepTerms true
set_option pp.maxSteps 100000
namespace K49
open PySem PySem.Spec PyProof.Rows L2 SS SM
seal PE PT PW PA PS PSs
section
variable {P : Program} {w : World} {K : PySem.W.Frag} {mg : Str → Option Value} {base : Heap} {cTooGreat : Addr}
abbrev sp_law := sp_lawF
abbrev s_law : Stmt := top 18
theorem sc_law : FnScope ["_law_script", "_law_number", "_law_width", "_law_rooms", "_law_seed", "_law_machine_here"] ["_law_script"] (defScope s_law) := ⟨rfl, rfl, rfl, by decide +kernel, rfl, by decide +kernel, by decide +kernel⟩
theorem ok_law {f : Addr} {fd : FuncData} (T : Txt K mg cTooGreat) (F : Fun K "law" "law" s_law f fd) (C_law_cell_at : Cal P w K mg base 1 "_law_cell_at" ["_law_script", "_law_k"] (sp_cell K)) (C_law_machine : Cal P w K mg base 1 "_law_machine" ["_law_number", "_law_rooms", "_law_width"] sp_machT)
    (C_law_steps : Cal P w K mg base 1 "_law_steps" ["_law_rooms", "_law_width", "_law_number"] sp_steps49) (C_law_right : Cal P w K mg base 12 "_law_right" ["_law_machine_here"] sp_right49) : FnOk P w K mg base CX0 13 f fd ["_law_script"] (sp_law K) := by
  refine F.ok sc_law (fun vs H Q E h => ?_) (fun cdv A outer s H vs Q E hr h => ?_)
  · obtain ⟨a, ns, rfl, _⟩ := h
    rfl
  obtain ⟨a, ns, rfl, hS, h63, q⟩ := h
  refine ⟨_, (pss_cons (ps_set (i := 1) sc_law.nd rfl (Or.inr rfl) (pe_op op_mod (pe_callC C_law_cell_at hr (by omega) (by rfl) (pa_c (pv 0) (pa_c pe_int pa_nil))) (pe_op op_pow pe_int pe_int))) (pss_cons (ps_set (i := 2) sc_law.nd rfl (Or.inl rfl) (pe_op op_mod (pv 1) pe_int)) (pss_cons (ps_set (i := 3) sc_law.nd rfl (Or.inr rfl) (pe_op op_add pe_int (pe_op op_mod (pe_callC C_law_cell_at hr (by omega) (by rfl) (pa_c (pv 0) (pa_c pe_int pa_nil))) pe_int))) (pss_cons (ps_set (i := 4) sc_law.nd rfl (Or.inl rfl) (pe_op op_mod (pe_op op_add (pe_op op_mul (pe_cB (call_sum_intK K rfl) (by rfl) T.b_sum boot_sum (pa_c (pe_slice (sl_listNK K) (pv 0) (po_some pe_int) po_none) pa_nil)) pe_int) (pe_op op_fdiv (pv 1) pe_int)) pe_int)) (pss_cons (ps_set (i := 5) sc_law.nd rfl (Or.inl rfl) (pe_callC C_law_machine hr (by omega) (by rfl) (pa_c (pv 4) (pa_c (pv 3) (pa_c (pv 2) pa_nil))))) (pss_cut (ps_if (pt_cmpR op_eq (pe_op op_mod (pe_op op_fdiv (pv 1) pe_int) pe_int) pe_int (nomark _)) (pss_one (ps_set (i := 5) sc_law.nd rfl (Or.inl rfl) (pe_tupN (pa_c (pv 2) (pa_c (pe_ix (ix_tupK K) (pv 5) pe_int (fun _ _ => rfl)) (pa_c (pe_cTy call_tuple_ofN (by rfl) T.b_tuple boot_tuple (pa_c (pe_lcomp ["_law_room_here"] [(1, "_law_number"), (3, "_law_rooms")] (CompOk.of rfl (by rfl) (by rfl)) (by rfl) (pi_range1 (by rfl) T.b_range (pa_c (pv 3) pa_nil)) (fun _ _ _ _ _ => (pg_name (i := 0) (show List.Nodup (["_law_room_here", "_law_number", "_law_rooms"] : List Str) by decide +kernel) (by rfl) (Or.inl (by rfl)))) (fun _ _ _ _ _ => pf_nil) (fun _ _ _ _ _ => (pe_cmpR op_eq (pe_op op_mod (pe_op op_fdiv (pv 1) pe_int) (pe_op op_add (pv 2) pe_int)) (pv 0) (nomark _)))) pa_nil)) pa_nil)))))) pss_nil) (pss_cut (ps_if (pt_cmpR op_eq (pe_op op_mod (pe_op op_fdiv (pv 1) pe_int) pe_int) pe_int (nomark _)) (pss_one (ps_set (i := 5) sc_law.nd rfl (Or.inl rfl) (pe_callC C_law_steps hr (by omega) (by rfl) (pa_c (pv 3) (pa_c (pv 2) (pa_c (pe_op op_fdiv (pv 4) pe_int) pa_nil)))))) pss_nil) (pss_one (ps_ret (pe_and (pe_callC C_law_right hr (by omega) (by rfl) (pa_c (pv 5) pa_nil)) (pe_one (pe_callC C_law_right hr (by omega) (by rfl) (pa_c (pe_callC C_law_steps hr (by omega) (by rfl) (pa_c (pv 3) (pa_c (pv 2) (pa_c (pv 4) pa_nil)))) pa_nil))))))))))))), ?_⟩
  refine rd_st [some (.ref a), none, none, none, none, none] rfl ?_
  simp only [exists_eq', rEqI, rNeI, rInDc, rLenD, rLenT, rDictOf, rMaxL, rIndex, rCatTN, rCatTE, tDNewN, tDNewTN, tDisp1T, rNeM, rRange2, rListRng, rRepN, rPopAt, rSetL, gSub, ipI, tDGet, tDGet2, sDPut, iEnum, iEZ, iZipL, tDGetJ, rInJ, sDPutJ, tDGet2J, tDisp1J, iDict, iEnumT, rSortJ, rMinT, rMinL, tRaise, tTryX, iZip, rInD, rIxD, rLen, rAll, rAny, rSum, rListOf, rEqS, rNeS, rSlTN, rStrB, tTupN, tLstN, rSlLN, rCatN, cxK, cxP, cxW, tSeq, tIfS, tTest, tB, tOp, tUn, tC, tAnd, tOr, tNot, tAndV, tOrV, tNotV, tIf, tNext, tBreak, tCont, tDrop, tRet, tRetN, gName, gNil, gCons, gTup, tAsg, tPar, tAug, rI, rI0, rU, rEq, rNe, tChain, tNil, tCons, tTup, tLst, tCall, tCB, tNoPart, tPart, tSl, rSlT, rSlL, rSlS, rIxL, rIxT, rIxS, rIn, tBM0, tBM, tyV, rAppend, rExtend, rCat, rZfill, rEqD, iList, iTup, iStr, iRng1, iRng2, tYes, tDisp, tPairs, rd_v0, rd_vS, rd_comp, rd_for, rd_ite_t, rd_ite_f, List.set_cons_zero, List.set_cons_succ, List.nil_append, List.cons_append, List.append_nil, V.int.injEq, V.str.injEq, V.bl.injEq, V.ref.injEq, V.ty.injEq, List.cons.injEq, and_true, true_and, exists_eq_left, exists_eq_left', exists_and_left, exists_eq, exists_const, if_true, if_false, ite_true, ite_false, rd_ss, rd_si, rd_is, rd_ii, rd_bb, Option.some.injEq, exists_eq_right, exists_eq_right', and_assoc, reduceCtorEq, false_and, and_false, false_or, or_false, exists_false]
  refine ⟨a, ns, 0, rfl, hS, by decide, fun c => ⟨⟨by decide, by decide, by decide⟩, _, rfl, by decide, by decide, ?_⟩⟩
  have hh := Int.emod_nonneg c (show (10 : Int) ^ Int.toNat 20 ≠ 0 by decide)
  generalize c % (10 : Int) ^ Int.toNat 20 = hd at hh
  have w0 := Int.emod_nonneg hd (show (3 : Int) ≠ 0 by decide)
  have w1 := Int.emod_lt_of_pos hd (show (0 : Int) < 3 by decide)
  obtain ⟨wd, ewd⟩ : ∃ wd : Nat, hd % 3 = (wd : Int) := ⟨(hd % 3).toNat, by omega⟩
  rw [ewd]
  have hw2 : wd ≤ 2 := by omega
  refine ⟨a, ns, 1, rfl, hS, by decide, fun c2 => ⟨_, rfl, by decide, ?_⟩⟩
  have r0 := Int.emod_nonneg c2 (show (9 : Int) ≠ 0 by decide)
  have r1 := Int.emod_lt_of_pos c2 (show (0 : Int) < 9 by decide)
  obtain ⟨n, en⟩ : ∃ n : Nat, 1 + c2 % 9 = (n : Int) := ⟨(1 + c2 % 9).toNat, by omega⟩
  rw [en]
  have hn : 1 ≤ n ∧ n ≤ 9 := by omega
  refine ⟨_, hS, fun pc H2 n2 => ?_⟩
  rw [cutL_map] at n2
  refine ⟨_, .of n2.at', .inr ⟨by decide, by decide⟩, ⟨by decide, by decide⟩, by decide, ?_⟩
  have s0 := Int.emod_nonneg ((cutL ns (some 2) none).sum * 69621 + hd / 9) (show (2147483629 : Int) ≠ 0 by decide)
  generalize ((cutL ns (some 2) none).sum * 69621 + hd / 9) % 2147483629 = sd at s0 ⊢
  refine ⟨sd, n, wd, rfl, by omega, by omega, by omega, fun p1 t1 H3 g3 rt1 o1 ew1 en1 => ?_⟩
  clear r0 r1 w0 w1 en ewd
  have g03 : Same H H3 := n2.g.trans g3
  refine ⟨fun σ H' => ∃ p1 t1, Same H H' ∧ σ = [some (.ref a), some (.int hd), some (nV wd), some (nV n), some (.int sd), some (.ref p1)] ∧ RepT H' p1 t1 ∧ t1.Ok ∧ t1.w = wd ∧ t1.n = n, ?_, ?_⟩
  · simp only [exists_eq', rEqI, rNeI, rInDc, rLenD, rLenT, rDictOf, rMaxL, rIndex, rCatTN, rCatTE, tDNewN, tDNewTN, tDisp1T, rNeM, rRange2, rListRng, rRepN, rPopAt, rSetL, gSub, ipI, tDGet, tDGet2, sDPut, iEnum, iEZ, iZipL, tDGetJ, rInJ, sDPutJ, tDGet2J, tDisp1J, iDict, iEnumT, rSortJ, rMinT, rMinL, tRaise, tTryX, iZip, rInD, rIxD, rLen, rAll, rAny, rSum, rListOf, rEqS, rNeS, rSlTN, rStrB, tTupN, tLstN, rSlLN, rCatN, cxK, cxP, cxW, tSeq, tIfS, tTest, tB, tOp, tUn, tC, tAnd, tOr, tNot, tAndV, tOrV, tNotV, tIf, tNext, tBreak, tCont, tDrop, tRet, tRetN, gName, gNil, gCons, gTup, tAsg, tPar, tAug, rI, rI0, rU, rEq, rNe, tChain, tNil, tCons, tTup, tLst, tCall, tCB, tNoPart, tPart, tSl, rSlT, rSlL, rSlS, rIxL, rIxT, rIxS, rIn, tBM0, tBM, tyV, rAppend, rExtend, rCat, rZfill, rEqD, iList, iTup, iStr, iRng1, iRng2, tYes, tDisp, tPairs, rd_v0, rd_vS, rd_comp, rd_for, rd_ite_t, rd_ite_f, List.set_cons_zero, List.set_cons_succ, List.nil_append, List.cons_append, List.append_nil, V.int.injEq, V.str.injEq, V.bl.injEq, V.ref.injEq, V.ty.injEq, List.cons.injEq, and_true, true_and, exists_eq_left, exists_eq_left', exists_and_left, exists_eq, exists_const, if_true, if_false, ite_true, ite_false, rd_ss, rd_si, rd_is, rd_ii, rd_bb, Option.some.injEq, exists_eq_right, exists_eq_right', and_assoc, reduceCtorEq, false_and, and_false, false_or, or_false, exists_false]
    refine ⟨⟨by decide, by decide⟩, by decide, ite2 (fun _ => ?_) fun _ => ⟨g03, t1, rt1, o1, ew1, en1⟩⟩
    obtain ⟨b1, c1, ts1, ea, eb1, pr1, ec1⟩ := id rt1
    refine ⟨_, .of ea, _, atI_nat (j := 1) rfl, by omega, by omega, ?_⟩
    rw [show ((n : Nat) : Int).toNat = n from rfl]
    refine cg_by (n := n) (fun σ => ∃ v, σ = [v, some (.int hd), some (nV n)]) (fun j y H => ∃ b : Bool, y = .bl b) (by omega) ⟨none, by simp [stB]⟩ (fun i H' hi gg => hi) (fun H' gg => Nat.le_refl _) ?_ ?_
    · rintro D i ys σ H1 y H1' hi gg hD hD' hll hy ⟨v, rfl⟩ ⟨rfl, rfl⟩
      simp only [exists_eq', rEqI, rNeI, rInDc, rLenD, rLenT, rDictOf, rMaxL, rIndex, rCatTN, rCatTE, tDNewN, tDNewTN, tDisp1T, rNeM, rRange2, rListRng, rRepN, rPopAt, rSetL, gSub, ipI, tDGet, tDGet2, sDPut, iEnum, iEZ, iZipL, tDGetJ, rInJ, sDPutJ, tDGet2J, tDisp1J, iDict, iEnumT, rSortJ, rMinT, rMinL, tRaise, tTryX, iZip, rInD, rIxD, rLen, rAll, rAny, rSum, rListOf, rEqS, rNeS, rSlTN, rStrB, tTupN, tLstN, rSlLN, rCatN, cxK, cxP, cxW, tSeq, tIfS, tTest, tB, tOp, tUn, tC, tAnd, tOr, tNot, tAndV, tOrV, tNotV, tIf, tNext, tBreak, tCont, tDrop, tRet, tRetN, gName, gNil, gCons, gTup, tAsg, tPar, tAug, rI, rI0, rU, rEq, rNe, tChain, tNil, tCons, tTup, tLst, tCall, tCB, tNoPart, tPart, tSl, rSlT, rSlL, rSlS, rIxL, rIxT, rIxS, rIn, tBM0, tBM, tyV, rAppend, rExtend, rCat, rZfill, rEqD, iList, iTup, iStr, iRng1, iRng2, tYes, tDisp, tPairs, rd_v0, rd_vS, rd_comp, rd_for, rd_ite_t, rd_ite_f, List.set_cons_zero, List.set_cons_succ, List.nil_append, List.cons_append, List.append_nil, V.int.injEq, V.str.injEq, V.bl.injEq, V.ref.injEq, V.ty.injEq, List.cons.injEq, and_true, true_and, exists_eq_left, exists_eq_left', exists_and_left, exists_eq, exists_const, if_true, if_false, ite_true, ite_false, rd_ss, rd_si, rd_is, rd_ii, rd_bb, Option.some.injEq, exists_eq_right, exists_eq_right', and_assoc, reduceCtorEq, false_and, and_false, false_or, or_false, exists_false]
      exact ⟨⟨by decide, by decide⟩, by omega, cg_step (fun j y H H' _ z => z) (by omega) hi hD hD' hll hy (TupS.refl _) gg ⟨_, rfl⟩ ⟨_, rfl⟩⟩
    · intro D ys H5 hD g5 eD hll hy
      obtain ⟨bs, rfl⟩ : ∃ bs : List Bool, ys = bs.map V.bl := by
        clear eD hll
        induction ys with
        | nil => exact ⟨[], rfl⟩
        | cons y ys ih =>
          obtain ⟨b, rfl⟩ := hy 0 y rfl
          obtain ⟨bs, rfl⟩ := ih fun j y e => hy (j + 1) y (by simpa using e)
          exact ⟨b :: bs, rfl⟩
      rw [List.length_map] at hll
      refine ⟨D, rfl, _, .inl ⟨.of eD, fun t2 H6 n6 => ⟨small_line (by simp), fun t3 H7 n7 => ?_⟩⟩⟩
      have gA : Same H3 H7 := g5.trans (n6.g.trans n7.g)
      have en1' : t1.ends.length = n := en1
      refine ⟨g03.trans gA, ⟨wd, t1.ways, bs⟩, ⟨b1, t2, ts1, n7.at', gA _ _ eb1, L2.Paired.mapP pr1 fun _ _ z => z.ts gA.tups, n7.g _ _ n6.at'⟩, ⟨?_, ?_, ?_, ?_, ?_, ?_, ?_⟩, rfl, hll⟩
      · show wd ≤ 3; omega
      · show 0 < bs.length; omega
      · show bs.length ≤ 30; omega
      · show t1.ways.length = 2 ^ wd; rw [← ew1]; exact o1.len
      · intro t ht; show t.length = bs.length; rw [hll, ← en1']; exact o1.tab t ht
      · intro t ht l hl; show l.length = bs.length; rw [hll, ← en1']; exact o1.line t ht l hl
      · intro t ht l hl r hr; show r < bs.length; rw [hll, ← en1']; exact o1.room t ht l hl r hr
  rintro σ H4 ⟨p1, t1, g4, rfl, rt1, o1, ew1, en1⟩
  refine ⟨fun σ H' => ∃ p1 t1, Same H H' ∧ σ = [some (.ref a), some (.int hd), some (nV wd), some (nV n), some (.int sd), some (.ref p1)] ∧ RepT H' p1 t1 ∧ t1.Ok ∧ t1.w = wd ∧ t1.n = n, ?_, ?_⟩
  · simp only [exists_eq', rEqI, rNeI, rInDc, rLenD, rLenT, rDictOf, rMaxL, rIndex, rCatTN, rCatTE, tDNewN, tDNewTN, tDisp1T, rNeM, rRange2, rListRng, rRepN, rPopAt, rSetL, gSub, ipI, tDGet, tDGet2, sDPut, iEnum, iEZ, iZipL, tDGetJ, rInJ, sDPutJ, tDGet2J, tDisp1J, iDict, iEnumT, rSortJ, rMinT, rMinL, tRaise, tTryX, iZip, rInD, rIxD, rLen, rAll, rAny, rSum, rListOf, rEqS, rNeS, rSlTN, rStrB, tTupN, tLstN, rSlLN, rCatN, cxK, cxP, cxW, tSeq, tIfS, tTest, tB, tOp, tUn, tC, tAnd, tOr, tNot, tAndV, tOrV, tNotV, tIf, tNext, tBreak, tCont, tDrop, tRet, tRetN, gName, gNil, gCons, gTup, tAsg, tPar, tAug, rI, rI0, rU, rEq, rNe, tChain, tNil, tCons, tTup, tLst, tCall, tCB, tNoPart, tPart, tSl, rSlT, rSlL, rSlS, rIxL, rIxT, rIxS, rIn, tBM0, tBM, tyV, rAppend, rExtend, rCat, rZfill, rEqD, iList, iTup, iStr, iRng1, iRng2, tYes, tDisp, tPairs, rd_v0, rd_vS, rd_comp, rd_for, rd_ite_t, rd_ite_f, List.set_cons_zero, List.set_cons_succ, List.nil_append, List.cons_append, List.append_nil, V.int.injEq, V.str.injEq, V.bl.injEq, V.ref.injEq, V.ty.injEq, List.cons.injEq, and_true, true_and, exists_eq_left, exists_eq_left', exists_and_left, exists_eq, exists_const, if_true, if_false, ite_true, ite_false, rd_ss, rd_si, rd_is, rd_ii, rd_bb, Option.some.injEq, exists_eq_right, exists_eq_right', and_assoc, reduceCtorEq, false_and, and_false, false_or, or_false, exists_false]
    refine ⟨⟨by decide, by decide⟩, by decide, ite2 (fun _ => ?_) fun _ => ⟨g4, t1, rt1, o1, ew1, en1⟩⟩
    exact ⟨⟨by decide, by decide⟩, n, wd, _, rfl, hw2, hn.1, hn.2, Int.ediv_nonneg s0 (by decide), fun p2 t2 H5 g5 rt2 o2 ew2 en2 => ⟨g4.trans g5, p2, rfl, t2, rt2, o2, ew2, en2⟩⟩
  rintro σ H5 ⟨p1, t1, g5, rfl, rt1, o1, ew1, en1⟩
  simp only [exists_eq', rEqI, rNeI, rInDc, rLenD, rLenT, rDictOf, rMaxL, rIndex, rCatTN, rCatTE, tDNewN, tDNewTN, tDisp1T, rNeM, rRange2, rListRng, rRepN, rPopAt, rSetL, gSub, ipI, tDGet, tDGet2, sDPut, iEnum, iEZ, iZipL, tDGetJ, rInJ, sDPutJ, tDGet2J, tDisp1J, iDict, iEnumT, rSortJ, rMinT, rMinL, tRaise, tTryX, iZip, rInD, rIxD, rLen, rAll, rAny, rSum, rListOf, rEqS, rNeS, rSlTN, rStrB, tTupN, tLstN, rSlLN, rCatN, cxK, cxP, cxW, tSeq, tIfS, tTest, tB, tOp, tUn, tC, tAnd, tOr, tNot, tAndV, tOrV, tNotV, tIf, tNext, tBreak, tCont, tDrop, tRet, tRetN, gName, gNil, gCons, gTup, tAsg, tPar, tAug, rI, rI0, rU, rEq, rNe, tChain, tNil, tCons, tTup, tLst, tCall, tCB, tNoPart, tPart, tSl, rSlT, rSlL, rSlS, rIxL, rIxT, rIxS, rIn, tBM0, tBM, tyV, rAppend, rExtend, rCat, rZfill, rEqD, iList, iTup, iStr, iRng1, iRng2, tYes, tDisp, tPairs, rd_v0, rd_vS, rd_comp, rd_for, rd_ite_t, rd_ite_f, List.set_cons_zero, List.set_cons_succ, List.nil_append, List.cons_append, List.append_nil, V.int.injEq, V.str.injEq, V.bl.injEq, V.ref.injEq, V.ty.injEq, List.cons.injEq, and_true, true_and, exists_eq_left, exists_eq_left', exists_and_left, exists_eq, exists_const, if_true, if_false, ite_true, ite_false, rd_ss, rd_si, rd_is, rd_ii, rd_bb, Option.some.injEq, exists_eq_right, exists_eq_right', and_assoc, reduceCtorEq, false_and, and_false, false_or, or_false, exists_false]
  refine ⟨p1, t1, rfl, rt1, o1, by omega, by omega, fun H6 g6 => ?_⟩
  refine ⟨true, rfl, iteT ⟨n, wd, sd, rfl, hw2, hn.1, hn.2, s0, fun p2 t2 H7 g7 rt2 o2 ew2 en2 => ⟨p2, t2, rfl, rt2, o2, by omega, by show t2.ends.length ≤ 9; omega, fun H8 g8 => q H8⟩⟩⟩
end
end K49
set_option Elab.async false
set_option linter.all false
set_option maxRecDepth 100000
namespace K49
open PySem PySem.Spec PyProof.Rows L2 SS SM
section
variable {P : Program} {w : World} {K : PySem.W.Frag} {mg : Str → Option Value} {base : Heap} {f cTooGreat : Addr} {fd : FuncData}
theorem all (T : Txt K mg cTooGreat) (d_steps_beyond : Dfn K mg "steps_beyond" s_steps_beyond ["machine", "least"]) (d_least_trees : Dfn K mg "least_trees" s_least_trees ["machine"]) (d_smallest : Dfn K mg "smallest" s_smallest ["machine"]) (d_law_cell_at : Dfn K mg "_law_cell_at" s_law_cell_at ["_law_script", "_law_k"]) (d_law_machine : Dfn K mg "_law_machine" s_law_machine ["_law_number", "_law_rooms", "_law_width"]) (d_law_steps : Dfn K mg "_law_steps" s_law_steps ["_law_rooms", "_law_width", "_law_number"]) (d_law_sizes : Dfn K mg "_law_sizes" s_law_sizes ["_law_machine_here"]) (d_law_size : Dfn K mg "_law_size" s_law_size ["_law_tree"]) (d_law_is_tree : Dfn K mg "_law_is_tree" s_law_is_tree ["_law_tree", "_law_letters"]) (d_law_room : Dfn K mg "_law_room" s_law_room ["_law_machine_here", "_law_tree"]) (d_law_told : Dfn K mg "_law_told" s_law_told ["_law_machine_here"]) (d_law_right : Dfn K mg "_law_right" s_law_right ["_law_machine_here"]) (F : Fun K "law" "law" s_law f fd) : FnOk P w K mg base CX0 13 f fd ["_law_script"] (sp_law K) := by
  have c1 := ok_beyond (P := P) (w := w) (base := base) T d_steps_beyond
  have c2 := ok_least T d_least_trees c1
  have c3 := ok_smallest T d_smallest c2
  have l1 := ok_cell (P := P) (w := w) (base := base) T d_law_cell_at
  have l2 := ok_machT (P := P) (w := w) (base := base) T d_law_machine
  have l3 := ok_steps49 (P := P) (w := w) (base := base) T d_law_steps
  have l4 := ok_sizes49 (P := P) (w := w) (base := base) T d_law_sizes
  have l5 := ok_sizeT (P := P) (w := w) (base := base) T d_law_size 10
  have l6 := ok_istree (P := P) (w := w) (base := base) T d_law_is_tree 10
  have l7 := ok_roomT (P := P) (w := w) (base := base) T d_law_room 10
  have l8 := ok_told49 T d_law_told c3
  have l9 := ok_right49 T d_law_right l4 l8 l6 l5 l7
  exact ok_law T F l1 l2 l3 l9
end
end K49
namespace K49
open PySem PySem.Spec PyProof.Rows L2 SS SM
theorem txt_mk {K : PySem.W.Frag} {mg : Str → Option Value} {cTooGreat : Addr} (h0 : mg "isinstance" = none) (h1 : mg "tuple" = none) (h2 : mg "list" = none) (h3 : mg "int" = none) (h4 : mg "bool" = none) (h5 : mg "len" = none) (h6 : mg "min" = none) (h7 : mg "enumerate" = none) (h8 : GlV mg "MOST_NODES" (.int 100)) (h9 : mg "all" = none) (h10 : mg "sum" = none) (h11 : mg "range" = none) (h12 : mg "sorted" = none) (h13 : mg "any" = none) (h14 : mg "ValueError" = none) (h15 : mg "TooGreat" = some (.ref cTooGreat)) (h16 : KSup K cTooGreat) (h17 : PySem.W.mroIn K cTooGreat (.ref cTooGreat) = some true) (h18 : KExc K cTooGreat) (h19 : PySem.W.kitOne K (.ref cTooGreat) (.ref cTooGreat) = some true) (h20 : PySem.W.excIn K cTooGreat veM "ValueError.__new__" = true) : ∃ (qcTooGreat : Addr) , Txt K mg qcTooGreat  :=
  ⟨cTooGreat, ⟨h0, h1, h2, h3, h4, h5, h6, h7, h8, h9, h10, h11, h12, h13, h14, h15, h16, h17, h18, h19, h20⟩⟩
end K49
open PySem PySem.W PyProof.Rows
namespace PySem.W.Fast
theorem tw12636175755451676089 : True := trivial
theorem tw7847460594526612336 : True := trivial
theorem tw10543761316992582772 : True := trivial
theorem tw3549936803128842132 : True := trivial
theorem tw13077695032073511896 : True := trivial
theorem tw3541624198338616886 : True := trivial
theorem tw4792893588706921161 : True := trivial
theorem tw2641964387886836159 : True := trivial
theorem tw18019379725526280732 : True := trivial
theorem tw13860493552823952033 : True := trivial
theorem tw6468117469878490886 : True := trivial
theorem tw8358315193524037375 : True := trivial
theorem tw2404343467729508301 : True := trivial
theorem tw1402750338983367013 : True := trivial
theorem tw10714378840849345083 : True := trivial
theorem tw18005603772581447855 : True := trivial
theorem tw15520178297594387498 : True := trivial
theorem tw6680234370692671025 : True := trivial
theorem tw3348668373543966682 : True := trivial
theorem tw12853296260633136768 : True := trivial
theorem tw11899932655931493052 : True := trivial
theorem tw259417336045564319 : True := trivial
theorem tw2261458108160626602 : True := trivial
theorem tw9561771736023068011 : True := trivial
theorem tw16202749293862967146 : True := trivial
theorem tw6163274784447054799 : True := trivial
theorem tw3024388246670654191 : True := trivial
theorem tw4069735872230726541 : True := trivial
theorem tw11274442087760902796 : True := trivial
theorem tw17869759819537277044 : True := trivial
theorem tw12815391289991955605 : True := trivial
theorem tw9235485348926931201 : True := trivial
theorem tw11002171368774971814 : True := trivial
theorem tw14153285429317627355 : True := trivial
theorem tw1592914463576410246 : True := trivial
theorem tw9398512865306447721 : True := trivial
theorem tw11975709022346377742 : True := trivial
theorem tw6169412889113003053 : True := trivial
theorem tw16533837139841985164 : True := trivial
theorem tw11948464410940631400 : True := trivial
theorem tw17234608361752204484 : True := trivial
theorem tw11324247898418719717 : True := trivial
theorem tw5606764583813575719 : True := trivial
theorem tw14381549109354980740 : True := trivial
theorem tw262603019678014954 : True := trivial
theorem tw17556555427424492416 : True := trivial
theorem tw15918691478046597844 : True := trivial
theorem tw1928685950913781050 : True := trivial
theorem tw5653096966226355920 : True := trivial
theorem tw17861678503039642145 : True := trivial
theorem tw7902930572955547483 : True := trivial
theorem tw15327153516116002428 : True := trivial
theorem tw9789806963076454102 : True := trivial
theorem tw1093284536417616738 : True := trivial
theorem tw11057754988753495245 : True := trivial
theorem tw12546774741944398418 : True := trivial
theorem tw4990130257714587785 : True := trivial
theorem tw17778532096298713809 : True := trivial
theorem tw9751809896074432376 : True := trivial
theorem tw14408449917675645335 : True := trivial
theorem tw8679235922816240740 : True := trivial
theorem tw8883034566067155960 : True := trivial
theorem tw17537853204452176726 : True := trivial
theorem tw898872431874877126 : True := trivial
theorem tw3711801543342819537 : True := trivial
theorem tw3968799448468093638 : True := trivial
theorem tw14686536839035339418 : True := trivial
theorem tw1331553048673488977 : True := trivial
theorem tw15041243220167060833 : True := trivial
theorem tw3355163250100642352 : True := trivial
theorem tw4968678875931407369 : True := trivial
theorem tw7792593510539569529 : True := trivial
theorem tw4820571715036497867 : True := trivial
theorem tw11016311868201624124 : True := trivial
theorem tw10690318132772893917 : True := trivial
theorem tw10758545534794274745 : True := trivial
theorem tw17855867211361679939 : True := trivial
theorem tw15231749915777332843 : True := trivial
theorem tw15944353325915532503 : True := trivial
theorem tw17827135024931276884 : True := trivial
theorem tw7101732511579816119 : True := trivial
theorem tw7693378062369236051 : True := trivial
theorem tw12584957668349210937 : True := trivial
theorem tw2481088733698833153 : True := trivial
theorem tw11635668161667121605 : True := trivial
theorem tw6659636362022263967 : True := trivial
theorem tw15102786149798653291 : True := trivial
end PySem.W.Fast
set_option maxRecDepth 100000 in
set_option maxHeartbeats 0 in
theorem PySem.Challenge.cw_setsays_k49_smallest_trees_holds : PySem.Challenge.rw_setsays_k49_smallest_trees.Holds := by
  w_on; o_law; k_head; (case hw => w_witness2)
  k_fill
  refine L2.walk_ofK (l := PySem.Challenge.rw_setsays_k49_smallest_trees) (n := 63) (k := 13) (x := "_law_script") (CX := L2.CX0) (sp := K49.sp_law) rfl (by decide) rfl ⟨rfl, by decide, by decide⟩ (fun w h Y => PySem.W.kIn_of Y) ?F (fun _ _ a ns hl _ hS => ⟨a, ns, rfl, hS, hl, fun _ => rfl⟩) fun _ _ _ _ z => z
  case F =>
    intro w mg fa h KX G hmg
    obtain ⟨cTooGreat, T⟩ : ∃ (cTooGreat : Addr) , K49.Txt (L2.KOf KX) mg cTooGreat  := by
      dsimp only [L2.KOf]
      refine' K49.txt_mk (PySem.W.mg_none_of KX G ?t0) (PySem.W.mg_none_of KX G ?t1) (PySem.W.mg_none_of KX G ?t2) (PySem.W.mg_none_of KX G ?t3) (PySem.W.mg_none_of KX G ?t4) (PySem.W.mg_none_of KX G ?t5) (PySem.W.mg_none_of KX G ?t6) (PySem.W.mg_none_of KX G ?t7) (L2.glv_mk KX G ?t8 ?r8) (PySem.W.mg_none_of KX G ?t9) (PySem.W.mg_none_of KX G ?t10) (PySem.W.mg_none_of KX G ?t11) (PySem.W.mg_none_of KX G ?t12) (PySem.W.mg_none_of KX G ?t13) (PySem.W.mg_none_of KX G ?t14) (PySem.W.mg_of KX G ?t15) ⟨?t16a, ?t16b, ?t16c⟩ ?t17 ⟨?t18a, ?t18b, ?t18c, ?t18d, ?t18e, ?t18f⟩ ?t19 ?t20
      (case t0 => k_is)
      (case t1 => k_is)
      (case t2 => k_is)
      (case t3 => k_is)
      (case t4 => k_is)
      (case t5 => k_is)
      (case t6 => k_is)
      (case t7 => k_is)
      (case t8 => k_is); (case r8 => exact ⟨_, rfl⟩)
      (case t9 => k_is)
      (case t10 => k_is)
      (case t11 => k_is)
      (case t12 => k_is)
      (case t13 => k_is)
      (case t14 => k_is)
      (case t15 => k_is)
      (case t16a => k_is); (case t16b => k_is); (case t16c => k_is)
      (case t17 => k_is)
      (case t18a => k_is); (case t18b => k_is); (case t18c => k_is); (case t18d => k_is); (case t18e => k_is); (case t18f => k_is)
      (case t19 => kit_is)
      (case t20 => k_exc)
    have d_steps_beyond : L2.Dfn (L2.KOf KX) mg "steps_beyond" K49.s_steps_beyond ["machine", "least"] := by
      dsimp only [L2.KOf]
      refine' L2.dfn_mk KX G ?a ?l ?c ?k (fun _ _ _ _ _ _ us hl => match us, hl with | [_, _], _ => rfl)
      (case a => k_is); (case l => k_is); (case c => k_is); (case k => k_is)
    have d_least_trees : L2.Dfn (L2.KOf KX) mg "least_trees" K49.s_least_trees ["machine"] := by
      dsimp only [L2.KOf]
      refine' L2.dfn_mk KX G ?a ?l ?c ?k (fun _ _ _ _ _ _ us hl => match us, hl with | [_], _ => rfl)
      (case a => k_is); (case l => k_is); (case c => k_is); (case k => k_is)
    have d_smallest : L2.Dfn (L2.KOf KX) mg "smallest" K49.s_smallest ["machine"] := by
      dsimp only [L2.KOf]
      refine' L2.dfn_mk KX G ?a ?l ?c ?k (fun _ _ _ _ _ _ us hl => match us, hl with | [_], _ => rfl)
      (case a => k_is); (case l => k_is); (case c => k_is); (case k => k_is)
    have d_law_cell_at : L2.Dfn (L2.KOf KX) mg "_law_cell_at" K49.s_law_cell_at ["_law_script", "_law_k"] := by
      dsimp only [L2.KOf]
      refine' L2.dfn_mk KX G ?a ?l ?c ?k (fun _ _ _ _ _ _ us hl => match us, hl with | [_, _], _ => rfl)
      (case a => k_is); (case l => k_is); (case c => k_is); (case k => k_is)
    have d_law_machine : L2.Dfn (L2.KOf KX) mg "_law_machine" K49.s_law_machine ["_law_number", "_law_rooms", "_law_width"] := by
      dsimp only [L2.KOf]
      refine' L2.dfn_mk KX G ?a ?l ?c ?k (fun _ _ _ _ _ _ us hl => match us, hl with | [_, _, _], _ => rfl)
      (case a => k_is); (case l => k_is); (case c => k_is); (case k => k_is)
    have d_law_steps : L2.Dfn (L2.KOf KX) mg "_law_steps" K49.s_law_steps ["_law_rooms", "_law_width", "_law_number"] := by
      dsimp only [L2.KOf]
      refine' L2.dfn_mk KX G ?a ?l ?c ?k (fun _ _ _ _ _ _ us hl => match us, hl with | [_, _, _], _ => rfl)
      (case a => k_is); (case l => k_is); (case c => k_is); (case k => k_is)
    have d_law_sizes : L2.Dfn (L2.KOf KX) mg "_law_sizes" K49.s_law_sizes ["_law_machine_here"] := by
      dsimp only [L2.KOf]
      refine' L2.dfn_mk KX G ?a ?l ?c ?k (fun _ _ _ _ _ _ us hl => match us, hl with | [_], _ => rfl)
      (case a => k_is); (case l => k_is); (case c => k_is); (case k => k_is)
    have d_law_size : L2.Dfn (L2.KOf KX) mg "_law_size" K49.s_law_size ["_law_tree"] := by
      dsimp only [L2.KOf]
      refine' L2.dfn_mk KX G ?a ?l ?c ?k (fun _ _ _ _ _ _ us hl => match us, hl with | [_], _ => rfl)
      (case a => k_is); (case l => k_is); (case c => k_is); (case k => k_is)
    have d_law_is_tree : L2.Dfn (L2.KOf KX) mg "_law_is_tree" K49.s_law_is_tree ["_law_tree", "_law_letters"] := by
      dsimp only [L2.KOf]
      refine' L2.dfn_mk KX G ?a ?l ?c ?k (fun _ _ _ _ _ _ us hl => match us, hl with | [_, _], _ => rfl)
      (case a => k_is); (case l => k_is); (case c => k_is); (case k => k_is)
    have d_law_room : L2.Dfn (L2.KOf KX) mg "_law_room" K49.s_law_room ["_law_machine_here", "_law_tree"] := by
      dsimp only [L2.KOf]
      refine' L2.dfn_mk KX G ?a ?l ?c ?k (fun _ _ _ _ _ _ us hl => match us, hl with | [_, _], _ => rfl)
      (case a => k_is); (case l => k_is); (case c => k_is); (case k => k_is)
    have d_law_told : L2.Dfn (L2.KOf KX) mg "_law_told" K49.s_law_told ["_law_machine_here"] := by
      dsimp only [L2.KOf]
      refine' L2.dfn_mk KX G ?a ?l ?c ?k (fun _ _ _ _ _ _ us hl => match us, hl with | [_], _ => rfl)
      (case a => k_is); (case l => k_is); (case c => k_is); (case k => k_is)
    have d_law_right : L2.Dfn (L2.KOf KX) mg "_law_right" K49.s_law_right ["_law_machine_here"] := by
      dsimp only [L2.KOf]
      refine' L2.dfn_mk KX G ?a ?l ?c ?k (fun _ _ _ _ _ _ us hl => match us, hl with | [_], _ => rfl)
      (case a => k_is); (case l => k_is); (case c => k_is); (case k => k_is)
    have L : ∃ fd : FuncData, (∀ (s : Shared) (v : Value), BindsTo s fd ⟨[v], []⟩ [("_law_script", v)]) ∧ L2.Fun (L2.KOf KX) "law" "law" K49.s_law fa fd := by
      dsimp only [L2.KOf]
      refine' L2.law_mk KX G hmg ?a ?l ?c ?k ?b
      (case a => k_is); (case l => k_is); (case c => k_is); (case k => k_is)
      exact fun s u => .of_eq rfl
    obtain ⟨fd, hb, F⟩ := L
    exact ⟨fd, hb, fun base _ _ => K49.all T d_steps_beyond d_least_trees d_smallest d_law_cell_at d_law_machine d_law_steps d_law_sizes d_law_size d_law_is_tree d_law_room d_law_told d_law_right F⟩
#print axioms PySem.Challenge.cw_setsays_k49_smallest_trees_holds
