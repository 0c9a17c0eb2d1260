/- What is proved: what the law's lines and same and the document's begins tell. -/
import Derived.Test.YtjmbchemdcmegaaMm
namespace Go.Proofs.Ytjmbchemdcmegaa
open Go.RowKit
open Ct Ct.T

set_option maxRecDepth 100000 in
theorem begins_any (k : Int) (w : World) : Calls Try.prog 26 #[.int .i64 k] w fun e w' => e = .returned (.bool (Ct.begins k)) ∧ w' = w := by
  have hc : (k == 2) = true ∨ ((k == 2) = false ∧ (k == 3) = true) ∨ ((k == 2) = false ∧ (k == 3) = false) := by
    cases k == 2 <;> cases k == 3 <;> simp
  rcases hc with h | ⟨h, h'⟩ | ⟨h, h'⟩
  all_goals
    go_enter Try.func26, Try.ntmps26
    go_wp2_with fail
    go_ret
    simp [Ct.begins, *]

theorem news4 (w : World) (a b c d : Value) (t : TypeId) : ∀ j u, [a, b, c, d][j]? = some u → (w.alloc (.cells #[a, b, c, d] t)).cell? ((⟨w.heap.size, 0, none⟩ : Addr).add j) = some u := by
  intro j u hj
  match j, hj with
  | 0, hj => simp at hj; subst hj; simp [Addr.add]
  | 1, hj => simp at hj; subst hj; simp [Addr.add]
  | 2, hj => simp at hj; subst hj; simp [Addr.add]
  | 3, hj => simp at hj; subst hj; simp [Addr.add]
theorem news3 (w : World) (a b c : Value) (t : TypeId) : ∀ j u, [a, b, c][j]? = some u → (w.alloc (.cells #[a, b, c] t)).cell? ((⟨w.heap.size, 0, none⟩ : Addr).add j) = some u := by
  intro j u hj
  match j, hj with
  | 0, hj => simp at hj; subst hj; simp [Addr.add]
  | 1, hj => simp at hj; subst hj; simp [Addr.add]
  | 2, hj => simp at hj; subst hj; simp [Addr.add]
theorem news2 (w : World) (a b : Value) (t : TypeId) : ∀ j u, [a, b][j]? = some u → (w.alloc (.cells #[a, b] t)).cell? ((⟨w.heap.size, 0, none⟩ : Addr).add j) = some u := by
  intro j u hj
  match j, hj with
  | 0, hj => simp at hj; subst hj; simp [Addr.add]
  | 1, hj => simp at hj; subst hj; simp [Addr.add]
theorem news1 (w : World) (a : Value) (t : TypeId) : ∀ j u, [a][j]? = some u → (w.alloc (.cells #[a] t)).cell? ((⟨w.heap.size, 0, none⟩ : Addr).add j) = some u := by
  intro j u hj
  match j, hj with
  | 0, hj => simp at hj; subst hj; simp [Addr.add]

def LinesPost (w : World) (ks : List Int) (e : Ending) (w' : World) : Prop := ∃ u, e = .returned u ∧ Lns w' u ks ∧ Below w.heap.size w w'

set_option maxRecDepth 100000 in
set_option maxHeartbeats 4000000 in
theorem lines_any (v : Value) (ks : List Int) (w : World) (hv : Ints w v ks) (hl : ks.length ≤ 100000) : Calls Try.prog 11 #[v] w (LinesPost w ks) := by
  obtain ⟨i0, hi, hz0, hz1, hz2⟩ := info_parts infoLn
  obtain ⟨ad, cap, rfl, h1, h2, h3⟩ := hv
  obtain ⟨n, hn⟩ : ∃ n, n = ks.length := ⟨_, rfl⟩
  rw [← hn] at hl h1 h3
  rw [← hn]
  have Hn := Lib.hid hn
  have H3 := Lib.hid h3
  unfold maxLen at h2
  clear hn h3
  go_enter Try.func11, Try.ntmps11
  go_wp2_with fail
  go_loopw [3, 4] (fun u i wr => ∃ k : Nat, i = .int .i64 k ∧ k ≤ n ∧ wr.ownsRow w.heap.size 49 4 u k (lnCells (ks.take k)) ∧ Below w.heap.size w wr) (fun _ i _ => n - (intOf i).toNat)
  case atStart => exact ⟨0, rfl, Nat.zero_le _, World.ownsRow_nil _ _ _ _, Below.refl _ _⟩
  case round =>
    obtain ⟨k, rfl, hk, hrow, hB⟩ := hrel
    have hsB := hB.size
    by_cases hlt : k < n
    · obtain ⟨g, o, rfl, hg, hc⟩ := H3.out (by omega)
      obtain ⟨x, hx⟩ : ∃ x, ks[k]? = some x := ⟨_, List.getElem?_eq_getElem (by rw [← Hn.out]; exact hlt)⟩
      have d0 := (hB.cell (p := ⟨g, o + k, none⟩) hg).trans (hc k x hx)
      have ht : ks.take (k + 1) = ks.take k ++ [x] := by rw [List.take_add_one, hx]; rfl
      have HT := Lib.hid ht
      clear hc hx ht
      go_wp2_with (at_builtin; refine wpList_append_own _ rfl _ _ 28 rfl w.heap.size 49 i0 (.agg #[.int .i64 0, .int .i64 0, .int .i64 0, .slice none 0 0]) 4 48 Try.underlying28 hi hz0 hz1 hz2 rfl (by decide) _ _ _ rfl (hrow.alloc _) ⟨wr.heap.size, 0, none⟩ 1 1 [.int .i64 x, .int .i64 0, .int .i64 0, .slice none 0 0] rfl rfl (news4 _ _ _ _ _ _) (by simp [Value.oneCell']) (by unfold maxLen; omega) (by omega) (by simp; omega) ?_; intro u' w' hown' hgrow _)
      go_roundw
      case rel =>
        refine ⟨k + 1, by go_num, hlt, ?_, ?_⟩
        · rw [HT.out, lnCells_append]; exact hown'
        · exact (hB.alloc hsB _).grown hgrow (by simp; omega) (fun j ej => (hrow.lt j ej).1)
      case measure => simp [intOf]; omega
    · have : k = n := by omega
      subst this
      go_wp2_with fail
      go_ret
      have e := Hn.out
      subst e
      rw [List.take_length] at hrow
      exact ⟨_, rfl, Lns.of_row hrow, hB⟩

set_option maxRecDepth 100000 in
set_option maxHeartbeats 4000000 in
/-- same: of two lists that are one. -/
theorem same_any (v u : Value) (l : List Int) (w : World) (hv : Ints w v l) (hu : Ints w u l) : Calls Try.prog 16 #[v, u] w (TruePost w) := by
  obtain ⟨ad, cap, rfl, h1, h2, h3⟩ := hv
  obtain ⟨ad', cap', rfl, h1', h2', h3'⟩ := hu
  obtain ⟨n, hn⟩ : ∃ n, n = l.length := ⟨_, rfl⟩
  rw [← hn] at h1 h3 h1' h3'
  rw [← hn]
  have Hn := Lib.hid hn
  have H3 := Lib.hid h3
  have H3' := Lib.hid h3'
  unfold maxLen at h2 h2'
  clear hn h3 h3'
  go_enter Try.func16, Try.ntmps16
  go_wp2_with fail
  go_loopw [5] (fun i wr => ∃ k : Nat, i = .int .i64 k ∧ k ≤ n ∧ Below w.heap.size w wr) (fun i _ => n - (intOf i).toNat)
  case atStart => exact ⟨0, rfl, Nat.zero_le _, Below.refl _ _⟩
  case round =>
    obtain ⟨k, rfl, hk, hB⟩ := hrel
    by_cases hlt : k < n
    · obtain ⟨g, o, rfl, hg, hc⟩ := H3.out (by omega)
      obtain ⟨g', o', rfl, hg', hc'⟩ := H3'.out (by omega)
      obtain ⟨x, hx⟩ : ∃ x, l[k]? = some x := ⟨_, List.getElem?_eq_getElem (by rw [← Hn.out]; exact hlt)⟩
      have d0 := (hB.cell (p := ⟨g, o + k, none⟩) hg).trans (hc k x hx)
      have d1 := (hB.cell (p := ⟨g', o' + k, none⟩) hg').trans (hc' k x hx)
      have z1 : (0 : Int) ≤ k := by omega
      have z2 : (k : Int) < n := by omega
      clear hc hc' hx
      go_wp2_with fail
      go_quiet (fail)
      go_wp2_with fail
      go_roundw
      case rel => exact ⟨k + 1, by go_num, by omega, below_drewN hB _⟩
      case measure => simp [intOf]; omega
    · go_wp2_with fail
      go_ret
      exact ⟨rfl, hB⟩
end Go.Proofs.Ytjmbchemdcmegaa
