/- What is proved: what the document's own Target tells of any tokens whose Strs stand between quotes. -/
import Derived.Test.YtnkheejpmkflaaaDoorD7
import Derived.Test.YtnkheejpmkflaaaDoorR5
namespace Go.Proofs.YtnkheejpmkflaaaDoor
open Go.RowKit Go.Shelf

namespace Dx
theorem cl_opens {ts : List K} {t : K} (h : opens ts = true) (ht : ts[0]? = some t) : cl t = false := by
  cases ts with
  | nil => simp at ht
  | cons a r =>
    simp at ht; subst ht
    simp only [opens, isSign, Bool.and_eq_true, decide_eq_true_iff] at h
    simp only [cl, isSign, h.2, Bool.and_eq_false_iff, decide_eq_false_iff_not]
    exact .inr (by decide)
/-- Of the tokens up to a place, but the last one of all, none is a >. -/
def NC (ts : List K) (k : Nat) : Prop := ∀ j t, j < k → j < ts.length - 1 → ts[j]? = some t → cl t = false
theorem nc_one {ts : List K} (h : opens ts = true) : NC ts 1 := fun j t hj _ ht => by
  obtain rfl : j = 0 := by omega
  exact cl_opens h ht
theorem nc_succ {ts : List K} {k : Nat} {t : K} (h : NC ts k) (ht : ts[k]? = some t) (hc : cl t = false) : NC ts (k + 1) := fun j u hj hl hu => by
  by_cases e : j = k
  · subst e; rw [ht] at hu; injection hu with hu; rw [← hu]; exact hc
  · exact h j u (by omega) hl hu
theorem nc_none {ts : List K} {k : Nat} (h : NC ts k) (hk : k ≤ ts.length - 1) : noneCl ts k := fun j t hj ht => h j t hj (by omega) ht
theorem bt_yes {ts : List K} {t : K} (h3 : 3 ≤ ts.length) (ho : opens ts = true) (h : NC ts (ts.length - 1)) (ht : ts[ts.length - 1]? = some t) (hc : cl t = true) : bt ts = some ((ts.drop 1).take (ts.length - 2)) := by
  have := firstCl_hit (nc_none h (Nat.le_refl _)) ht hc
  unfold bt
  rw [if_pos ⟨h3, ho, by rw [this]; omega⟩]
theorem bt_early {ts : List K} {k : Nat} {t : K} (h : NC ts k) (hk : k < ts.length - 1) (ht : ts[k]? = some t) (hc : cl t = true) : bt ts = none := by
  have := firstCl_hit (nc_none h (by omega)) ht hc
  unfold bt
  rw [if_neg (fun h => by have := h.2.2; omega)]
theorem bt_never {ts : List K} {t : K} (h : NC ts (ts.length - 1)) (h1 : 1 ≤ ts.length) (ht : ts[ts.length - 1]? = some t) (hc : cl t = false) : bt ts = none := by
  have h2 := noneCl_succ (nc_none h (Nat.le_refl _)) ht hc
  rw [show ts.length - 1 + 1 = ts.length by omega] at h2
  have := firstCl_miss h2
  unfold bt
  rw [if_neg (fun h => by have := h.2.2; omega)]
theorem bt_short {ts : List K} (h : ts.length < 3) : bt ts = none := by unfold bt; rw [if_neg (fun h' => by omega)]
theorem bt_shut {ts : List K} (h : opens ts = false) : bt ts = none := by unfold bt; rw [if_neg (fun h' => by rw [h] at h'; simp at h')]
theorem drop_get {ts : List K} {k : Nat} {t : K} (hk : 1 ≤ k) (ht : ts[k]? = some t) : (ts.drop 1)[k - 1]? = some t := by rw [List.getElem?_drop, show 1 + (k - 1) = k by omega]; exact ht
end Dx

theorem cl_cases (kd : Int) (tx : ByteArray) (fl fr en : Int) (bl : Bool) (h : Dx.cl ⟨kd, tx, fl, fr, en, bl⟩ = false) : (kd == 5) = false ∨ (kd = 5 ∧ (tx.toList == [62]) = false) := by
  by_cases h5 : kd = 5
  · refine .inr ⟨h5, ?_⟩
    have h2 := ba_beq tx ⟨#[62]⟩
    rw [show (⟨#[62]⟩ : ByteArray).toList = [62] from by rw [Lib.toList_data]] at h2
    rw [h2]
    simp [Dx.cl, Dx.isSign, h5] at h
    simpa using h
  · exact .inl (by simpa using h5)

theorem add_ba (a : List UInt8) (b : ByteArray) (c : List UInt8) (h : a.length + b.size ≤ 100000000000) (hc : c = a ++ b.data.toList) (w : World) : (Op.stringOp .add ⟨a.toArray⟩ b).run Tryd.prog w = .ok (.string ⟨c.toArray⟩) w := by
  have := add_run a b.data.toList (by rw [size_list]; exact h) w
  rw [show (⟨b.data.toList.toArray⟩ : ByteArray) = b from by simp] at this
  rw [hc]; exact this

set_option maxRecDepth 100000 in
set_option maxHeartbeats 8000000 in
theorem rtarget_any (k f n : Int) (v : Value) (ts : List K) (w : World) (hv : Ks w v ts) (hl : ts.length ≤ 1000000) (hQ : Dx.QuotedAll ts) (hz : ∀ t ∈ ts, t.text.size ≤ 1000000000) (hj : ∀ a b, (Dx.jn ((ts.drop a).take b)).length ≤ 1000000000) :
    Calls Tryd.prog 19 #[lnAgg k f n v] w fun e w' => e = .returned (tgtV (Dx.target k ts)) ∧ Below w.heap.size w w' := by
  obtain ⟨ad, cap, rfl, hc1, hc2, hc3⟩ := id hv
  dsimp only [lnAgg]
  by_cases hk : k = 10
  · subst hk
    rcases Nat.lt_or_ge ts.length 3 with h3 | h3
    · have hbt := Dx.bt_short h3
      by_cases h1 : ts.length = 1
      · obtain ⟨t, rfl⟩ := List.length_eq_one_iff.1 h1
        obtain ⟨g, o, rfl, -, -, -, hg, hcell⟩ := hv.cells (by simp)
        have c := hcell 0 t rfl
        by_cases hk4 : t.kind = 4
        · obtain ⟨m, hm⟩ := hQ t (by simp) hk4
          have hsz := hz t (by simp)
          have hq := Dx.qn_yes t m hk4 hm
          rw [Dx.target_q _ _ hq]
          dsimp only [tgtV]
          obtain ⟨kd, tx, fl, fr, en, bl⟩ := t
          obtain ⟨c0, c1, -, -, -, -⟩ := c
          dsimp only at hk4 hm hsz c0 c1
          subst hk4
          simp only [Nat.zero_mul, Nat.add_zero, List.length_cons, List.length_nil, Nat.zero_add] at c0 c1 hl hc1 ⊢
          have hts : tx.size = m.length + 2 := by rw [hm, mk_size]; simp
          have hex : tx.extract 1 (tx.size - 1) = ⟨m.toArray⟩ := by
            rw [extract_list, hts, hm]
            simp
          rw [← hex]
          have hgr : g < (w.alloc (.cells #[.int .i64 10, .int .i64 f, .int .i64 n, .slice (some ⟨g, o, none⟩) 1 cap] 34)).heap.size := by simp; omega
          have hB0 : Below w.heap.size w (w.alloc (.cells #[.int .i64 10, .int .i64 f, .int .i64 n, .slice (some ⟨g, o, none⟩) 1 cap] 34)) := (Below.refl _ w).alloc (Nat.le_refl _) _
          have x0 := (hB0.cell (p := ⟨g, o, none⟩) hg).trans c0
          have x1 := (hB0.cell (p := ⟨g, o + 1, none⟩) hg).trans c1
          have z1 : (2 : Int) ≤ tx.size := by omega
          have z2 : (1 : Int) ≤ (tx.size : Int) - 1 := by omega
          have e1 : ((tx.size : Int) - 1).toNat = tx.size - 1 := by omega
          clear hv hc3 hcell hQ hz hj h1 h3 hbt hq hm hex hts c0 c1 hgr
          go_enter Tryd.func19, Tryd.ntmps19
          go_wp2_with fail
          go_ret3
          exact ⟨rfl, hB0⟩
        · have hq := Dx.qn_no t hk4
          rw [Dx.target_n _ hq hbt]
          dsimp only [tgtV]
          obtain ⟨kd, tx, fl, fr, en, bl⟩ := t
          obtain ⟨c0, c1, -, -, -, -⟩ := c
          dsimp only at hk4 c0 c1
          simp only [Nat.zero_mul, Nat.add_zero, List.length_cons, List.length_nil, Nat.zero_add] at c0 c1 hl hc1 ⊢
          have hB0 : Below w.heap.size w (w.alloc (.cells #[.int .i64 10, .int .i64 f, .int .i64 n, .slice (some ⟨g, o, none⟩) 1 cap] 34)) := (Below.refl _ w).alloc (Nat.le_refl _) _
          have x0 := (hB0.cell (p := ⟨g, o, none⟩) hg).trans c0
          have t1 : (kd == 4) = false := by simpa using hk4
          clear hv hc3 hcell hQ hz hj h1 h3 hbt hq hk4 c0 c1
          go_enter Tryd.func19, Tryd.ntmps19
          go_wp2_with fail
          go_ret3
          exact ⟨rfl, hB0⟩
      · have hq := Dx.qn_long ts h1
        rw [Dx.target_n _ hq hbt]
        dsimp only [tgtV]
        obtain ⟨N, hN⟩ : ∃ N, N = ts.length := ⟨_, rfl⟩
        rw [← hN] at h1 h3 hl hc1 ⊢
        have t1 : ((N : Int) == 1) = false := by simp; omega
        have t2 : (N : Int) < 3 := by omega
        clear hv hc3 hQ hz hj hbt hq hN
        go_enter Tryd.func19, Tryd.ntmps19
        go_wp2_with fail
        go_ret3
        exact ⟨rfl, (Below.refl _ w).alloc (Nat.le_refl _) _⟩
    · have hq := Dx.qn_long ts (by omega)
      obtain ⟨g, o, rfl, -, -, -, hg, hcell⟩ := hv.cells (by omega)
      obtain ⟨t, ht⟩ : ∃ t, ts[0]? = some t := ⟨_, List.getElem?_eq_getElem (by omega)⟩
      have c := hcell 0 t ht
      have hop : Dx.opens ts = Dx.isSign t ⟨#[60]⟩ := by
        cases ts with
        | nil => simp at ht
        | cons a r => simp at ht; subst ht; rfl
      obtain ⟨N, hN⟩ : ∃ N, N = ts.length := ⟨_, rfl⟩
      have hvN : Ks w (.slice (some ⟨g, o, none⟩) N cap) ts := by rw [hN]; exact hv
      have hB0 : Below w.heap.size w (w.alloc (.cells #[.int .i64 10, .int .i64 f, .int .i64 n, .slice (some ⟨g, o, none⟩) N cap] 34)) := (Below.refl _ w).alloc (Nat.le_refl _) _
      rw [← hN] at h3 hl hc1 ⊢
      obtain ⟨kd, tx, fl, fr, en, bl⟩ := t
      obtain ⟨c0, c1, -, -, -, -⟩ := c
      dsimp only at c0 c1
      simp only [Nat.zero_mul, Nat.add_zero] at c0 c1
      have x0 := (hB0.cell (p := ⟨g, o, none⟩) hg).trans c0
      have x1 := (hB0.cell (p := ⟨g, o + 1, none⟩) hg).trans c1
      have t0 : ((N : Int) == 1) = false := by simp; omega
      have t9 : ¬ ((N : Int) < 3) := by omega
      cases hs : Dx.isSign ⟨kd, tx, fl, fr, en, bl⟩ ⟨#[60]⟩ with
      | false =>
        rw [hs] at hop
        rw [Dx.target_n _ hq (Dx.bt_shut hop)]
        dsimp only [tgtV]
        have hcs : (kd != 5) = true ∨ (kd = 5 ∧ (tx.toList == [60]) = false) := by
          by_cases h5 : kd = 5
          · refine .inr ⟨h5, ?_⟩
            have h2 := ba_beq tx ⟨#[60]⟩
            rw [show (⟨#[60]⟩ : ByteArray).toList = [60] from by rw [Lib.toList_data]] at h2
            rw [h2]
            simp [Dx.isSign, h5] at hs
            simpa using hs
          · exact .inl (by simpa using h5)
        clear hv hvN hc3 hcell hQ hz hj hq hop hs hN ht c0 c1
        rcases hcs with t1 | ⟨rfl, t2⟩
        · go_enter Tryd.func19, Tryd.ntmps19
          go_wp2_with fail
          go_ret3
          exact ⟨rfl, hB0⟩
        · go_enter Tryd.func19, Tryd.ntmps19
          go_wp2_with fail
          go_ret3
          exact ⟨rfl, hB0⟩
      | true =>
        rw [hs] at hop
        obtain ⟨rfl, rfl⟩ : kd = 5 ∧ tx = ⟨#[60]⟩ := by simpa [Dx.isSign] using hs
        have HN := Lib.hid hN
        have HOp := Lib.hid hop
        have HC := Lib.hid hcell
        have HQn := Lib.hid hq
        have HJ := Lib.hid hj
        have HB0 := Lib.hid hB0
        clear hv hvN hc3 hcell hQ hz hj hq hop hs hN ht c0 c1
        go_enter Tryd.func19, Tryd.ntmps19
        go_wp2_with fail
        go_loopw [7, 8] (fun s i wr => ∃ (k : Nat) (A : List UInt8), i = .int .i64 k ∧ 1 ≤ k ∧ k ≤ N ∧ s = .string ⟨A.toArray⟩ ∧ A = Dx.jn ((ts.drop 1).take (min (k - 1) (N - 2))) ∧ Dx.NC ts k ∧ (k = N → ∃ t, ts[N - 1]? = some t ∧ Dx.cl t = true) ∧ wr.cell? ⟨w.heap.size, 3, none⟩ = some (.slice (some ⟨g, o, none⟩) N cap) ∧ Below w.heap.size w wr) (fun _ i _ => N - (intOf i).toNat)
        case atStart => exact ⟨1, [], rfl, Nat.le_refl _, by omega, rfl, by simp [Dx.jn, Dx.jnFrom], Dx.nc_one HOp.out, fun h => by omega, by simp, HB0.out⟩
        case round =>
          obtain ⟨k, A, rfl, hk1, hkN, rfl, hA, hnc, hend, hcx, hB⟩ := hrel
          have hsB := hB.size
          have HA := Lib.hid hA
          have HNC := Lib.hid hnc
          have HE := Lib.hid hend
          clear hA hnc hend x0 x1
          by_cases hlt : k < N
          · obtain ⟨t, ht⟩ : ∃ t, ts[k]? = some t := ⟨_, List.getElem?_eq_getElem (by rw [← HN.out]; exact hlt)⟩
            obtain ⟨d0, d1, d2, d3, d4, d5⟩ := (HC.out k t ht).below hB hg
            have z1 : (0 : Int) ≤ k := by omega
            have z2 : (k : Int) < N := by omega
            have HT := Lib.hid ht
            have hB' := hB.alloc hsB (.cells #[.int .i64 t.kind, .string t.text, .int .i64 t.file, .int .i64 t.fr, .int .i64 t.en, .bool t.bl] 40)
            have hcx' : (wr.alloc (.cells #[.int .i64 t.kind, .string t.text, .int .i64 t.file, .int .i64 t.fr, .int .i64 t.en, .bool t.bl] 40)).cell? ⟨w.heap.size, 3, none⟩ = some (.slice (some ⟨g, o, none⟩) N cap) := Lib.cell?_alloc_some _ hcx
            have HB' := Lib.hid hB'
            have HX' := Lib.hid hcx'
            clear ht hB' hcx'
            by_cases hlast : k + 1 = N
            · have t5 : ((k : Int) == (N : Int) - 1) = true := by simp; omega
              cases hcl : Dx.cl t with
              | true =>
                have hmin : min (k + 1 - 1) (N - 2) = min (k - 1) (N - 2) := by omega
                have hres : ∃ t, ts[N - 1]? = some t ∧ Dx.cl t = true := ⟨t, by rw [show N - 1 = k by omega]; exact HT.out, hcl⟩
                have hnc2 : Dx.NC ts (k + 1) := fun j u hj hl' hu => HNC.out j u (by have := HN.out; omega) hl' hu
                have HR := Lib.hid hres
                have HNC2 := Lib.hid hnc2
                obtain ⟨kd, tx, fl', fr', en', bl'⟩ := t
                dsimp only at d0 d1 d2 d3 d4 d5 HB' HX'
                obtain ⟨rfl, rfl⟩ : kd = 5 ∧ tx = ⟨#[62]⟩ := by simpa [Dx.cl, Dx.isSign] using hcl
                clear hcl hres hnc2 hB
                go_wp2_with fail
                go_roundw
                case rel => exact ⟨k + 1, A, by go_num, by omega, by omega, rfl, by rw [HA.out, hmin], HNC2.out, fun _ => HR.out, HX'.out, HB'.out⟩
                case measure => simp [intOf]; omega
              | false =>
                have hbt : Dx.bt ts = none := Dx.bt_never (t := t) (by rw [← HN.out, show N - 1 = k by omega]; exact HNC.out) (by rw [← HN.out]; omega) (by rw [← HN.out, show N - 1 = k by omega]; exact HT.out) hcl
                have htg := Dx.target_n ts HQn.out hbt
                have HTg := Lib.hid htg
                obtain ⟨kd, tx, fl', fr', en', bl'⟩ := t
                dsimp only at d0 d1 d2 d3 d4 d5 HB' HX'
                have hcs : (kd == 5) = false ∨ (kd = 5 ∧ (tx.toList == [62]) = false) := cl_cases kd tx fl' fr' en' bl' hcl
                clear hcl hbt htg hB
                rcases hcs with t1 | ⟨rfl, t2⟩
                all_goals
                  go_wp2_with fail
                  go_ret3
                  rw [HTg.out]
                  exact ⟨rfl, HB'.out⟩
            · have t5 : ((k : Int) == (N : Int) - 1) = false := by simp; omega
              cases hcl : Dx.cl t with
              | true =>
                have hbt : Dx.bt ts = none := Dx.bt_early HNC.out (by rw [← HN.out]; omega) HT.out hcl
                have htg := Dx.target_n ts HQn.out hbt
                have HTg := Lib.hid htg
                obtain ⟨kd, tx, fl', fr', en', bl'⟩ := t
                dsimp only at d0 d1 d2 d3 d4 d5 HB' HX'
                obtain ⟨rfl, rfl⟩ : kd = 5 ∧ tx = ⟨#[62]⟩ := by simpa [Dx.cl, Dx.isSign] using hcl
                clear hcl hbt htg hB
                go_wp2_with fail
                go_ret3
                rw [HTg.out]
                exact ⟨rfl, HB'.out⟩
              | false =>
                have hnc2 := Dx.nc_succ HNC.out HT.out hcl
                have hst := Dx.jn_take_succ (ts.drop 1) (k - 1) t (Dx.drop_get hk1 HT.out)
                have hle := HJ.out 1 (k - 1 + 1)
                rw [hst] at hle
                have hA' := HA.out
                rw [show min (k - 1) (N - 2) = k - 1 by omega] at hA'
                rw [← hA'] at hst hle
                have HNC2 := Lib.hid hnc2
                obtain ⟨kd, tx, fl', fr', en', bl'⟩ := t
                dsimp only at d0 d1 d2 d3 d4 d5 HB' HX'
                unfold Dx.piece at hst hle
                dsimp only at hst hle
                have hcs : (kd == 5) = false ∨ (kd = 5 ∧ (tx.toList == [62]) = false) := cl_cases kd tx fl' fr' en' bl' hcl
                have hsz : tx.data.toList.length = tx.size := size_list tx
                by_cases hbl : 1 < k ∧ bl' = true
                · obtain ⟨hk2, rfl⟩ := hbl
                  rw [if_pos ⟨by omega, rfl⟩] at hst hle
                  simp only [List.length_append, List.length_cons, List.length_nil] at hle
                  obtain ⟨B, hBb⟩ : ∃ B, B = A ++ [32] := ⟨_, rfl⟩
                  obtain ⟨C, hCc⟩ : ∃ C, C = B ++ tx.data.toList := ⟨_, rfl⟩
                  have a1 : ∀ W, (Op.stringOp .add ⟨A.toArray⟩ ⟨#[32]⟩).run Tryd.prog W = .ok (.string ⟨B.toArray⟩) W := fun W => by
                    rw [hBb]; exact add_run A [32] (by simp; omega) W
                  have a2 : ∀ W, (Op.stringOp .add ⟨B.toArray⟩ tx).run Tryd.prog W = .ok (.string ⟨C.toArray⟩) W := fun W => add_ba B tx C (by rw [hBb, List.length_append]; simp; omega) hCc W
                  have hC' : C = Dx.jn ((ts.drop 1).take (min (k + 1 - 1) (N - 2))) := by
                    rw [show min (k + 1 - 1) (N - 2) = k - 1 + 1 by omega, hst, hCc, hBb]; simp
                  have HCc := Lib.hid hC'
                  have z5 : (1 : Int) < k := by omega
                  clear hcl hnc2 hst hle hA' hBb hCc hC' hB hsz hk2
                  rcases hcs with t1 | ⟨rfl, t2⟩
                  · go_wp2_with fail
                    go_roundw
                    case rel => exact ⟨k + 1, C, by go_num, by omega, by omega, rfl, HCc.out, HNC2.out, fun h => by omega, HX'.out, HB'.out⟩
                    case measure => simp [intOf]; omega
                  · go_wp2_with fail
                    go_roundw
                    case rel => exact ⟨k + 1, C, by go_num, by omega, by omega, rfl, HCc.out, HNC2.out, fun h => by omega, HX'.out, HB'.out⟩
                    case measure => simp [intOf]; omega
                · rw [if_neg (fun h => hbl ⟨by omega, h.2⟩)] at hst hle
                  simp only [List.nil_append, List.length_append] at hst hle
                  obtain ⟨C, hCc⟩ : ∃ C, C = A ++ tx.data.toList := ⟨_, rfl⟩
                  have a2 : ∀ W, (Op.stringOp .add ⟨A.toArray⟩ tx).run Tryd.prog W = .ok (.string ⟨C.toArray⟩) W := fun W => add_ba A tx C (by omega) hCc W
                  have hC' : C = Dx.jn ((ts.drop 1).take (min (k + 1 - 1) (N - 2))) := by
                    rw [show min (k + 1 - 1) (N - 2) = k - 1 + 1 by omega, hst, hCc]
                  have HCc := Lib.hid hC'
                  have hb2 : bl' = false ∨ (bl' = true ∧ k ≤ 1) := by
                    cases bl' with
                    | false => exact .inl rfl
                    | true => exact .inr ⟨rfl, by apply Nat.le_of_not_lt; intro h; exact hbl ⟨h, rfl⟩⟩
                  clear hcl hnc2 hst hle hA' hCc hC' hB hsz hbl
                  rcases hcs with t1 | ⟨rfl, t2⟩
                  · rcases hb2 with rfl | ⟨rfl, h1⟩
                    · go_wp2_with fail
                      go_roundw
                      case rel => exact ⟨k + 1, C, by go_num, by omega, by omega, rfl, HCc.out, HNC2.out, fun h => by omega, HX'.out, HB'.out⟩
                      case measure => simp [intOf]; omega
                    · obtain rfl : k = 1 := by omega
                      simp only [Nat.one_mul] at d0 d1 d2 d3 d4 d5
                      go_wp2_with fail
                      go_roundw
                      case rel => exact ⟨1 + 1, C, by go_num, by omega, by omega, rfl, HCc.out, HNC2.out, fun h => by omega, HX'.out, HB'.out⟩
                      case measure => simp [intOf]; omega
                  · rcases hb2 with rfl | ⟨rfl, h1⟩
                    · go_wp2_with fail
                      go_roundw
                      case rel => exact ⟨k + 1, C, by go_num, by omega, by omega, rfl, HCc.out, HNC2.out, fun h => by omega, HX'.out, HB'.out⟩
                      case measure => simp [intOf]; omega
                    · obtain rfl : k = 1 := by omega
                      simp only [Nat.one_mul] at d0 d1 d2 d3 d4 d5
                      go_wp2_with fail
                      go_roundw
                      case rel => exact ⟨1 + 1, C, by go_num, by omega, by omega, rfl, HCc.out, HNC2.out, fun h => by omega, HX'.out, HB'.out⟩
                      case measure => simp [intOf]; omega
          · obtain rfl : k = N := by omega
            obtain ⟨t, ht, hcl⟩ := HE.out rfl
            have hbt := Dx.bt_yes (ts := ts) (t := t) (by rw [← HN.out]; exact h3) HOp.out (by rw [← HN.out]; exact fun j u hj hl' hu => HNC.out j u (by omega) hl' hu) (by rw [← HN.out]; exact ht) hcl
            have htg := Dx.target_b ts _ HQn.out hbt
            rw [← HN.out] at htg
            have hA' := HA.out
            rw [show min (k - 1) (k - 2) = k - 2 by omega] at hA'
            rw [← hA'] at htg
            have HTg := Lib.hid htg
            clear ht hcl hbt htg hA' hcx
            go_wp2_with fail
            go_ret3
            rw [HTg.out]
            exact ⟨rfl, hB⟩
  · rw [Dx.target_kind k ts hk]
    dsimp only [tgtV]
    have t1 : (k != 10) = true := by simpa using hk
    clear hv hc3 hQ hz hj hk
    go_enter Tryd.func19, Tryd.ntmps19
    go_wp2_with fail
    go_ret3
    exact ⟨rfl, (Below.refl _ w).alloc (Nat.le_refl _) _⟩
end Go.Proofs.YtnkheejpmkflaaaDoor
