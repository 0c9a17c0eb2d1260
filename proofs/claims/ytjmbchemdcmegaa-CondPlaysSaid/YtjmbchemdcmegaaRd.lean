/- What is proved: the document's Same, of two lists of items that are one, tells that they are. -/
import Derived.Test.YtjmbchemdcmegaaRb
namespace Go.Proofs.Ytjmbchemdcmegaa
open Go.RowKit
open Ct Ct.T

set_option maxRecDepth 100000 in
set_option maxHeartbeats 16000000 in
theorem rsame_all (N : Nat) : ∀ (t : T), tsize t < N → ∀ (v u : Value) (w : World), Tr w v t → Tr w u t → Calls Try.prog 13 #[v, u] w (TruePost w) := by
  induction N with
  | zero => intro t h; omega
  | succ N ih =>
    intro t hN v u w hv hu
    obtain ⟨ad, cap, rfl, h1, h2, h3⟩ := hv.form
    obtain ⟨ad', cap', rfl, h1', h2', h3'⟩ := hu.form
    unfold maxLen at h2 h2'
    obtain ⟨n, hn⟩ : ∃ n, n = t.len := ⟨_, rfl⟩
    rw [← hn] at h1 h3 hv h1' h3' hu
    rw [← hn]
    have Hn := Lib.hid hn
    have HV := Lib.hid hv
    have HU := Lib.hid hu
    have H3 := Lib.hid h3
    have H3' := Lib.hid h3'
    have HN := Lib.hid hN
    have IH := Lib.hid ih
    clear hn hv hu h3 h3' hN ih
    go_enter Try.func13, Try.ntmps13
    go_wp2_with fail
    go_loopw [5] (fun i wr => ∃ (k : Nat) (d r : T), i = .int .i64 k ∧ t = d.app r ∧ d.len = k ∧ k ≤ n ∧ Below w.heap.size w wr) (fun i _ => n - (intOf i).toNat)
    case atStart => exact ⟨0, nil, t, rfl, rfl, rfl, Nat.zero_le _, Below.refl _ _⟩
    case round =>
      obtain ⟨k, d, r0, rfl, ht, hdk, hk, hB⟩ := hrel
      have hsB := hB.size
      by_cases hlt : k < n
      · obtain ⟨g, o, rfl, hg, _⟩ := H3.out (by omega)
        obtain ⟨g', o', rfl, hg', _⟩ := H3'.out (by omega)
        cases r0 with
        | nil => exact absurd (show t.len = k by rw [ht, app_nil, hdk]) (by rw [← Hn.out]; omega)
        | cons l e s r =>
        have hT := HV.out.below hB
        have hT' := HU.out.below hB
        rw [ht] at hT hT'
        obtain ⟨c0, c1, sv, c2, hs⟩ := TS.item hT
        obtain ⟨y0, y1, sv', y2, hs'⟩ := TS.item hT'
        rw [hdk] at c0 c1 c2 y0 y1 y2
        obtain ⟨sad, scap, rfl, s1, s2, s3⟩ := hs.form
        obtain ⟨sad', scap', rfl, s1', s2', s3'⟩ := hs'.form
        unfold maxLen at s2 s2'
        have hsz : tsize s < N := by have := HN.out; rw [ht, tsize_app, tsize] at this; omega
        obtain ⟨ns, hns⟩ : ∃ ns, ns = s.len := ⟨_, rfl⟩
        rw [← hns] at s1 s3 hs c2 s1' s3' hs' y2
        have z1 : (0 : Int) ≤ k := by omega
        have z2 : (k : Int) < n := by omega
        have Hns := Lib.hid hns
        have HS := Lib.hid hs
        have HS' := Lib.hid hs'
        have S3 := Lib.hid s3
        have S3' := Lib.hid s3'
        have HSz := Lib.hid hsz
        have HT := Lib.hid ht
        have HDk := Lib.hid hdk
        clear hns hs hs' s3 s3' hsz hT hT' ht hdk
        go_wp2_with fail
        go_quiet (fail)
        go_wp2_with fail
        obtain ⟨V, hV⟩ : ∃ V, V = wr.drewN nq := ⟨_, rfl⟩
        have hVB : Below wr.heap.size wr V := by rw [hV]; exact below_drewN (Below.refl _ _) _
        rw [← hV]
        have C2 := (hVB.cell (p := ⟨g, o + k * 3 + 2, none⟩) (lt_of_cell c2)).trans c2
        have Y2 := (hVB.cell (p := ⟨g', o' + k * 3 + 2, none⟩) (lt_of_cell y2)).trans y2
        have HBV := Lib.hid (Below.then hB hVB)
        have HSV := Lib.hid ((TS.below HS.out hVB).wider hVB.size)
        have HSV' := Lib.hid ((TS.below HS'.out hVB).wider hVB.size)
        have hVs := HBV.out.size
        clear hV hVB c0 c1 c2 y0 y1 y2 HS HS' hB
        go_loopw [6] (fun i wx => ∃ (j : Nat) (d' r' : T), i = .int .i64 j ∧ s = d'.app r' ∧ d'.len = j ∧ j ≤ ns ∧ Below V.heap.size V wx) (fun i _ => ns - (intOf i).toNat)
        case atStart => exact ⟨0, nil, s, rfl, rfl, rfl, Nat.zero_le _, Below.refl _ _⟩
        case round =>
          obtain ⟨j, d', r1, rfl, ht', hdk', hj, hB'⟩ := hrel
          have hsB' := hB'.size
          have c2 := (hB'.cell (p := ⟨g, o + k * 3 + 2, none⟩) (lt_of_cell C2)).trans C2
          have y2 := (hB'.cell (p := ⟨g', o' + k * 3 + 2, none⟩) (lt_of_cell Y2)).trans Y2
          by_cases hlt' : j < ns
          · obtain ⟨gs, os, rfl, hgs, _⟩ := S3.out (by omega)
            obtain ⟨gs', os', rfl, hgs', _⟩ := S3'.out (by omega)
            cases r1 with
            | nil => exact absurd (show s.len = j by rw [ht', app_nil, hdk']) (by rw [← Hns.out]; omega)
            | cons l' e' s' r' =>
            have hT := TS.below HSV.out hB'
            have hT' := TS.below HSV'.out hB'
            rw [ht'] at hT hT'
            obtain ⟨b0, bv, b1, hb⟩ := TS.branch hT
            obtain ⟨p0, pv, p1, hp⟩ := TS.branch hT'
            rw [hdk'] at b0 b1 p0 p1
            have hsz' : tsize s' < N := by have := HSz.out; rw [ht', tsize_app, tsize] at this; omega
            have hbd : Below wr.heap.size wr wr.drew := (Below.refl _ wr).drew
            have hws : V.heap.size ≤ wr.drew.heap.size := Nat.le_trans hsB' hbd.size
            have KB := Lib.hid ((TS.below hb (hbd.mono hsB')).wider hws)
            have KP := Lib.hid ((TS.below hp (hbd.mono hsB')).wider hws)
            have HSz' := Lib.hid hsz'
            have HT' := Lib.hid ht'
            have HDk' := Lib.hid hdk'
            have z3 : (0 : Int) ≤ j := by omega
            have z4 : (j : Int) < ns := by omega
            have g1 : g < wr.drew.heap.size := lt_of_cell c2
            have g2 : g' < wr.drew.heap.size := lt_of_cell y2
            have g3 : gs < wr.drew.heap.size := lt_of_cell b1
            have g4 : gs' < wr.drew.heap.size := lt_of_cell p1
            clear hT hT' hb hp hsz' ht' hdk' hbd
            go_wp2_with fail
            go_region_held3 (fun w' => w'.cell? ⟨g, o + k * 3 + 2, none⟩ = some (.slice (some ⟨gs, os, none⟩) ns scap) ∧ w'.cell? ⟨g', o' + k * 3 + 2, none⟩ = some (.slice (some ⟨gs', os', none⟩) ns scap') ∧ w'.cell? ⟨gs, os + j * 2 + 1, none⟩ = some bv ∧ w'.cell? ⟨gs', os' + j * 2 + 1, none⟩ = some pv) (go_keep)
              ((go_at_call 13; refine (IH.out s' HSz'.out bv pv _ KB.out KP.out).mono ?_; rintro e1 w1 ⟨rfl, hB1⟩; have q1 := (hB1.cell (p := ⟨g, o + k * 3 + 2, none⟩) g1).trans c2; have q2 := (hB1.cell (p := ⟨g', o' + k * 3 + 2, none⟩) g2).trans y2; have q3 := (hB1.cell (p := ⟨gs, os + j * 2 + 1, none⟩) g3).trans b1; have q4 := (hB1.cell (p := ⟨gs', os' + j * 2 + 1, none⟩) g4).trans p1))
            have q5 := (hB1.cell (p := ⟨gs, os + j * 2, none⟩) g3).trans b0
            have q6 := (hB1.cell (p := ⟨gs', os' + j * 2, none⟩) g4).trans p0
            have HB1 := Lib.hid (Below.then hB'.drew hB1)
            clear b0 b1 p0 p1 c2 y2 hB1 hB' hws g1 g2 g3 g4 q3 q4
            go_wp2_with fail
            go_quiet (fail)
            go_wp2_with fail
            go_roundw
            case rel => exact ⟨j + 1, d'.snoc l' e' s', r', by go_num, by rw [HT'.out, app_snoc], by rw [len_snoc, HDk'.out], hlt', below_drewN HB1.out _⟩
            case measure => simp [intOf]; omega
          · have : j = ns := by omega
            subst this
            go_wp2_with fail
            go_roundw
            case rel => exact ⟨k + 1, d.snoc l e s, r, by go_num, by rw [HT.out, app_snoc], by rw [len_snoc, HDk.out], hlt, Below.then HBV.out hB'⟩
            case measure => simp [intOf]; omega
      · go_wp2_with fail
        go_ret
        exact ⟨rfl, hB⟩

theorem rsame_any (t : T) (v u : Value) (w : World) (hv : Tr w v t) (hu : Tr w u t) : Calls Try.prog 13 #[v, u] w (TruePost w) := rsame_all (tsize t + 1) t (by omega) v u w hv hu
end Go.Proofs.Ytjmbchemdcmegaa
