/- What is proved: what the document's own Define tells, from its test of # on. (and what stands with it) -/
import Derived.Test.YtfjbmenakcnadaaDoorGl
import Derived.Deep.RegionHeld3
import Derived.Test.YtfjbmenakcnadaaDoorGq

/- What is proved: what the document's own Define tells, from its test of # on. -/
namespace Go.Proofs.YtfjbmenakcnadaaDoor
open Go.RowKit Go.Shelf Go.WideMaps

/-- Is what stands at a place a # that no parameter stands behind? -/
def hbAt (ps : List ByteArray) (va : Bool) (b : List K) (j : Nat) : Bool :=
  match b[j]? with
  | none => false
  | some t => Mx.isP t Mx.HS && (match b[j + 1]? with | none => true | some u => !Mx.known ps va u)
theorem hash_hit (ps : List ByteArray) (va : Bool) : ∀ (b : List K) (j : Nat), hbAt ps va b j = true → Mx.hashBad ps va b = true
  | [], j, h => by simp [hbAt] at h
  | [t], 0, h => by simpa [hbAt, Mx.hashBad] using h
  | [t], j + 1, h => by simp [hbAt] at h
  | t :: u :: r, 0, h => by
    have h' : (Mx.isP t Mx.HS && !Mx.known ps va u) = true := by simpa [hbAt] using h
    simp only [Mx.hashBad, h', Bool.true_or]
  | t :: u :: r, j + 1, h => by
    have := hash_hit ps va (u :: r) j (by simpa [hbAt] using h)
    simp only [Mx.hashBad, this, Bool.or_true]
theorem hash_miss (ps : List ByteArray) (va : Bool) : ∀ (b : List K), (∀ j, j < b.length → hbAt ps va b j = false) → Mx.hashBad ps va b = false
  | [], _ => rfl
  | [t], h => by simpa [hbAt, Mx.hashBad] using h 0 (by simp)
  | t :: u :: r, h => by
    have h0 : (Mx.isP t Mx.HS && !Mx.known ps va u) = false := by simpa [hbAt] using h 0 (by simp)
    have := hash_miss ps va (u :: r) (fun j hj => by
      have := h (j + 1) (by simp at hj ⊢; omega)
      simpa [hbAt] using this)
    simp only [Mx.hashBad, this, h0, Bool.or_false]

set_option maxRecDepth 100000 in
set_option maxHeartbeats 4000000 in
theorem rdef_hash (w V : World) (tx : ByteArray) (fn va : Bool) (ps : List ByteArray) (pv bv sv : Value) (b : List K) (res : Mx.M × Int) (nb cb gb ob : Nat)
    (hsv : sv = .slice (some ⟨gb, ob, none⟩) nb cb) (hnb : nb = b.length) (hle : nb ≤ 2513169434915) (hcb : nb ≤ cb) (hcm : cb ≤ maxLen)
    (hK : ∀ i x, b[i]? = some x → KAt V gb (ob + i * 6) x)
    (hRD : RD V w.heap.size tx fn pv ps va bv) (hrow : V.ownsRow (w.heap.size + 3) 39 6 bv nb (ksCells (Mx.bare b))) (hB : Below w.heap.size w V)
    (hres : res = if fn && Mx.hashBad ps va b then (.zero, 64) else if !va && Mx.vaIn b then (.zero, 65) else (⟨tx, fn, ps, va, Mx.bare b⟩, 0))
    (c0 c1 c3 c7 c8 c9 c10 c11 c12 c13 c14 c15 c16 c17 c18 c19 c20 c21 c22 c23 c24 c25 c26 c27 c28 c29 c30 c31 c32 c33 c34 c35 c36 c37 c38 c39 c40 c41 c42 c43 c44 c45 c46 c47 c48 c49 c50 c51 c52 c53 c54 c55 c56 c57 c58 c59 c60 c61 c62 c63 c64 c65 c66 c67 c68 c69 c70 c71 c72 c73 c74 c75 c76 c77 c78 c79 c80 c81 c82 c83 c84 c85 c86 c87 c88 c89 c90 c91 c92 c93 c94 c95 c96 c97 c98 c99 c100 c101 c102 c103 c104 c105 c106 c107 c108 c109 c110 c111 c112 c113 c114 c115 c116 c117 c118 c119 c120 c121 c122 c123 c124 c125 c126 c127 c128 c129 c130 c131 c132 c133 c134 c135 c136 c137 c138 c139 c140 c141 c142 c143 c144 c145 c146 c147 c148 c149 c150 c151 c152 c153 c154 c155 c156 c157 c158 c159 c160 c161 c162 c163 c164 c165 c166 c167 c168 c169 c170 c171 c172 c173 c174 c175 c176 c177 c178 c179 c180 c181 c182 c183 c184 c185 c186 c187 c188 c189 c190 c191 c192 c193 : Value) :
    Code.wp Tryd.prog (secs 9 defBody) (bodyPost Tryd.prog Tryd.f11 (DefPost w res)) ⟨#[c0, c1, .pointer (some ⟨w.heap.size, 0, none⟩), c3, .pointer (some ⟨w.heap.size + 1, 0, none⟩), .pointer (some ⟨w.heap.size + 1 + 1, 0, none⟩), sv, c7, c8, c9, c10, c11, c12, c13, c14, c15, c16, c17, c18, c19, c20, c21, c22, c23, c24, c25, c26, c27, c28, c29, c30, c31, c32, c33, c34, c35, c36, c37, c38, c39, c40, c41, c42, c43, c44, c45, c46, c47, c48, c49, c50, c51, c52, c53, c54, c55, c56, c57, c58, c59, c60, c61, c62, c63, c64, c65, c66, c67, c68, c69, c70, c71, c72, c73, c74, c75, c76, c77, c78, c79, c80, c81, c82, c83, c84, c85, c86, c87, c88, c89, c90, c91, c92, c93, c94, c95, c96, c97, c98, c99, c100, c101, c102, c103, c104, c105, c106, c107, c108, c109, c110, c111, c112, c113, c114, c115, c116, c117, c118, c119, c120, c121, c122, c123, c124, c125, c126, c127, c128, c129, c130, c131, c132, c133, c134, c135, c136, c137, c138, c139, c140, c141, c142, c143, c144, c145, c146, c147, c148, c149, c150, c151, c152, c153, c154, c155, c156, c157, c158, c159, c160, c161, c162, c163, c164, c165, c166, c167, c168, c169, c170, c171, c172, c173, c174, c175, c176, c177, c178, c179, c180, c181, c182, c183, c184, c185, c186, c187, c188, c189, c190, c191, c192, c193], []⟩ V := by
  subst hsv
  obtain ⟨pa, pn, pc, rfl⟩ := row_slice hRD.prow
  obtain ⟨ba, bm, bc, rfl⟩ := row_slice hrow
  have HRES := Lib.hid hres
  have HK := Lib.hid hK
  have HRD := Lib.hid hRD
  have HROW := Lib.hid hrow
  have HB := Lib.hid hB
  have Hnb := Lib.hid hnb
  clear hres hK hRD hrow hB hnb
  have HEXH := Lib.hid (show ∀ (wx : World) (h : Below V.heap.size V wx), Below w.heap.size w wx ∧ RD wx w.heap.size tx fn (.slice pa pn pc) ps va (.slice ba bm bc) ∧ wx.ownsRow (w.heap.size + 3) 39 6 (.slice ba bm bc) nb (ksCells (Mx.bare b)) ∧ (∀ i x, b[i]? = some x → KAt wx gb (ob + i * 6) x) from fun wx h =>
    ⟨Below.then HB.out h, HRD.out.keep h, row_below HROW.out h, fun i x hx => (HK.out i x hx).kept (h.block gb (lt_of_cell (HK.out i x hx).1))⟩)
  have HCM := Lib.hid hcm
  clear hcm
  refine wp_sec 9 defBody rfl ?_
  conv => arg 2; whnf
  go_wp2_with fail
  go_loopw [15] (fun i wx => ∃ k : Nat, i = .int .i64 k ∧ k ≤ nb ∧ Below V.heap.size V wx ∧ (fn = true → ∀ j, j < k → hbAt ps va b j = false)) (fun i _ => nb - (intOf i).toNat)
  case atStart => exact ⟨0, rfl, Nat.zero_le _, Below.refl _ _, fun _ j hj => absurd hj (Nat.not_lt_zero _)⟩
  case round =>
    obtain ⟨k, rfl, hk, hBx, hno⟩ := hrel
    obtain ⟨hBw, hRDx, hrowx, hKx⟩ := HEXH.out _ hBx
    have HNO := Lib.hid hno
    have g0 : wr.cell? ⟨w.heap.size + 1 + 1, 0, none⟩ = some (.string tx) := (Lib.cell_of_heap hRDx.b2 0).trans rfl
    have g1 : wr.cell? ⟨w.heap.size + 1 + 1, 1, none⟩ = some (.bool fn) := (Lib.cell_of_heap hRDx.b2 1).trans rfl
    have g2 : wr.cell? ⟨w.heap.size + 1 + 1, 2, none⟩ = some (.slice pa pn pc) := (Lib.cell_of_heap hRDx.b2 2).trans rfl
    have g3 : wr.cell? ⟨w.heap.size + 1 + 1, 3, none⟩ = some (.bool va) := (Lib.cell_of_heap hRDx.b2 3).trans rfl
    have g4 : wr.cell? ⟨w.heap.size + 1 + 1, 4, none⟩ = some (.slice ba bm bc) := (Lib.cell_of_heap hRDx.b2 4).trans rfl
    have HBW := Lib.hid hBw
    have HRDX := Lib.hid hRDx
    have HROWX := Lib.hid hrowx
    have HKX := Lib.hid hKx
    have HBX := Lib.hid hBx
    have hks : Ks wr (.slice (some ⟨gb, ob, none⟩) nb cb) b := ⟨_, cb, by rw [Hnb.out], by rw [← Hnb.out]; exact hcb, HCM.out, fun i x hx => ⟨gb, ob, rfl, HKX.out i x hx⟩⟩
    have HKS := Lib.hid hks
    clear hno hBw hRDx hrowx hKx hBx hks
    cases fn
    · go_upto_if 132 with (fail)
      refine wp_cond_false (by rfl) (wp_exit ?_)
      exact rdef_va w wr tx false va ps _ _ _ b res nb cb gb ob rfl Hnb.out hle hcb HCM.out HKX.out HRDX.out HROWX.out HBW.out (by rw [HRES.out]; rfl) _ _ _ _ _ _ _ _ _ _ _ _ _ _ _ _ _ _ _ _ _ _ _ _ _ _ _ _ _ _ _ _ _ _ _ _ _ _ _ _ _ _ _ _ _ _ _ _ _ _ _ _ _ _ _ _ _ _ _ _ _ _ _ _ _ _ _ _ _ _ _ _ _ _ _ _ _ _ _ _ _ _ _ _ _ _ _ _ _ _ _ _ _ _ _ _ _ _ _ _ _ _ _ _ _ _ _ _ _ _ _ _ _ _ _ _ _ _ _ _ _ _ _ _ _ _ _ _ _ _ _ _ _ _ _ _ _ _ _ _ _ _ _ _ _ _ _ _ _ _ _ _ _ _ _ _ _ _ _ _ _ _ _ _ _ _ _ _ _ _ _ _ _ _ _ _ _ _ _ _ _ _ _ _ _ _ _ _ _ _
    · obtain ⟨x0, x1, x2, x3, x4⟩ := zero_cells HRDX.out.b0
      obtain ⟨z0, z1, z2, z3, z4⟩ := zero_cells HRDX.out.b1
      have hr0 := lt_of_block HRDX.out.b0
      have hr1 := lt_of_block HRDX.out.b1
      have hr2 : w.heap.size + 1 + 1 < wr.heap.size := lt_of_block HRDX.out.b2
      have f0 : ∀ i, wr.frozen? ⟨w.heap.size, i, none⟩ = false := fun i => by simp [World.frozen?, HRDX.out.b0]
      by_cases hlt : k < nb
      · obtain ⟨x, hx⟩ : ∃ x, b[k]? = some x := ⟨_, List.getElem?_eq_getElem (by rw [← Hnb.out]; exact hlt)⟩
        have y1 : (0 : Int) ≤ k := by omega
        have y2 : (k : Int) < nb := by omega
        have y5 : IntKind.i64.wrap ((k : Int) + 1) = (k : Int) + 1 := by rw [IntWalk.i64_in _ (by omega)]
        have HX := Lib.hid hx
        clear hx
        go_wp2_with fail
        refine (rsign_at _ b k Mx.HS _ HKS.out (by omega)).mono ?_
        rintro e W1 ⟨rfl, hW⟩
        subst hW
        rw [isAt_of HX.out]
        obtain ⟨q, hq⟩ : ∃ q, q = Mx.isP x Mx.HS := ⟨_, rfl⟩
        rw [← hq]
        have HQ := Lib.hid hq
        clear hq
        cases q
        · have HNX := Lib.hid (show ∀ j, j < k + 1 → hbAt ps va b j = false from fun j hj => by
            rcases Nat.lt_or_ge j k with h | h
            · exact HNO.out (by trivial) j h
            · obtain rfl : j = k := by omega
              simp only [hbAt, HX.out, ← HQ.out, Bool.false_and])
          go_wp2_with fail
          go_quiet (fail)
          go_wp2_with fail
          go_roundw
          case rel => exact ⟨k + 1, by go_num, by omega, below_drewN HBX.out _, fun _ => HNX.out⟩
          case measure => simp [intOf]; omega
        · by_cases hk1 : k + 1 = nb
          · have t1 : (((k : Int) + 1) == (nb : Int)) = true := by simp; omega
            have HE := Lib.hid (show res = (.zero, 64) by
              rw [HRES.out, hash_hit ps va b k (by simp only [hbAt, HX.out, ← HQ.out, List.getElem?_eq_none (show b.length ≤ k + 1 by rw [← Hnb.out]; omega), Bool.true_and])]; rfl)
            clear hk1
            go_wp2_with fail
            go_quiet (fail)
            go_wp2_with fail
            have hz := zeros_set (W1.drewN nq) w.heap.size HRDX.out.b0
            have hzB := zeros_below w (W1.drewN nq) w.heap.size (Nat.le_refl _) (below_drewN HBW.out _)
            obtain ⟨s0, s1, s2, s3, s4⟩ := zero_cells hz
            refine bodyPost_ret (v := .tuple #[.agg #[.string ⟨#[]⟩, .bool false, .slice none 0 0, .bool false, .slice none 0 0], .int .i64 64]) (by simp [results, Tryd.results11, go_sem, s0, s1, s2, s3, s4]) rfl ?_
            exact def_zero HE.out hzB
          · obtain ⟨u, hu⟩ : ∃ u, b[k + 1]? = some u := ⟨_, List.getElem?_eq_getElem (by rw [← Hnb.out]; omega)⟩
            have t1 : (((k : Int) + 1) == (nb : Int)) = false := by simp; omega
            have y6 : (0 : Int) ≤ (k : Int) + 1 := by omega
            have y7 : (k : Int) + 1 < nb := by omega
            have y8 : ((k : Int) + 1).toNat = k + 1 := by omega
            obtain ⟨a0, a1, -, -, -, -⟩ := HKX.out (k + 1) u hu
            have HU := Lib.hid hu
            have HK1 := Lib.hid hk1
            clear hu hk1
            by_cases h1 : u.kind = 1
            · have t2 : (u.kind != 1) = false := by simp [h1]
              have hpar : ∀ w', Below W1.heap.size W1 w' → Calls Tryd.prog 20 #[.agg #[.string tx, .bool true, .slice pa pn pc, .bool va, .slice ba bm bc], .string u.text] w' fun e w'' => e = .returned (.int .i64 (Mx.rpidx ps va u.text)) ∧ Below w'.heap.size w' w'' :=
                fun w' h => rparam_any tx u.text true va _ _ ps w' ((Sts.of_row HRDX.out.prow).below h) ⟨_, _, _, rfl⟩
              have hkn := Mx.rpidx_known ps va u h1
              obtain ⟨n, hn⟩ : ∃ n, n = Mx.rpidx ps va u.text := ⟨_, rfl⟩
              rw [← hn] at hpar hkn
              have HPAR := Lib.hid hpar
              clear hpar
              rw [h1] at a0
              clear hn h1
              by_cases hneg : n < 0
              · have t4 : decide (n < 0) = true := decide_eq_true hneg
                have HE := Lib.hid (show res = (.zero, 64) by
                  rw [HRES.out, hash_hit ps va b k (by simp only [hbAt, HX.out, ← HQ.out, HU.out, hkn.1 hneg]; rfl)]; rfl)
                clear hkn
                have hW : Below W1.heap.size W1 W1 := Below.refl _ _
                go_wp2_with fail
                go_region_held3 (fun w' => w'.cell? ⟨gb, ob + (k + 1) * 6, none⟩ = some (.int .i64 1) ∧ w'.cell? ⟨gb, ob + (k + 1) * 6 + 1, none⟩ = some (.string u.text) ∧ w'.cell? ⟨w.heap.size + 1 + 1, 0, none⟩ = some (.string tx) ∧ w'.cell? ⟨w.heap.size + 1 + 1, 1, none⟩ = some (.bool true) ∧ w'.cell? ⟨w.heap.size + 1 + 1, 2, none⟩ = some (.slice pa pn pc) ∧ w'.cell? ⟨w.heap.size + 1 + 1, 3, none⟩ = some (.bool va) ∧ w'.cell? ⟨w.heap.size + 1 + 1, 4, none⟩ = some (.slice ba bm bc) ∧ Below W1.heap.size W1 w')
                  (first
                    | exact ⟨a0, a1, g0, g1, g2, g3, g4, hW.drew⟩
                    | (refine ⟨?_, ?_, ?_, ?_, ?_, ?_, ?_, ?_⟩ <;> go_keep)
                    | (go_split_ands
                       refine ⟨?_, ?_, ?_, ?_, ?_, ?_, ?_, ?_⟩
                       · exact below_cof hB2 (by assumption)
                       · exact below_cof hB2 (by assumption)
                       · exact below_cof hB2 (by assumption)
                       · exact below_cof hB2 (by assumption)
                       · exact below_cof hB2 (by assumption)
                       · exact below_cof hB2 (by assumption)
                       · exact below_cof hB2 (by assumption)
                       · exact Below.trans (by assumption) (hB2.mono (Below.size (by assumption)))))
                  (first | (go_at_call 20; go_split_ands; refine (HPAR.out _ (by assumption)).mono ?_; rintro e w1 ⟨rfl, hB2⟩))
                go_split_ands
                have hB3 : Below W1.heap.size W1 w1 := by assumption
                have HBX2 := Lib.hid (Below.then HBX.out hB3)
                obtain ⟨hBw2, hRD2, hrow2, hK2⟩ := HEXH.out w1 HBX2.out
                clear x0 x1 x2 x3 x4 z0 z1 z2 z3 z4 hr0 hr1 hr2 f0 hB3
                obtain ⟨x0, x1, x2, x3, x4⟩ := zero_cells hRD2.b0
                obtain ⟨z0, z1, z2, z3, z4⟩ := zero_cells hRD2.b1
                have hr0 := lt_of_block hRD2.b0
                have hr1 := lt_of_block hRD2.b1
                have hr2 : w.heap.size + 1 + 1 < w1.heap.size := lt_of_block hRD2.b2
                have f0 : ∀ i, w1.frozen? ⟨w.heap.size, i, none⟩ = false := fun i => by simp [World.frozen?, hRD2.b0]
                have HRD2 := Lib.hid hRD2
                have HBW2 := Lib.hid hBw2
                clear hRD2 hBw2 hrow2 hK2
                go_wp2_with fail
                have hz := zeros_set (w1) w.heap.size HRD2.out.b0
                have hzB := zeros_below w (w1) w.heap.size (Nat.le_refl _) (HBW2.out)
                obtain ⟨s0, s1, s2, s3, s4⟩ := zero_cells hz
                refine bodyPost_ret (v := .tuple #[.agg #[.string ⟨#[]⟩, .bool false, .slice none 0 0, .bool false, .slice none 0 0], .int .i64 64]) (by simp [results, Tryd.results11, go_sem, s0, s1, s2, s3, s4]) rfl ?_
                exact def_zero HE.out hzB
              · have t4 : decide (n < 0) = false := decide_eq_false hneg
                have HNX := Lib.hid (show ∀ j, j < k + 1 → hbAt ps va b j = false from fun j hj => by
                  rcases Nat.lt_or_ge j k with h | h
                  · exact HNO.out (by trivial) j h
                  · obtain rfl : j = k := by omega
                    have hkt : Mx.known ps va u = true := by
                      cases hkk : Mx.known ps va u with
                      | true => rfl
                      | false => exact absurd (hkn.2 hkk) hneg
                    simp only [hbAt, HX.out, HU.out, hkt, Bool.not_true, Bool.and_false])
                clear hkn
                have hW : Below W1.heap.size W1 W1 := Below.refl _ _
                go_wp2_with fail
                go_region_held3 (fun w' => w'.cell? ⟨gb, ob + (k + 1) * 6, none⟩ = some (.int .i64 1) ∧ w'.cell? ⟨gb, ob + (k + 1) * 6 + 1, none⟩ = some (.string u.text) ∧ w'.cell? ⟨w.heap.size + 1 + 1, 0, none⟩ = some (.string tx) ∧ w'.cell? ⟨w.heap.size + 1 + 1, 1, none⟩ = some (.bool true) ∧ w'.cell? ⟨w.heap.size + 1 + 1, 2, none⟩ = some (.slice pa pn pc) ∧ w'.cell? ⟨w.heap.size + 1 + 1, 3, none⟩ = some (.bool va) ∧ w'.cell? ⟨w.heap.size + 1 + 1, 4, none⟩ = some (.slice ba bm bc) ∧ Below W1.heap.size W1 w')
                  (first
                    | exact ⟨a0, a1, g0, g1, g2, g3, g4, hW.drew⟩
                    | (refine ⟨?_, ?_, ?_, ?_, ?_, ?_, ?_, ?_⟩ <;> go_keep)
                    | (go_split_ands
                       refine ⟨?_, ?_, ?_, ?_, ?_, ?_, ?_, ?_⟩
                       · exact below_cof hB2 (by assumption)
                       · exact below_cof hB2 (by assumption)
                       · exact below_cof hB2 (by assumption)
                       · exact below_cof hB2 (by assumption)
                       · exact below_cof hB2 (by assumption)
                       · exact below_cof hB2 (by assumption)
                       · exact below_cof hB2 (by assumption)
                       · exact Below.trans (by assumption) (hB2.mono (Below.size (by assumption)))))
                  (first | (go_at_call 20; go_split_ands; refine (HPAR.out _ (by assumption)).mono ?_; rintro e w1 ⟨rfl, hB2⟩))
                go_split_ands
                have HBX2 := Lib.hid (Below.then HBX.out (show Below W1.heap.size W1 w1 by assumption))
                go_wp2_with fail
                go_roundw
                case rel => exact ⟨k + 1, by go_num, by omega, HBX2.out, fun _ => HNX.out⟩
                case measure => simp [intOf]; omega
            · have t2 : (u.kind != 1) = true := by simpa using h1
              have HE := Lib.hid (show res = (.zero, 64) by
                rw [HRES.out, hash_hit ps va b k (by simp [hbAt, HX.out, ← HQ.out, HU.out, Mx.known, h1])]; rfl)
              clear h1
              go_wp2_with fail
              go_quiet (fail)
              go_wp2_with fail
              have hz := zeros_set (W1.drewN nq) w.heap.size HRDX.out.b0
              have hzB := zeros_below w (W1.drewN nq) w.heap.size (Nat.le_refl _) (below_drewN HBW.out _)
              obtain ⟨s0, s1, s2, s3, s4⟩ := zero_cells hz
              refine bodyPost_ret (v := .tuple #[.agg #[.string ⟨#[]⟩, .bool false, .slice none 0 0, .bool false, .slice none 0 0], .int .i64 64]) (by simp [results, Tryd.results11, go_sem, s0, s1, s2, s3, s4]) rfl ?_
              exact def_zero HE.out hzB
      · have y2 : ¬ (k : Int) < nb := by omega
        go_upto_if 132 with (fail)
        refine wp_cond_false (by rfl) (wp_exit ?_)
        exact rdef_va w _ tx true va ps _ _ _ b res nb cb gb ob rfl Hnb.out hle hcb HCM.out HKX.out HRDX.out HROWX.out HBW.out (by
          rw [HRES.out, hash_miss ps va b (fun j hj => HNO.out (by trivial) j (by rw [← Hnb.out] at hj; omega))]; rfl) _ _ _ _ _ _ _ _ _ _ _ _ _ _ _ _ _ _ _ _ _ _ _ _ _ _ _ _ _ _ _ _ _ _ _ _ _ _ _ _ _ _ _ _ _ _ _ _ _ _ _ _ _ _ _ _ _ _ _ _ _ _ _ _ _ _ _ _ _ _ _ _ _ _ _ _ _ _ _ _ _ _ _ _ _ _ _ _ _ _ _ _ _ _ _ _ _ _ _ _ _ _ _ _ _ _ _ _ _ _ _ _ _ _ _ _ _ _ _ _ _ _ _ _ _ _ _ _ _ _ _ _ _ _ _ _ _ _ _ _ _ _ _ _ _ _ _ _ _ _ _ _ _ _ _ _ _ _ _ _ _ _ _ _ _ _ _ _ _ _ _ _ _ _ _ _ _ _ _ _ _ _ _ _ _ _ _ _ _ _

end Go.Proofs.YtfjbmenakcnadaaDoor

/- What is proved: what the document's own Define tells, from its test of ## on. -/
namespace Go.Proofs.YtfjbmenakcnadaaDoor
open Go.RowKit Go.Shelf Go.WideMaps

theorem or_no (p q : Bool) (h : false = (p || q)) : p = false ∧ q = false := by cases p <;> cases q <;> simp_all
theorem or_yes (p q : Bool) (h : true = (p || q)) : p = true ∨ (p = false ∧ q = true) := by cases p <;> cases q <;> simp_all
theorem paste_at (b : List K) (n : Nat) (h : n = b.length) : Mx.pasteBad b = (isAt b 0 Mx.HH || isAt b (n - 1) Mx.HH) := by
  subst h
  unfold Mx.pasteBad isAt
  rw [List.head?_eq_getElem?, List.getLast?_eq_getElem?]
  rfl

set_option maxRecDepth 100000 in
set_option maxHeartbeats 4000000 in
theorem rdef_paste (w wr : World) (tx : ByteArray) (fn va : Bool) (ps : List ByteArray) (pv bv sv : Value) (b : List K) (res : Mx.M × Int) (nb cb gb ob : Nat)
    (hsv : sv = .slice (some ⟨gb, ob, none⟩) nb cb) (hnb : nb = b.length) (hle : nb ≤ 2513169434915) (hcb : nb ≤ cb) (hcm : cb ≤ maxLen)
    (hK : ∀ i x, b[i]? = some x → KAt wr gb (ob + i * 6) x)
    (hRD : RD wr w.heap.size tx fn pv ps va bv) (hrow : wr.ownsRow (w.heap.size + 3) 39 6 bv nb (ksCells (Mx.bare b))) (hB : Below w.heap.size w wr)
    (hres : res = Mx.bodyOf tx fn ps va b)
    (c0 c1 c3 c7 c8 c9 c10 c11 c12 c13 c14 c15 c16 c17 c18 c19 c20 c21 c22 c23 c24 c25 c26 c27 c28 c29 c30 c31 c32 c33 c34 c35 c36 c37 c38 c39 c40 c41 c42 c43 c44 c45 c46 c47 c48 c49 c50 c51 c52 c53 c54 c55 c56 c57 c58 c59 c60 c61 c62 c63 c64 c65 c66 c67 c68 c69 c70 c71 c72 c73 c74 c75 c76 c77 c78 c79 c80 c81 c82 c83 c84 c85 c86 c87 c88 c89 c90 c91 c92 c93 c94 c95 c96 c97 c98 c99 c100 c101 c102 c103 c104 c105 c106 c107 c108 c109 c110 c111 c112 c113 c114 c115 c116 c117 c118 c119 c120 c121 c122 c123 c124 c125 c126 c127 c128 c129 c130 c131 c132 c133 c134 c135 c136 c137 c138 c139 c140 c141 c142 c143 c144 c145 c146 c147 c148 c149 c150 c151 c152 c153 c154 c155 c156 c157 c158 c159 c160 c161 c162 c163 c164 c165 c166 c167 c168 c169 c170 c171 c172 c173 c174 c175 c176 c177 c178 c179 c180 c181 c182 c183 c184 c185 c186 c187 c188 c189 c190 c191 c192 c193 : Value) :
    Code.wp Tryd.prog (secs 8 defBody) (bodyPost Tryd.prog Tryd.f11 (DefPost w res)) ⟨#[c0, c1, .pointer (some ⟨w.heap.size, 0, none⟩), c3, .pointer (some ⟨w.heap.size + 1, 0, none⟩), .pointer (some ⟨w.heap.size + 1 + 1, 0, none⟩), sv, c7, c8, c9, c10, c11, c12, c13, c14, c15, c16, c17, c18, c19, c20, c21, c22, c23, c24, c25, c26, c27, c28, c29, c30, c31, c32, c33, c34, c35, c36, c37, c38, c39, c40, c41, c42, c43, c44, c45, c46, c47, c48, c49, c50, c51, c52, c53, c54, c55, c56, c57, c58, c59, c60, c61, c62, c63, c64, c65, c66, c67, c68, c69, c70, c71, c72, c73, c74, c75, c76, c77, c78, c79, c80, c81, c82, c83, c84, c85, c86, c87, c88, c89, c90, c91, c92, c93, c94, c95, c96, c97, c98, c99, c100, c101, c102, c103, c104, c105, c106, c107, c108, c109, c110, c111, c112, c113, c114, c115, c116, c117, c118, c119, c120, c121, c122, c123, c124, c125, c126, c127, c128, c129, c130, c131, c132, c133, c134, c135, c136, c137, c138, c139, c140, c141, c142, c143, c144, c145, c146, c147, c148, c149, c150, c151, c152, c153, c154, c155, c156, c157, c158, c159, c160, c161, c162, c163, c164, c165, c166, c167, c168, c169, c170, c171, c172, c173, c174, c175, c176, c177, c178, c179, c180, c181, c182, c183, c184, c185, c186, c187, c188, c189, c190, c191, c192, c193], []⟩ wr := by
  subst hsv
  have HRES := Lib.hid hres
  have HK := Lib.hid hK
  have HRD := Lib.hid hRD
  have HROW := Lib.hid hrow
  have HB := Lib.hid hB
  have Hnb := Lib.hid hnb
  have HCM := Lib.hid hcm
  have HKS : Hid (Ks wr (.slice (some ⟨gb, ob, none⟩) nb cb) b) := Lib.hid ⟨_, cb, by rw [hnb], by rw [← hnb]; exact hcb, hcm, fun i x hx => ⟨gb, ob, rfl, hK i x hx⟩⟩
  clear hres hK hRD hrow hB hnb hcm
  refine wp_sec 8 defBody rfl ?_
  conv => arg 2; whnf
  by_cases h0 : nb = 0
  · obtain rfl : b = [] := List.length_eq_zero_iff.1 (by rw [← Hnb.out, h0])
    have y1 : ¬ (0 : Int) < nb := by omega
    clear h0
    go_wp2_with fail
    exact rdef_hash w wr tx fn va ps pv bv _ [] res nb cb gb ob rfl Hnb.out hle hcb HCM.out HK.out HRD.out HROW.out HB.out (by rw [HRES.out]; cases fn <;> cases va <;> rfl) _ _ _ _ _ _ _ _ _ _ _ _ _ _ _ _ _ _ _ _ _ _ _ _ _ _ _ _ _ _ _ _ _ _ _ _ _ _ _ _ _ _ _ _ _ _ _ _ _ _ _ _ _ _ _ _ _ _ _ _ _ _ _ _ _ _ _ _ _ _ _ _ _ _ _ _ _ _ _ _ _ _ _ _ _ _ _ _ _ _ _ _ _ _ _ _ _ _ _ _ _ _ _ _ _ _ _ _ _ _ _ _ _ _ _ _ _ _ _ _ _ _ _ _ _ _ _ _ _ _ _ _ _ _ _ _ _ _ _ _ _ _ _ _ _ _ _ _ _ _ _ _ _ _ _ _ _ _ _ _ _ _ _ _ _ _ _ _ _ _ _ _ _ _ _ _ _ _ _ _ _ _ _ _ _ _ _ _ _ _
  · have y1 : (0 : Int) < nb := by omega
    have y2 : IntKind.i64.wrap ((nb : Int) - 1) = ((nb - 1 : Nat) : Int) := by rw [IntWalk.i64_in _ (by omega)]; omega
    have hpb := paste_at b nb Hnb.out
    have HNE := Lib.hid (show b ≠ [] from fun e => h0 (by rw [Hnb.out, e]; rfl))
    obtain ⟨p, hp⟩ : ∃ p, p = isAt b 0 Mx.HH := ⟨_, rfl⟩
    obtain ⟨q, hq⟩ : ∃ q, q = isAt b (nb - 1) Mx.HH := ⟨_, rfl⟩
    rw [← hp, ← hq] at hpb
    have HP := Lib.hid hp
    have HQ := Lib.hid hq
    have HPB := Lib.hid hpb
    obtain ⟨m, hm⟩ : ∃ m, m = nb - 1 := ⟨_, rfl⟩
    rw [← hm] at y2
    have HM := Lib.hid hm
    clear hp hq hpb h0 hm
    go_wp2_with fail
    refine (rsign_at _ b 0 Mx.HH _ HKS.out (by omega)).mono ?_
    rintro e W1 ⟨rfl, hW⟩
    subst hW
    rw [← HP.out]
    go_wp2_with fail
    refine (rsign_at _ b m Mx.HH _ HKS.out (by have := HM.out; omega)).mono ?_
    rintro e W2 ⟨rfl, hW⟩
    subst hW
    rw [show isAt b m Mx.HH = q from (by rw [HM.out]; exact HQ.out.symm)]
    obtain ⟨x0, x1, x2, x3, x4⟩ := zero_cells HRD.out.b0
    obtain ⟨z0, z1, z2, z3, z4⟩ := zero_cells HRD.out.b1
    have hr0 := lt_of_block HRD.out.b0
    have hr1 := lt_of_block HRD.out.b1
    have hr2 : w.heap.size + 1 + 1 < W2.heap.size := lt_of_block HRD.out.b2
    have f0 : ∀ i, W2.frozen? ⟨w.heap.size, i, none⟩ = false := fun i => by simp [World.frozen?, HRD.out.b0]
    obtain ⟨pq, hpq⟩ : ∃ pq, pq = (p || q) := ⟨_, rfl⟩
    have HPQ := Lib.hid hpq
    clear hpq
    cases pq
    · obtain ⟨rfl, rfl⟩ := or_no _ _ HPQ.out
      have HE := Lib.hid (show res = if fn && Mx.hashBad ps va b then (.zero, 64) else if !va && Mx.vaIn b then (.zero, 65) else (⟨tx, fn, ps, va, Mx.bare b⟩, 0) by
        rw [HRES.out]; unfold Mx.bodyOf; rw [if_neg HNE.out, HPB.out, if_neg (by simp)])
      clear x0 x1 x2 x3 x4 z0 z1 z2 z3 z4 hr0 hr1 hr2 f0
      go_wp2_with fail
      exact rdef_hash w _ tx fn va ps pv bv _ b res nb cb gb ob rfl Hnb.out hle hcb HCM.out HK.out HRD.out HROW.out HB.out HE.out _ _ _ _ _ _ _ _ _ _ _ _ _ _ _ _ _ _ _ _ _ _ _ _ _ _ _ _ _ _ _ _ _ _ _ _ _ _ _ _ _ _ _ _ _ _ _ _ _ _ _ _ _ _ _ _ _ _ _ _ _ _ _ _ _ _ _ _ _ _ _ _ _ _ _ _ _ _ _ _ _ _ _ _ _ _ _ _ _ _ _ _ _ _ _ _ _ _ _ _ _ _ _ _ _ _ _ _ _ _ _ _ _ _ _ _ _ _ _ _ _ _ _ _ _ _ _ _ _ _ _ _ _ _ _ _ _ _ _ _ _ _ _ _ _ _ _ _ _ _ _ _ _ _ _ _ _ _ _ _ _ _ _ _ _ _ _ _ _ _ _ _ _ _ _ _ _ _ _ _ _ _ _ _ _ _ _ _ _ _
    · have HE := Lib.hid (show res = (.zero, 63) by
        rw [HRES.out]; unfold Mx.bodyOf; rw [if_neg HNE.out, HPB.out, ← HPQ.out, if_pos rfl])
      have hpq := or_yes _ _ HPQ.out
      rcases hpq with rfl | ⟨rfl, rfl⟩
      · go_wp2_with fail
        have hz := zeros_set W2 w.heap.size HRD.out.b0
        have hzB := zeros_below w W2 w.heap.size (Nat.le_refl _) HB.out
        obtain ⟨s0, s1, s2, s3, s4⟩ := zero_cells hz
        refine bodyPost_ret (v := .tuple #[.agg #[.string ⟨#[]⟩, .bool false, .slice none 0 0, .bool false, .slice none 0 0], .int .i64 63]) (by simp [results, Tryd.results11, go_sem, s0, s1, s2, s3, s4]) rfl ?_
        exact def_zero HE.out hzB
      · go_wp2_with fail
        have hz := zeros_set W2 w.heap.size HRD.out.b0
        have hzB := zeros_below w W2 w.heap.size (Nat.le_refl _) HB.out
        obtain ⟨s0, s1, s2, s3, s4⟩ := zero_cells hz
        refine bodyPost_ret (v := .tuple #[.agg #[.string ⟨#[]⟩, .bool false, .slice none 0 0, .bool false, .slice none 0 0], .int .i64 63]) (by simp [results, Tryd.results11, go_sem, s0, s1, s2, s3, s4]) rfl ?_
        exact def_zero HE.out hzB

end Go.Proofs.YtfjbmenakcnadaaDoor
