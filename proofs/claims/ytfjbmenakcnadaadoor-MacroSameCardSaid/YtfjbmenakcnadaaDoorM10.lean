/- What is proved: body reads what is left. -/
import Derived.Test.YtfjbmenakcnadaaDoorM9
import Derived.Deep.Onto
namespace Go.Proofs.YtfjbmenakcnadaaDoor
open Go.RowKit Go.Shelf Go.WideMaps

namespace Mx
def bodyErr (fn : Bool) (ps : List ByteArray) (va : Bool) (l : List K) : Option Int :=
  if l = [] then none else if pasteBad l then some 63 else if fn && hashBad ps va l then some 64 else if !va && vaIn l then some 65 else none
theorem bodyOf_err (nm : ByteArray) (fn : Bool) (ps : List ByteArray) (va : Bool) (l : List K) :
    bodyOf nm fn ps va l = match bodyErr fn ps va l with | none => (⟨nm, fn, ps, va, bare l⟩, 0) | some e => (.zero, e) := by
  unfold bodyOf bodyErr
  by_cases h : l = []
  · subst h; rfl
  · simp only [h, if_false]
    split
    · rfl
    · split
      · rfl
      · split <;> rfl
def hashHere (ps : List ByteArray) (va : Bool) (t : K) (r : List K) : Bool := isP t HS && !(match r with | [] => false | u :: _ => known ps va u)
theorem hashBad_cons (ps : List ByteArray) (va : Bool) (t : K) (r : List K) : hashBad ps va (t :: r) = (hashHere ps va t r || hashBad ps va r) := by
  cases r with
  | nil => simp [hashBad, hashHere]
  | cons u r => rfl
theorem vaIn_cons (t : K) (r : List K) : vaIn (t :: r) = ((t.kind == 1 && decide (t.text = VA)) || vaIn r) := rfl
theorem paste_two (t : K) (r : List K) (z : K) (hz : (t :: r)[r.length]? = some z) : pasteBad (t :: r) = (isP t HH || isP z HH) := by
  unfold pasteBad
  have : (t :: r).getLast? = some z := by rw [List.getLast?_eq_getElem?]; exact hz
  rw [this]; rfl
end Mx

theorem row_slice {w : World} {base e sz n : Nat} {v : Value} {xs : List Value} (h : w.ownsRow base e sz v n xs) : ∃ a m c, v = .slice a m c := by
  rcases h.2 with ⟨h', _⟩ | ⟨g, cap, cur, h', _⟩
  · exact ⟨_, _, _, h'⟩
  · exact ⟨_, _, _, h'⟩
theorem drop_cons_of {l : List K} {k : Nat} {t : K} (h : l[k]? = some t) : l.drop k = t :: l.drop (k + 1) := by
  obtain ⟨hk, e⟩ := List.getElem?_eq_some_iff.1 h
  rw [← e]; exact List.drop_eq_getElem_cons hk

def BodyPost (base R mb : Nat) (nm : ByteArray) (fn : Bool) (ps : List ByteArray) (va : Bool) (l : List K) (w : World) (res : Option Int) (e : Ending) (w' : World) : Prop :=
  (∃ err, res = some err ∧ e = thrown err ∧ Below base w w') ∨ (res = none ∧ e = .returned (.tuple #[]) ∧ ∃ pv bv lv, Rd w' base R mb nm fn pv ps va bv lv l ∧ w'.ownsRow base 39 6 bv l.length (ksCells (Mx.bare l)) ∧ Below base w w')

set_option maxRecDepth 100000 in
set_option maxHeartbeats 4000000 in
theorem body_any (base R mb : Nat) (nm : ByteArray) (fn : Bool) (pv : Value) (ps : List ByteArray) (va : Bool) (lv : Value) (l : List K) (w : World)
    (h : Rd w base R mb nm fn pv ps va (.slice none 0 0) lv l) (hx : ∀ t ∈ l, t.text.size ≤ maxLen) (hl : l.length * 56 ≤ 140737488355328) :
    Calls Tryd.prog 54 #[.pointer (some ⟨R, 0, none⟩)] w (BodyPost base R mb nm fn ps va l w (Mx.bodyErr fn ps va l)) := by
  obtain ⟨res, hres⟩ : ∃ res, res = Mx.bodyErr fn ps va l := ⟨_, rfl⟩
  rw [← hres]
  have hbR := h.hR
  have c5 := h.c5
  have hRl := h.ltR
  rcases l with _ | ⟨u, r⟩
  · obtain ⟨g, o, cap, rfl, h1, h2, hg, -⟩ := id h.lf
    simp only [List.length_nil] at c5 h1
    go_enter Tryd.func54, Tryd.ntmps54
    go_wp2_with fail
    refine bodyPost_ret (results_none rfl _ _ _) rfl ?_
    exact .inr ⟨hres, rfl, pv, _, _, h, World.ownsRow_nil _ _ _ _, Below.refl _ _⟩
  · obtain ⟨g, o, cap, rfl, hc1, hc2, hg, -⟩ := id h.lf
    have ku := h.tok (i := 0) rfl
    obtain ⟨z, hz⟩ : ∃ z, (u :: r)[r.length]? = some z := ⟨_, List.getElem?_eq_getElem (by simp)⟩
    have kz := h.tok hz
    have hpz := Mx.paste_two u r z hz
    obtain ⟨l, hll⟩ : ∃ l, l = u :: r := ⟨_, rfl⟩
    obtain ⟨m, hm⟩ : ∃ m, m = r.length := ⟨_, rfl⟩
    have hlm : l.length = m + 1 := by rw [hll, hm]; rfl
    have hne : l ≠ [] := by rw [hll]; simp
    rw [← hll] at h hres hx hl hpz hc1 c5 ⊢
    rw [← hm] at kz
    rw [hlm] at c5 hc1 hl
    have HLM := Lib.hid hlm
    have HX := Lib.hid hx
    have HH := Lib.hid h
    have HRES := Lib.hid hres
    have HNE := Lib.hid hne
    have ks1 := msign_any u Mx.HH
    have ks2 := msign_any z Mx.HH
    have hm5 : m * 56 ≤ 140737488355328 := Nat.le_trans (Nat.mul_le_mul_right 56 (Nat.le_succ m)) hl
    have hmb : m ≤ 2513169434917 := by omega
    have HL := Lib.hid hl
    clear hll hm hlm hx h hres hne hz hl hm5
    obtain ⟨a0, a1, a2, a3, a4, a5⟩ := ku
    simp only [Nat.zero_mul, Nat.add_zero] at a0 a1 a2 a3 a4 a5
    have z1 : (0 : Int) ≤ m := by omega
    have z2 : (m : Int) < m + 1 := by omega
    have z4 : IntKind.i64.wrap (m : Int) = m := IntWalk.i64_in _ (by omega)
    have z5 : IntKind.i64.wrap ((m : Int) + 1 - 1) = m := by rw [IntWalk.i64_in _ (by omega)]; omega
    go_enter Tryd.func54, Tryd.ntmps54
    go_wp2_with fail
    have hgl : g < w.heap.size := lt_of_cell a0
    cases hp1 : Mx.isP u Mx.HH with
    | true =>
      rw [hp1] at ks1 hpz
      have HE := Lib.hid (show res = some 63 by rw [HRES.out, Mx.bodyErr, if_neg HNE.out, hpz]; rfl)
      clear hpz
      refine (ks1 _).mono ?_
      rintro e W1 ⟨rfl, hB1⟩
      go_wp2_with fail
      refine (must_no 63 _).mono ?_
      rintro e W2 ⟨rfl, hW⟩
      subst hW
      exact ⟨rfl, .inl ⟨63, HE.out, rfl, hB1.mono HH.out.big⟩⟩
    | false =>
      rw [hp1] at ks1 hpz
      refine (ks1 _).mono ?_
      rintro e W1 ⟨rfl, hB1⟩
      obtain ⟨b0, b1, b2, b3, b4, b5⟩ := kz.kept (hB1.block g hgl)
      have h1 := HH.out.keep hB1
      have hB := hB1.mono HH.out.big
      have c5' := h1.c5
      rw [HLM.out] at c5'
      clear a0 a1 a2 a3 a4 a5 c5 hB1 hp1
      go_wp2_with fail
      cases hp2 : Mx.isP z Mx.HH with
      | true =>
        rw [hp2] at ks2 hpz
        have HE := Lib.hid (show res = some 63 by rw [HRES.out, Mx.bodyErr, if_neg HNE.out, hpz]; rfl)
        clear hpz
        refine (ks2 _).mono ?_
        rintro e W2 ⟨rfl, hB2⟩
        go_wp2_with fail
        refine (must_no 63 _).mono ?_
        rintro e W3 ⟨rfl, hW⟩
        subst hW
        exact ⟨rfl, .inl ⟨63, HE.out, rfl, hB.trans (hB2.mono h1.big)⟩⟩
      | false =>
        rw [hp2] at ks2 hpz
        have HE := Lib.hid (show res = if fn && Mx.hashBad ps va l then some 64 else if !va && Mx.vaIn l then some 65 else none by rw [HRES.out, Mx.bodyErr, if_neg HNE.out, hpz]; rfl)
        clear hpz
        refine (ks2 _).mono ?_
        rintro e W2 ⟨rfl, hB2⟩
        have h2 := h1.keep hB2
        replace hB := hB.trans (hB2.mono h1.big)
        clear hB2 c5' b0 b1 b2 b3 b4 b5 kz hp2
        go_wp2_with fail
        refine (must_ok 63 _).mono ?_
        rintro e W3 ⟨rfl, hW⟩
        subst hW
        have c5' := h2.c5
        rw [HLM.out] at c5'
        have H2 := Lib.hid h2
        clear h1 h2 HH
        go_wp2_with fail
        go_loopw [44] (fun i wr => ∃ k : Nat, i = .int .i64 k ∧ k ≤ m + 1 ∧ Below base w wr ∧ Rd wr base R mb nm fn pv ps va (.slice none 0 0) (.slice (some ⟨g, o, none⟩) l.length cap) l ∧ (fn && Mx.hashBad ps va l) = (fn && Mx.hashBad ps va (l.drop k))) (fun i _ => m + 1 - (intOf i).toNat)
        case atStart => exact ⟨0, rfl, Nat.zero_le _, hB, H2.out, rfl⟩
        case round =>
          obtain ⟨k, rfl, hk, hBr, hr, hrel⟩ := hrel
          have hRl := hr.ltR
          by_cases hlt : k < m + 1
          · obtain ⟨t, ht⟩ : ∃ t, l[k]? = some t := ⟨_, List.getElem?_eq_getElem (by rw [HLM.out]; exact hlt)⟩
            obtain ⟨a0, a1, a2, a3, a4, a5⟩ := hr.tok ht
            have hdr := drop_cons_of ht
            rw [hdr, Mx.hashBad_cons] at hrel
            have hgl' : g < wr.heap.size := lt_of_cell a0
            have y1 : (0 : Int) ≤ k := by omega
            have y2 : (k : Int) < m + 1 := by omega
            have hBx : Below wr.heap.size wr (wr.alloc (.cells #[.int .i64 t.kind, .string t.text, .int .i64 t.file, .int .i64 t.fr, .int .i64 t.en, .bool t.bl] 39)) := (Below.refl _ wr).alloc (Nat.le_refl _) _
            have h3 := hr.keep hBx
            have c1 := hr.c1
            have hBw := hBr.trans (hBx.mono hr.big)
            have HREL := Lib.hid hrel
            clear hrel hdr ht
            cases fn with
            | false =>
              have H3 := Lib.hid h3
              clear h3 hr
              go_wp2_with fail
              go_roundw
              case rel => exact ⟨k + 1, by go_num, by omega, hBw, H3.out, rfl⟩
              case measure => simp [intOf]; omega
            | true =>
              have ms := msign_any t Mx.HS
              cases hs : Mx.isP t Mx.HS with
              | false =>
                rw [hs] at ms
                have HR2 := Lib.hid (show (true && Mx.hashBad ps va l) = (true && Mx.hashBad ps va (l.drop (k + 1))) by rw [HREL.out]; simp [Mx.hashHere, hs])
                have H3 := Lib.hid h3
                clear h3 hr hs
                go_wp2_with fail
                refine (ms _).mono ?_
                rintro e W1 ⟨rfl, hB1⟩
                have h4 := H3.out.keep hB1
                have hB4 := hBw.trans (hB1.mono H3.out.big)
                clear hB1
                go_wp2_with fail
                go_roundw
                case rel => exact ⟨k + 1, by go_num, by omega, hB4, h4, HR2.out⟩
                case measure => simp [intOf]; omega
              | true =>
                rw [hs] at ms
                have H3 := Lib.hid h3
                clear h3 hr
                go_wp2_with fail
                refine (ms _).mono ?_
                rintro e W1 ⟨rfl, hB1⟩
                have h4 := H3.out.keep hB1
                have hB4 := hBw.trans (hB1.mono H3.out.big)
                clear hB1 a0 a1 a2 a3 a4 a5
                by_cases hkm : k < m
                · obtain ⟨x, hx⟩ : ∃ x, l[k + 1]? = some x := ⟨_, List.getElem?_eq_getElem (by rw [HLM.out]; omega)⟩
                  have hHere : Mx.hashHere ps va t (l.drop (k + 1)) = !Mx.known ps va x := by rw [drop_cons_of hx]; simp [Mx.hashHere, hs]
                  obtain ⟨a0, a1, a2, a3, a4, a5⟩ := h4.tok hx
                  have c5k := h4.c5
                  rw [HLM.out] at c5k
                  have y3 : (k : Int) < m := by omega
                  have y4 : IntKind.i64.wrap ((k : Int) + 1) = (k : Int) + 1 := IntWalk.i64_in _ (by omega)
                  have y5 : (0 : Int) ≤ (k : Int) + 1 := by omega
                  have y6 : (k : Int) + 1 < m + 1 := by omega
                  have hxs := HX.out x (List.mem_of_getElem? hx)
                  clear hs hx
                  go_wp2_with fail
                  cases hkn : Mx.known ps va x with
                  | true =>
                    have kn := known_any base R mb nm true pv ps va _ _ l x W1 h4 hxs
                    rw [hkn] at kn
                    have HR2 := Lib.hid (show (true && Mx.hashBad ps va l) = (true && Mx.hashBad ps va (l.drop (k + 1))) by rw [HREL.out, hHere, hkn]; rfl)
                    clear hHere hkn
                    refine kn.mono ?_
                    rintro e W2 ⟨rfl, hB2⟩
                    have h5 := h4.keep hB2
                    have hB5 := hB4.trans (hB2.mono h4.big)
                    clear h4 hB2 hB4
                    go_wp2_with fail
                    refine (must_ok 64 _).mono ?_
                    rintro e W3 ⟨rfl, hW⟩
                    subst hW
                    go_wp2_with fail
                    go_roundw
                    case rel => exact ⟨k + 1, by go_num, by omega, hB5, h5, HR2.out⟩
                    case measure => simp [intOf]; omega
                  | false =>
                    have kn := known_any base R mb nm true pv ps va _ _ l x W1 h4 hxs
                    rw [hkn] at kn
                    have hbad : (true && Mx.hashBad ps va l) = true := by rw [HREL.out, hHere, hkn]; rfl
                    have HR2 := Lib.hid (show res = some 64 by rw [HE.out, hbad]; rfl)
                    clear hHere hkn hbad
                    refine kn.mono ?_
                    rintro e W2 ⟨rfl, hB2⟩
                    have hB5 := hB4.trans (hB2.mono h4.big)
                    clear h4 hB2 hB4
                    go_wp2_with fail
                    refine (must_no 64 _).mono ?_
                    rintro e W3 ⟨rfl, hW⟩
                    subst hW
                    exact ⟨rfl, .inl ⟨64, HR2.out, rfl, hB5⟩⟩
                · have hHere : Mx.hashHere ps va t (l.drop (k + 1)) = true := by rw [List.drop_eq_nil_of_le (by rw [HLM.out]; omega)]; simp [Mx.hashHere, hs]
                  have hbad : (true && Mx.hashBad ps va l) = true := by rw [HREL.out, hHere]; rfl
                  have HR2 := Lib.hid (show res = some 64 by rw [HE.out, hbad]; rfl)
                  have y3 : ¬ (k : Int) < m := by omega
                  clear hHere hbad hs
                  go_wp2_with fail
                  refine (must_no 64 _).mono ?_
                  rintro e W3 ⟨rfl, hW⟩
                  subst hW
                  exact ⟨rfl, .inl ⟨64, HR2.out, rfl, hB4⟩⟩
          · have hbad : (fn && Mx.hashBad ps va l) = false := by rw [hrel, List.drop_eq_nil_of_le (by rw [HLM.out]; omega)]; cases fn <;> rfl
            have HE2 := Lib.hid (show res = if !va && Mx.vaIn l then some 65 else none by rw [HE.out, hbad]; rfl)
            have c5k := hr.c5
            rw [HLM.out] at c5k
            have y3 : ¬ (k : Int) < m + 1 := by omega
            have HR := Lib.hid hr
            clear hbad hrel hr
            go_wp2_with fail
            obtain ⟨V, hV⟩ : ∃ V, V = wr := ⟨_, rfl⟩
            rw [← hV] at hBr HR ⊢
            clear hV c5k hRl
            go_loopw [80] (fun i wr => ∃ k : Nat, i = .int .i64 k ∧ k ≤ m + 1 ∧ Below base w wr ∧ Rd wr base R mb nm fn pv ps va (.slice none 0 0) (.slice (some ⟨g, o, none⟩) l.length cap) l ∧ (!va && Mx.vaIn l) = (!va && Mx.vaIn (l.drop k))) (fun i _ => m + 1 - (intOf i).toNat)
            case atStart => exact ⟨0, rfl, Nat.zero_le _, hBr, HR.out, rfl⟩
            case round =>
              obtain ⟨k2, rfl, hk2, hBr2, hr2, hrel2⟩ := hrel
              have hRl := hr2.ltR
              by_cases hlt : k2 < m + 1
              · obtain ⟨t, ht⟩ : ∃ t, l[k2]? = some t := ⟨_, List.getElem?_eq_getElem (by rw [HLM.out]; exact hlt)⟩
                obtain ⟨a0, a1, a2, a3, a4, a5⟩ := hr2.tok ht
                have hdr := drop_cons_of ht
                rw [hdr, Mx.vaIn_cons] at hrel2
                have hgl' : g < wr.heap.size := lt_of_cell a0
                have y1 : (0 : Int) ≤ k2 := by omega
                have y2 : (k2 : Int) < m + 1 := by omega
                have hBx : Below wr.heap.size wr (wr.alloc (.cells #[.int .i64 t.kind, .string t.text, .int .i64 t.file, .int .i64 t.fr, .int .i64 t.en, .bool t.bl] 39)) := (Below.refl _ wr).alloc (Nat.le_refl _) _
                have h3 := hr2.keep hBx
                have c3 := hr2.c3
                have hBw := hBr2.trans (hBx.mono hr2.big)
                have HREL := Lib.hid hrel2
                have H3 := Lib.hid h3
                clear hrel2 hdr ht h3 hr2
                cases va with
                | true =>
                  go_wp2_with fail
                  refine (must_ok 65 _).mono ?_
                  rintro e W3 ⟨rfl, hW⟩
                  subst hW
                  go_wp2_with fail
                  go_roundw
                  case rel => exact ⟨k2 + 1, by go_num, by omega, hBw, H3.out, rfl⟩
                  case measure => simp [intOf]; omega
                | false =>
                  obtain ⟨kd, tx, tf, tfr, ten, tbl⟩ := t
                  dsimp only at a0 a1 a2 a3 a4 a5 hBx hBw H3 HREL
                  by_cases hkd : kd = 1
                  · subst hkd
                    by_cases hv : tx = Mx.VA
                    · have t2 : (tx.toList == [95, 95, 86, 65, 95, 65, 82, 71, 83, 95, 95]) = true := lit_yes hv
                      have hbad : (!false && Mx.vaIn l) = true := by rw [HREL.out]; simp [hv]
                      have HR2 := Lib.hid (show res = some 65 by rw [HE2.out, hbad]; rfl)
                      clear hv hbad
                      go_wp2_with fail
                      refine (must_no 65 _).mono ?_
                      rintro e W3 ⟨rfl, hW⟩
                      subst hW
                      exact ⟨rfl, .inl ⟨65, HR2.out, rfl, hBw⟩⟩
                    · have t2 : (tx.toList == [95, 95, 86, 65, 95, 65, 82, 71, 83, 95, 95]) = false := lit_no hv
                      have HR2 := Lib.hid (show (!false && Mx.vaIn l) = (!false && Mx.vaIn (l.drop (k2 + 1))) by rw [HREL.out]; simp [hv])
                      clear hv
                      go_wp2_with fail
                      refine (must_ok 65 _).mono ?_
                      rintro e W3 ⟨rfl, hW⟩
                      subst hW
                      go_wp2_with fail
                      go_roundw
                      case rel => exact ⟨k2 + 1, by go_num, by omega, hBw, H3.out, HR2.out⟩
                      case measure => simp [intOf]; omega
                  · have HR2 := Lib.hid (show (!false && Mx.vaIn l) = (!false && Mx.vaIn (l.drop (k2 + 1))) by rw [HREL.out]; simp [hkd])
                    have t3 : (kd == 1) = false := by simpa using hkd
                    have t4 : (kd != 1) = true := by simpa using hkd
                    clear hkd
                    go_wp2_with fail
                    refine (must_ok 65 _).mono ?_
                    rintro e W3 ⟨rfl, hW⟩
                    subst hW
                    go_wp2_with fail
                    go_roundw
                    case rel => exact ⟨k2 + 1, by go_num, by omega, hBw, H3.out, HR2.out⟩
                    case measure => simp [intOf]; omega
              · have hbad : (!va && Mx.vaIn l) = false := by rw [hrel2, List.drop_eq_nil_of_le (by rw [HLM.out]; omega)]; cases va <;> rfl
                have HE3 := Lib.hid (show res = none by rw [HE2.out, hbad]; rfl)
                have c5k := hr2.c5
                have y4 : ¬ (k2 : Int) < m + 1 := by omega
                have f4 := hr2.froz 4
                have c4 := hr2.c4
                rw [HLM.out] at c5k
                have HR2 := Lib.hid hr2
                clear hbad hrel2 hr2
                go_wp2_with fail
                refine (bare_any _ l _ (by rw [← HLM.out]; exact HR2.out.lf.ks) (by rw [HLM.out]; exact HL.out)).mono ?_
                rintro e W4 ⟨bv, rfl, hrow, hB4⟩
                obtain ⟨ab, nb, cb, rfl⟩ := row_slice hrow
                have h5 := HR2.out.keep hB4
                have f4' := h5.froz 4
                have c4' := h5.c4
                have hRl4 := h5.ltR
                have hne : (Value.slice ab nb cb).ownBlock ≠ some R := fun e => by have := (hrow.lt R e).1; omega
                have hrow2 := ownsRow_setCell_other hrow (a := ⟨R, 4, none⟩) hne (.slice ab nb cb)
                have h6 := h5.setBody (.slice ab nb cb)
                have hB6 := (hBr2.trans (hB4.mono HR2.out.big)).setCell (p := ⟨R, 4, none⟩) hbR (.slice ab nb cb)
                have H6 := Lib.hid h6
                have HB6 := Lib.hid hB6
                have HROW := Lib.hid (hrow2.mono HR2.out.big)
                clear h6 hB6 hrow hrow2 h5 hB4 f4 c4 c5k
                go_wp2_with fail
                go_end0
                exact .inr ⟨HE3.out, rfl, pv, _, _, H6.out, HROW.out, HB6.out⟩
end Go.Proofs.YtfjbmenakcnadaaDoor
