/- What is proved: the chapter's examples are told as they stand there. -/
import Derived.Test.YtflmbmcfoigioaaDoorO2
import Derived.Test.YtflmbmcfoigioaaDoorP2
namespace Go.Proofs.YtflmbmcfoigioaaDoor
open Go.RowKit Go.Shelf
open Lx (T)

theorem Below.then {w w1 w2 : World} (h : Below w.heap.size w w1) (k : Below w1.heap.size w1 w2) : Below w.heap.size w w2 := h.trans (k.mono h.size)
/-- A law's answer. -/
def TruePost (w : World) (e : Ending) (w' : World) : Prop := e = .returned (.bool true) ∧ Below w.heap.size w w'

def exA : List T := [⟨1, [97], 0, 1, false⟩, ⟨5, [43, 43], 1, 3, false⟩, ⟨5, [43], 3, 4, false⟩, ⟨1, [98], 4, 5, false⟩]
theorem ex1 : Lx.tk false (Sp.left 0 [97, 43, 43, 43, 98]) = exA := by decide +kernel
def exB : List T := [⟨1, [120], 0, 1, false⟩, ⟨5, [46], 10, 11, true⟩, ⟨2, [53, 46, 101, 43, 51, 46, 102], 12, 19, true⟩]
theorem ex2 : Lx.tk false (Sp.left 0 [120, 32, 47, 42, 32, 121, 32, 42, 47, 32, 46, 32, 53, 46, 101, 43, 51, 46, 102]) = exB := by decide +kernel
def exC : List T := [⟨4, [34, 97, 92, 34, 98, 34], 0, 6, false⟩, ⟨3, [39, 99, 39], 7, 10, true⟩, ⟨6, [39], 11, 12, true⟩, ⟨6, [39], 12, 13, false⟩]
theorem ex3 : Lx.tk false (Sp.left 0 [34, 97, 92, 34, 98, 34, 32, 39, 99, 39, 32, 39, 39]) = exC := by decide +kernel
def exD : List T := [⟨6, [34], 0, 1, false⟩, ⟨1, [97], 1, 2, false⟩, ⟨7, [10], 2, 3, false⟩]
theorem ex4 : Lx.tk false (Sp.left 0 [34, 97, 10]) = exD := by decide +kernel
def exE : List T := [⟨5, [47], 0, 1, false⟩, ⟨5, [42], 1, 2, false⟩, ⟨1, [120], 3, 4, true⟩]
theorem ex5 : Lx.tk false (Sp.left 0 [47, 42, 32, 120]) = exE := by decide +kernel
def exF : List T := [⟨1, [105, 110, 116], 0, 5, false⟩]
theorem ex6 : Lx.tk false (Sp.left 0 [105, 110, 92, 10, 116]) = exF := by decide +kernel
theorem ex7 : oneOf [97, 32, 98] = none := by decide +kernel
theorem ex8 : oneOf [60, 60, 61] = some ⟨5, [60, 60, 61], 0, 3, false⟩ := by decide +kernel

set_option maxRecDepth 100000 in
set_option maxHeartbeats 8000000 in
theorem awake_any (w : World) (hG : Glob w) : Calls Tryd.prog 9 #[] w (TruePost w) := by
  have HG := Lib.hid hG
  clear hG
  go_enter Tryd.func9, Tryd.ntmps9
  go_wp2_with fail
  refine (tokens_any 0 ⟨#[97, 43, 43, 43, 98]⟩ (by decide) _ HG.out).mono ?_
  rintro e w1 ⟨va, rfl, ha, hB1⟩
  rw [show (⟨#[97, 43, 43, 43, 98]⟩ : ByteArray).data.toList = [97, 43, 43, 43, 98] from rfl, ex1] at ha
  go_wp2_with fail
  refine (texts_any va 0 exA _ ha (by decide) (by decide)).mono ?_
  rintro e w' ⟨rfl, rfl⟩
  rw [show (prW usW exA).toArray = #[95, 97, 95, 43, 43, 95, 43, 95, 98] from rfl]
  clear ha
  go_wp2_with fail
  refine (tokens_any 0 ⟨#[120, 32, 47, 42, 32, 121, 32, 42, 47, 32, 46, 32, 53, 46, 101, 43, 51, 46, 102]⟩ (by decide) _ (HG.out.later hB1)).mono ?_
  rintro e w2 ⟨vb, rfl, hb, hB2⟩
  rw [show (⟨#[120, 32, 47, 42, 32, 121, 32, 42, 47, 32, 46, 32, 53, 46, 101, 43, 51, 46, 102]⟩ : ByteArray).data.toList = [120, 32, 47, 42, 32, 121, 32, 42, 47, 32, 46, 32, 53, 46, 101, 43, 51, 46, 102] from rfl, ex2] at hb
  replace hB2 := Below.then hB1 hB2
  clear hB1
  go_wp2_with fail
  refine (texts_any vb 0 exB _ hb (by decide) (by decide)).mono ?_
  rintro e w' ⟨rfl, rfl⟩
  rw [show (prW usW exB).toArray = #[95, 120, 32, 46, 32, 53, 46, 101, 43, 51, 46, 102] from rfl]
  clear hb
  go_wp2_with fail
  refine (tokens_any 0 ⟨#[34, 97, 92, 34, 98, 34, 32, 39, 99, 39, 32, 39, 39]⟩ (by decide) _ (HG.out.later hB2)).mono ?_
  rintro e w3 ⟨vc, rfl, hc, hB3⟩
  rw [show (⟨#[34, 97, 92, 34, 98, 34, 32, 39, 99, 39, 32, 39, 39]⟩ : ByteArray).data.toList = [34, 97, 92, 34, 98, 34, 32, 39, 99, 39, 32, 39, 39] from rfl, ex3] at hc
  replace hB3 := Below.then hB2 hB3
  clear hB2
  go_wp2_with fail
  refine (tokens_any 0 ⟨#[34, 97, 10]⟩ (by decide) _ (HG.out.later hB3)).mono ?_
  rintro e w4 ⟨vd, rfl, hd, hB4⟩
  rw [show (⟨#[34, 97, 10]⟩ : ByteArray).data.toList = [34, 97, 10] from rfl, ex4] at hd
  replace hc := hc.below hB4
  replace hB4 := Below.then hB3 hB4
  clear hB3
  go_wp2_with fail
  refine (tokens_any 0 ⟨#[47, 42, 32, 120]⟩ (by decide) _ (HG.out.later hB4)).mono ?_
  rintro e w5 ⟨ve, rfl, he, hB5⟩
  rw [show (⟨#[47, 42, 32, 120]⟩ : ByteArray).data.toList = [47, 42, 32, 120] from rfl, ex5] at he
  replace hc := hc.below hB5
  replace hd := hd.below hB5
  replace hB5 := Below.then hB4 hB5
  clear hB4
  go_wp2_with fail
  refine (texts_any ve 0 exE _ he (by decide) (by decide)).mono ?_
  rintro e w' ⟨rfl, rfl⟩
  rw [show (prW usW exE).toArray = #[95, 47, 95, 42, 32, 120] from rfl]
  clear he
  go_wp2_with fail
  refine (tokens_any 7 ⟨#[105, 110, 92, 10, 116]⟩ (by decide) _ (HG.out.later hB5)).mono ?_
  rintro e w6 ⟨vf, rfl, hf, hB6⟩
  rw [show (⟨#[105, 110, 92, 10, 116]⟩ : ByteArray).data.toList = [105, 110, 92, 10, 116] from rfl, ex6] at hf
  replace hc := hc.below hB6
  replace hd := hd.below hB6
  replace hB6 := Below.then hB5 hB6
  clear hB5
  obtain ⟨adc, capc, rfl, hc1, hc2, -⟩ := id hc
  obtain ⟨add, capd, rfl, hd1, hd2, -⟩ := id hd
  obtain ⟨adf, capf, rfl, hf1, hf2, -⟩ := id hf
  rw [show exC.length = 4 from rfl] at hc1
  rw [show exD.length = 3 from rfl] at hd1
  rw [show exF.length = 1 from rfl] at hf1
  unfold maxLen at hc2 hd2 hf2
  obtain ⟨gf, of', rfl, -, -, -, hgf, hff⟩ := hf.cells (by decide)
  obtain ⟨y0, y1, y2, y3, y4, y5⟩ := hff 0 _ rfl
  simp only [Nat.zero_mul, Nat.add_zero] at y0 y1 y2 y3 y4 y5
  have hq : ∀ W, (Op.equalIn 10000 29 (.agg #[.int .i64 1, .string ⟨#[105, 110, 116]⟩, .int .i64 7, .int .i64 0, .int .i64 5, .bool false]) (.agg #[.int .i64 1, .string ⟨#[105, 110, 116]⟩, .int .i64 7, .int .i64 0, .int .i64 5, .bool false])).run Tryd.prog W = .ok true W := fun W => run_sameTok _ _ _ _ _ _ W
  have HFc := Lib.hid hc
  have HFd := Lib.hid hd
  clear hf hff hc hd
  rw [show exC.length = 4 from rfl, show exD.length = 3 from rfl, show exF.length = 1 from rfl]
  go_wp2_with fail
  refine (one_any ⟨#[97, 32, 98]⟩ (by decide) _ (HG.out.later hB6)).mono ?_
  rintro e w7 ⟨rfl, hB7⟩
  rw [show (⟨#[97, 32, 98]⟩ : ByteArray).data.toList = [97, 32, 98] from rfl, ex7]
  dsimp only [tokAgg, zeroTok, Option.getD, Option.isSome]
  clear y0 y1 y2 y3 y4 y5 hq
  have hB7' : Below w6.heap.size w6 (w7.alloc (.cells #[.int .i64 0, .string ⟨#[]⟩, .int .i64 0, .int .i64 0, .int .i64 0, .bool false] 29)) := hB7.alloc hB7.size _
  have hBw : Below w.heap.size w (w7.alloc (.cells #[.int .i64 0, .string ⟨#[]⟩, .int .i64 0, .int .i64 0, .int .i64 0, .bool false] 29)) := Below.then hB6 hB7'
  have HBw := Lib.hid hBw
  have HB7 := Lib.hid hB7'
  clear hB7 hB7' hBw
  go_wp2_with fail
  refine (one_any ⟨#[60, 60, 61]⟩ (by decide) _ (HG.out.later HBw.out)).mono ?_
  rintro e w8 ⟨rfl, hB8⟩
  rw [show (⟨#[60, 60, 61]⟩ : ByteArray).data.toList = [60, 60, 61] from rfl, ex8]
  dsimp only [tokAgg, Option.getD, Option.isSome]
  have hc := (HFc.out.below HB7.out).below hB8
  have hd := (HFd.out.below HB7.out).below hB8
  replace hB8 := Below.then HBw.out hB8
  obtain ⟨gc, oc, rfl, -, -, -, hgc, hcc⟩ := hc.cells (by decide)
  obtain ⟨gd, od, rfl, -, -, -, hgd, hdd⟩ := hd.cells (by decide)
  have k0 := (hcc 0 _ rfl).1
  have k1 := (hcc 1 _ rfl).1
  have k1b := (hcc 1 _ rfl).2.2.2.2.2
  have k2 := (hcc 2 _ rfl).1
  have k3 := (hcc 3 _ rfl).1
  have j0 := (hdd 0 _ rfl).1
  have j1 := (hdd 1 _ rfl).1
  have j2 := (hdd 2 _ rfl).1
  simp only [Nat.zero_mul, Nat.add_zero, Nat.reduceMul] at k0 k1 k1b k2 k3 j0 j1 j2
  clear hc hd hcc hdd HFc HFd HB7 HBw hB6
  go_wp2_with fail
  go_ret
  exact ⟨rfl, hB8.alloc hB8.size _⟩
end Go.Proofs.YtflmbmcfoigioaaDoor
