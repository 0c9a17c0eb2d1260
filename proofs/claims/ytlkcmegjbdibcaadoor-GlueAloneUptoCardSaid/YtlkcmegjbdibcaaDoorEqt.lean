/- What is proved: equality of tokens, as the model runs it. -/
import Derived.Test.YtlkcmegjbdibcaaDoorR5
import Derived.Test.YtlkcmegjbdibcaaDoorKt
namespace Go.Proofs.YtlkcmegjbdibcaaDoor
open Go.RowKit Go.Shelf
open Lx (T)

theorem stoodTok : Tryd.prog.stoodInHeld 26 = false := by kernel_rfl
theorem partT0 (a b c d e f : Value) (w : World) : (part 3 #[a, b, c, d, e, f] 0).run Tryd.prog w = .ok a w := by kernel_rfl
theorem partT1 (a b c d e f : Value) (w : World) : (part 9 #[a, b, c, d, e, f] 1).run Tryd.prog w = .ok b w := by kernel_rfl
theorem partT2 (a b c d e f : Value) (w : World) : (part 3 #[a, b, c, d, e, f] 2).run Tryd.prog w = .ok c w := by kernel_rfl
theorem partT3 (a b c d e f : Value) (w : World) : (part 3 #[a, b, c, d, e, f] 3).run Tryd.prog w = .ok d w := by kernel_rfl
theorem partT4 (a b c d e f : Value) (w : World) : (part 3 #[a, b, c, d, e, f] 4).run Tryd.prog w = .ok e w := by kernel_rfl
theorem partT5 (a b c d e f : Value) (w : World) : (part 4 #[a, b, c, d, e, f] 5).run Tryd.prog w = .ok f w := by kernel_rfl
theorem eqInt (d : Nat) (a b : Int) (w : World) : (Op.equalIn (d + 1) 3 (.int .i64 a) (.int .i64 b)).run Tryd.prog w = .ok (a == b) w := by kernel_rfl
theorem eqStr (d : Nat) (a b : ByteArray) (w : World) : (Op.equalIn (d + 1) 9 (.string a) (.string b)).run Tryd.prog w = .ok (a == b) w := by kernel_rfl
theorem eqBool (d : Nat) (a b : Bool) (w : World) : (Op.equalIn (d + 1) 4 (.bool a) (.bool b)).run Tryd.prog w = .ok (a == b) w := by kernel_rfl

theorem run_sameTok (a : Int) (b : ByteArray) (c d e : Int) (f : Bool) (w : World) :
    (Op.equalIn 10000 26 (.agg #[.int .i64 a, .string b, .int .i64 c, .int .i64 d, .int .i64 e, .bool f]) (.agg #[.int .i64 a, .string b, .int .i64 c, .int .i64 d, .int .i64 e, .bool f])).run Tryd.prog w = .ok true w := by
  show (Op.equalIn (9998 + 1 + 1) 26 _ _).run Tryd.prog w = _
  rw [run_equalIn_struct w (9998 + 1) 26 _ _ (by simp [Program.fieldsOf, Tryd.underlying26]) stoodTok]
  simp only [Program.fieldsOf, Tryd.underlying26, Op.eqFields, Sem.run_bind, partT0, partT1, partT2, partT3, partT4, partT5, eqInt, eqStr, eqBool, Result.andThen_ok, Sem.run_ite, Sem.run_pure]
  simp [beq_toListBytes]

end Go.Proofs.YtlkcmegjbdibcaaDoor
