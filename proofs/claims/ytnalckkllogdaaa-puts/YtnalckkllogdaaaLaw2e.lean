/- '==' on settings. -/
import Derived.Test.YtnalckkllogdaaaLaw2
import Derived.ChangeKeysEq
namespace Go.Proofs.Ytnalckkllogdaaa
open Go Go.RowKit Go.Clk
theorem info_int_some : ∃ i, Try.prog.info? 3 = some i := by
  obtain ⟨i0, hi, _⟩ := info_parts info_int
  exact ⟨i0, hi⟩
set_option maxHeartbeats 1000000 in
set_option maxRecDepth 100000 in
theorem eq_chars (a0 a1 a2 a3 a4 a5 a6 a7 a8 a9 a10 a11 a12 a13 : Int) (w : World) : (Op.equalIn 9999 32 (.agg #[.int .i64 a0, .int .i64 a1, .int .i64 a2, .int .i64 a3, .int .i64 a4, .int .i64 a5, .int .i64 a6, .int .i64 a7, .int .i64 a8, .int .i64 a9, .int .i64 a10, .int .i64 a11, .int .i64 a12, .int .i64 a13]) (.agg #[.int .i64 a0, .int .i64 a1, .int .i64 a2, .int .i64 a3, .int .i64 a4, .int .i64 a5, .int .i64 a6, .int .i64 a7, .int .i64 a8, .int .i64 a9, .int .i64 a10, .int .i64 a11, .int .i64 a12, .int .i64 a13])).run Try.prog w = .ok true w := by
  obtain ⟨i0, hi⟩ := info_int_some
  rw [show (9999 : Nat) = 9998 + 1 from rfl, run_equalIn_array w 9998 _ _ Try.underlying32 hi]
  have hr : List.range 14 = [0, 1, 2, 3, 4, 5, 6, 7, 8, 9, 10, 11, 12, 13] := rfl
  have hco : Try.prog.cellsOf 3 = 1 := by kernel_rfl
  rw [hr, hco]
  simp [Op.eqItems, part, run_equalIn_int (P := Try.prog) _ 9997 3 .i64 .i64 _ _ Try.underlying3, go_sem]
end Go.Proofs.Ytnalckkllogdaaa
