import Derived.Test.YtekdenkllipehaaRows
import Derived.WalkKit
import Derived.Laws.BytesArg
namespace Go.Proofs.Ytekdenkllipehaa
open Go.RowKit

/-- 'string([]byte{x})'. -/
theorem conv1 (W : World) (v : Int) : (convert 41 9 (.slice (some ⟨W.heap.size, 0, none⟩) 1 1)).run Try.prog (W.alloc (.cells #[.int .u8 v] 5)) = .ok (.string ⟨#[UInt8.ofNat v.toNat]⟩) (W.alloc (.cells #[.int .u8 v] 5)) :=
  run_convert_bytes_arg (P := Try.prog) (W.alloc (.cells #[.int .u8 v] 5)) 41 5 Try.underlying41 Try.underlying5 W.heap.size 0 1 1 [v] rfl (fun i hi => by
    obtain rfl : i = 0 := by omega
    simp) 9 Try.underlying9

/-- 'string([]byte{x, y, z, t})'. -/
theorem conv4 (W : World) (a b c d : Int) : (convert 41 9 (.slice (some ⟨W.heap.size, 0, none⟩) 4 4)).run Try.prog (W.alloc (.cells #[.int .u8 a, .int .u8 b, .int .u8 c, .int .u8 d] 5)) =
    .ok (.string ⟨#[UInt8.ofNat a.toNat, UInt8.ofNat b.toNat, UInt8.ofNat c.toNat, UInt8.ofNat d.toNat]⟩) (W.alloc (.cells #[.int .u8 a, .int .u8 b, .int .u8 c, .int .u8 d] 5)) :=
  run_convert_bytes_arg (P := Try.prog) (W.alloc (.cells #[.int .u8 a, .int .u8 b, .int .u8 c, .int .u8 d] 5)) 41 5 Try.underlying41 Try.underlying5 W.heap.size 0 4 4 [a, b, c, d] rfl (fun i hi => by
    match i, hi with
    | 0, _ => simp
    | 1, _ => simp
    | 2, _ => simp
    | 3, _ => simp
    | i + 4, hi => omega) 9 Try.underlying9


/-- The same behind a draw. -/
theorem conv1d (W : World) (v : Int) : (convert 41 9 (.slice (some ⟨W.heap.size, 0, none⟩) 1 1)).run Try.prog (W.alloc (.cells #[.int .u8 v] 5)).drew = .ok (.string ⟨#[UInt8.ofNat v.toNat]⟩) (W.alloc (.cells #[.int .u8 v] 5)).drew :=
  run_convert_bytes_arg (P := Try.prog) (W.alloc (.cells #[.int .u8 v] 5)).drew 41 5 Try.underlying41 Try.underlying5 W.heap.size 0 1 1 [v] rfl (fun i hi => by
    obtain rfl : i = 0 := by omega
    simp) 9 Try.underlying9
end Go.Proofs.Ytekdenkllipehaa
