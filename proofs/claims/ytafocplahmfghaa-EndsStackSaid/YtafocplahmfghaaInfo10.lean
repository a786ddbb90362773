/-
  How wide an int is, and its zero. Conditions: none.
-/
import Derived.Test.YtafocplahmfghaaRngDo10
namespace Go.Proofs.Ytafocplahmfghaa
theorem infoI : (Try.prog.info? 3).map (fun i => (i.zero, i.size, i.bytes)) = some (some (.int .i64 0), 1, 8) := by kernel_rfl
end Go.Proofs.Ytafocplahmfghaa
