/- What is asked of an interface value: assertions, and the functions that its methods are. -/
import Derived.Test.YtfajhjppbecjaaaNext
import Derived.Stop.Asserts
namespace Go.Proofs.Ytfajhjppbecjaaa
open Go.RowKit

theorem Try.sourceScript (v : Value) (w : World) : (Instr.typeAssert (.iface 30 v) 20 52 true).run Try.prog w = .ok (.tuple #[.iface 30 v, .bool true]) w := run_typeAssert_hasB Try.underlying52 (by kernel_rfl) v 20 w
theorem Try.sourcePlain (v : Value) (w : World) : (Instr.typeAssert (.iface 39 v) 20 52 true).run Try.prog w = .ok (.tuple #[.iface 39 v, .bool true]) w := run_typeAssert_hasB Try.underlying52 (by kernel_rfl) v 20 w
theorem Try.sourceText (v : Value) (w : World) : (Instr.typeAssert (.iface 9 v) 20 52 true).run Try.prog w = .ok (.tuple #[.nilIface, .bool false]) w := run_typeAssert_lacksB Try.underlying52 (by kernel_rfl) (by kernel_rfl) v 20 w
theorem Try.sourceInt (v : Value) (w : World) : (Instr.typeAssert (.iface 3 v) 20 52 true).run Try.prog w = .ok (.tuple #[.nilIface, .bool false]) w := run_typeAssert_lacksB Try.underlying52 (by kernel_rfl) (by kernel_rfl) v 20 w
theorem Try.sourceNil (w : World) : (Instr.typeAssert .nilIface 20 52 true).run Try.prog w = .ok (.tuple #[.nilIface, .bool false]) w := by kernel_rfl
theorem Try.callSize (a : Option Addr) (w : World) : (method 185 30 (.pointer a) "Size").run Try.prog w = .ok (46, .pointer a) w := by cases a <;> kernel_rfl
theorem Try.callNext (a : Option Addr) (w : World) : (method 185 30 (.pointer a) "Next").run Try.prog w = .ok (45, .pointer a) w := by cases a <;> kernel_rfl
theorem Try.callPlain (a : Option Addr) (w : World) : (method 185 39 (.pointer a) "Next").run Try.prog w = .ok (47, .pointer a) w := by cases a <;> kernel_rfl
theorem Try.mustPlain (v : Value) (w : World) : (Instr.typeAssert (.iface 39 v) 20 52 false).run Try.prog w = .ok (.iface 39 v) w := by kernel_rfl
end Go.Proofs.Ytfajhjppbecjaaa
