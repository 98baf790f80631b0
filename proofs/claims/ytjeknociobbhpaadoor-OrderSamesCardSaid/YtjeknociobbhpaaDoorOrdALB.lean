/-
  The statements' own example of orders: the order of its last region's operations.
-/
import Derived.Test.YtjeknociobbhpaaDoorOrdZC
import Derived.Test.YtjeknociobbhpaaDoorOrdTB
import Derived.Test.YtjeknociobbhpaaDoorOrdT
import Derived.Deep.RegionHeld3
namespace Go.Proofs.YtjeknociobbhpaaDoor.Ord
open Go.RowKit Base
set_option linter.unusedVariables false

def al8 : Array Oper := #[{ dst := some 46, op := Op.move (Operand.tmp 2), type := 3, pos := "law.go:21", after := #[], guard := none }, { dst := some 47, op := Op.binOp BinOp.eql 3 (Operand.tmp 46) (Operand.const (Value.int IntKind.i64 6)) 3, type := 4, pos := "law.go:21", after := #[{ on := 0, ground := Ground.data }], guard := none }, { dst := some 48, op := Op.move (Operand.tmp 47), type := 4, pos := "law.go:21", after := #[{ on := 1, ground := Ground.data }], guard := none }, { dst := some 49, op := Op.move (Operand.tmp 3), type := 26, pos := "law.go:21", after := #[{ on := 2, ground := Ground.guard }], guard := some (2, true) }, { dst := some 50, op := Op.binOp BinOp.eql 26 (Operand.tmp 49) (Operand.const (Value.int IntKind.i64 0)) 26, type := 4, pos := "law.go:21", after := #[{ on := 3, ground := Ground.data }, { on := 2, ground := Ground.guard }], guard := some (2, true) }, { dst := some 51, op := Op.pick (Operand.tmp 48) (Operand.tmp 50) (Operand.const (Value.bool false)), type := 4, pos := "law.go:21", after := #[{ on := 2, ground := Ground.data }, { on := 4, ground := Ground.data }], guard := none }, { dst := some 52, op := Op.move (Operand.tmp 51), type := 4, pos := "law.go:21", after := #[{ on := 5, ground := Ground.data }, { on := 2, ground := Ground.chain }], guard := none }, { dst := some 53, op := Op.move (Operand.tmp 1), type := 25, pos := "law.go:21", after := #[{ on := 6, ground := Ground.guard }], guard := some (6, true) }, { dst := some 54, op := Op.indexAddr 25 (Operand.tmp 53) (Operand.const (Value.int IntKind.i64 0)), type := 0, pos := "law.go:21", after := #[{ on := 7, ground := Ground.data }, { on := 6, ground := Ground.guard }], guard := some (6, true) }, { dst := some 55, op := Op.fieldAddr 35 (Operand.tmp 54) 0, type := 0, pos := "law.go:21", after := #[{ on := 8, ground := Ground.data }, { on := 6, ground := Ground.guard }], guard := some (6, true) }, { dst := some 56, op := Op.load 5 (Operand.tmp 55), type := 5, pos := "law.go:21", after := #[{ on := 9, ground := Ground.data }, { on := 6, ground := Ground.guard }], guard := some (6, true) }, { dst := some 57, op := Op.binOp BinOp.eql 5 (Operand.tmp 56) (Operand.const (Value.int IntKind.u8 17)) 5, type := 4, pos := "law.go:21", after := #[{ on := 10, ground := Ground.data }, { on := 6, ground := Ground.guard }], guard := some (6, true) }, { dst := some 58, op := Op.pick (Operand.tmp 52) (Operand.tmp 57) (Operand.const (Value.bool false)), type := 4, pos := "law.go:21", after := #[{ on := 6, ground := Ground.data }, { on := 11, ground := Ground.data }], guard := none }, { dst := some 59, op := Op.move (Operand.tmp 58), type := 4, pos := "law.go:21", after := #[{ on := 12, ground := Ground.data }, { on := 6, ground := Ground.chain }], guard := none }, { dst := some 60, op := Op.move (Operand.tmp 1), type := 25, pos := "law.go:21", after := #[{ on := 13, ground := Ground.guard }], guard := some (13, true) }, { dst := some 61, op := Op.indexAddr 25 (Operand.tmp 60) (Operand.const (Value.int IntKind.i64 1)), type := 0, pos := "law.go:21", after := #[{ on := 14, ground := Ground.data }, { on := 13, ground := Ground.guard }], guard := some (13, true) }, { dst := some 62, op := Op.fieldAddr 35 (Operand.tmp 61) 2, type := 0, pos := "law.go:21", after := #[{ on := 15, ground := Ground.data }, { on := 13, ground := Ground.guard }], guard := some (13, true) }, { dst := some 63, op := Op.load 5 (Operand.tmp 62), type := 5, pos := "law.go:21", after := #[{ on := 16, ground := Ground.data }, { on := 13, ground := Ground.guard }], guard := some (13, true) }, { dst := some 64, op := Op.binOp BinOp.eql 5 (Operand.tmp 63) (Operand.const (Value.int IntKind.u8 48)) 5, type := 4, pos := "law.go:21", after := #[{ on := 17, ground := Ground.data }, { on := 13, ground := Ground.guard }], guard := some (13, true) }, { dst := some 65, op := Op.pick (Operand.tmp 59) (Operand.tmp 64) (Operand.const (Value.bool false)), type := 4, pos := "law.go:21", after := #[{ on := 13, ground := Ground.data }, { on := 18, ground := Ground.data }], guard := none }, { dst := some 66, op := Op.move (Operand.tmp 65), type := 4, pos := "law.go:21", after := #[{ on := 19, ground := Ground.data }, { on := 13, ground := Ground.chain }], guard := none }, { dst := some 67, op := Op.move (Operand.tmp 1), type := 25, pos := "law.go:21", after := #[{ on := 20, ground := Ground.guard }], guard := some (20, true) }, { dst := some 68, op := Op.indexAddr 25 (Operand.tmp 67) (Operand.const (Value.int IntKind.i64 2)), type := 0, pos := "law.go:21", after := #[{ on := 21, ground := Ground.data }, { on := 20, ground := Ground.guard }], guard := some (20, true) }, { dst := some 69, op := Op.fieldAddr 35 (Operand.tmp 68) 5, type := 0, pos := "law.go:21", after := #[{ on := 22, ground := Ground.data }, { on := 20, ground := Ground.guard }], guard := some (20, true) }, { dst := some 70, op := Op.load 22 (Operand.tmp 69), type := 22, pos := "law.go:21", after := #[{ on := 23, ground := Ground.data }, { on := 20, ground := Ground.guard }], guard := some (20, true) }, { dst := some 71, op := Op.convert 22 9 (Operand.tmp 70), type := 9, pos := "law.go:21", after := #[{ on := 24, ground := Ground.data }, { on := 20, ground := Ground.guard }], guard := some (20, true) }, { dst := some 72, op := Op.binOp BinOp.eql 9 (Operand.tmp 71) (Operand.const (Value.string { data := #[193] })) 9, type := 4, pos := "law.go:21", after := #[{ on := 25, ground := Ground.data }, { on := 20, ground := Ground.guard }], guard := some (20, true) }, { dst := some 73, op := Op.pick (Operand.tmp 66) (Operand.tmp 72) (Operand.const (Value.bool false)), type := 4, pos := "law.go:21", after := #[{ on := 20, ground := Ground.data }, { on := 26, ground := Ground.data }], guard := none }, { dst := some 74, op := Op.move (Operand.tmp 73), type := 4, pos := "law.go:21", after := #[{ on := 27, ground := Ground.data }, { on := 20, ground := Ground.chain }], guard := none }, { dst := some 75, op := Op.move (Operand.tmp 5), type := 3, pos := "law.go:21", after := #[{ on := 28, ground := Ground.guard }], guard := some (28, true) }, { dst := some 76, op := Op.binOp BinOp.eql 3 (Operand.tmp 75) (Operand.const (Value.int IntKind.i64 1)) 3, type := 4, pos := "law.go:21", after := #[{ on := 29, ground := Ground.data }, { on := 28, ground := Ground.guard }], guard := some (28, true) }, { dst := some 77, op := Op.pick (Operand.tmp 74) (Operand.tmp 76) (Operand.const (Value.bool false)), type := 4, pos := "law.go:21", after := #[{ on := 28, ground := Ground.data }, { on := 30, ground := Ground.data }], guard := none }, { dst := some 78, op := Op.move (Operand.tmp 77), type := 4, pos := "law.go:21", after := #[{ on := 31, ground := Ground.data }, { on := 28, ground := Ground.chain }], guard := none }, { dst := some 79, op := Op.move (Operand.tmp 6), type := 26, pos := "law.go:21", after := #[{ on := 32, ground := Ground.guard }], guard := some (32, true) }, { dst := some 80, op := Op.binOp BinOp.eql 26 (Operand.tmp 79) (Operand.const (Value.int IntKind.i64 20)) 26, type := 4, pos := "law.go:21", after := #[{ on := 33, ground := Ground.data }, { on := 32, ground := Ground.guard }], guard := some (32, true) }, { dst := some 81, op := Op.pick (Operand.tmp 78) (Operand.tmp 80) (Operand.const (Value.bool false)), type := 4, pos := "law.go:21", after := #[{ on := 32, ground := Ground.data }, { on := 34, ground := Ground.data }], guard := none }, { dst := some 82, op := Op.move (Operand.tmp 81), type := 4, pos := "law.go:21", after := #[{ on := 35, ground := Ground.data }, { on := 32, ground := Ground.chain }], guard := none }, { dst := some 83, op := Op.move (Operand.tmp 9), type := 26, pos := "law.go:21", after := #[{ on := 36, ground := Ground.guard }], guard := some (36, true) }, { dst := some 84, op := Op.binOp BinOp.eql 26 (Operand.tmp 83) (Operand.const (Value.int IntKind.i64 31)) 26, type := 4, pos := "law.go:21", after := #[{ on := 37, ground := Ground.data }, { on := 36, ground := Ground.guard }], guard := some (36, true) }, { dst := some 85, op := Op.pick (Operand.tmp 82) (Operand.tmp 84) (Operand.const (Value.bool false)), type := 4, pos := "law.go:21", after := #[{ on := 36, ground := Ground.data }, { on := 38, ground := Ground.data }], guard := none }, { dst := some 86, op := Op.move (Operand.tmp 85), type := 4, pos := "law.go:21", after := #[{ on := 39, ground := Ground.data }, { on := 36, ground := Ground.chain }], guard := none }, { dst := some 87, op := Op.move (Operand.tmp 10), type := 22, pos := "law.go:21", after := #[{ on := 40, ground := Ground.guard }], guard := some (40, true) }, { dst := some 88, op := Op.convert 22 9 (Operand.tmp 87), type := 9, pos := "law.go:21", after := #[{ on := 41, ground := Ground.data }, { on := 40, ground := Ground.guard }], guard := some (40, true) }, { dst := some 89, op := Op.binOp BinOp.eql 9 (Operand.tmp 88) (Operand.const (Value.string { data := #[17, 64, 64, 29, 240, 193] })) 9, type := 4, pos := "law.go:21", after := #[{ on := 42, ground := Ground.data }, { on := 40, ground := Ground.guard }], guard := some (40, true) }, { dst := some 90, op := Op.pick (Operand.tmp 86) (Operand.tmp 89) (Operand.const (Value.bool false)), type := 4, pos := "law.go:21", after := #[{ on := 40, ground := Ground.data }, { on := 43, ground := Ground.data }], guard := none }, { dst := some 91, op := Op.move (Operand.tmp 90), type := 4, pos := "law.go:21", after := #[{ on := 44, ground := Ground.data }, { on := 40, ground := Ground.chain }], guard := none }, { dst := some 92, op := Op.move (Operand.tmp 11), type := 26, pos := "law.go:21", after := #[{ on := 45, ground := Ground.guard }], guard := some (45, true) }, { dst := some 93, op := Op.binOp BinOp.eql 26 (Operand.tmp 92) (Operand.const (Value.int IntKind.i64 0)) 26, type := 4, pos := "law.go:21", after := #[{ on := 46, ground := Ground.data }, { on := 45, ground := Ground.guard }], guard := some (45, true) }, { dst := some 94, op := Op.pick (Operand.tmp 91) (Operand.tmp 93) (Operand.const (Value.bool false)), type := 4, pos := "law.go:21", after := #[{ on := 45, ground := Ground.data }, { on := 47, ground := Ground.data }], guard := none }, { dst := some 95, op := Op.move (Operand.tmp 94), type := 4, pos := "law.go:21", after := #[{ on := 48, ground := Ground.data }, { on := 45, ground := Ground.chain }], guard := none }, { dst := some 96, op := Op.move (Operand.tmp 13), type := 26, pos := "law.go:21", after := #[{ on := 49, ground := Ground.guard }], guard := some (49, true) }, { dst := some 97, op := Op.binOp BinOp.eql 26 (Operand.tmp 96) (Operand.const (Value.int IntKind.i64 32)) 26, type := 4, pos := "law.go:21", after := #[{ on := 50, ground := Ground.data }, { on := 49, ground := Ground.guard }], guard := some (49, true) }, { dst := some 98, op := Op.pick (Operand.tmp 95) (Operand.tmp 97) (Operand.const (Value.bool false)), type := 4, pos := "law.go:21", after := #[{ on := 49, ground := Ground.data }, { on := 51, ground := Ground.data }], guard := none }, { dst := some 99, op := Op.move (Operand.tmp 98), type := 4, pos := "law.go:21", after := #[{ on := 52, ground := Ground.data }, { on := 49, ground := Ground.chain }], guard := none }, { dst := some 100, op := Op.move (Operand.tmp 1), type := 25, pos := "law.go:21", after := #[{ on := 53, ground := Ground.guard }], guard := some (53, true) }, { dst := some 101, op := Op.indexAddr 25 (Operand.tmp 100) (Operand.const (Value.int IntKind.i64 1)), type := 0, pos := "law.go:21", after := #[{ on := 54, ground := Ground.data }, { on := 53, ground := Ground.guard }], guard := some (53, true) }, { dst := some 102, op := Op.load 35 (Operand.tmp 101), type := 35, pos := "law.go:21", after := #[{ on := 55, ground := Ground.data }, { on := 53, ground := Ground.guard }], guard := some (53, true) }, { dst := some 103, op := Op.call { callee := Callee.value (Operand.func 21), args := #[Operand.tmp 102], argTypes := #[35] }, type := 9, pos := "law.go:21", after := #[{ on := 56, ground := Ground.data }, { on := 53, ground := Ground.chain }, { on := 53, ground := Ground.guard }], guard := some (53, true) }, { dst := some 104, op := Op.binOp BinOp.eql 9 (Operand.tmp 103) (Operand.const (Value.string { data := #[83, 70, 32, 51, 48] })) 9, type := 4, pos := "law.go:21", after := #[{ on := 57, ground := Ground.data }, { on := 53, ground := Ground.guard }], guard := some (53, true) }, { dst := some 105, op := Op.pick (Operand.tmp 99) (Operand.tmp 104) (Operand.const (Value.bool false)), type := 4, pos := "law.go:21", after := #[{ on := 53, ground := Ground.data }, { on := 58, ground := Ground.data }], guard := none }, { dst := some 106, op := Op.move (Operand.tmp 105), type := 4, pos := "law.go:21", after := #[{ on := 59, ground := Ground.data }, { on := 57, ground := Ground.chain }], guard := none }, { dst := some 107, op := Op.move (Operand.tmp 1), type := 25, pos := "law.go:21", after := #[{ on := 60, ground := Ground.guard }], guard := some (60, true) }, { dst := some 108, op := Op.indexAddr 25 (Operand.tmp 107) (Operand.const (Value.int IntKind.i64 0)), type := 0, pos := "law.go:21", after := #[{ on := 61, ground := Ground.data }, { on := 60, ground := Ground.guard }], guard := some (60, true) }, { dst := some 109, op := Op.load 35 (Operand.tmp 108), type := 35, pos := "law.go:21", after := #[{ on := 62, ground := Ground.data }, { on := 60, ground := Ground.guard }], guard := some (60, true) }, { dst := some 110, op := Op.move (Operand.tmp 1), type := 25, pos := "law.go:21", after := #[{ on := 60, ground := Ground.guard }], guard := some (60, true) }, { dst := some 111, op := Op.indexAddr 25 (Operand.tmp 110) (Operand.const (Value.int IntKind.i64 0)), type := 0, pos := "law.go:21", after := #[{ on := 64, ground := Ground.data }, { on := 60, ground := Ground.guard }], guard := some (60, true) }, { dst := some 112, op := Op.load 35 (Operand.tmp 111), type := 35, pos := "law.go:21", after := #[{ on := 65, ground := Ground.data }, { on := 60, ground := Ground.guard }], guard := some (60, true) }, { dst := some 113, op := Op.call { callee := Callee.value (Operand.func 20), args := #[Operand.tmp 109, Operand.tmp 112], argTypes := #[35, 35] }, type := 4, pos := "law.go:21", after := #[{ on := 63, ground := Ground.data }, { on := 66, ground := Ground.data }, { on := 60, ground := Ground.chain }, { on := 60, ground := Ground.guard }], guard := some (60, true) }, { dst := some 114, op := Op.pick (Operand.tmp 106) (Operand.tmp 113) (Operand.const (Value.bool false)), type := 4, pos := "law.go:21", after := #[{ on := 60, ground := Ground.data }, { on := 67, ground := Ground.data }], guard := none }, { dst := some 115, op := Op.move (Operand.tmp 114), type := 4, pos := "law.go:21", after := #[{ on := 68, ground := Ground.data }, { on := 67, ground := Ground.chain }], guard := none }, { dst := some 116, op := Op.move (Operand.tmp 1), type := 25, pos := "law.go:21", after := #[{ on := 69, ground := Ground.guard }], guard := some (69, true) }, { dst := some 117, op := Op.indexAddr 25 (Operand.tmp 116) (Operand.const (Value.int IntKind.i64 0)), type := 0, pos := "law.go:21", after := #[{ on := 70, ground := Ground.data }, { on := 69, ground := Ground.guard }], guard := some (69, true) }, { dst := some 118, op := Op.load 35 (Operand.tmp 117), type := 35, pos := "law.go:21", after := #[{ on := 71, ground := Ground.data }, { on := 69, ground := Ground.guard }], guard := some (69, true) }, { dst := some 119, op := Op.move (Operand.tmp 1), type := 25, pos := "law.go:21", after := #[{ on := 69, ground := Ground.guard }], guard := some (69, true) }, { dst := some 120, op := Op.indexAddr 25 (Operand.tmp 119) (Operand.const (Value.int IntKind.i64 1)), type := 0, pos := "law.go:21", after := #[{ on := 73, ground := Ground.data }, { on := 69, ground := Ground.guard }], guard := some (69, true) }, { dst := some 121, op := Op.load 35 (Operand.tmp 120), type := 35, pos := "law.go:21", after := #[{ on := 74, ground := Ground.data }, { on := 69, ground := Ground.guard }], guard := some (69, true) }, { dst := some 122, op := Op.call { callee := Callee.value (Operand.func 20), args := #[Operand.tmp 118, Operand.tmp 121], argTypes := #[35, 35] }, type := 4, pos := "law.go:21", after := #[{ on := 72, ground := Ground.data }, { on := 75, ground := Ground.data }, { on := 69, ground := Ground.chain }, { on := 69, ground := Ground.guard }], guard := some (69, true) }, { dst := some 123, op := Op.unOp UnOp.not 4 (Operand.tmp 122), type := 4, pos := "law.go:21", after := #[{ on := 76, ground := Ground.data }, { on := 69, ground := Ground.guard }], guard := some (69, true) }, { dst := some 124, op := Op.pick (Operand.tmp 115) (Operand.tmp 123) (Operand.const (Value.bool false)), type := 4, pos := "law.go:21", after := #[{ on := 69, ground := Ground.data }, { on := 77, ground := Ground.data }], guard := none }, { dst := some 125, op := Op.move (Operand.tmp 124), type := 4, pos := "law.go:21", after := #[{ on := 78, ground := Ground.data }, { on := 76, ground := Ground.chain }], guard := none }, { dst := some 126, op := Op.call { callee := Callee.value (Operand.func 13), args := #[Operand.const (Value.int IntKind.u8 30)], argTypes := #[5] }, type := 4, pos := "law.go:21", after := #[{ on := 79, ground := Ground.chain }, { on := 79, ground := Ground.guard }], guard := some (79, true) }, { dst := some 127, op := Op.pick (Operand.tmp 125) (Operand.tmp 126) (Operand.const (Value.bool false)), type := 4, pos := "law.go:21", after := #[{ on := 79, ground := Ground.data }, { on := 80, ground := Ground.data }], guard := none }, { dst := some 128, op := Op.move (Operand.tmp 127), type := 4, pos := "law.go:21", after := #[{ on := 81, ground := Ground.data }, { on := 80, ground := Ground.chain }], guard := none }, { dst := some 129, op := Op.call { callee := Callee.value (Operand.func 13), args := #[Operand.const (Value.int IntKind.u8 17)], argTypes := #[5] }, type := 4, pos := "law.go:21", after := #[{ on := 82, ground := Ground.chain }, { on := 82, ground := Ground.guard }], guard := some (82, true) }, { dst := some 130, op := Op.unOp UnOp.not 4 (Operand.tmp 129), type := 4, pos := "law.go:21", after := #[{ on := 83, ground := Ground.data }, { on := 82, ground := Ground.guard }], guard := some (82, true) }, { dst := some 131, op := Op.pick (Operand.tmp 128) (Operand.tmp 130) (Operand.const (Value.bool false)), type := 4, pos := "law.go:21", after := #[{ on := 82, ground := Ground.data }, { on := 84, ground := Ground.data }], guard := none }, { dst := some 0, op := Op.assign (Operand.tmp 131), type := 4, pos := "law.go:21", after := ([{ on := 85, ground := Ground.data }, { on := 83, ground := Ground.chain }, { on := 0, ground := Ground.phase }, { on := 1, ground := Ground.phase }, { on := 2, ground := Ground.phase }, { on := 3, ground := Ground.phase }, { on := 4, ground := Ground.phase }, { on := 5, ground := Ground.phase }, { on := 6, ground := Ground.phase }, { on := 7, ground := Ground.phase }, { on := 8, ground := Ground.phase }, { on := 9, ground := Ground.phase }, { on := 10, ground := Ground.phase }, { on := 11, ground := Ground.phase }, { on := 12, ground := Ground.phase }, { on := 13, ground := Ground.phase }, { on := 14, ground := Ground.phase }, { on := 15, ground := Ground.phase }, { on := 16, ground := Ground.phase }, { on := 17, ground := Ground.phase }, { on := 18, ground := Ground.phase }, { on := 19, ground := Ground.phase }, { on := 20, ground := Ground.phase }, { on := 21, ground := Ground.phase }, { on := 22, ground := Ground.phase }, { on := 23, ground := Ground.phase }, { on := 24, ground := Ground.phase }, { on := 25, ground := Ground.phase }, { on := 26, ground := Ground.phase }, { on := 27, ground := Ground.phase }, { on := 28, ground := Ground.phase }, { on := 29, ground := Ground.phase }, { on := 30, ground := Ground.phase }, { on := 31, ground := Ground.phase }, { on := 32, ground := Ground.phase }, { on := 33, ground := Ground.phase }, { on := 34, ground := Ground.phase }, { on := 35, ground := Ground.phase }, { on := 36, ground := Ground.phase }, { on := 37, ground := Ground.phase }, { on := 38, ground := Ground.phase }, { on := 39, ground := Ground.phase }, { on := 40, ground := Ground.phase }, { on := 41, ground := Ground.phase }].append [{ on := 42, ground := Ground.phase }, { on := 43, ground := Ground.phase }, { on := 44, ground := Ground.phase }, { on := 45, ground := Ground.phase }, { on := 46, ground := Ground.phase }, { on := 47, ground := Ground.phase }, { on := 48, ground := Ground.phase }, { on := 49, ground := Ground.phase }, { on := 50, ground := Ground.phase }, { on := 51, ground := Ground.phase }, { on := 52, ground := Ground.phase }, { on := 53, ground := Ground.phase }, { on := 54, ground := Ground.phase }, { on := 55, ground := Ground.phase }, { on := 56, ground := Ground.phase }, { on := 57, ground := Ground.phase }, { on := 58, ground := Ground.phase }, { on := 59, ground := Ground.phase }, { on := 60, ground := Ground.phase }, { on := 61, ground := Ground.phase }, { on := 62, ground := Ground.phase }, { on := 63, ground := Ground.phase }, { on := 64, ground := Ground.phase }, { on := 65, ground := Ground.phase }, { on := 66, ground := Ground.phase }, { on := 67, ground := Ground.phase }, { on := 68, ground := Ground.phase }, { on := 69, ground := Ground.phase }, { on := 70, ground := Ground.phase }, { on := 71, ground := Ground.phase }, { on := 72, ground := Ground.phase }, { on := 73, ground := Ground.phase }, { on := 74, ground := Ground.phase }, { on := 75, ground := Ground.phase }, { on := 76, ground := Ground.phase }, { on := 77, ground := Ground.phase }, { on := 78, ground := Ground.phase }, { on := 79, ground := Ground.phase }, { on := 80, ground := Ground.phase }, { on := 81, ground := Ground.phase }, { on := 82, ground := Ground.phase }, { on := 83, ground := Ground.phase }, { on := 84, ground := Ground.phase }, { on := 85, ground := Ground.phase }]).toArray, guard := none }]
theorem al8_nosel : Region.noSelect al8 = true := by kernel_rfl
def al8_l0 : Array Bool := Array.replicate 87 false
theorem al8_g0 : al8[0]? = some { dst := some 46, op := Op.move (Operand.tmp 2), type := 3, pos := "law.go:21", after := #[], guard := none } := by kernel_rfl
theorem al8_f0 : Region.free .any al8 al8_l0 0 = true := by kernel_rfl
theorem al8_r0 : (Region.ready .any al8 al8_l0).contains 0 = true := by kernel_rfl
def al8_l1 : Array Bool := al8_l0.setIfInBounds 0 true
theorem al8_g1 : al8[1]? = some { dst := some 47, op := Op.binOp BinOp.eql 3 (Operand.tmp 46) (Operand.const (Value.int IntKind.i64 6)) 3, type := 4, pos := "law.go:21", after := #[{ on := 0, ground := Ground.data }], guard := none } := by kernel_rfl
theorem al8_f1 : Region.free .any al8 al8_l1 1 = true := by kernel_rfl
theorem al8_r1 : (Region.ready .any al8 al8_l1).contains 1 = true := by kernel_rfl
def al8_l2 : Array Bool := al8_l1.setIfInBounds 1 true
theorem al8_g2 : al8[2]? = some { dst := some 48, op := Op.move (Operand.tmp 47), type := 4, pos := "law.go:21", after := #[{ on := 1, ground := Ground.data }], guard := none } := by kernel_rfl
theorem al8_f2 : Region.free .any al8 al8_l2 2 = true := by kernel_rfl
theorem al8_r2 : (Region.ready .any al8 al8_l2).contains 2 = true := by kernel_rfl
def al8_l3 : Array Bool := al8_l2.setIfInBounds 2 true
theorem al8_g3 : al8[3]? = some { dst := some 49, op := Op.move (Operand.tmp 3), type := 26, pos := "law.go:21", after := #[{ on := 2, ground := Ground.guard }], guard := some (2, true) } := by kernel_rfl
theorem al8_f3 : Region.free .any al8 al8_l3 3 = true := by kernel_rfl
theorem al8_r3 : (Region.ready .any al8 al8_l3).contains 3 = true := by kernel_rfl
def al8_l4 : Array Bool := al8_l3.setIfInBounds 3 true
theorem al8_g4 : al8[4]? = some { dst := some 50, op := Op.binOp BinOp.eql 26 (Operand.tmp 49) (Operand.const (Value.int IntKind.i64 0)) 26, type := 4, pos := "law.go:21", after := #[{ on := 3, ground := Ground.data }, { on := 2, ground := Ground.guard }], guard := some (2, true) } := by kernel_rfl
theorem al8_f4 : Region.free .any al8 al8_l4 4 = true := by kernel_rfl
theorem al8_r4 : (Region.ready .any al8 al8_l4).contains 4 = true := by kernel_rfl
def al8_l5 : Array Bool := al8_l4.setIfInBounds 4 true
theorem al8_g5 : al8[5]? = some { dst := some 51, op := Op.pick (Operand.tmp 48) (Operand.tmp 50) (Operand.const (Value.bool false)), type := 4, pos := "law.go:21", after := #[{ on := 2, ground := Ground.data }, { on := 4, ground := Ground.data }], guard := none } := by kernel_rfl
theorem al8_f5 : Region.free .any al8 al8_l5 5 = true := by kernel_rfl
theorem al8_r5 : (Region.ready .any al8 al8_l5).contains 5 = true := by kernel_rfl
def al8_l6 : Array Bool := al8_l5.setIfInBounds 5 true
theorem al8_g6 : al8[6]? = some { dst := some 52, op := Op.move (Operand.tmp 51), type := 4, pos := "law.go:21", after := #[{ on := 5, ground := Ground.data }, { on := 2, ground := Ground.chain }], guard := none } := by kernel_rfl
theorem al8_f6 : Region.free .any al8 al8_l6 6 = true := by kernel_rfl
theorem al8_r6 : (Region.ready .any al8 al8_l6).contains 6 = true := by kernel_rfl
def al8_l7 : Array Bool := al8_l6.setIfInBounds 6 true
theorem al8_g7 : al8[7]? = some { dst := some 53, op := Op.move (Operand.tmp 1), type := 25, pos := "law.go:21", after := #[{ on := 6, ground := Ground.guard }], guard := some (6, true) } := by kernel_rfl
theorem al8_f7 : Region.free .any al8 al8_l7 7 = true := by kernel_rfl
theorem al8_r7 : (Region.ready .any al8 al8_l7).contains 7 = true := by kernel_rfl
def al8_l8 : Array Bool := al8_l7.setIfInBounds 7 true
theorem al8_g8 : al8[8]? = some { dst := some 54, op := Op.indexAddr 25 (Operand.tmp 53) (Operand.const (Value.int IntKind.i64 0)), type := 0, pos := "law.go:21", after := #[{ on := 7, ground := Ground.data }, { on := 6, ground := Ground.guard }], guard := some (6, true) } := by kernel_rfl
theorem al8_f8 : Region.free .any al8 al8_l8 8 = true := by kernel_rfl
theorem al8_r8 : (Region.ready .any al8 al8_l8).contains 8 = true := by kernel_rfl
def al8_l9 : Array Bool := al8_l8.setIfInBounds 8 true
theorem al8_g9 : al8[9]? = some { dst := some 55, op := Op.fieldAddr 35 (Operand.tmp 54) 0, type := 0, pos := "law.go:21", after := #[{ on := 8, ground := Ground.data }, { on := 6, ground := Ground.guard }], guard := some (6, true) } := by kernel_rfl
theorem al8_f9 : Region.free .any al8 al8_l9 9 = true := by kernel_rfl
theorem al8_r9 : (Region.ready .any al8 al8_l9).contains 9 = true := by kernel_rfl
def al8_l10 : Array Bool := al8_l9.setIfInBounds 9 true
theorem al8_g10 : al8[10]? = some { dst := some 56, op := Op.load 5 (Operand.tmp 55), type := 5, pos := "law.go:21", after := #[{ on := 9, ground := Ground.data }, { on := 6, ground := Ground.guard }], guard := some (6, true) } := by kernel_rfl
theorem al8_f10 : Region.free .any al8 al8_l10 10 = true := by kernel_rfl
theorem al8_r10 : (Region.ready .any al8 al8_l10).contains 10 = true := by kernel_rfl
def al8_l11 : Array Bool := al8_l10.setIfInBounds 10 true
theorem al8_g11 : al8[11]? = some { dst := some 57, op := Op.binOp BinOp.eql 5 (Operand.tmp 56) (Operand.const (Value.int IntKind.u8 17)) 5, type := 4, pos := "law.go:21", after := #[{ on := 10, ground := Ground.data }, { on := 6, ground := Ground.guard }], guard := some (6, true) } := by kernel_rfl
theorem al8_f11 : Region.free .any al8 al8_l11 11 = true := by kernel_rfl
theorem al8_r11 : (Region.ready .any al8 al8_l11).contains 11 = true := by kernel_rfl
def al8_l12 : Array Bool := al8_l11.setIfInBounds 11 true
theorem al8_g12 : al8[12]? = some { dst := some 58, op := Op.pick (Operand.tmp 52) (Operand.tmp 57) (Operand.const (Value.bool false)), type := 4, pos := "law.go:21", after := #[{ on := 6, ground := Ground.data }, { on := 11, ground := Ground.data }], guard := none } := by kernel_rfl
theorem al8_f12 : Region.free .any al8 al8_l12 12 = true := by kernel_rfl
theorem al8_r12 : (Region.ready .any al8 al8_l12).contains 12 = true := by kernel_rfl
def al8_l13 : Array Bool := al8_l12.setIfInBounds 12 true
theorem al8_g13 : al8[13]? = some { dst := some 59, op := Op.move (Operand.tmp 58), type := 4, pos := "law.go:21", after := #[{ on := 12, ground := Ground.data }, { on := 6, ground := Ground.chain }], guard := none } := by kernel_rfl
theorem al8_f13 : Region.free .any al8 al8_l13 13 = true := by kernel_rfl
theorem al8_r13 : (Region.ready .any al8 al8_l13).contains 13 = true := by kernel_rfl
def al8_l14 : Array Bool := al8_l13.setIfInBounds 13 true
theorem al8_g14 : al8[14]? = some { dst := some 60, op := Op.move (Operand.tmp 1), type := 25, pos := "law.go:21", after := #[{ on := 13, ground := Ground.guard }], guard := some (13, true) } := by kernel_rfl
theorem al8_f14 : Region.free .any al8 al8_l14 14 = true := by kernel_rfl
theorem al8_r14 : (Region.ready .any al8 al8_l14).contains 14 = true := by kernel_rfl
def al8_l15 : Array Bool := al8_l14.setIfInBounds 14 true
theorem al8_g15 : al8[15]? = some { dst := some 61, op := Op.indexAddr 25 (Operand.tmp 60) (Operand.const (Value.int IntKind.i64 1)), type := 0, pos := "law.go:21", after := #[{ on := 14, ground := Ground.data }, { on := 13, ground := Ground.guard }], guard := some (13, true) } := by kernel_rfl
theorem al8_f15 : Region.free .any al8 al8_l15 15 = true := by kernel_rfl
theorem al8_r15 : (Region.ready .any al8 al8_l15).contains 15 = true := by kernel_rfl
def al8_l16 : Array Bool := al8_l15.setIfInBounds 15 true
theorem al8_g16 : al8[16]? = some { dst := some 62, op := Op.fieldAddr 35 (Operand.tmp 61) 2, type := 0, pos := "law.go:21", after := #[{ on := 15, ground := Ground.data }, { on := 13, ground := Ground.guard }], guard := some (13, true) } := by kernel_rfl
theorem al8_f16 : Region.free .any al8 al8_l16 16 = true := by kernel_rfl
theorem al8_r16 : (Region.ready .any al8 al8_l16).contains 16 = true := by kernel_rfl
def al8_l17 : Array Bool := al8_l16.setIfInBounds 16 true
theorem al8_g17 : al8[17]? = some { dst := some 63, op := Op.load 5 (Operand.tmp 62), type := 5, pos := "law.go:21", after := #[{ on := 16, ground := Ground.data }, { on := 13, ground := Ground.guard }], guard := some (13, true) } := by kernel_rfl
theorem al8_f17 : Region.free .any al8 al8_l17 17 = true := by kernel_rfl
theorem al8_r17 : (Region.ready .any al8 al8_l17).contains 17 = true := by kernel_rfl
def al8_l18 : Array Bool := al8_l17.setIfInBounds 17 true
theorem al8_g18 : al8[18]? = some { dst := some 64, op := Op.binOp BinOp.eql 5 (Operand.tmp 63) (Operand.const (Value.int IntKind.u8 48)) 5, type := 4, pos := "law.go:21", after := #[{ on := 17, ground := Ground.data }, { on := 13, ground := Ground.guard }], guard := some (13, true) } := by kernel_rfl
theorem al8_f18 : Region.free .any al8 al8_l18 18 = true := by kernel_rfl
theorem al8_r18 : (Region.ready .any al8 al8_l18).contains 18 = true := by kernel_rfl
def al8_l19 : Array Bool := al8_l18.setIfInBounds 18 true
theorem al8_g19 : al8[19]? = some { dst := some 65, op := Op.pick (Operand.tmp 59) (Operand.tmp 64) (Operand.const (Value.bool false)), type := 4, pos := "law.go:21", after := #[{ on := 13, ground := Ground.data }, { on := 18, ground := Ground.data }], guard := none } := by kernel_rfl
theorem al8_f19 : Region.free .any al8 al8_l19 19 = true := by kernel_rfl
theorem al8_r19 : (Region.ready .any al8 al8_l19).contains 19 = true := by kernel_rfl
def al8_l20 : Array Bool := al8_l19.setIfInBounds 19 true
theorem al8_g20 : al8[20]? = some { dst := some 66, op := Op.move (Operand.tmp 65), type := 4, pos := "law.go:21", after := #[{ on := 19, ground := Ground.data }, { on := 13, ground := Ground.chain }], guard := none } := by kernel_rfl
theorem al8_f20 : Region.free .any al8 al8_l20 20 = true := by kernel_rfl
theorem al8_r20 : (Region.ready .any al8 al8_l20).contains 20 = true := by kernel_rfl
def al8_l21 : Array Bool := al8_l20.setIfInBounds 20 true
theorem al8_g21 : al8[21]? = some { dst := some 67, op := Op.move (Operand.tmp 1), type := 25, pos := "law.go:21", after := #[{ on := 20, ground := Ground.guard }], guard := some (20, true) } := by kernel_rfl
theorem al8_f21 : Region.free .any al8 al8_l21 21 = true := by kernel_rfl
theorem al8_r21 : (Region.ready .any al8 al8_l21).contains 21 = true := by kernel_rfl
def al8_l22 : Array Bool := al8_l21.setIfInBounds 21 true
theorem al8_g22 : al8[22]? = some { dst := some 68, op := Op.indexAddr 25 (Operand.tmp 67) (Operand.const (Value.int IntKind.i64 2)), type := 0, pos := "law.go:21", after := #[{ on := 21, ground := Ground.data }, { on := 20, ground := Ground.guard }], guard := some (20, true) } := by kernel_rfl
theorem al8_f22 : Region.free .any al8 al8_l22 22 = true := by kernel_rfl
theorem al8_r22 : (Region.ready .any al8 al8_l22).contains 22 = true := by kernel_rfl
def al8_l23 : Array Bool := al8_l22.setIfInBounds 22 true
theorem al8_g23 : al8[23]? = some { dst := some 69, op := Op.fieldAddr 35 (Operand.tmp 68) 5, type := 0, pos := "law.go:21", after := #[{ on := 22, ground := Ground.data }, { on := 20, ground := Ground.guard }], guard := some (20, true) } := by kernel_rfl
theorem al8_f23 : Region.free .any al8 al8_l23 23 = true := by kernel_rfl
theorem al8_r23 : (Region.ready .any al8 al8_l23).contains 23 = true := by kernel_rfl
def al8_l24 : Array Bool := al8_l23.setIfInBounds 23 true
theorem al8_g24 : al8[24]? = some { dst := some 70, op := Op.load 22 (Operand.tmp 69), type := 22, pos := "law.go:21", after := #[{ on := 23, ground := Ground.data }, { on := 20, ground := Ground.guard }], guard := some (20, true) } := by kernel_rfl
theorem al8_f24 : Region.free .any al8 al8_l24 24 = true := by kernel_rfl
theorem al8_r24 : (Region.ready .any al8 al8_l24).contains 24 = true := by kernel_rfl
def al8_l25 : Array Bool := al8_l24.setIfInBounds 24 true
theorem al8_g25 : al8[25]? = some { dst := some 71, op := Op.convert 22 9 (Operand.tmp 70), type := 9, pos := "law.go:21", after := #[{ on := 24, ground := Ground.data }, { on := 20, ground := Ground.guard }], guard := some (20, true) } := by kernel_rfl
theorem al8_f25 : Region.free .any al8 al8_l25 25 = true := by kernel_rfl
theorem al8_r25 : (Region.ready .any al8 al8_l25).contains 25 = true := by kernel_rfl
def al8_l26 : Array Bool := al8_l25.setIfInBounds 25 true
theorem al8_g26 : al8[26]? = some { dst := some 72, op := Op.binOp BinOp.eql 9 (Operand.tmp 71) (Operand.const (Value.string { data := #[193] })) 9, type := 4, pos := "law.go:21", after := #[{ on := 25, ground := Ground.data }, { on := 20, ground := Ground.guard }], guard := some (20, true) } := by kernel_rfl
theorem al8_f26 : Region.free .any al8 al8_l26 26 = true := by kernel_rfl
theorem al8_r26 : (Region.ready .any al8 al8_l26).contains 26 = true := by kernel_rfl
def al8_l27 : Array Bool := al8_l26.setIfInBounds 26 true
theorem al8_g27 : al8[27]? = some { dst := some 73, op := Op.pick (Operand.tmp 66) (Operand.tmp 72) (Operand.const (Value.bool false)), type := 4, pos := "law.go:21", after := #[{ on := 20, ground := Ground.data }, { on := 26, ground := Ground.data }], guard := none } := by kernel_rfl
theorem al8_f27 : Region.free .any al8 al8_l27 27 = true := by kernel_rfl
theorem al8_r27 : (Region.ready .any al8 al8_l27).contains 27 = true := by kernel_rfl
def al8_l28 : Array Bool := al8_l27.setIfInBounds 27 true
theorem al8_g28 : al8[28]? = some { dst := some 74, op := Op.move (Operand.tmp 73), type := 4, pos := "law.go:21", after := #[{ on := 27, ground := Ground.data }, { on := 20, ground := Ground.chain }], guard := none } := by kernel_rfl
theorem al8_f28 : Region.free .any al8 al8_l28 28 = true := by kernel_rfl
theorem al8_r28 : (Region.ready .any al8 al8_l28).contains 28 = true := by kernel_rfl
def al8_l29 : Array Bool := al8_l28.setIfInBounds 28 true
theorem al8_g29 : al8[29]? = some { dst := some 75, op := Op.move (Operand.tmp 5), type := 3, pos := "law.go:21", after := #[{ on := 28, ground := Ground.guard }], guard := some (28, true) } := by kernel_rfl
theorem al8_f29 : Region.free .any al8 al8_l29 29 = true := by kernel_rfl
theorem al8_r29 : (Region.ready .any al8 al8_l29).contains 29 = true := by kernel_rfl
def al8_l30 : Array Bool := al8_l29.setIfInBounds 29 true
theorem al8_g30 : al8[30]? = some { dst := some 76, op := Op.binOp BinOp.eql 3 (Operand.tmp 75) (Operand.const (Value.int IntKind.i64 1)) 3, type := 4, pos := "law.go:21", after := #[{ on := 29, ground := Ground.data }, { on := 28, ground := Ground.guard }], guard := some (28, true) } := by kernel_rfl
theorem al8_f30 : Region.free .any al8 al8_l30 30 = true := by kernel_rfl
theorem al8_r30 : (Region.ready .any al8 al8_l30).contains 30 = true := by kernel_rfl
def al8_l31 : Array Bool := al8_l30.setIfInBounds 30 true
theorem al8_g31 : al8[31]? = some { dst := some 77, op := Op.pick (Operand.tmp 74) (Operand.tmp 76) (Operand.const (Value.bool false)), type := 4, pos := "law.go:21", after := #[{ on := 28, ground := Ground.data }, { on := 30, ground := Ground.data }], guard := none } := by kernel_rfl
theorem al8_f31 : Region.free .any al8 al8_l31 31 = true := by kernel_rfl
theorem al8_r31 : (Region.ready .any al8 al8_l31).contains 31 = true := by kernel_rfl
def al8_l32 : Array Bool := al8_l31.setIfInBounds 31 true
theorem al8_g32 : al8[32]? = some { dst := some 78, op := Op.move (Operand.tmp 77), type := 4, pos := "law.go:21", after := #[{ on := 31, ground := Ground.data }, { on := 28, ground := Ground.chain }], guard := none } := by kernel_rfl
theorem al8_f32 : Region.free .any al8 al8_l32 32 = true := by kernel_rfl
theorem al8_r32 : (Region.ready .any al8 al8_l32).contains 32 = true := by kernel_rfl
def al8_l33 : Array Bool := al8_l32.setIfInBounds 32 true
theorem al8_g33 : al8[33]? = some { dst := some 79, op := Op.move (Operand.tmp 6), type := 26, pos := "law.go:21", after := #[{ on := 32, ground := Ground.guard }], guard := some (32, true) } := by kernel_rfl
theorem al8_f33 : Region.free .any al8 al8_l33 33 = true := by kernel_rfl
theorem al8_r33 : (Region.ready .any al8 al8_l33).contains 33 = true := by kernel_rfl
def al8_l34 : Array Bool := al8_l33.setIfInBounds 33 true
theorem al8_g34 : al8[34]? = some { dst := some 80, op := Op.binOp BinOp.eql 26 (Operand.tmp 79) (Operand.const (Value.int IntKind.i64 20)) 26, type := 4, pos := "law.go:21", after := #[{ on := 33, ground := Ground.data }, { on := 32, ground := Ground.guard }], guard := some (32, true) } := by kernel_rfl
theorem al8_f34 : Region.free .any al8 al8_l34 34 = true := by kernel_rfl
theorem al8_r34 : (Region.ready .any al8 al8_l34).contains 34 = true := by kernel_rfl
def al8_l35 : Array Bool := al8_l34.setIfInBounds 34 true
theorem al8_g35 : al8[35]? = some { dst := some 81, op := Op.pick (Operand.tmp 78) (Operand.tmp 80) (Operand.const (Value.bool false)), type := 4, pos := "law.go:21", after := #[{ on := 32, ground := Ground.data }, { on := 34, ground := Ground.data }], guard := none } := by kernel_rfl
theorem al8_f35 : Region.free .any al8 al8_l35 35 = true := by kernel_rfl
theorem al8_r35 : (Region.ready .any al8 al8_l35).contains 35 = true := by kernel_rfl
def al8_l36 : Array Bool := al8_l35.setIfInBounds 35 true
theorem al8_g36 : al8[36]? = some { dst := some 82, op := Op.move (Operand.tmp 81), type := 4, pos := "law.go:21", after := #[{ on := 35, ground := Ground.data }, { on := 32, ground := Ground.chain }], guard := none } := by kernel_rfl
theorem al8_f36 : Region.free .any al8 al8_l36 36 = true := by kernel_rfl
theorem al8_r36 : (Region.ready .any al8 al8_l36).contains 36 = true := by kernel_rfl
def al8_l37 : Array Bool := al8_l36.setIfInBounds 36 true
theorem al8_g37 : al8[37]? = some { dst := some 83, op := Op.move (Operand.tmp 9), type := 26, pos := "law.go:21", after := #[{ on := 36, ground := Ground.guard }], guard := some (36, true) } := by kernel_rfl
theorem al8_f37 : Region.free .any al8 al8_l37 37 = true := by kernel_rfl
theorem al8_r37 : (Region.ready .any al8 al8_l37).contains 37 = true := by kernel_rfl
def al8_l38 : Array Bool := al8_l37.setIfInBounds 37 true
theorem al8_g38 : al8[38]? = some { dst := some 84, op := Op.binOp BinOp.eql 26 (Operand.tmp 83) (Operand.const (Value.int IntKind.i64 31)) 26, type := 4, pos := "law.go:21", after := #[{ on := 37, ground := Ground.data }, { on := 36, ground := Ground.guard }], guard := some (36, true) } := by kernel_rfl
theorem al8_f38 : Region.free .any al8 al8_l38 38 = true := by kernel_rfl
theorem al8_r38 : (Region.ready .any al8 al8_l38).contains 38 = true := by kernel_rfl
def al8_l39 : Array Bool := al8_l38.setIfInBounds 38 true
theorem al8_g39 : al8[39]? = some { dst := some 85, op := Op.pick (Operand.tmp 82) (Operand.tmp 84) (Operand.const (Value.bool false)), type := 4, pos := "law.go:21", after := #[{ on := 36, ground := Ground.data }, { on := 38, ground := Ground.data }], guard := none } := by kernel_rfl
theorem al8_f39 : Region.free .any al8 al8_l39 39 = true := by kernel_rfl
theorem al8_r39 : (Region.ready .any al8 al8_l39).contains 39 = true := by kernel_rfl
def al8_l40 : Array Bool := al8_l39.setIfInBounds 39 true
theorem al8_g40 : al8[40]? = some { dst := some 86, op := Op.move (Operand.tmp 85), type := 4, pos := "law.go:21", after := #[{ on := 39, ground := Ground.data }, { on := 36, ground := Ground.chain }], guard := none } := by kernel_rfl
theorem al8_f40 : Region.free .any al8 al8_l40 40 = true := by kernel_rfl
theorem al8_r40 : (Region.ready .any al8 al8_l40).contains 40 = true := by kernel_rfl
def al8_l41 : Array Bool := al8_l40.setIfInBounds 40 true
theorem al8_g41 : al8[41]? = some { dst := some 87, op := Op.move (Operand.tmp 10), type := 22, pos := "law.go:21", after := #[{ on := 40, ground := Ground.guard }], guard := some (40, true) } := by kernel_rfl
theorem al8_f41 : Region.free .any al8 al8_l41 41 = true := by kernel_rfl
theorem al8_r41 : (Region.ready .any al8 al8_l41).contains 41 = true := by kernel_rfl
def al8_l42 : Array Bool := al8_l41.setIfInBounds 41 true
theorem al8_g42 : al8[42]? = some { dst := some 88, op := Op.convert 22 9 (Operand.tmp 87), type := 9, pos := "law.go:21", after := #[{ on := 41, ground := Ground.data }, { on := 40, ground := Ground.guard }], guard := some (40, true) } := by kernel_rfl
theorem al8_f42 : Region.free .any al8 al8_l42 42 = true := by kernel_rfl
theorem al8_r42 : (Region.ready .any al8 al8_l42).contains 42 = true := by kernel_rfl
def al8_l43 : Array Bool := al8_l42.setIfInBounds 42 true
theorem al8_g43 : al8[43]? = some { dst := some 89, op := Op.binOp BinOp.eql 9 (Operand.tmp 88) (Operand.const (Value.string { data := #[17, 64, 64, 29, 240, 193] })) 9, type := 4, pos := "law.go:21", after := #[{ on := 42, ground := Ground.data }, { on := 40, ground := Ground.guard }], guard := some (40, true) } := by kernel_rfl
theorem al8_f43 : Region.free .any al8 al8_l43 43 = true := by kernel_rfl
theorem al8_r43 : (Region.ready .any al8 al8_l43).contains 43 = true := by kernel_rfl
def al8_l44 : Array Bool := al8_l43.setIfInBounds 43 true
theorem al8_g44 : al8[44]? = some { dst := some 90, op := Op.pick (Operand.tmp 86) (Operand.tmp 89) (Operand.const (Value.bool false)), type := 4, pos := "law.go:21", after := #[{ on := 40, ground := Ground.data }, { on := 43, ground := Ground.data }], guard := none } := by kernel_rfl
theorem al8_f44 : Region.free .any al8 al8_l44 44 = true := by kernel_rfl
theorem al8_r44 : (Region.ready .any al8 al8_l44).contains 44 = true := by kernel_rfl
def al8_l45 : Array Bool := al8_l44.setIfInBounds 44 true
theorem al8_g45 : al8[45]? = some { dst := some 91, op := Op.move (Operand.tmp 90), type := 4, pos := "law.go:21", after := #[{ on := 44, ground := Ground.data }, { on := 40, ground := Ground.chain }], guard := none } := by kernel_rfl
theorem al8_f45 : Region.free .any al8 al8_l45 45 = true := by kernel_rfl
theorem al8_r45 : (Region.ready .any al8 al8_l45).contains 45 = true := by kernel_rfl
def al8_l46 : Array Bool := al8_l45.setIfInBounds 45 true
theorem al8_g46 : al8[46]? = some { dst := some 92, op := Op.move (Operand.tmp 11), type := 26, pos := "law.go:21", after := #[{ on := 45, ground := Ground.guard }], guard := some (45, true) } := by kernel_rfl
theorem al8_f46 : Region.free .any al8 al8_l46 46 = true := by kernel_rfl
theorem al8_r46 : (Region.ready .any al8 al8_l46).contains 46 = true := by kernel_rfl
def al8_l47 : Array Bool := al8_l46.setIfInBounds 46 true
theorem al8_g47 : al8[47]? = some { dst := some 93, op := Op.binOp BinOp.eql 26 (Operand.tmp 92) (Operand.const (Value.int IntKind.i64 0)) 26, type := 4, pos := "law.go:21", after := #[{ on := 46, ground := Ground.data }, { on := 45, ground := Ground.guard }], guard := some (45, true) } := by kernel_rfl
theorem al8_f47 : Region.free .any al8 al8_l47 47 = true := by kernel_rfl
theorem al8_r47 : (Region.ready .any al8 al8_l47).contains 47 = true := by kernel_rfl
def al8_l48 : Array Bool := al8_l47.setIfInBounds 47 true
theorem al8_g48 : al8[48]? = some { dst := some 94, op := Op.pick (Operand.tmp 91) (Operand.tmp 93) (Operand.const (Value.bool false)), type := 4, pos := "law.go:21", after := #[{ on := 45, ground := Ground.data }, { on := 47, ground := Ground.data }], guard := none } := by kernel_rfl
theorem al8_f48 : Region.free .any al8 al8_l48 48 = true := by kernel_rfl
theorem al8_r48 : (Region.ready .any al8 al8_l48).contains 48 = true := by kernel_rfl
def al8_l49 : Array Bool := al8_l48.setIfInBounds 48 true
theorem al8_g49 : al8[49]? = some { dst := some 95, op := Op.move (Operand.tmp 94), type := 4, pos := "law.go:21", after := #[{ on := 48, ground := Ground.data }, { on := 45, ground := Ground.chain }], guard := none } := by kernel_rfl
theorem al8_f49 : Region.free .any al8 al8_l49 49 = true := by kernel_rfl
theorem al8_r49 : (Region.ready .any al8 al8_l49).contains 49 = true := by kernel_rfl
def al8_l50 : Array Bool := al8_l49.setIfInBounds 49 true
theorem al8_g50 : al8[50]? = some { dst := some 96, op := Op.move (Operand.tmp 13), type := 26, pos := "law.go:21", after := #[{ on := 49, ground := Ground.guard }], guard := some (49, true) } := by kernel_rfl
theorem al8_f50 : Region.free .any al8 al8_l50 50 = true := by kernel_rfl
theorem al8_r50 : (Region.ready .any al8 al8_l50).contains 50 = true := by kernel_rfl
def al8_l51 : Array Bool := al8_l50.setIfInBounds 50 true
theorem al8_g51 : al8[51]? = some { dst := some 97, op := Op.binOp BinOp.eql 26 (Operand.tmp 96) (Operand.const (Value.int IntKind.i64 32)) 26, type := 4, pos := "law.go:21", after := #[{ on := 50, ground := Ground.data }, { on := 49, ground := Ground.guard }], guard := some (49, true) } := by kernel_rfl
theorem al8_f51 : Region.free .any al8 al8_l51 51 = true := by kernel_rfl
theorem al8_r51 : (Region.ready .any al8 al8_l51).contains 51 = true := by kernel_rfl
def al8_l52 : Array Bool := al8_l51.setIfInBounds 51 true
theorem al8_g52 : al8[52]? = some { dst := some 98, op := Op.pick (Operand.tmp 95) (Operand.tmp 97) (Operand.const (Value.bool false)), type := 4, pos := "law.go:21", after := #[{ on := 49, ground := Ground.data }, { on := 51, ground := Ground.data }], guard := none } := by kernel_rfl
theorem al8_f52 : Region.free .any al8 al8_l52 52 = true := by kernel_rfl
theorem al8_r52 : (Region.ready .any al8 al8_l52).contains 52 = true := by kernel_rfl
def al8_l53 : Array Bool := al8_l52.setIfInBounds 52 true
theorem al8_g53 : al8[53]? = some { dst := some 99, op := Op.move (Operand.tmp 98), type := 4, pos := "law.go:21", after := #[{ on := 52, ground := Ground.data }, { on := 49, ground := Ground.chain }], guard := none } := by kernel_rfl
theorem al8_f53 : Region.free .any al8 al8_l53 53 = true := by kernel_rfl
theorem al8_r53 : (Region.ready .any al8 al8_l53).contains 53 = true := by kernel_rfl
def al8_l54 : Array Bool := al8_l53.setIfInBounds 53 true
theorem al8_g54 : al8[54]? = some { dst := some 100, op := Op.move (Operand.tmp 1), type := 25, pos := "law.go:21", after := #[{ on := 53, ground := Ground.guard }], guard := some (53, true) } := by kernel_rfl
theorem al8_f54 : Region.free .any al8 al8_l54 54 = true := by kernel_rfl
theorem al8_r54 : (Region.ready .any al8 al8_l54).contains 54 = true := by kernel_rfl
def al8_l55 : Array Bool := al8_l54.setIfInBounds 54 true
theorem al8_g55 : al8[55]? = some { dst := some 101, op := Op.indexAddr 25 (Operand.tmp 100) (Operand.const (Value.int IntKind.i64 1)), type := 0, pos := "law.go:21", after := #[{ on := 54, ground := Ground.data }, { on := 53, ground := Ground.guard }], guard := some (53, true) } := by kernel_rfl
theorem al8_f55 : Region.free .any al8 al8_l55 55 = true := by kernel_rfl
theorem al8_r55 : (Region.ready .any al8 al8_l55).contains 55 = true := by kernel_rfl
def al8_l56 : Array Bool := al8_l55.setIfInBounds 55 true
theorem al8_g56 : al8[56]? = some { dst := some 102, op := Op.load 35 (Operand.tmp 101), type := 35, pos := "law.go:21", after := #[{ on := 55, ground := Ground.data }, { on := 53, ground := Ground.guard }], guard := some (53, true) } := by kernel_rfl
theorem al8_f56 : Region.free .any al8 al8_l56 56 = true := by kernel_rfl
theorem al8_r56 : (Region.ready .any al8 al8_l56).contains 56 = true := by kernel_rfl
def al8_l57 : Array Bool := al8_l56.setIfInBounds 56 true
theorem al8_g57 : al8[57]? = some { dst := some 103, op := Op.call { callee := Callee.value (Operand.func 21), args := #[Operand.tmp 102], argTypes := #[35] }, type := 9, pos := "law.go:21", after := #[{ on := 56, ground := Ground.data }, { on := 53, ground := Ground.chain }, { on := 53, ground := Ground.guard }], guard := some (53, true) } := by kernel_rfl
theorem al8_r57 : Region.ready .any al8 al8_l57 = [57] := by kernel_rfl
def al8_l58 : Array Bool := al8_l57.setIfInBounds 57 true
theorem al8_g58 : al8[58]? = some { dst := some 104, op := Op.binOp BinOp.eql 9 (Operand.tmp 103) (Operand.const (Value.string { data := #[83, 70, 32, 51, 48] })) 9, type := 4, pos := "law.go:21", after := #[{ on := 57, ground := Ground.data }, { on := 53, ground := Ground.guard }], guard := some (53, true) } := by kernel_rfl
theorem al8_f58 : Region.free .any al8 al8_l58 58 = true := by kernel_rfl
theorem al8_r58 : (Region.ready .any al8 al8_l58).contains 58 = true := by kernel_rfl
def al8_l59 : Array Bool := al8_l58.setIfInBounds 58 true
theorem al8_g59 : al8[59]? = some { dst := some 105, op := Op.pick (Operand.tmp 99) (Operand.tmp 104) (Operand.const (Value.bool false)), type := 4, pos := "law.go:21", after := #[{ on := 53, ground := Ground.data }, { on := 58, ground := Ground.data }], guard := none } := by kernel_rfl
theorem al8_f59 : Region.free .any al8 al8_l59 59 = true := by kernel_rfl
theorem al8_r59 : (Region.ready .any al8 al8_l59).contains 59 = true := by kernel_rfl
def al8_l60 : Array Bool := al8_l59.setIfInBounds 59 true
theorem al8_g60 : al8[60]? = some { dst := some 106, op := Op.move (Operand.tmp 105), type := 4, pos := "law.go:21", after := #[{ on := 59, ground := Ground.data }, { on := 57, ground := Ground.chain }], guard := none } := by kernel_rfl
theorem al8_f60 : Region.free .any al8 al8_l60 60 = true := by kernel_rfl
theorem al8_r60 : (Region.ready .any al8 al8_l60).contains 60 = true := by kernel_rfl
def al8_l61 : Array Bool := al8_l60.setIfInBounds 60 true
theorem al8_g61 : al8[61]? = some { dst := some 107, op := Op.move (Operand.tmp 1), type := 25, pos := "law.go:21", after := #[{ on := 60, ground := Ground.guard }], guard := some (60, true) } := by kernel_rfl
theorem al8_f61 : Region.free .any al8 al8_l61 61 = true := by kernel_rfl
theorem al8_r61 : (Region.ready .any al8 al8_l61).contains 61 = true := by kernel_rfl
def al8_l62 : Array Bool := al8_l61.setIfInBounds 61 true
theorem al8_g62 : al8[62]? = some { dst := some 108, op := Op.indexAddr 25 (Operand.tmp 107) (Operand.const (Value.int IntKind.i64 0)), type := 0, pos := "law.go:21", after := #[{ on := 61, ground := Ground.data }, { on := 60, ground := Ground.guard }], guard := some (60, true) } := by kernel_rfl
theorem al8_f62 : Region.free .any al8 al8_l62 62 = true := by kernel_rfl
theorem al8_r62 : (Region.ready .any al8 al8_l62).contains 62 = true := by kernel_rfl
def al8_l63 : Array Bool := al8_l62.setIfInBounds 62 true
theorem al8_g63 : al8[63]? = some { dst := some 109, op := Op.load 35 (Operand.tmp 108), type := 35, pos := "law.go:21", after := #[{ on := 62, ground := Ground.data }, { on := 60, ground := Ground.guard }], guard := some (60, true) } := by kernel_rfl
theorem al8_f63 : Region.free .any al8 al8_l63 63 = true := by kernel_rfl
theorem al8_r63 : (Region.ready .any al8 al8_l63).contains 63 = true := by kernel_rfl
def al8_l64 : Array Bool := al8_l63.setIfInBounds 63 true
theorem al8_g64 : al8[64]? = some { dst := some 110, op := Op.move (Operand.tmp 1), type := 25, pos := "law.go:21", after := #[{ on := 60, ground := Ground.guard }], guard := some (60, true) } := by kernel_rfl
theorem al8_f64 : Region.free .any al8 al8_l64 64 = true := by kernel_rfl
theorem al8_r64 : (Region.ready .any al8 al8_l64).contains 64 = true := by kernel_rfl
def al8_l65 : Array Bool := al8_l64.setIfInBounds 64 true
theorem al8_g65 : al8[65]? = some { dst := some 111, op := Op.indexAddr 25 (Operand.tmp 110) (Operand.const (Value.int IntKind.i64 0)), type := 0, pos := "law.go:21", after := #[{ on := 64, ground := Ground.data }, { on := 60, ground := Ground.guard }], guard := some (60, true) } := by kernel_rfl
theorem al8_f65 : Region.free .any al8 al8_l65 65 = true := by kernel_rfl
theorem al8_r65 : (Region.ready .any al8 al8_l65).contains 65 = true := by kernel_rfl
def al8_l66 : Array Bool := al8_l65.setIfInBounds 65 true
theorem al8_g66 : al8[66]? = some { dst := some 112, op := Op.load 35 (Operand.tmp 111), type := 35, pos := "law.go:21", after := #[{ on := 65, ground := Ground.data }, { on := 60, ground := Ground.guard }], guard := some (60, true) } := by kernel_rfl
theorem al8_f66 : Region.free .any al8 al8_l66 66 = true := by kernel_rfl
theorem al8_r66 : (Region.ready .any al8 al8_l66).contains 66 = true := by kernel_rfl
def al8_l67 : Array Bool := al8_l66.setIfInBounds 66 true
theorem al8_g67 : al8[67]? = some { dst := some 113, op := Op.call { callee := Callee.value (Operand.func 20), args := #[Operand.tmp 109, Operand.tmp 112], argTypes := #[35, 35] }, type := 4, pos := "law.go:21", after := #[{ on := 63, ground := Ground.data }, { on := 66, ground := Ground.data }, { on := 60, ground := Ground.chain }, { on := 60, ground := Ground.guard }], guard := some (60, true) } := by kernel_rfl
theorem al8_r67 : Region.ready .any al8 al8_l67 = [67] := by kernel_rfl
def al8_l68 : Array Bool := al8_l67.setIfInBounds 67 true
theorem al8_g68 : al8[68]? = some { dst := some 114, op := Op.pick (Operand.tmp 106) (Operand.tmp 113) (Operand.const (Value.bool false)), type := 4, pos := "law.go:21", after := #[{ on := 60, ground := Ground.data }, { on := 67, ground := Ground.data }], guard := none } := by kernel_rfl
theorem al8_f68 : Region.free .any al8 al8_l68 68 = true := by kernel_rfl
theorem al8_r68 : (Region.ready .any al8 al8_l68).contains 68 = true := by kernel_rfl
def al8_l69 : Array Bool := al8_l68.setIfInBounds 68 true
theorem al8_g69 : al8[69]? = some { dst := some 115, op := Op.move (Operand.tmp 114), type := 4, pos := "law.go:21", after := #[{ on := 68, ground := Ground.data }, { on := 67, ground := Ground.chain }], guard := none } := by kernel_rfl
theorem al8_f69 : Region.free .any al8 al8_l69 69 = true := by kernel_rfl
theorem al8_r69 : (Region.ready .any al8 al8_l69).contains 69 = true := by kernel_rfl
def al8_l70 : Array Bool := al8_l69.setIfInBounds 69 true
theorem al8_g70 : al8[70]? = some { dst := some 116, op := Op.move (Operand.tmp 1), type := 25, pos := "law.go:21", after := #[{ on := 69, ground := Ground.guard }], guard := some (69, true) } := by kernel_rfl
theorem al8_f70 : Region.free .any al8 al8_l70 70 = true := by kernel_rfl
theorem al8_r70 : (Region.ready .any al8 al8_l70).contains 70 = true := by kernel_rfl
def al8_l71 : Array Bool := al8_l70.setIfInBounds 70 true
theorem al8_g71 : al8[71]? = some { dst := some 117, op := Op.indexAddr 25 (Operand.tmp 116) (Operand.const (Value.int IntKind.i64 0)), type := 0, pos := "law.go:21", after := #[{ on := 70, ground := Ground.data }, { on := 69, ground := Ground.guard }], guard := some (69, true) } := by kernel_rfl
theorem al8_f71 : Region.free .any al8 al8_l71 71 = true := by kernel_rfl
theorem al8_r71 : (Region.ready .any al8 al8_l71).contains 71 = true := by kernel_rfl
def al8_l72 : Array Bool := al8_l71.setIfInBounds 71 true
theorem al8_g72 : al8[72]? = some { dst := some 118, op := Op.load 35 (Operand.tmp 117), type := 35, pos := "law.go:21", after := #[{ on := 71, ground := Ground.data }, { on := 69, ground := Ground.guard }], guard := some (69, true) } := by kernel_rfl
theorem al8_f72 : Region.free .any al8 al8_l72 72 = true := by kernel_rfl
theorem al8_r72 : (Region.ready .any al8 al8_l72).contains 72 = true := by kernel_rfl
def al8_l73 : Array Bool := al8_l72.setIfInBounds 72 true
theorem al8_g73 : al8[73]? = some { dst := some 119, op := Op.move (Operand.tmp 1), type := 25, pos := "law.go:21", after := #[{ on := 69, ground := Ground.guard }], guard := some (69, true) } := by kernel_rfl
theorem al8_f73 : Region.free .any al8 al8_l73 73 = true := by kernel_rfl
theorem al8_r73 : (Region.ready .any al8 al8_l73).contains 73 = true := by kernel_rfl
def al8_l74 : Array Bool := al8_l73.setIfInBounds 73 true
theorem al8_g74 : al8[74]? = some { dst := some 120, op := Op.indexAddr 25 (Operand.tmp 119) (Operand.const (Value.int IntKind.i64 1)), type := 0, pos := "law.go:21", after := #[{ on := 73, ground := Ground.data }, { on := 69, ground := Ground.guard }], guard := some (69, true) } := by kernel_rfl
theorem al8_f74 : Region.free .any al8 al8_l74 74 = true := by kernel_rfl
theorem al8_r74 : (Region.ready .any al8 al8_l74).contains 74 = true := by kernel_rfl
def al8_l75 : Array Bool := al8_l74.setIfInBounds 74 true
theorem al8_g75 : al8[75]? = some { dst := some 121, op := Op.load 35 (Operand.tmp 120), type := 35, pos := "law.go:21", after := #[{ on := 74, ground := Ground.data }, { on := 69, ground := Ground.guard }], guard := some (69, true) } := by kernel_rfl
theorem al8_f75 : Region.free .any al8 al8_l75 75 = true := by kernel_rfl
theorem al8_r75 : (Region.ready .any al8 al8_l75).contains 75 = true := by kernel_rfl
def al8_l76 : Array Bool := al8_l75.setIfInBounds 75 true
theorem al8_g76 : al8[76]? = some { dst := some 122, op := Op.call { callee := Callee.value (Operand.func 20), args := #[Operand.tmp 118, Operand.tmp 121], argTypes := #[35, 35] }, type := 4, pos := "law.go:21", after := #[{ on := 72, ground := Ground.data }, { on := 75, ground := Ground.data }, { on := 69, ground := Ground.chain }, { on := 69, ground := Ground.guard }], guard := some (69, true) } := by kernel_rfl
theorem al8_r76 : Region.ready .any al8 al8_l76 = [76] := by kernel_rfl
def al8_l77 : Array Bool := al8_l76.setIfInBounds 76 true
theorem al8_g77 : al8[77]? = some { dst := some 123, op := Op.unOp UnOp.not 4 (Operand.tmp 122), type := 4, pos := "law.go:21", after := #[{ on := 76, ground := Ground.data }, { on := 69, ground := Ground.guard }], guard := some (69, true) } := by kernel_rfl
theorem al8_f77 : Region.free .any al8 al8_l77 77 = true := by kernel_rfl
theorem al8_r77 : (Region.ready .any al8 al8_l77).contains 77 = true := by kernel_rfl
def al8_l78 : Array Bool := al8_l77.setIfInBounds 77 true
theorem al8_g78 : al8[78]? = some { dst := some 124, op := Op.pick (Operand.tmp 115) (Operand.tmp 123) (Operand.const (Value.bool false)), type := 4, pos := "law.go:21", after := #[{ on := 69, ground := Ground.data }, { on := 77, ground := Ground.data }], guard := none } := by kernel_rfl
theorem al8_f78 : Region.free .any al8 al8_l78 78 = true := by kernel_rfl
theorem al8_r78 : (Region.ready .any al8 al8_l78).contains 78 = true := by kernel_rfl
def al8_l79 : Array Bool := al8_l78.setIfInBounds 78 true
theorem al8_g79 : al8[79]? = some { dst := some 125, op := Op.move (Operand.tmp 124), type := 4, pos := "law.go:21", after := #[{ on := 78, ground := Ground.data }, { on := 76, ground := Ground.chain }], guard := none } := by kernel_rfl
theorem al8_f79 : Region.free .any al8 al8_l79 79 = true := by kernel_rfl
theorem al8_r79 : (Region.ready .any al8 al8_l79).contains 79 = true := by kernel_rfl
def al8_l80 : Array Bool := al8_l79.setIfInBounds 79 true
theorem al8_g80 : al8[80]? = some { dst := some 126, op := Op.call { callee := Callee.value (Operand.func 13), args := #[Operand.const (Value.int IntKind.u8 30)], argTypes := #[5] }, type := 4, pos := "law.go:21", after := #[{ on := 79, ground := Ground.chain }, { on := 79, ground := Ground.guard }], guard := some (79, true) } := by kernel_rfl
theorem al8_r80 : Region.ready .any al8 al8_l80 = [80] := by kernel_rfl
def al8_l81 : Array Bool := al8_l80.setIfInBounds 80 true
theorem al8_g81 : al8[81]? = some { dst := some 127, op := Op.pick (Operand.tmp 125) (Operand.tmp 126) (Operand.const (Value.bool false)), type := 4, pos := "law.go:21", after := #[{ on := 79, ground := Ground.data }, { on := 80, ground := Ground.data }], guard := none } := by kernel_rfl
theorem al8_f81 : Region.free .any al8 al8_l81 81 = true := by kernel_rfl
theorem al8_r81 : (Region.ready .any al8 al8_l81).contains 81 = true := by kernel_rfl
def al8_l82 : Array Bool := al8_l81.setIfInBounds 81 true
theorem al8_g82 : al8[82]? = some { dst := some 128, op := Op.move (Operand.tmp 127), type := 4, pos := "law.go:21", after := #[{ on := 81, ground := Ground.data }, { on := 80, ground := Ground.chain }], guard := none } := by kernel_rfl
theorem al8_f82 : Region.free .any al8 al8_l82 82 = true := by kernel_rfl
theorem al8_r82 : (Region.ready .any al8 al8_l82).contains 82 = true := by kernel_rfl
def al8_l83 : Array Bool := al8_l82.setIfInBounds 82 true
theorem al8_g83 : al8[83]? = some { dst := some 129, op := Op.call { callee := Callee.value (Operand.func 13), args := #[Operand.const (Value.int IntKind.u8 17)], argTypes := #[5] }, type := 4, pos := "law.go:21", after := #[{ on := 82, ground := Ground.chain }, { on := 82, ground := Ground.guard }], guard := some (82, true) } := by kernel_rfl
theorem al8_r83 : Region.ready .any al8 al8_l83 = [83] := by kernel_rfl
def al8_l84 : Array Bool := al8_l83.setIfInBounds 83 true
theorem al8_g84 : al8[84]? = some { dst := some 130, op := Op.unOp UnOp.not 4 (Operand.tmp 129), type := 4, pos := "law.go:21", after := #[{ on := 83, ground := Ground.data }, { on := 82, ground := Ground.guard }], guard := some (82, true) } := by kernel_rfl
theorem al8_f84 : Region.free .any al8 al8_l84 84 = true := by kernel_rfl
theorem al8_r84 : (Region.ready .any al8 al8_l84).contains 84 = true := by kernel_rfl
def al8_l85 : Array Bool := al8_l84.setIfInBounds 84 true
theorem al8_g85 : al8[85]? = some { dst := some 131, op := Op.pick (Operand.tmp 128) (Operand.tmp 130) (Operand.const (Value.bool false)), type := 4, pos := "law.go:21", after := #[{ on := 82, ground := Ground.data }, { on := 84, ground := Ground.data }], guard := none } := by kernel_rfl
theorem al8_f85 : Region.free .any al8 al8_l85 85 = true := by kernel_rfl
theorem al8_r85 : (Region.ready .any al8 al8_l85).contains 85 = true := by kernel_rfl
def al8_l86 : Array Bool := al8_l85.setIfInBounds 85 true
theorem al8_g86 : al8[86]? = some { dst := some 0, op := Op.assign (Operand.tmp 131), type := 4, pos := "law.go:21", after := ([{ on := 85, ground := Ground.data }, { on := 83, ground := Ground.chain }, { on := 0, ground := Ground.phase }, { on := 1, ground := Ground.phase }, { on := 2, ground := Ground.phase }, { on := 3, ground := Ground.phase }, { on := 4, ground := Ground.phase }, { on := 5, ground := Ground.phase }, { on := 6, ground := Ground.phase }, { on := 7, ground := Ground.phase }, { on := 8, ground := Ground.phase }, { on := 9, ground := Ground.phase }, { on := 10, ground := Ground.phase }, { on := 11, ground := Ground.phase }, { on := 12, ground := Ground.phase }, { on := 13, ground := Ground.phase }, { on := 14, ground := Ground.phase }, { on := 15, ground := Ground.phase }, { on := 16, ground := Ground.phase }, { on := 17, ground := Ground.phase }, { on := 18, ground := Ground.phase }, { on := 19, ground := Ground.phase }, { on := 20, ground := Ground.phase }, { on := 21, ground := Ground.phase }, { on := 22, ground := Ground.phase }, { on := 23, ground := Ground.phase }, { on := 24, ground := Ground.phase }, { on := 25, ground := Ground.phase }, { on := 26, ground := Ground.phase }, { on := 27, ground := Ground.phase }, { on := 28, ground := Ground.phase }, { on := 29, ground := Ground.phase }, { on := 30, ground := Ground.phase }, { on := 31, ground := Ground.phase }, { on := 32, ground := Ground.phase }, { on := 33, ground := Ground.phase }, { on := 34, ground := Ground.phase }, { on := 35, ground := Ground.phase }, { on := 36, ground := Ground.phase }, { on := 37, ground := Ground.phase }, { on := 38, ground := Ground.phase }, { on := 39, ground := Ground.phase }, { on := 40, ground := Ground.phase }, { on := 41, ground := Ground.phase }].append [{ on := 42, ground := Ground.phase }, { on := 43, ground := Ground.phase }, { on := 44, ground := Ground.phase }, { on := 45, ground := Ground.phase }, { on := 46, ground := Ground.phase }, { on := 47, ground := Ground.phase }, { on := 48, ground := Ground.phase }, { on := 49, ground := Ground.phase }, { on := 50, ground := Ground.phase }, { on := 51, ground := Ground.phase }, { on := 52, ground := Ground.phase }, { on := 53, ground := Ground.phase }, { on := 54, ground := Ground.phase }, { on := 55, ground := Ground.phase }, { on := 56, ground := Ground.phase }, { on := 57, ground := Ground.phase }, { on := 58, ground := Ground.phase }, { on := 59, ground := Ground.phase }, { on := 60, ground := Ground.phase }, { on := 61, ground := Ground.phase }, { on := 62, ground := Ground.phase }, { on := 63, ground := Ground.phase }, { on := 64, ground := Ground.phase }, { on := 65, ground := Ground.phase }, { on := 66, ground := Ground.phase }, { on := 67, ground := Ground.phase }, { on := 68, ground := Ground.phase }, { on := 69, ground := Ground.phase }, { on := 70, ground := Ground.phase }, { on := 71, ground := Ground.phase }, { on := 72, ground := Ground.phase }, { on := 73, ground := Ground.phase }, { on := 74, ground := Ground.phase }, { on := 75, ground := Ground.phase }, { on := 76, ground := Ground.phase }, { on := 77, ground := Ground.phase }, { on := 78, ground := Ground.phase }, { on := 79, ground := Ground.phase }, { on := 80, ground := Ground.phase }, { on := 81, ground := Ground.phase }, { on := 82, ground := Ground.phase }, { on := 83, ground := Ground.phase }, { on := 84, ground := Ground.phase }, { on := 85, ground := Ground.phase }]).toArray, guard := none } := by kernel_rfl
theorem al8_f86 : Region.free .any al8 al8_l86 86 = true := by kernel_rfl
theorem al8_r86 : (Region.ready .any al8 al8_l86).contains 86 = true := by kernel_rfl
def al8_l87 : Array Bool := al8_l86.setIfInBounds 86 true
theorem al8_end : Region.ready .any al8 al8_l87 = [] := by kernel_rfl
end Go.Proofs.YtjeknociobbhpaaDoor.Ord
