/-
  The statements' own example of headers: the order of its last return's operations.
-/
import Derived.Test.YtkolhjglehnigaaHeadC
import Derived.Test.YtkolhjglehnigaaHeadD
import Derived.Deep.RegionHeld3
namespace Go.Proofs.Ytkolhjglehnigaa.Head
open Go.RowKit Base
set_option linter.unusedVariables false

def al11 : Array Oper := #[{ dst := some 67, op := Op.move (Operand.tmp 4), type := 26, pos := "law.go:28", after := #[], guard := none }, { dst := some 68, op := Op.binOp BinOp.eql 26 (Operand.tmp 67) (Operand.const (Value.int IntKind.i64 0)) 26, type := 4, pos := "law.go:28", after := #[{ on := 0, ground := Ground.data }], guard := none }, { dst := some 69, op := Op.move (Operand.tmp 68), type := 4, pos := "law.go:28", after := #[{ on := 1, ground := Ground.data }], guard := none }, { dst := some 70, op := Op.fieldAddr 25 (Operand.tmp 2) 0, type := 0, pos := "law.go:28", after := #[{ on := 2, ground := Ground.guard }], guard := some (2, true) }, { dst := some 71, op := Op.load 5 (Operand.tmp 70), type := 5, pos := "law.go:28", after := #[{ on := 3, ground := Ground.data }, { on := 2, ground := Ground.guard }], guard := some (2, true) }, { dst := some 72, op := Op.binOp BinOp.eql 5 (Operand.tmp 71) (Operand.const (Value.int IntKind.u8 0)) 5, type := 4, pos := "law.go:28", after := #[{ on := 4, ground := Ground.data }, { on := 2, ground := Ground.guard }], guard := some (2, true) }, { dst := some 73, op := Op.pick (Operand.tmp 69) (Operand.tmp 72) (Operand.const (Value.bool false)), type := 4, pos := "law.go:28", after := #[{ on := 2, ground := Ground.data }, { on := 5, ground := Ground.data }], guard := none }, { dst := some 74, op := Op.move (Operand.tmp 73), type := 4, pos := "law.go:28", after := #[{ on := 6, ground := Ground.data }, { on := 2, ground := Ground.chain }], guard := none }, { dst := some 75, op := Op.fieldAddr 25 (Operand.tmp 2) 2, type := 0, pos := "law.go:28", after := #[{ on := 7, ground := Ground.guard }], guard := some (7, true) }, { dst := some 76, op := Op.load 5 (Operand.tmp 75), type := 5, pos := "law.go:28", after := #[{ on := 8, ground := Ground.data }, { on := 7, ground := Ground.guard }], guard := some (7, true) }, { dst := some 77, op := Op.binOp BinOp.eql 5 (Operand.tmp 76) (Operand.const (Value.int IntKind.u8 2)) 5, type := 4, pos := "law.go:28", after := #[{ on := 9, ground := Ground.data }, { on := 7, ground := Ground.guard }], guard := some (7, true) }, { dst := some 78, op := Op.pick (Operand.tmp 74) (Operand.tmp 77) (Operand.const (Value.bool false)), type := 4, pos := "law.go:28", after := #[{ on := 7, ground := Ground.data }, { on := 10, ground := Ground.data }], guard := none }, { dst := some 79, op := Op.move (Operand.tmp 78), type := 4, pos := "law.go:28", after := #[{ on := 11, ground := Ground.data }, { on := 7, ground := Ground.chain }], guard := none }, { dst := some 80, op := Op.fieldAddr 25 (Operand.tmp 2) 3, type := 0, pos := "law.go:28", after := #[{ on := 12, ground := Ground.guard }], guard := some (12, true) }, { dst := some 81, op := Op.load 23 (Operand.tmp 80), type := 23, pos := "law.go:28", after := #[{ on := 13, ground := Ground.data }, { on := 12, ground := Ground.guard }], guard := some (12, true) }, { dst := some 82, op := Op.binOp BinOp.eql 23 (Operand.tmp 81) (Operand.const (Value.int IntKind.u16 7)) 23, type := 4, pos := "law.go:28", after := #[{ on := 14, ground := Ground.data }, { on := 12, ground := Ground.guard }], guard := some (12, true) }, { dst := some 83, op := Op.pick (Operand.tmp 79) (Operand.tmp 82) (Operand.const (Value.bool false)), type := 4, pos := "law.go:28", after := #[{ on := 12, ground := Ground.data }, { on := 15, ground := Ground.data }], guard := none }, { dst := some 84, op := Op.move (Operand.tmp 83), type := 4, pos := "law.go:28", after := #[{ on := 16, ground := Ground.data }, { on := 12, ground := Ground.chain }], guard := none }, { dst := some 85, op := Op.move (Operand.tmp 3), type := 22, pos := "law.go:28", after := #[{ on := 17, ground := Ground.guard }], guard := some (17, true) }, { dst := some 86, op := Op.convert 22 9 (Operand.tmp 85), type := 9, pos := "law.go:28", after := #[{ on := 18, ground := Ground.data }, { on := 17, ground := Ground.guard }], guard := some (17, true) }, { dst := some 87, op := Op.binOp BinOp.eql 9 (Operand.tmp 86) (Operand.const (Value.string { data := #[241] })) 9, type := 4, pos := "law.go:28", after := #[{ on := 19, ground := Ground.data }, { on := 17, ground := Ground.guard }], guard := some (17, true) }, { dst := some 88, op := Op.pick (Operand.tmp 84) (Operand.tmp 87) (Operand.const (Value.bool false)), type := 4, pos := "law.go:28", after := #[{ on := 17, ground := Ground.data }, { on := 20, ground := Ground.data }], guard := none }, { dst := some 89, op := Op.move (Operand.tmp 88), type := 4, pos := "law.go:28", after := #[{ on := 21, ground := Ground.data }, { on := 17, ground := Ground.chain }], guard := none }, { dst := some 90, op := Op.move (Operand.tmp 5), type := 22, pos := "law.go:28", after := #[{ on := 22, ground := Ground.guard }], guard := some (22, true) }, { dst := some 91, op := Op.convert 22 9 (Operand.tmp 90), type := 9, pos := "law.go:28", after := #[{ on := 23, ground := Ground.data }, { on := 22, ground := Ground.guard }], guard := some (22, true) }, { dst := some 92, op := Op.binOp BinOp.eql 9 (Operand.tmp 91) (Operand.const (Value.string { data := #[2, 0, 0, 0, 7, 0] })) 9, type := 4, pos := "law.go:28", after := #[{ on := 24, ground := Ground.data }, { on := 22, ground := Ground.guard }], guard := some (22, true) }, { dst := some 93, op := Op.pick (Operand.tmp 89) (Operand.tmp 92) (Operand.const (Value.bool false)), type := 4, pos := "law.go:28", after := #[{ on := 22, ground := Ground.data }, { on := 25, ground := Ground.data }], guard := none }, { dst := some 94, op := Op.move (Operand.tmp 93), type := 4, pos := "law.go:28", after := #[{ on := 26, ground := Ground.data }, { on := 22, ground := Ground.chain }], guard := none }, { dst := some 95, op := Op.move (Operand.tmp 6), type := 4, pos := "law.go:28", after := #[{ on := 27, ground := Ground.guard }], guard := some (27, true) }, { dst := some 96, op := Op.pick (Operand.tmp 94) (Operand.tmp 95) (Operand.const (Value.bool false)), type := 4, pos := "law.go:28", after := #[{ on := 27, ground := Ground.data }, { on := 28, ground := Ground.data }], guard := none }, { dst := some 97, op := Op.move (Operand.tmp 96), type := 4, pos := "law.go:28", after := #[{ on := 29, ground := Ground.data }, { on := 27, ground := Ground.chain }], guard := none }, { dst := some 98, op := Op.move (Operand.tmp 7), type := 22, pos := "law.go:28", after := #[{ on := 30, ground := Ground.guard }], guard := some (30, true) }, { dst := some 99, op := Op.convert 22 9 (Operand.tmp 98), type := 9, pos := "law.go:28", after := #[{ on := 31, ground := Ground.data }, { on := 30, ground := Ground.guard }], guard := some (30, true) }, { dst := some 100, op := Op.binOp BinOp.eql 9 (Operand.tmp 99) (Operand.const (Value.string { data := #[2, 0, 1, 0, 7, 0] })) 9, type := 4, pos := "law.go:28", after := #[{ on := 32, ground := Ground.data }, { on := 30, ground := Ground.guard }], guard := some (30, true) }, { dst := some 101, op := Op.pick (Operand.tmp 97) (Operand.tmp 100) (Operand.const (Value.bool false)), type := 4, pos := "law.go:28", after := #[{ on := 30, ground := Ground.data }, { on := 33, ground := Ground.data }], guard := none }, { dst := some 102, op := Op.move (Operand.tmp 101), type := 4, pos := "law.go:28", after := #[{ on := 34, ground := Ground.data }, { on := 30, ground := Ground.chain }], guard := none }, { dst := some 103, op := Op.move (Operand.tmp 8), type := 4, pos := "law.go:28", after := #[{ on := 35, ground := Ground.guard }], guard := some (35, true) }, { dst := some 104, op := Op.pick (Operand.tmp 102) (Operand.tmp 103) (Operand.const (Value.bool false)), type := 4, pos := "law.go:28", after := #[{ on := 35, ground := Ground.data }, { on := 36, ground := Ground.data }], guard := none }, { dst := some 105, op := Op.move (Operand.tmp 104), type := 4, pos := "law.go:28", after := #[{ on := 37, ground := Ground.data }, { on := 35, ground := Ground.chain }], guard := none }, { dst := some 106, op := Op.move (Operand.tmp 10), type := 4, pos := "law.go:28", after := #[{ on := 38, ground := Ground.guard }], guard := some (38, true) }, { dst := some 107, op := Op.unOp UnOp.not 4 (Operand.tmp 106), type := 4, pos := "law.go:28", after := #[{ on := 39, ground := Ground.data }, { on := 38, ground := Ground.guard }], guard := some (38, true) }, { dst := some 108, op := Op.pick (Operand.tmp 105) (Operand.tmp 107) (Operand.const (Value.bool false)), type := 4, pos := "law.go:28", after := #[{ on := 38, ground := Ground.data }, { on := 40, ground := Ground.data }], guard := none }, { dst := some 109, op := Op.move (Operand.tmp 108), type := 4, pos := "law.go:28", after := #[{ on := 41, ground := Ground.data }, { on := 38, ground := Ground.chain }], guard := none }, { dst := some 110, op := Op.move (Operand.tmp 13), type := 26, pos := "law.go:28", after := #[{ on := 42, ground := Ground.guard }], guard := some (42, true) }, { dst := some 111, op := Op.binOp BinOp.eql 26 (Operand.tmp 110) (Operand.const (Value.int IntKind.i64 20)) 26, type := 4, pos := "law.go:28", after := #[{ on := 43, ground := Ground.data }, { on := 42, ground := Ground.guard }], guard := some (42, true) }, { dst := some 112, op := Op.pick (Operand.tmp 109) (Operand.tmp 111) (Operand.const (Value.bool false)), type := 4, pos := "law.go:28", after := #[{ on := 42, ground := Ground.data }, { on := 44, ground := Ground.data }], guard := none }, { dst := some 113, op := Op.move (Operand.tmp 112), type := 4, pos := "law.go:28", after := #[{ on := 45, ground := Ground.data }, { on := 42, ground := Ground.chain }], guard := none }, { dst := some 114, op := Op.move (Operand.tmp 17), type := 5, pos := "law.go:28", after := #[{ on := 46, ground := Ground.guard }], guard := some (46, true) }, { dst := some 115, op := Op.binOp BinOp.eql 5 (Operand.tmp 114) (Operand.const (Value.int IntKind.u8 0)) 5, type := 4, pos := "law.go:28", after := #[{ on := 47, ground := Ground.data }, { on := 46, ground := Ground.guard }], guard := some (46, true) }, { dst := some 116, op := Op.pick (Operand.tmp 113) (Operand.tmp 115) (Operand.const (Value.bool false)), type := 4, pos := "law.go:28", after := #[{ on := 46, ground := Ground.data }, { on := 48, ground := Ground.data }], guard := none }, { dst := some 117, op := Op.move (Operand.tmp 116), type := 4, pos := "law.go:28", after := #[{ on := 49, ground := Ground.data }, { on := 46, ground := Ground.chain }], guard := none }, { dst := some 118, op := Op.move (Operand.tmp 18), type := 4, pos := "law.go:28", after := #[{ on := 50, ground := Ground.guard }], guard := some (50, true) }, { dst := some 119, op := Op.unOp UnOp.not 4 (Operand.tmp 118), type := 4, pos := "law.go:28", after := #[{ on := 51, ground := Ground.data }, { on := 50, ground := Ground.guard }], guard := some (50, true) }, { dst := some 120, op := Op.pick (Operand.tmp 117) (Operand.tmp 119) (Operand.const (Value.bool false)), type := 4, pos := "law.go:28", after := #[{ on := 50, ground := Ground.data }, { on := 52, ground := Ground.data }], guard := none }, { dst := some 121, op := Op.move (Operand.tmp 120), type := 4, pos := "law.go:28", after := #[{ on := 53, ground := Ground.data }, { on := 50, ground := Ground.chain }], guard := none }, { dst := some 122, op := Op.move (Operand.tmp 19), type := 4, pos := "law.go:28", after := #[{ on := 54, ground := Ground.guard }], guard := some (54, true) }, { dst := some 123, op := Op.pick (Operand.tmp 121) (Operand.tmp 122) (Operand.const (Value.bool false)), type := 4, pos := "law.go:28", after := #[{ on := 54, ground := Ground.data }, { on := 55, ground := Ground.data }], guard := none }, { dst := some 124, op := Op.move (Operand.tmp 123), type := 4, pos := "law.go:28", after := #[{ on := 56, ground := Ground.data }, { on := 54, ground := Ground.chain }], guard := none }, { dst := some 125, op := Op.call { callee := Callee.value (Operand.func 23), args := #[Operand.const (Value.int IntKind.i64 31)], argTypes := #[26] }, type := 5, pos := "law.go:28", after := #[{ on := 57, ground := Ground.chain }, { on := 57, ground := Ground.guard }], guard := some (57, true) }, { dst := some 126, op := Op.binOp BinOp.eql 5 (Operand.tmp 125) (Operand.const (Value.int IntKind.u8 2)) 5, type := 4, pos := "law.go:28", after := #[{ on := 58, ground := Ground.data }, { on := 57, ground := Ground.guard }], guard := some (57, true) }, { dst := some 127, op := Op.pick (Operand.tmp 124) (Operand.tmp 126) (Operand.const (Value.bool false)), type := 4, pos := "law.go:28", after := #[{ on := 57, ground := Ground.data }, { on := 59, ground := Ground.data }], guard := none }, { dst := some 128, op := Op.move (Operand.tmp 127), type := 4, pos := "law.go:28", after := #[{ on := 60, ground := Ground.data }, { on := 58, ground := Ground.chain }], guard := none }, { dst := some 129, op := Op.move (Operand.tmp 21), type := 23, pos := "law.go:28", after := #[{ on := 61, ground := Ground.guard }], guard := some (61, true) }, { dst := some 130, op := Op.binOp BinOp.eql 23 (Operand.tmp 129) (Operand.const (Value.int IntKind.u16 0)) 23, type := 4, pos := "law.go:28", after := #[{ on := 62, ground := Ground.data }, { on := 61, ground := Ground.guard }], guard := some (61, true) }, { dst := some 131, op := Op.pick (Operand.tmp 128) (Operand.tmp 130) (Operand.const (Value.bool false)), type := 4, pos := "law.go:28", after := #[{ on := 61, ground := Ground.data }, { on := 63, ground := Ground.data }], guard := none }, { dst := some 132, op := Op.move (Operand.tmp 131), type := 4, pos := "law.go:28", after := #[{ on := 64, ground := Ground.data }, { on := 61, ground := Ground.chain }], guard := none }, { dst := some 133, op := Op.move (Operand.tmp 22), type := 23, pos := "law.go:28", after := #[{ on := 65, ground := Ground.guard }], guard := some (65, true) }, { dst := some 134, op := Op.binOp BinOp.eql 23 (Operand.tmp 133) (Operand.const (Value.int IntKind.u16 1)) 23, type := 4, pos := "law.go:28", after := #[{ on := 66, ground := Ground.data }, { on := 65, ground := Ground.guard }], guard := some (65, true) }, { dst := some 135, op := Op.pick (Operand.tmp 132) (Operand.tmp 134) (Operand.const (Value.bool false)), type := 4, pos := "law.go:28", after := #[{ on := 65, ground := Ground.data }, { on := 67, ground := Ground.data }], guard := none }, { dst := some 136, op := Op.move (Operand.tmp 135), type := 4, pos := "law.go:28", after := #[{ on := 68, ground := Ground.data }, { on := 65, ground := Ground.chain }], guard := none }, { dst := some 137, op := Op.call { callee := Callee.value (Operand.func 31), args := #[Operand.tmp 20], argTypes := #[50] }, type := 3, pos := "law.go:28", after := #[{ on := 69, ground := Ground.chain }, { on := 69, ground := Ground.guard }], guard := some (69, true) }, { dst := some 138, op := Op.binOp BinOp.eql 3 (Operand.tmp 137) (Operand.const (Value.int IntKind.i64 2)) 3, type := 4, pos := "law.go:28", after := #[{ on := 70, ground := Ground.data }, { on := 69, ground := Ground.guard }], guard := some (69, true) }, { dst := some 139, op := Op.pick (Operand.tmp 136) (Operand.tmp 138) (Operand.const (Value.bool false)), type := 4, pos := "law.go:28", after := #[{ on := 69, ground := Ground.data }, { on := 71, ground := Ground.data }], guard := none }, { dst := some 140, op := Op.move (Operand.tmp 139), type := 4, pos := "law.go:28", after := #[{ on := 72, ground := Ground.data }, { on := 70, ground := Ground.chain }], guard := none }, { dst := some 141, op := Op.call { callee := Callee.value (Operand.func 29), args := #[Operand.tmp 20, Operand.const (Value.int IntKind.u16 0)], argTypes := #[50, 23] }, type := 4, pos := "law.go:28", after := #[{ on := 73, ground := Ground.chain }, { on := 73, ground := Ground.guard }], guard := some (73, true) }, { dst := some 142, op := Op.pick (Operand.tmp 140) (Operand.tmp 141) (Operand.const (Value.bool false)), type := 4, pos := "law.go:28", after := #[{ on := 73, ground := Ground.data }, { on := 74, ground := Ground.data }], guard := none }, { dst := some 143, op := Op.move (Operand.tmp 142), type := 4, pos := "law.go:28", after := #[{ on := 75, ground := Ground.data }, { on := 74, ground := Ground.chain }], guard := none }, { dst := some 144, op := Op.call { callee := Callee.value (Operand.func 29), args := #[Operand.tmp 20, Operand.const (Value.int IntKind.u16 0)], argTypes := #[50, 23] }, type := 4, pos := "law.go:28", after := #[{ on := 76, ground := Ground.chain }, { on := 76, ground := Ground.guard }], guard := some (76, true) }, { dst := some 145, op := Op.unOp UnOp.not 4 (Operand.tmp 144), type := 4, pos := "law.go:28", after := #[{ on := 77, ground := Ground.data }, { on := 76, ground := Ground.guard }], guard := some (76, true) }, { dst := some 146, op := Op.pick (Operand.tmp 143) (Operand.tmp 145) (Operand.const (Value.bool false)), type := 4, pos := "law.go:28", after := #[{ on := 76, ground := Ground.data }, { on := 78, ground := Ground.data }], guard := none }, { dst := some 147, op := Op.move (Operand.tmp 146), type := 4, pos := "law.go:28", after := #[{ on := 79, ground := Ground.data }, { on := 77, ground := Ground.chain }], guard := none }, { dst := some 148, op := Op.call { callee := Callee.value (Operand.func 31), args := #[Operand.tmp 20], argTypes := #[50] }, type := 3, pos := "law.go:28", after := #[{ on := 80, ground := Ground.chain }, { on := 80, ground := Ground.guard }], guard := some (80, true) }, { dst := some 149, op := Op.binOp BinOp.eql 3 (Operand.tmp 148) (Operand.const (Value.int IntKind.i64 1)) 3, type := 4, pos := "law.go:28", after := #[{ on := 81, ground := Ground.data }, { on := 80, ground := Ground.guard }], guard := some (80, true) }, { dst := some 150, op := Op.pick (Operand.tmp 147) (Operand.tmp 149) (Operand.const (Value.bool false)), type := 4, pos := "law.go:28", after := #[{ on := 80, ground := Ground.data }, { on := 82, ground := Ground.data }], guard := none }, { dst := some 151, op := Op.move (Operand.tmp 150), type := 4, pos := "law.go:28", after := #[{ on := 83, ground := Ground.data }, { on := 81, ground := Ground.chain }], guard := none }, { dst := some 152, op := Op.pick (Operand.tmp 151) (Operand.const (Value.bool true)) (Operand.const (Value.bool false)), type := 4, pos := "law.go:28", after := #[{ on := 84, ground := Ground.data }], guard := none }, { dst := some 153, op := Op.move (Operand.tmp 152), type := 4, pos := "law.go:28", after := #[{ on := 85, ground := Ground.data }, { on := 84, ground := Ground.chain }], guard := none }, { dst := some 154, op := Op.load 25 (Operand.tmp 2), type := 25, pos := "law.go:28", after := #[{ on := 86, ground := Ground.guard }], guard := some (86, true) }, { dst := some 155, op := Op.move (Operand.tmp 3), type := 22, pos := "law.go:28", after := #[{ on := 86, ground := Ground.guard }], guard := some (86, true) }, { dst := some 156, op := Op.call { callee := Callee.value (Operand.func 25), args := #[Operand.tmp 154, Operand.tmp 155], argTypes := #[25, 22] }, type := 22, pos := "law.go:28", after := #[{ on := 87, ground := Ground.data }, { on := 88, ground := Ground.data }, { on := 86, ground := Ground.chain }, { on := 86, ground := Ground.guard }], guard := some (86, true) }, { dst := some 157, op := Op.convert 22 9 (Operand.tmp 156), type := 9, pos := "law.go:28", after := #[{ on := 89, ground := Ground.data }, { on := 86, ground := Ground.guard }], guard := some (86, true) }, { dst := some 158, op := Op.move (Operand.tmp 1), type := 22, pos := "law.go:28", after := #[{ on := 86, ground := Ground.guard }], guard := some (86, true) }, { dst := some 159, op := Op.convert 22 9 (Operand.tmp 158), type := 9, pos := "law.go:28", after := #[{ on := 91, ground := Ground.data }, { on := 86, ground := Ground.guard }], guard := some (86, true) }, { dst := some 160, op := Op.binOp BinOp.eql 9 (Operand.tmp 157) (Operand.tmp 159) 9, type := 4, pos := "law.go:28", after := #[{ on := 90, ground := Ground.data }, { on := 92, ground := Ground.data }, { on := 86, ground := Ground.guard }], guard := some (86, true) }, { dst := some 161, op := Op.pick (Operand.tmp 153) (Operand.tmp 160) (Operand.const (Value.bool false)), type := 4, pos := "law.go:28", after := #[{ on := 86, ground := Ground.data }, { on := 93, ground := Ground.data }], guard := none }, { dst := some 0, op := Op.assign (Operand.tmp 161), type := 4, pos := "law.go:28", after := ([{ on := 94, ground := Ground.data }, { on := 89, ground := Ground.chain }, { on := 0, ground := Ground.phase }, { on := 1, ground := Ground.phase }, { on := 2, ground := Ground.phase }, { on := 3, ground := Ground.phase }, { on := 4, ground := Ground.phase }, { on := 5, ground := Ground.phase }, { on := 6, ground := Ground.phase }, { on := 7, ground := Ground.phase }, { on := 8, ground := Ground.phase }, { on := 9, ground := Ground.phase }, { on := 10, ground := Ground.phase }, { on := 11, ground := Ground.phase }, { on := 12, ground := Ground.phase }, { on := 13, ground := Ground.phase }, { on := 14, ground := Ground.phase }, { on := 15, ground := Ground.phase }, { on := 16, ground := Ground.phase }, { on := 17, ground := Ground.phase }, { on := 18, ground := Ground.phase }, { on := 19, ground := Ground.phase }, { on := 20, ground := Ground.phase }, { on := 21, ground := Ground.phase }, { on := 22, ground := Ground.phase }, { on := 23, ground := Ground.phase }, { on := 24, ground := Ground.phase }, { on := 25, ground := Ground.phase }, { on := 26, ground := Ground.phase }, { on := 27, ground := Ground.phase }, { on := 28, ground := Ground.phase }, { on := 29, ground := Ground.phase }, { on := 30, ground := Ground.phase }, { on := 31, ground := Ground.phase }, { on := 32, ground := Ground.phase }, { on := 33, ground := Ground.phase }, { on := 34, ground := Ground.phase }, { on := 35, ground := Ground.phase }, { on := 36, ground := Ground.phase }, { on := 37, ground := Ground.phase }, { on := 38, ground := Ground.phase }, { on := 39, ground := Ground.phase }, { on := 40, ground := Ground.phase }, { on := 41, ground := Ground.phase }, { on := 42, ground := Ground.phase }, { on := 43, ground := Ground.phase }, { on := 44, ground := Ground.phase }, { on := 45, ground := Ground.phase }].append [{ on := 46, ground := Ground.phase }, { on := 47, ground := Ground.phase }, { on := 48, ground := Ground.phase }, { on := 49, ground := Ground.phase }, { on := 50, ground := Ground.phase }, { on := 51, ground := Ground.phase }, { on := 52, ground := Ground.phase }, { on := 53, ground := Ground.phase }, { on := 54, ground := Ground.phase }, { on := 55, ground := Ground.phase }, { on := 56, ground := Ground.phase }, { on := 57, ground := Ground.phase }, { on := 58, ground := Ground.phase }, { on := 59, ground := Ground.phase }, { on := 60, ground := Ground.phase }, { on := 61, ground := Ground.phase }, { on := 62, ground := Ground.phase }, { on := 63, ground := Ground.phase }, { on := 64, ground := Ground.phase }, { on := 65, ground := Ground.phase }, { on := 66, ground := Ground.phase }, { on := 67, ground := Ground.phase }, { on := 68, ground := Ground.phase }, { on := 69, ground := Ground.phase }, { on := 70, ground := Ground.phase }, { on := 71, ground := Ground.phase }, { on := 72, ground := Ground.phase }, { on := 73, ground := Ground.phase }, { on := 74, ground := Ground.phase }, { on := 75, ground := Ground.phase }, { on := 76, ground := Ground.phase }, { on := 77, ground := Ground.phase }, { on := 78, ground := Ground.phase }, { on := 79, ground := Ground.phase }, { on := 80, ground := Ground.phase }, { on := 81, ground := Ground.phase }, { on := 82, ground := Ground.phase }, { on := 83, ground := Ground.phase }, { on := 84, ground := Ground.phase }, { on := 85, ground := Ground.phase }, { on := 86, ground := Ground.phase }, { on := 87, ground := Ground.phase }, { on := 88, ground := Ground.phase }, { on := 89, ground := Ground.phase }, { on := 90, ground := Ground.phase }, { on := 91, ground := Ground.phase }, { on := 92, ground := Ground.phase }, { on := 93, ground := Ground.phase }, { on := 94, ground := Ground.phase }]).toArray, guard := none }]
theorem al11_nosel : Region.noSelect al11 = true := by kernel_rfl
def al11_l0 : Array Bool := Array.replicate 96 false
theorem al11_g0 : al11[0]? = some { dst := some 67, op := Op.move (Operand.tmp 4), type := 26, pos := "law.go:28", after := #[], guard := none } := by kernel_rfl
theorem al11_f0 : Region.free .any al11 al11_l0 0 = true := by kernel_rfl
theorem al11_r0 : (Region.ready .any al11 al11_l0).contains 0 = true := by kernel_rfl
def al11_l1 : Array Bool := al11_l0.setIfInBounds 0 true
theorem al11_g1 : al11[1]? = some { dst := some 68, op := Op.binOp BinOp.eql 26 (Operand.tmp 67) (Operand.const (Value.int IntKind.i64 0)) 26, type := 4, pos := "law.go:28", after := #[{ on := 0, ground := Ground.data }], guard := none } := by kernel_rfl
theorem al11_f1 : Region.free .any al11 al11_l1 1 = true := by kernel_rfl
theorem al11_r1 : (Region.ready .any al11 al11_l1).contains 1 = true := by kernel_rfl
def al11_l2 : Array Bool := al11_l1.setIfInBounds 1 true
theorem al11_g2 : al11[2]? = some { dst := some 69, op := Op.move (Operand.tmp 68), type := 4, pos := "law.go:28", after := #[{ on := 1, ground := Ground.data }], guard := none } := by kernel_rfl
theorem al11_f2 : Region.free .any al11 al11_l2 2 = true := by kernel_rfl
theorem al11_r2 : (Region.ready .any al11 al11_l2).contains 2 = true := by kernel_rfl
def al11_l3 : Array Bool := al11_l2.setIfInBounds 2 true
theorem al11_g3 : al11[3]? = some { dst := some 70, op := Op.fieldAddr 25 (Operand.tmp 2) 0, type := 0, pos := "law.go:28", after := #[{ on := 2, ground := Ground.guard }], guard := some (2, true) } := by kernel_rfl
theorem al11_f3 : Region.free .any al11 al11_l3 3 = true := by kernel_rfl
theorem al11_r3 : (Region.ready .any al11 al11_l3).contains 3 = true := by kernel_rfl
def al11_l4 : Array Bool := al11_l3.setIfInBounds 3 true
theorem al11_g4 : al11[4]? = some { dst := some 71, op := Op.load 5 (Operand.tmp 70), type := 5, pos := "law.go:28", after := #[{ on := 3, ground := Ground.data }, { on := 2, ground := Ground.guard }], guard := some (2, true) } := by kernel_rfl
theorem al11_f4 : Region.free .any al11 al11_l4 4 = true := by kernel_rfl
theorem al11_r4 : (Region.ready .any al11 al11_l4).contains 4 = true := by kernel_rfl
def al11_l5 : Array Bool := al11_l4.setIfInBounds 4 true
theorem al11_g5 : al11[5]? = some { dst := some 72, op := Op.binOp BinOp.eql 5 (Operand.tmp 71) (Operand.const (Value.int IntKind.u8 0)) 5, type := 4, pos := "law.go:28", after := #[{ on := 4, ground := Ground.data }, { on := 2, ground := Ground.guard }], guard := some (2, true) } := by kernel_rfl
theorem al11_f5 : Region.free .any al11 al11_l5 5 = true := by kernel_rfl
theorem al11_r5 : (Region.ready .any al11 al11_l5).contains 5 = true := by kernel_rfl
def al11_l6 : Array Bool := al11_l5.setIfInBounds 5 true
theorem al11_g6 : al11[6]? = some { dst := some 73, op := Op.pick (Operand.tmp 69) (Operand.tmp 72) (Operand.const (Value.bool false)), type := 4, pos := "law.go:28", after := #[{ on := 2, ground := Ground.data }, { on := 5, ground := Ground.data }], guard := none } := by kernel_rfl
theorem al11_f6 : Region.free .any al11 al11_l6 6 = true := by kernel_rfl
theorem al11_r6 : (Region.ready .any al11 al11_l6).contains 6 = true := by kernel_rfl
def al11_l7 : Array Bool := al11_l6.setIfInBounds 6 true
theorem al11_g7 : al11[7]? = some { dst := some 74, op := Op.move (Operand.tmp 73), type := 4, pos := "law.go:28", after := #[{ on := 6, ground := Ground.data }, { on := 2, ground := Ground.chain }], guard := none } := by kernel_rfl
theorem al11_f7 : Region.free .any al11 al11_l7 7 = true := by kernel_rfl
theorem al11_r7 : (Region.ready .any al11 al11_l7).contains 7 = true := by kernel_rfl
def al11_l8 : Array Bool := al11_l7.setIfInBounds 7 true
theorem al11_g8 : al11[8]? = some { dst := some 75, op := Op.fieldAddr 25 (Operand.tmp 2) 2, type := 0, pos := "law.go:28", after := #[{ on := 7, ground := Ground.guard }], guard := some (7, true) } := by kernel_rfl
theorem al11_f8 : Region.free .any al11 al11_l8 8 = true := by kernel_rfl
theorem al11_r8 : (Region.ready .any al11 al11_l8).contains 8 = true := by kernel_rfl
def al11_l9 : Array Bool := al11_l8.setIfInBounds 8 true
theorem al11_g9 : al11[9]? = some { dst := some 76, op := Op.load 5 (Operand.tmp 75), type := 5, pos := "law.go:28", after := #[{ on := 8, ground := Ground.data }, { on := 7, ground := Ground.guard }], guard := some (7, true) } := by kernel_rfl
theorem al11_f9 : Region.free .any al11 al11_l9 9 = true := by kernel_rfl
theorem al11_r9 : (Region.ready .any al11 al11_l9).contains 9 = true := by kernel_rfl
def al11_l10 : Array Bool := al11_l9.setIfInBounds 9 true
theorem al11_g10 : al11[10]? = some { dst := some 77, op := Op.binOp BinOp.eql 5 (Operand.tmp 76) (Operand.const (Value.int IntKind.u8 2)) 5, type := 4, pos := "law.go:28", after := #[{ on := 9, ground := Ground.data }, { on := 7, ground := Ground.guard }], guard := some (7, true) } := by kernel_rfl
theorem al11_f10 : Region.free .any al11 al11_l10 10 = true := by kernel_rfl
theorem al11_r10 : (Region.ready .any al11 al11_l10).contains 10 = true := by kernel_rfl
def al11_l11 : Array Bool := al11_l10.setIfInBounds 10 true
theorem al11_g11 : al11[11]? = some { dst := some 78, op := Op.pick (Operand.tmp 74) (Operand.tmp 77) (Operand.const (Value.bool false)), type := 4, pos := "law.go:28", after := #[{ on := 7, ground := Ground.data }, { on := 10, ground := Ground.data }], guard := none } := by kernel_rfl
theorem al11_f11 : Region.free .any al11 al11_l11 11 = true := by kernel_rfl
theorem al11_r11 : (Region.ready .any al11 al11_l11).contains 11 = true := by kernel_rfl
def al11_l12 : Array Bool := al11_l11.setIfInBounds 11 true
theorem al11_g12 : al11[12]? = some { dst := some 79, op := Op.move (Operand.tmp 78), type := 4, pos := "law.go:28", after := #[{ on := 11, ground := Ground.data }, { on := 7, ground := Ground.chain }], guard := none } := by kernel_rfl
theorem al11_f12 : Region.free .any al11 al11_l12 12 = true := by kernel_rfl
theorem al11_r12 : (Region.ready .any al11 al11_l12).contains 12 = true := by kernel_rfl
def al11_l13 : Array Bool := al11_l12.setIfInBounds 12 true
theorem al11_g13 : al11[13]? = some { dst := some 80, op := Op.fieldAddr 25 (Operand.tmp 2) 3, type := 0, pos := "law.go:28", after := #[{ on := 12, ground := Ground.guard }], guard := some (12, true) } := by kernel_rfl
theorem al11_f13 : Region.free .any al11 al11_l13 13 = true := by kernel_rfl
theorem al11_r13 : (Region.ready .any al11 al11_l13).contains 13 = true := by kernel_rfl
def al11_l14 : Array Bool := al11_l13.setIfInBounds 13 true
theorem al11_g14 : al11[14]? = some { dst := some 81, op := Op.load 23 (Operand.tmp 80), type := 23, pos := "law.go:28", after := #[{ on := 13, ground := Ground.data }, { on := 12, ground := Ground.guard }], guard := some (12, true) } := by kernel_rfl
theorem al11_f14 : Region.free .any al11 al11_l14 14 = true := by kernel_rfl
theorem al11_r14 : (Region.ready .any al11 al11_l14).contains 14 = true := by kernel_rfl
def al11_l15 : Array Bool := al11_l14.setIfInBounds 14 true
theorem al11_g15 : al11[15]? = some { dst := some 82, op := Op.binOp BinOp.eql 23 (Operand.tmp 81) (Operand.const (Value.int IntKind.u16 7)) 23, type := 4, pos := "law.go:28", after := #[{ on := 14, ground := Ground.data }, { on := 12, ground := Ground.guard }], guard := some (12, true) } := by kernel_rfl
theorem al11_f15 : Region.free .any al11 al11_l15 15 = true := by kernel_rfl
theorem al11_r15 : (Region.ready .any al11 al11_l15).contains 15 = true := by kernel_rfl
def al11_l16 : Array Bool := al11_l15.setIfInBounds 15 true
theorem al11_g16 : al11[16]? = some { dst := some 83, op := Op.pick (Operand.tmp 79) (Operand.tmp 82) (Operand.const (Value.bool false)), type := 4, pos := "law.go:28", after := #[{ on := 12, ground := Ground.data }, { on := 15, ground := Ground.data }], guard := none } := by kernel_rfl
theorem al11_f16 : Region.free .any al11 al11_l16 16 = true := by kernel_rfl
theorem al11_r16 : (Region.ready .any al11 al11_l16).contains 16 = true := by kernel_rfl
def al11_l17 : Array Bool := al11_l16.setIfInBounds 16 true
theorem al11_g17 : al11[17]? = some { dst := some 84, op := Op.move (Operand.tmp 83), type := 4, pos := "law.go:28", after := #[{ on := 16, ground := Ground.data }, { on := 12, ground := Ground.chain }], guard := none } := by kernel_rfl
theorem al11_f17 : Region.free .any al11 al11_l17 17 = true := by kernel_rfl
theorem al11_r17 : (Region.ready .any al11 al11_l17).contains 17 = true := by kernel_rfl
def al11_l18 : Array Bool := al11_l17.setIfInBounds 17 true
theorem al11_g18 : al11[18]? = some { dst := some 85, op := Op.move (Operand.tmp 3), type := 22, pos := "law.go:28", after := #[{ on := 17, ground := Ground.guard }], guard := some (17, true) } := by kernel_rfl
theorem al11_f18 : Region.free .any al11 al11_l18 18 = true := by kernel_rfl
theorem al11_r18 : (Region.ready .any al11 al11_l18).contains 18 = true := by kernel_rfl
def al11_l19 : Array Bool := al11_l18.setIfInBounds 18 true
theorem al11_g19 : al11[19]? = some { dst := some 86, op := Op.convert 22 9 (Operand.tmp 85), type := 9, pos := "law.go:28", after := #[{ on := 18, ground := Ground.data }, { on := 17, ground := Ground.guard }], guard := some (17, true) } := by kernel_rfl
theorem al11_f19 : Region.free .any al11 al11_l19 19 = true := by kernel_rfl
theorem al11_r19 : (Region.ready .any al11 al11_l19).contains 19 = true := by kernel_rfl
def al11_l20 : Array Bool := al11_l19.setIfInBounds 19 true
theorem al11_g20 : al11[20]? = some { dst := some 87, op := Op.binOp BinOp.eql 9 (Operand.tmp 86) (Operand.const (Value.string { data := #[241] })) 9, type := 4, pos := "law.go:28", after := #[{ on := 19, ground := Ground.data }, { on := 17, ground := Ground.guard }], guard := some (17, true) } := by kernel_rfl
theorem al11_f20 : Region.free .any al11 al11_l20 20 = true := by kernel_rfl
theorem al11_r20 : (Region.ready .any al11 al11_l20).contains 20 = true := by kernel_rfl
def al11_l21 : Array Bool := al11_l20.setIfInBounds 20 true
theorem al11_g21 : al11[21]? = some { dst := some 88, op := Op.pick (Operand.tmp 84) (Operand.tmp 87) (Operand.const (Value.bool false)), type := 4, pos := "law.go:28", after := #[{ on := 17, ground := Ground.data }, { on := 20, ground := Ground.data }], guard := none } := by kernel_rfl
theorem al11_f21 : Region.free .any al11 al11_l21 21 = true := by kernel_rfl
theorem al11_r21 : (Region.ready .any al11 al11_l21).contains 21 = true := by kernel_rfl
def al11_l22 : Array Bool := al11_l21.setIfInBounds 21 true
theorem al11_g22 : al11[22]? = some { dst := some 89, op := Op.move (Operand.tmp 88), type := 4, pos := "law.go:28", after := #[{ on := 21, ground := Ground.data }, { on := 17, ground := Ground.chain }], guard := none } := by kernel_rfl
theorem al11_f22 : Region.free .any al11 al11_l22 22 = true := by kernel_rfl
theorem al11_r22 : (Region.ready .any al11 al11_l22).contains 22 = true := by kernel_rfl
def al11_l23 : Array Bool := al11_l22.setIfInBounds 22 true
theorem al11_g23 : al11[23]? = some { dst := some 90, op := Op.move (Operand.tmp 5), type := 22, pos := "law.go:28", after := #[{ on := 22, ground := Ground.guard }], guard := some (22, true) } := by kernel_rfl
theorem al11_f23 : Region.free .any al11 al11_l23 23 = true := by kernel_rfl
theorem al11_r23 : (Region.ready .any al11 al11_l23).contains 23 = true := by kernel_rfl
def al11_l24 : Array Bool := al11_l23.setIfInBounds 23 true
theorem al11_g24 : al11[24]? = some { dst := some 91, op := Op.convert 22 9 (Operand.tmp 90), type := 9, pos := "law.go:28", after := #[{ on := 23, ground := Ground.data }, { on := 22, ground := Ground.guard }], guard := some (22, true) } := by kernel_rfl
theorem al11_f24 : Region.free .any al11 al11_l24 24 = true := by kernel_rfl
theorem al11_r24 : (Region.ready .any al11 al11_l24).contains 24 = true := by kernel_rfl
def al11_l25 : Array Bool := al11_l24.setIfInBounds 24 true
theorem al11_g25 : al11[25]? = some { dst := some 92, op := Op.binOp BinOp.eql 9 (Operand.tmp 91) (Operand.const (Value.string { data := #[2, 0, 0, 0, 7, 0] })) 9, type := 4, pos := "law.go:28", after := #[{ on := 24, ground := Ground.data }, { on := 22, ground := Ground.guard }], guard := some (22, true) } := by kernel_rfl
theorem al11_f25 : Region.free .any al11 al11_l25 25 = true := by kernel_rfl
theorem al11_r25 : (Region.ready .any al11 al11_l25).contains 25 = true := by kernel_rfl
def al11_l26 : Array Bool := al11_l25.setIfInBounds 25 true
theorem al11_g26 : al11[26]? = some { dst := some 93, op := Op.pick (Operand.tmp 89) (Operand.tmp 92) (Operand.const (Value.bool false)), type := 4, pos := "law.go:28", after := #[{ on := 22, ground := Ground.data }, { on := 25, ground := Ground.data }], guard := none } := by kernel_rfl
theorem al11_f26 : Region.free .any al11 al11_l26 26 = true := by kernel_rfl
theorem al11_r26 : (Region.ready .any al11 al11_l26).contains 26 = true := by kernel_rfl
def al11_l27 : Array Bool := al11_l26.setIfInBounds 26 true
theorem al11_g27 : al11[27]? = some { dst := some 94, op := Op.move (Operand.tmp 93), type := 4, pos := "law.go:28", after := #[{ on := 26, ground := Ground.data }, { on := 22, ground := Ground.chain }], guard := none } := by kernel_rfl
theorem al11_f27 : Region.free .any al11 al11_l27 27 = true := by kernel_rfl
theorem al11_r27 : (Region.ready .any al11 al11_l27).contains 27 = true := by kernel_rfl
def al11_l28 : Array Bool := al11_l27.setIfInBounds 27 true
theorem al11_g28 : al11[28]? = some { dst := some 95, op := Op.move (Operand.tmp 6), type := 4, pos := "law.go:28", after := #[{ on := 27, ground := Ground.guard }], guard := some (27, true) } := by kernel_rfl
theorem al11_f28 : Region.free .any al11 al11_l28 28 = true := by kernel_rfl
theorem al11_r28 : (Region.ready .any al11 al11_l28).contains 28 = true := by kernel_rfl
def al11_l29 : Array Bool := al11_l28.setIfInBounds 28 true
theorem al11_g29 : al11[29]? = some { dst := some 96, op := Op.pick (Operand.tmp 94) (Operand.tmp 95) (Operand.const (Value.bool false)), type := 4, pos := "law.go:28", after := #[{ on := 27, ground := Ground.data }, { on := 28, ground := Ground.data }], guard := none } := by kernel_rfl
theorem al11_f29 : Region.free .any al11 al11_l29 29 = true := by kernel_rfl
theorem al11_r29 : (Region.ready .any al11 al11_l29).contains 29 = true := by kernel_rfl
def al11_l30 : Array Bool := al11_l29.setIfInBounds 29 true
theorem al11_g30 : al11[30]? = some { dst := some 97, op := Op.move (Operand.tmp 96), type := 4, pos := "law.go:28", after := #[{ on := 29, ground := Ground.data }, { on := 27, ground := Ground.chain }], guard := none } := by kernel_rfl
theorem al11_f30 : Region.free .any al11 al11_l30 30 = true := by kernel_rfl
theorem al11_r30 : (Region.ready .any al11 al11_l30).contains 30 = true := by kernel_rfl
def al11_l31 : Array Bool := al11_l30.setIfInBounds 30 true
theorem al11_g31 : al11[31]? = some { dst := some 98, op := Op.move (Operand.tmp 7), type := 22, pos := "law.go:28", after := #[{ on := 30, ground := Ground.guard }], guard := some (30, true) } := by kernel_rfl
theorem al11_f31 : Region.free .any al11 al11_l31 31 = true := by kernel_rfl
theorem al11_r31 : (Region.ready .any al11 al11_l31).contains 31 = true := by kernel_rfl
def al11_l32 : Array Bool := al11_l31.setIfInBounds 31 true
theorem al11_g32 : al11[32]? = some { dst := some 99, op := Op.convert 22 9 (Operand.tmp 98), type := 9, pos := "law.go:28", after := #[{ on := 31, ground := Ground.data }, { on := 30, ground := Ground.guard }], guard := some (30, true) } := by kernel_rfl
theorem al11_f32 : Region.free .any al11 al11_l32 32 = true := by kernel_rfl
theorem al11_r32 : (Region.ready .any al11 al11_l32).contains 32 = true := by kernel_rfl
def al11_l33 : Array Bool := al11_l32.setIfInBounds 32 true
theorem al11_g33 : al11[33]? = some { dst := some 100, op := Op.binOp BinOp.eql 9 (Operand.tmp 99) (Operand.const (Value.string { data := #[2, 0, 1, 0, 7, 0] })) 9, type := 4, pos := "law.go:28", after := #[{ on := 32, ground := Ground.data }, { on := 30, ground := Ground.guard }], guard := some (30, true) } := by kernel_rfl
theorem al11_f33 : Region.free .any al11 al11_l33 33 = true := by kernel_rfl
theorem al11_r33 : (Region.ready .any al11 al11_l33).contains 33 = true := by kernel_rfl
def al11_l34 : Array Bool := al11_l33.setIfInBounds 33 true
theorem al11_g34 : al11[34]? = some { dst := some 101, op := Op.pick (Operand.tmp 97) (Operand.tmp 100) (Operand.const (Value.bool false)), type := 4, pos := "law.go:28", after := #[{ on := 30, ground := Ground.data }, { on := 33, ground := Ground.data }], guard := none } := by kernel_rfl
theorem al11_f34 : Region.free .any al11 al11_l34 34 = true := by kernel_rfl
theorem al11_r34 : (Region.ready .any al11 al11_l34).contains 34 = true := by kernel_rfl
def al11_l35 : Array Bool := al11_l34.setIfInBounds 34 true
theorem al11_g35 : al11[35]? = some { dst := some 102, op := Op.move (Operand.tmp 101), type := 4, pos := "law.go:28", after := #[{ on := 34, ground := Ground.data }, { on := 30, ground := Ground.chain }], guard := none } := by kernel_rfl
theorem al11_f35 : Region.free .any al11 al11_l35 35 = true := by kernel_rfl
theorem al11_r35 : (Region.ready .any al11 al11_l35).contains 35 = true := by kernel_rfl
def al11_l36 : Array Bool := al11_l35.setIfInBounds 35 true
theorem al11_g36 : al11[36]? = some { dst := some 103, op := Op.move (Operand.tmp 8), type := 4, pos := "law.go:28", after := #[{ on := 35, ground := Ground.guard }], guard := some (35, true) } := by kernel_rfl
theorem al11_f36 : Region.free .any al11 al11_l36 36 = true := by kernel_rfl
theorem al11_r36 : (Region.ready .any al11 al11_l36).contains 36 = true := by kernel_rfl
def al11_l37 : Array Bool := al11_l36.setIfInBounds 36 true
theorem al11_g37 : al11[37]? = some { dst := some 104, op := Op.pick (Operand.tmp 102) (Operand.tmp 103) (Operand.const (Value.bool false)), type := 4, pos := "law.go:28", after := #[{ on := 35, ground := Ground.data }, { on := 36, ground := Ground.data }], guard := none } := by kernel_rfl
theorem al11_f37 : Region.free .any al11 al11_l37 37 = true := by kernel_rfl
theorem al11_r37 : (Region.ready .any al11 al11_l37).contains 37 = true := by kernel_rfl
def al11_l38 : Array Bool := al11_l37.setIfInBounds 37 true
theorem al11_g38 : al11[38]? = some { dst := some 105, op := Op.move (Operand.tmp 104), type := 4, pos := "law.go:28", after := #[{ on := 37, ground := Ground.data }, { on := 35, ground := Ground.chain }], guard := none } := by kernel_rfl
theorem al11_f38 : Region.free .any al11 al11_l38 38 = true := by kernel_rfl
theorem al11_r38 : (Region.ready .any al11 al11_l38).contains 38 = true := by kernel_rfl
def al11_l39 : Array Bool := al11_l38.setIfInBounds 38 true
theorem al11_g39 : al11[39]? = some { dst := some 106, op := Op.move (Operand.tmp 10), type := 4, pos := "law.go:28", after := #[{ on := 38, ground := Ground.guard }], guard := some (38, true) } := by kernel_rfl
theorem al11_f39 : Region.free .any al11 al11_l39 39 = true := by kernel_rfl
theorem al11_r39 : (Region.ready .any al11 al11_l39).contains 39 = true := by kernel_rfl
def al11_l40 : Array Bool := al11_l39.setIfInBounds 39 true
theorem al11_g40 : al11[40]? = some { dst := some 107, op := Op.unOp UnOp.not 4 (Operand.tmp 106), type := 4, pos := "law.go:28", after := #[{ on := 39, ground := Ground.data }, { on := 38, ground := Ground.guard }], guard := some (38, true) } := by kernel_rfl
theorem al11_f40 : Region.free .any al11 al11_l40 40 = true := by kernel_rfl
theorem al11_r40 : (Region.ready .any al11 al11_l40).contains 40 = true := by kernel_rfl
def al11_l41 : Array Bool := al11_l40.setIfInBounds 40 true
theorem al11_g41 : al11[41]? = some { dst := some 108, op := Op.pick (Operand.tmp 105) (Operand.tmp 107) (Operand.const (Value.bool false)), type := 4, pos := "law.go:28", after := #[{ on := 38, ground := Ground.data }, { on := 40, ground := Ground.data }], guard := none } := by kernel_rfl
theorem al11_f41 : Region.free .any al11 al11_l41 41 = true := by kernel_rfl
theorem al11_r41 : (Region.ready .any al11 al11_l41).contains 41 = true := by kernel_rfl
def al11_l42 : Array Bool := al11_l41.setIfInBounds 41 true
theorem al11_g42 : al11[42]? = some { dst := some 109, op := Op.move (Operand.tmp 108), type := 4, pos := "law.go:28", after := #[{ on := 41, ground := Ground.data }, { on := 38, ground := Ground.chain }], guard := none } := by kernel_rfl
theorem al11_f42 : Region.free .any al11 al11_l42 42 = true := by kernel_rfl
theorem al11_r42 : (Region.ready .any al11 al11_l42).contains 42 = true := by kernel_rfl
def al11_l43 : Array Bool := al11_l42.setIfInBounds 42 true
theorem al11_g43 : al11[43]? = some { dst := some 110, op := Op.move (Operand.tmp 13), type := 26, pos := "law.go:28", after := #[{ on := 42, ground := Ground.guard }], guard := some (42, true) } := by kernel_rfl
theorem al11_f43 : Region.free .any al11 al11_l43 43 = true := by kernel_rfl
theorem al11_r43 : (Region.ready .any al11 al11_l43).contains 43 = true := by kernel_rfl
def al11_l44 : Array Bool := al11_l43.setIfInBounds 43 true
theorem al11_g44 : al11[44]? = some { dst := some 111, op := Op.binOp BinOp.eql 26 (Operand.tmp 110) (Operand.const (Value.int IntKind.i64 20)) 26, type := 4, pos := "law.go:28", after := #[{ on := 43, ground := Ground.data }, { on := 42, ground := Ground.guard }], guard := some (42, true) } := by kernel_rfl
theorem al11_f44 : Region.free .any al11 al11_l44 44 = true := by kernel_rfl
theorem al11_r44 : (Region.ready .any al11 al11_l44).contains 44 = true := by kernel_rfl
def al11_l45 : Array Bool := al11_l44.setIfInBounds 44 true
theorem al11_g45 : al11[45]? = some { dst := some 112, op := Op.pick (Operand.tmp 109) (Operand.tmp 111) (Operand.const (Value.bool false)), type := 4, pos := "law.go:28", after := #[{ on := 42, ground := Ground.data }, { on := 44, ground := Ground.data }], guard := none } := by kernel_rfl
theorem al11_f45 : Region.free .any al11 al11_l45 45 = true := by kernel_rfl
theorem al11_r45 : (Region.ready .any al11 al11_l45).contains 45 = true := by kernel_rfl
def al11_l46 : Array Bool := al11_l45.setIfInBounds 45 true
theorem al11_g46 : al11[46]? = some { dst := some 113, op := Op.move (Operand.tmp 112), type := 4, pos := "law.go:28", after := #[{ on := 45, ground := Ground.data }, { on := 42, ground := Ground.chain }], guard := none } := by kernel_rfl
theorem al11_f46 : Region.free .any al11 al11_l46 46 = true := by kernel_rfl
theorem al11_r46 : (Region.ready .any al11 al11_l46).contains 46 = true := by kernel_rfl
def al11_l47 : Array Bool := al11_l46.setIfInBounds 46 true
theorem al11_g47 : al11[47]? = some { dst := some 114, op := Op.move (Operand.tmp 17), type := 5, pos := "law.go:28", after := #[{ on := 46, ground := Ground.guard }], guard := some (46, true) } := by kernel_rfl
theorem al11_f47 : Region.free .any al11 al11_l47 47 = true := by kernel_rfl
theorem al11_r47 : (Region.ready .any al11 al11_l47).contains 47 = true := by kernel_rfl
def al11_l48 : Array Bool := al11_l47.setIfInBounds 47 true
theorem al11_g48 : al11[48]? = some { dst := some 115, op := Op.binOp BinOp.eql 5 (Operand.tmp 114) (Operand.const (Value.int IntKind.u8 0)) 5, type := 4, pos := "law.go:28", after := #[{ on := 47, ground := Ground.data }, { on := 46, ground := Ground.guard }], guard := some (46, true) } := by kernel_rfl
theorem al11_f48 : Region.free .any al11 al11_l48 48 = true := by kernel_rfl
theorem al11_r48 : (Region.ready .any al11 al11_l48).contains 48 = true := by kernel_rfl
def al11_l49 : Array Bool := al11_l48.setIfInBounds 48 true
theorem al11_g49 : al11[49]? = some { dst := some 116, op := Op.pick (Operand.tmp 113) (Operand.tmp 115) (Operand.const (Value.bool false)), type := 4, pos := "law.go:28", after := #[{ on := 46, ground := Ground.data }, { on := 48, ground := Ground.data }], guard := none } := by kernel_rfl
theorem al11_f49 : Region.free .any al11 al11_l49 49 = true := by kernel_rfl
theorem al11_r49 : (Region.ready .any al11 al11_l49).contains 49 = true := by kernel_rfl
def al11_l50 : Array Bool := al11_l49.setIfInBounds 49 true
theorem al11_g50 : al11[50]? = some { dst := some 117, op := Op.move (Operand.tmp 116), type := 4, pos := "law.go:28", after := #[{ on := 49, ground := Ground.data }, { on := 46, ground := Ground.chain }], guard := none } := by kernel_rfl
theorem al11_f50 : Region.free .any al11 al11_l50 50 = true := by kernel_rfl
theorem al11_r50 : (Region.ready .any al11 al11_l50).contains 50 = true := by kernel_rfl
def al11_l51 : Array Bool := al11_l50.setIfInBounds 50 true
theorem al11_g51 : al11[51]? = some { dst := some 118, op := Op.move (Operand.tmp 18), type := 4, pos := "law.go:28", after := #[{ on := 50, ground := Ground.guard }], guard := some (50, true) } := by kernel_rfl
theorem al11_f51 : Region.free .any al11 al11_l51 51 = true := by kernel_rfl
theorem al11_r51 : (Region.ready .any al11 al11_l51).contains 51 = true := by kernel_rfl
def al11_l52 : Array Bool := al11_l51.setIfInBounds 51 true
theorem al11_g52 : al11[52]? = some { dst := some 119, op := Op.unOp UnOp.not 4 (Operand.tmp 118), type := 4, pos := "law.go:28", after := #[{ on := 51, ground := Ground.data }, { on := 50, ground := Ground.guard }], guard := some (50, true) } := by kernel_rfl
theorem al11_f52 : Region.free .any al11 al11_l52 52 = true := by kernel_rfl
theorem al11_r52 : (Region.ready .any al11 al11_l52).contains 52 = true := by kernel_rfl
def al11_l53 : Array Bool := al11_l52.setIfInBounds 52 true
theorem al11_g53 : al11[53]? = some { dst := some 120, op := Op.pick (Operand.tmp 117) (Operand.tmp 119) (Operand.const (Value.bool false)), type := 4, pos := "law.go:28", after := #[{ on := 50, ground := Ground.data }, { on := 52, ground := Ground.data }], guard := none } := by kernel_rfl
theorem al11_f53 : Region.free .any al11 al11_l53 53 = true := by kernel_rfl
theorem al11_r53 : (Region.ready .any al11 al11_l53).contains 53 = true := by kernel_rfl
def al11_l54 : Array Bool := al11_l53.setIfInBounds 53 true
theorem al11_g54 : al11[54]? = some { dst := some 121, op := Op.move (Operand.tmp 120), type := 4, pos := "law.go:28", after := #[{ on := 53, ground := Ground.data }, { on := 50, ground := Ground.chain }], guard := none } := by kernel_rfl
theorem al11_f54 : Region.free .any al11 al11_l54 54 = true := by kernel_rfl
theorem al11_r54 : (Region.ready .any al11 al11_l54).contains 54 = true := by kernel_rfl
def al11_l55 : Array Bool := al11_l54.setIfInBounds 54 true
theorem al11_g55 : al11[55]? = some { dst := some 122, op := Op.move (Operand.tmp 19), type := 4, pos := "law.go:28", after := #[{ on := 54, ground := Ground.guard }], guard := some (54, true) } := by kernel_rfl
theorem al11_f55 : Region.free .any al11 al11_l55 55 = true := by kernel_rfl
theorem al11_r55 : (Region.ready .any al11 al11_l55).contains 55 = true := by kernel_rfl
def al11_l56 : Array Bool := al11_l55.setIfInBounds 55 true
theorem al11_g56 : al11[56]? = some { dst := some 123, op := Op.pick (Operand.tmp 121) (Operand.tmp 122) (Operand.const (Value.bool false)), type := 4, pos := "law.go:28", after := #[{ on := 54, ground := Ground.data }, { on := 55, ground := Ground.data }], guard := none } := by kernel_rfl
theorem al11_f56 : Region.free .any al11 al11_l56 56 = true := by kernel_rfl
theorem al11_r56 : (Region.ready .any al11 al11_l56).contains 56 = true := by kernel_rfl
def al11_l57 : Array Bool := al11_l56.setIfInBounds 56 true
theorem al11_g57 : al11[57]? = some { dst := some 124, op := Op.move (Operand.tmp 123), type := 4, pos := "law.go:28", after := #[{ on := 56, ground := Ground.data }, { on := 54, ground := Ground.chain }], guard := none } := by kernel_rfl
theorem al11_f57 : Region.free .any al11 al11_l57 57 = true := by kernel_rfl
theorem al11_r57 : (Region.ready .any al11 al11_l57).contains 57 = true := by kernel_rfl
def al11_l58 : Array Bool := al11_l57.setIfInBounds 57 true
theorem al11_g58 : al11[58]? = some { dst := some 125, op := Op.call { callee := Callee.value (Operand.func 23), args := #[Operand.const (Value.int IntKind.i64 31)], argTypes := #[26] }, type := 5, pos := "law.go:28", after := #[{ on := 57, ground := Ground.chain }, { on := 57, ground := Ground.guard }], guard := some (57, true) } := by kernel_rfl
theorem al11_r58 : Region.ready .any al11 al11_l58 = [58] := by kernel_rfl
def al11_l59 : Array Bool := al11_l58.setIfInBounds 58 true
theorem al11_g59 : al11[59]? = some { dst := some 126, op := Op.binOp BinOp.eql 5 (Operand.tmp 125) (Operand.const (Value.int IntKind.u8 2)) 5, type := 4, pos := "law.go:28", after := #[{ on := 58, ground := Ground.data }, { on := 57, ground := Ground.guard }], guard := some (57, true) } := by kernel_rfl
theorem al11_f59 : Region.free .any al11 al11_l59 59 = true := by kernel_rfl
theorem al11_r59 : (Region.ready .any al11 al11_l59).contains 59 = true := by kernel_rfl
def al11_l60 : Array Bool := al11_l59.setIfInBounds 59 true
theorem al11_g60 : al11[60]? = some { dst := some 127, op := Op.pick (Operand.tmp 124) (Operand.tmp 126) (Operand.const (Value.bool false)), type := 4, pos := "law.go:28", after := #[{ on := 57, ground := Ground.data }, { on := 59, ground := Ground.data }], guard := none } := by kernel_rfl
theorem al11_f60 : Region.free .any al11 al11_l60 60 = true := by kernel_rfl
theorem al11_r60 : (Region.ready .any al11 al11_l60).contains 60 = true := by kernel_rfl
def al11_l61 : Array Bool := al11_l60.setIfInBounds 60 true
theorem al11_g61 : al11[61]? = some { dst := some 128, op := Op.move (Operand.tmp 127), type := 4, pos := "law.go:28", after := #[{ on := 60, ground := Ground.data }, { on := 58, ground := Ground.chain }], guard := none } := by kernel_rfl
theorem al11_f61 : Region.free .any al11 al11_l61 61 = true := by kernel_rfl
theorem al11_r61 : (Region.ready .any al11 al11_l61).contains 61 = true := by kernel_rfl
def al11_l62 : Array Bool := al11_l61.setIfInBounds 61 true
theorem al11_g62 : al11[62]? = some { dst := some 129, op := Op.move (Operand.tmp 21), type := 23, pos := "law.go:28", after := #[{ on := 61, ground := Ground.guard }], guard := some (61, true) } := by kernel_rfl
theorem al11_f62 : Region.free .any al11 al11_l62 62 = true := by kernel_rfl
theorem al11_r62 : (Region.ready .any al11 al11_l62).contains 62 = true := by kernel_rfl
def al11_l63 : Array Bool := al11_l62.setIfInBounds 62 true
theorem al11_g63 : al11[63]? = some { dst := some 130, op := Op.binOp BinOp.eql 23 (Operand.tmp 129) (Operand.const (Value.int IntKind.u16 0)) 23, type := 4, pos := "law.go:28", after := #[{ on := 62, ground := Ground.data }, { on := 61, ground := Ground.guard }], guard := some (61, true) } := by kernel_rfl
theorem al11_f63 : Region.free .any al11 al11_l63 63 = true := by kernel_rfl
theorem al11_r63 : (Region.ready .any al11 al11_l63).contains 63 = true := by kernel_rfl
def al11_l64 : Array Bool := al11_l63.setIfInBounds 63 true
theorem al11_g64 : al11[64]? = some { dst := some 131, op := Op.pick (Operand.tmp 128) (Operand.tmp 130) (Operand.const (Value.bool false)), type := 4, pos := "law.go:28", after := #[{ on := 61, ground := Ground.data }, { on := 63, ground := Ground.data }], guard := none } := by kernel_rfl
theorem al11_f64 : Region.free .any al11 al11_l64 64 = true := by kernel_rfl
theorem al11_r64 : (Region.ready .any al11 al11_l64).contains 64 = true := by kernel_rfl
def al11_l65 : Array Bool := al11_l64.setIfInBounds 64 true
theorem al11_g65 : al11[65]? = some { dst := some 132, op := Op.move (Operand.tmp 131), type := 4, pos := "law.go:28", after := #[{ on := 64, ground := Ground.data }, { on := 61, ground := Ground.chain }], guard := none } := by kernel_rfl
theorem al11_f65 : Region.free .any al11 al11_l65 65 = true := by kernel_rfl
theorem al11_r65 : (Region.ready .any al11 al11_l65).contains 65 = true := by kernel_rfl
def al11_l66 : Array Bool := al11_l65.setIfInBounds 65 true
theorem al11_g66 : al11[66]? = some { dst := some 133, op := Op.move (Operand.tmp 22), type := 23, pos := "law.go:28", after := #[{ on := 65, ground := Ground.guard }], guard := some (65, true) } := by kernel_rfl
theorem al11_f66 : Region.free .any al11 al11_l66 66 = true := by kernel_rfl
theorem al11_r66 : (Region.ready .any al11 al11_l66).contains 66 = true := by kernel_rfl
def al11_l67 : Array Bool := al11_l66.setIfInBounds 66 true
theorem al11_g67 : al11[67]? = some { dst := some 134, op := Op.binOp BinOp.eql 23 (Operand.tmp 133) (Operand.const (Value.int IntKind.u16 1)) 23, type := 4, pos := "law.go:28", after := #[{ on := 66, ground := Ground.data }, { on := 65, ground := Ground.guard }], guard := some (65, true) } := by kernel_rfl
theorem al11_f67 : Region.free .any al11 al11_l67 67 = true := by kernel_rfl
theorem al11_r67 : (Region.ready .any al11 al11_l67).contains 67 = true := by kernel_rfl
def al11_l68 : Array Bool := al11_l67.setIfInBounds 67 true
theorem al11_g68 : al11[68]? = some { dst := some 135, op := Op.pick (Operand.tmp 132) (Operand.tmp 134) (Operand.const (Value.bool false)), type := 4, pos := "law.go:28", after := #[{ on := 65, ground := Ground.data }, { on := 67, ground := Ground.data }], guard := none } := by kernel_rfl
theorem al11_f68 : Region.free .any al11 al11_l68 68 = true := by kernel_rfl
theorem al11_r68 : (Region.ready .any al11 al11_l68).contains 68 = true := by kernel_rfl
def al11_l69 : Array Bool := al11_l68.setIfInBounds 68 true
theorem al11_g69 : al11[69]? = some { dst := some 136, op := Op.move (Operand.tmp 135), type := 4, pos := "law.go:28", after := #[{ on := 68, ground := Ground.data }, { on := 65, ground := Ground.chain }], guard := none } := by kernel_rfl
theorem al11_f69 : Region.free .any al11 al11_l69 69 = true := by kernel_rfl
theorem al11_r69 : (Region.ready .any al11 al11_l69).contains 69 = true := by kernel_rfl
def al11_l70 : Array Bool := al11_l69.setIfInBounds 69 true
theorem al11_g70 : al11[70]? = some { dst := some 137, op := Op.call { callee := Callee.value (Operand.func 31), args := #[Operand.tmp 20], argTypes := #[50] }, type := 3, pos := "law.go:28", after := #[{ on := 69, ground := Ground.chain }, { on := 69, ground := Ground.guard }], guard := some (69, true) } := by kernel_rfl
theorem al11_r70 : Region.ready .any al11 al11_l70 = [70] := by kernel_rfl
def al11_l71 : Array Bool := al11_l70.setIfInBounds 70 true
theorem al11_g71 : al11[71]? = some { dst := some 138, op := Op.binOp BinOp.eql 3 (Operand.tmp 137) (Operand.const (Value.int IntKind.i64 2)) 3, type := 4, pos := "law.go:28", after := #[{ on := 70, ground := Ground.data }, { on := 69, ground := Ground.guard }], guard := some (69, true) } := by kernel_rfl
theorem al11_f71 : Region.free .any al11 al11_l71 71 = true := by kernel_rfl
theorem al11_r71 : (Region.ready .any al11 al11_l71).contains 71 = true := by kernel_rfl
def al11_l72 : Array Bool := al11_l71.setIfInBounds 71 true
theorem al11_g72 : al11[72]? = some { dst := some 139, op := Op.pick (Operand.tmp 136) (Operand.tmp 138) (Operand.const (Value.bool false)), type := 4, pos := "law.go:28", after := #[{ on := 69, ground := Ground.data }, { on := 71, ground := Ground.data }], guard := none } := by kernel_rfl
theorem al11_f72 : Region.free .any al11 al11_l72 72 = true := by kernel_rfl
theorem al11_r72 : (Region.ready .any al11 al11_l72).contains 72 = true := by kernel_rfl
def al11_l73 : Array Bool := al11_l72.setIfInBounds 72 true
theorem al11_g73 : al11[73]? = some { dst := some 140, op := Op.move (Operand.tmp 139), type := 4, pos := "law.go:28", after := #[{ on := 72, ground := Ground.data }, { on := 70, ground := Ground.chain }], guard := none } := by kernel_rfl
theorem al11_f73 : Region.free .any al11 al11_l73 73 = true := by kernel_rfl
theorem al11_r73 : (Region.ready .any al11 al11_l73).contains 73 = true := by kernel_rfl
def al11_l74 : Array Bool := al11_l73.setIfInBounds 73 true
theorem al11_g74 : al11[74]? = some { dst := some 141, op := Op.call { callee := Callee.value (Operand.func 29), args := #[Operand.tmp 20, Operand.const (Value.int IntKind.u16 0)], argTypes := #[50, 23] }, type := 4, pos := "law.go:28", after := #[{ on := 73, ground := Ground.chain }, { on := 73, ground := Ground.guard }], guard := some (73, true) } := by kernel_rfl
theorem al11_r74 : Region.ready .any al11 al11_l74 = [74] := by kernel_rfl
def al11_l75 : Array Bool := al11_l74.setIfInBounds 74 true
theorem al11_g75 : al11[75]? = some { dst := some 142, op := Op.pick (Operand.tmp 140) (Operand.tmp 141) (Operand.const (Value.bool false)), type := 4, pos := "law.go:28", after := #[{ on := 73, ground := Ground.data }, { on := 74, ground := Ground.data }], guard := none } := by kernel_rfl
theorem al11_f75 : Region.free .any al11 al11_l75 75 = true := by kernel_rfl
theorem al11_r75 : (Region.ready .any al11 al11_l75).contains 75 = true := by kernel_rfl
def al11_l76 : Array Bool := al11_l75.setIfInBounds 75 true
theorem al11_g76 : al11[76]? = some { dst := some 143, op := Op.move (Operand.tmp 142), type := 4, pos := "law.go:28", after := #[{ on := 75, ground := Ground.data }, { on := 74, ground := Ground.chain }], guard := none } := by kernel_rfl
theorem al11_f76 : Region.free .any al11 al11_l76 76 = true := by kernel_rfl
theorem al11_r76 : (Region.ready .any al11 al11_l76).contains 76 = true := by kernel_rfl
def al11_l77 : Array Bool := al11_l76.setIfInBounds 76 true
theorem al11_g77 : al11[77]? = some { dst := some 144, op := Op.call { callee := Callee.value (Operand.func 29), args := #[Operand.tmp 20, Operand.const (Value.int IntKind.u16 0)], argTypes := #[50, 23] }, type := 4, pos := "law.go:28", after := #[{ on := 76, ground := Ground.chain }, { on := 76, ground := Ground.guard }], guard := some (76, true) } := by kernel_rfl
theorem al11_r77 : Region.ready .any al11 al11_l77 = [77] := by kernel_rfl
def al11_l78 : Array Bool := al11_l77.setIfInBounds 77 true
theorem al11_g78 : al11[78]? = some { dst := some 145, op := Op.unOp UnOp.not 4 (Operand.tmp 144), type := 4, pos := "law.go:28", after := #[{ on := 77, ground := Ground.data }, { on := 76, ground := Ground.guard }], guard := some (76, true) } := by kernel_rfl
theorem al11_f78 : Region.free .any al11 al11_l78 78 = true := by kernel_rfl
theorem al11_r78 : (Region.ready .any al11 al11_l78).contains 78 = true := by kernel_rfl
def al11_l79 : Array Bool := al11_l78.setIfInBounds 78 true
theorem al11_g79 : al11[79]? = some { dst := some 146, op := Op.pick (Operand.tmp 143) (Operand.tmp 145) (Operand.const (Value.bool false)), type := 4, pos := "law.go:28", after := #[{ on := 76, ground := Ground.data }, { on := 78, ground := Ground.data }], guard := none } := by kernel_rfl
theorem al11_f79 : Region.free .any al11 al11_l79 79 = true := by kernel_rfl
theorem al11_r79 : (Region.ready .any al11 al11_l79).contains 79 = true := by kernel_rfl
def al11_l80 : Array Bool := al11_l79.setIfInBounds 79 true
theorem al11_g80 : al11[80]? = some { dst := some 147, op := Op.move (Operand.tmp 146), type := 4, pos := "law.go:28", after := #[{ on := 79, ground := Ground.data }, { on := 77, ground := Ground.chain }], guard := none } := by kernel_rfl
theorem al11_f80 : Region.free .any al11 al11_l80 80 = true := by kernel_rfl
theorem al11_r80 : (Region.ready .any al11 al11_l80).contains 80 = true := by kernel_rfl
def al11_l81 : Array Bool := al11_l80.setIfInBounds 80 true
theorem al11_g81 : al11[81]? = some { dst := some 148, op := Op.call { callee := Callee.value (Operand.func 31), args := #[Operand.tmp 20], argTypes := #[50] }, type := 3, pos := "law.go:28", after := #[{ on := 80, ground := Ground.chain }, { on := 80, ground := Ground.guard }], guard := some (80, true) } := by kernel_rfl
theorem al11_r81 : Region.ready .any al11 al11_l81 = [81] := by kernel_rfl
def al11_l82 : Array Bool := al11_l81.setIfInBounds 81 true
theorem al11_g82 : al11[82]? = some { dst := some 149, op := Op.binOp BinOp.eql 3 (Operand.tmp 148) (Operand.const (Value.int IntKind.i64 1)) 3, type := 4, pos := "law.go:28", after := #[{ on := 81, ground := Ground.data }, { on := 80, ground := Ground.guard }], guard := some (80, true) } := by kernel_rfl
theorem al11_f82 : Region.free .any al11 al11_l82 82 = true := by kernel_rfl
theorem al11_r82 : (Region.ready .any al11 al11_l82).contains 82 = true := by kernel_rfl
def al11_l83 : Array Bool := al11_l82.setIfInBounds 82 true
theorem al11_g83 : al11[83]? = some { dst := some 150, op := Op.pick (Operand.tmp 147) (Operand.tmp 149) (Operand.const (Value.bool false)), type := 4, pos := "law.go:28", after := #[{ on := 80, ground := Ground.data }, { on := 82, ground := Ground.data }], guard := none } := by kernel_rfl
theorem al11_f83 : Region.free .any al11 al11_l83 83 = true := by kernel_rfl
theorem al11_r83 : (Region.ready .any al11 al11_l83).contains 83 = true := by kernel_rfl
def al11_l84 : Array Bool := al11_l83.setIfInBounds 83 true
theorem al11_g84 : al11[84]? = some { dst := some 151, op := Op.move (Operand.tmp 150), type := 4, pos := "law.go:28", after := #[{ on := 83, ground := Ground.data }, { on := 81, ground := Ground.chain }], guard := none } := by kernel_rfl
theorem al11_f84 : Region.free .any al11 al11_l84 84 = true := by kernel_rfl
theorem al11_r84 : (Region.ready .any al11 al11_l84).contains 84 = true := by kernel_rfl
def al11_l85 : Array Bool := al11_l84.setIfInBounds 84 true
theorem al11_g85 : al11[85]? = some { dst := some 152, op := Op.pick (Operand.tmp 151) (Operand.const (Value.bool true)) (Operand.const (Value.bool false)), type := 4, pos := "law.go:28", after := #[{ on := 84, ground := Ground.data }], guard := none } := by kernel_rfl
theorem al11_f85 : Region.free .any al11 al11_l85 85 = true := by kernel_rfl
theorem al11_r85 : (Region.ready .any al11 al11_l85).contains 85 = true := by kernel_rfl
def al11_l86 : Array Bool := al11_l85.setIfInBounds 85 true
theorem al11_g86 : al11[86]? = some { dst := some 153, op := Op.move (Operand.tmp 152), type := 4, pos := "law.go:28", after := #[{ on := 85, ground := Ground.data }, { on := 84, ground := Ground.chain }], guard := none } := by kernel_rfl
theorem al11_f86 : Region.free .any al11 al11_l86 86 = true := by kernel_rfl
theorem al11_r86 : (Region.ready .any al11 al11_l86).contains 86 = true := by kernel_rfl
def al11_l87 : Array Bool := al11_l86.setIfInBounds 86 true
theorem al11_g87 : al11[87]? = some { dst := some 154, op := Op.load 25 (Operand.tmp 2), type := 25, pos := "law.go:28", after := #[{ on := 86, ground := Ground.guard }], guard := some (86, true) } := by kernel_rfl
theorem al11_f87 : Region.free .any al11 al11_l87 87 = true := by kernel_rfl
theorem al11_r87 : (Region.ready .any al11 al11_l87).contains 87 = true := by kernel_rfl
def al11_l88 : Array Bool := al11_l87.setIfInBounds 87 true
theorem al11_g88 : al11[88]? = some { dst := some 155, op := Op.move (Operand.tmp 3), type := 22, pos := "law.go:28", after := #[{ on := 86, ground := Ground.guard }], guard := some (86, true) } := by kernel_rfl
theorem al11_f88 : Region.free .any al11 al11_l88 88 = true := by kernel_rfl
theorem al11_r88 : (Region.ready .any al11 al11_l88).contains 88 = true := by kernel_rfl
def al11_l89 : Array Bool := al11_l88.setIfInBounds 88 true
theorem al11_g91 : al11[91]? = some { dst := some 158, op := Op.move (Operand.tmp 1), type := 22, pos := "law.go:28", after := #[{ on := 86, ground := Ground.guard }], guard := some (86, true) } := by kernel_rfl
theorem al11_f89 : Region.free .any al11 al11_l89 91 = true := by kernel_rfl
theorem al11_r89 : (Region.ready .any al11 al11_l89).contains 91 = true := by kernel_rfl
def al11_l90 : Array Bool := al11_l89.setIfInBounds 91 true
theorem al11_g92 : al11[92]? = some { dst := some 159, op := Op.convert 22 9 (Operand.tmp 158), type := 9, pos := "law.go:28", after := #[{ on := 91, ground := Ground.data }, { on := 86, ground := Ground.guard }], guard := some (86, true) } := by kernel_rfl
theorem al11_f90 : Region.free .any al11 al11_l90 92 = true := by kernel_rfl
theorem al11_r90 : (Region.ready .any al11 al11_l90).contains 92 = true := by kernel_rfl
def al11_l91 : Array Bool := al11_l90.setIfInBounds 92 true
theorem al11_g89 : al11[89]? = some { dst := some 156, op := Op.call { callee := Callee.value (Operand.func 25), args := #[Operand.tmp 154, Operand.tmp 155], argTypes := #[25, 22] }, type := 22, pos := "law.go:28", after := #[{ on := 87, ground := Ground.data }, { on := 88, ground := Ground.data }, { on := 86, ground := Ground.chain }, { on := 86, ground := Ground.guard }], guard := some (86, true) } := by kernel_rfl
theorem al11_r91 : Region.ready .any al11 al11_l91 = [89] := by kernel_rfl
def al11_l92 : Array Bool := al11_l91.setIfInBounds 89 true
theorem al11_g90 : al11[90]? = some { dst := some 157, op := Op.convert 22 9 (Operand.tmp 156), type := 9, pos := "law.go:28", after := #[{ on := 89, ground := Ground.data }, { on := 86, ground := Ground.guard }], guard := some (86, true) } := by kernel_rfl
theorem al11_r92 : Region.ready .any al11 al11_l92 = [90] := by kernel_rfl
def al11_l93 : Array Bool := al11_l92.setIfInBounds 90 true
theorem al11_g93 : al11[93]? = some { dst := some 160, op := Op.binOp BinOp.eql 9 (Operand.tmp 157) (Operand.tmp 159) 9, type := 4, pos := "law.go:28", after := #[{ on := 90, ground := Ground.data }, { on := 92, ground := Ground.data }, { on := 86, ground := Ground.guard }], guard := some (86, true) } := by kernel_rfl
theorem al11_f93 : Region.free .any al11 al11_l93 93 = true := by kernel_rfl
theorem al11_r93 : (Region.ready .any al11 al11_l93).contains 93 = true := by kernel_rfl
def al11_l94 : Array Bool := al11_l93.setIfInBounds 93 true
theorem al11_g94 : al11[94]? = some { dst := some 161, op := Op.pick (Operand.tmp 153) (Operand.tmp 160) (Operand.const (Value.bool false)), type := 4, pos := "law.go:28", after := #[{ on := 86, ground := Ground.data }, { on := 93, ground := Ground.data }], guard := none } := by kernel_rfl
theorem al11_f94 : Region.free .any al11 al11_l94 94 = true := by kernel_rfl
theorem al11_r94 : (Region.ready .any al11 al11_l94).contains 94 = true := by kernel_rfl
def al11_l95 : Array Bool := al11_l94.setIfInBounds 94 true
theorem al11_g95 : al11[95]? = some { dst := some 0, op := Op.assign (Operand.tmp 161), type := 4, pos := "law.go:28", after := ([{ on := 94, ground := Ground.data }, { on := 89, ground := Ground.chain }, { on := 0, ground := Ground.phase }, { on := 1, ground := Ground.phase }, { on := 2, ground := Ground.phase }, { on := 3, ground := Ground.phase }, { on := 4, ground := Ground.phase }, { on := 5, ground := Ground.phase }, { on := 6, ground := Ground.phase }, { on := 7, ground := Ground.phase }, { on := 8, ground := Ground.phase }, { on := 9, ground := Ground.phase }, { on := 10, ground := Ground.phase }, { on := 11, ground := Ground.phase }, { on := 12, ground := Ground.phase }, { on := 13, ground := Ground.phase }, { on := 14, ground := Ground.phase }, { on := 15, ground := Ground.phase }, { on := 16, ground := Ground.phase }, { on := 17, ground := Ground.phase }, { on := 18, ground := Ground.phase }, { on := 19, ground := Ground.phase }, { on := 20, ground := Ground.phase }, { on := 21, ground := Ground.phase }, { on := 22, ground := Ground.phase }, { on := 23, ground := Ground.phase }, { on := 24, ground := Ground.phase }, { on := 25, ground := Ground.phase }, { on := 26, ground := Ground.phase }, { on := 27, ground := Ground.phase }, { on := 28, ground := Ground.phase }, { on := 29, ground := Ground.phase }, { on := 30, ground := Ground.phase }, { on := 31, ground := Ground.phase }, { on := 32, ground := Ground.phase }, { on := 33, ground := Ground.phase }, { on := 34, ground := Ground.phase }, { on := 35, ground := Ground.phase }, { on := 36, ground := Ground.phase }, { on := 37, ground := Ground.phase }, { on := 38, ground := Ground.phase }, { on := 39, ground := Ground.phase }, { on := 40, ground := Ground.phase }, { on := 41, ground := Ground.phase }, { on := 42, ground := Ground.phase }, { on := 43, ground := Ground.phase }, { on := 44, ground := Ground.phase }, { on := 45, ground := Ground.phase }].append [{ on := 46, ground := Ground.phase }, { on := 47, ground := Ground.phase }, { on := 48, ground := Ground.phase }, { on := 49, ground := Ground.phase }, { on := 50, ground := Ground.phase }, { on := 51, ground := Ground.phase }, { on := 52, ground := Ground.phase }, { on := 53, ground := Ground.phase }, { on := 54, ground := Ground.phase }, { on := 55, ground := Ground.phase }, { on := 56, ground := Ground.phase }, { on := 57, ground := Ground.phase }, { on := 58, ground := Ground.phase }, { on := 59, ground := Ground.phase }, { on := 60, ground := Ground.phase }, { on := 61, ground := Ground.phase }, { on := 62, ground := Ground.phase }, { on := 63, ground := Ground.phase }, { on := 64, ground := Ground.phase }, { on := 65, ground := Ground.phase }, { on := 66, ground := Ground.phase }, { on := 67, ground := Ground.phase }, { on := 68, ground := Ground.phase }, { on := 69, ground := Ground.phase }, { on := 70, ground := Ground.phase }, { on := 71, ground := Ground.phase }, { on := 72, ground := Ground.phase }, { on := 73, ground := Ground.phase }, { on := 74, ground := Ground.phase }, { on := 75, ground := Ground.phase }, { on := 76, ground := Ground.phase }, { on := 77, ground := Ground.phase }, { on := 78, ground := Ground.phase }, { on := 79, ground := Ground.phase }, { on := 80, ground := Ground.phase }, { on := 81, ground := Ground.phase }, { on := 82, ground := Ground.phase }, { on := 83, ground := Ground.phase }, { on := 84, ground := Ground.phase }, { on := 85, ground := Ground.phase }, { on := 86, ground := Ground.phase }, { on := 87, ground := Ground.phase }, { on := 88, ground := Ground.phase }, { on := 89, ground := Ground.phase }, { on := 90, ground := Ground.phase }, { on := 91, ground := Ground.phase }, { on := 92, ground := Ground.phase }, { on := 93, ground := Ground.phase }, { on := 94, ground := Ground.phase }]).toArray, guard := none } := by kernel_rfl
theorem al11_f95 : Region.free .any al11 al11_l95 95 = true := by kernel_rfl
theorem al11_r95 : (Region.ready .any al11 al11_l95).contains 95 = true := by kernel_rfl
def al11_l96 : Array Bool := al11_l95.setIfInBounds 95 true
theorem al11_end : Region.ready .any al11 al11_l96 = [] := by kernel_rfl
end Go.Proofs.Ytkolhjglehnigaa.Head
