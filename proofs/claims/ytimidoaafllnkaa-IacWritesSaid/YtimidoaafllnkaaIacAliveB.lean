/-
  The statements' own example of iac: the order of its last return's operations.
-/
import Derived.Test.YtimidoaafllnkaaIacAliveA
import Derived.Deep.RegionHeld3
namespace Go.Proofs.Ytimidoaafllnkaa.Iac
open Go.RowKit Base
set_option linter.unusedVariables false

def al6 : Array Oper := #[{ dst := some 11, op := Op.move (Operand.tmp 3), type := 22, pos := "law.go:26", after := #[], guard := none }, { dst := some 12, op := Op.call { callee := Callee.builtin Builtin.len, args := #[Operand.tmp 11], argTypes := #[22] }, type := 3, pos := "law.go:26", after := #[{ on := 0, ground := Ground.data }], guard := none }, { dst := some 13, op := Op.binOp BinOp.eql 3 (Operand.tmp 12) (Operand.const (Value.int IntKind.i64 3)) 3, type := 4, pos := "law.go:26", after := #[{ on := 1, ground := Ground.data }], guard := none }, { dst := some 14, op := Op.move (Operand.tmp 13), type := 4, pos := "law.go:26", after := #[{ on := 2, ground := Ground.data }], guard := none }, { dst := some 15, op := Op.move (Operand.tmp 3), type := 22, pos := "law.go:26", after := #[{ on := 3, ground := Ground.guard }], guard := some (3, true) }, { dst := some 16, op := Op.indexAddr 22 (Operand.tmp 15) (Operand.const (Value.int IntKind.i64 0)), type := 0, pos := "law.go:26", after := #[{ on := 4, ground := Ground.data }, { on := 3, ground := Ground.guard }], guard := some (3, true) }, { dst := some 17, op := Op.fieldAddr 26 (Operand.tmp 16) 0, type := 0, pos := "law.go:26", after := #[{ on := 5, ground := Ground.data }, { on := 3, ground := Ground.guard }], guard := some (3, true) }, { dst := some 18, op := Op.load 3 (Operand.tmp 17), type := 3, pos := "law.go:26", after := #[{ on := 6, ground := Ground.data }, { on := 3, ground := Ground.guard }], guard := some (3, true) }, { dst := some 19, op := Op.binOp BinOp.eql 3 (Operand.tmp 18) (Operand.const (Value.int IntKind.i64 4)) 3, type := 4, pos := "law.go:26", after := #[{ on := 7, ground := Ground.data }, { on := 3, ground := Ground.guard }], guard := some (3, true) }, { dst := some 20, op := Op.pick (Operand.tmp 14) (Operand.tmp 19) (Operand.const (Value.bool false)), type := 4, pos := "law.go:26", after := #[{ on := 3, ground := Ground.data }, { on := 8, ground := Ground.data }], guard := none }, { dst := some 21, op := Op.move (Operand.tmp 20), type := 4, pos := "law.go:26", after := #[{ on := 9, ground := Ground.data }, { on := 3, ground := Ground.chain }], guard := none }, { dst := some 22, op := Op.move (Operand.tmp 3), type := 22, pos := "law.go:26", after := #[{ on := 10, ground := Ground.guard }], guard := some (10, true) }, { dst := some 23, op := Op.indexAddr 22 (Operand.tmp 22) (Operand.const (Value.int IntKind.i64 0)), type := 0, pos := "law.go:26", after := #[{ on := 11, ground := Ground.data }, { on := 10, ground := Ground.guard }], guard := some (10, true) }, { dst := some 24, op := Op.fieldAddr 26 (Operand.tmp 23) 1, type := 0, pos := "law.go:26", after := #[{ on := 12, ground := Ground.data }, { on := 10, ground := Ground.guard }], guard := some (10, true) }, { dst := some 25, op := Op.load 5 (Operand.tmp 24), type := 5, pos := "law.go:26", after := #[{ on := 13, ground := Ground.data }, { on := 10, ground := Ground.guard }], guard := some (10, true) }, { dst := some 26, op := Op.binOp BinOp.eql 5 (Operand.tmp 25) (Operand.const (Value.int IntKind.u8 253)) 5, type := 4, pos := "law.go:26", after := #[{ on := 14, ground := Ground.data }, { on := 10, ground := Ground.guard }], guard := some (10, true) }, { dst := some 27, op := Op.pick (Operand.tmp 21) (Operand.tmp 26) (Operand.const (Value.bool false)), type := 4, pos := "law.go:26", after := #[{ on := 10, ground := Ground.data }, { on := 15, ground := Ground.data }], guard := none }, { dst := some 28, op := Op.move (Operand.tmp 27), type := 4, pos := "law.go:26", after := #[{ on := 16, ground := Ground.data }, { on := 10, ground := Ground.chain }], guard := none }, { dst := some 29, op := Op.move (Operand.tmp 3), type := 22, pos := "law.go:26", after := #[{ on := 17, ground := Ground.guard }], guard := some (17, true) }, { dst := some 30, op := Op.indexAddr 22 (Operand.tmp 29) (Operand.const (Value.int IntKind.i64 0)), type := 0, pos := "law.go:26", after := #[{ on := 18, ground := Ground.data }, { on := 17, ground := Ground.guard }], guard := some (17, true) }, { dst := some 31, op := Op.fieldAddr 26 (Operand.tmp 30) 2, type := 0, pos := "law.go:26", after := #[{ on := 19, ground := Ground.data }, { on := 17, ground := Ground.guard }], guard := some (17, true) }, { dst := some 32, op := Op.load 5 (Operand.tmp 31), type := 5, pos := "law.go:26", after := #[{ on := 20, ground := Ground.data }, { on := 17, ground := Ground.guard }], guard := some (17, true) }, { dst := some 33, op := Op.binOp BinOp.eql 5 (Operand.tmp 32) (Operand.const (Value.int IntKind.u8 25)) 5, type := 4, pos := "law.go:26", after := #[{ on := 21, ground := Ground.data }, { on := 17, ground := Ground.guard }], guard := some (17, true) }, { dst := some 34, op := Op.pick (Operand.tmp 28) (Operand.tmp 33) (Operand.const (Value.bool false)), type := 4, pos := "law.go:26", after := #[{ on := 17, ground := Ground.data }, { on := 22, ground := Ground.data }], guard := none }, { dst := some 35, op := Op.move (Operand.tmp 34), type := 4, pos := "law.go:26", after := #[{ on := 23, ground := Ground.data }, { on := 17, ground := Ground.chain }], guard := none }, { dst := some 36, op := Op.move (Operand.tmp 3), type := 22, pos := "law.go:26", after := #[{ on := 24, ground := Ground.guard }], guard := some (24, true) }, { dst := some 37, op := Op.indexAddr 22 (Operand.tmp 36) (Operand.const (Value.int IntKind.i64 1)), type := 0, pos := "law.go:26", after := #[{ on := 25, ground := Ground.data }, { on := 24, ground := Ground.guard }], guard := some (24, true) }, { dst := some 38, op := Op.fieldAddr 26 (Operand.tmp 37) 0, type := 0, pos := "law.go:26", after := #[{ on := 26, ground := Ground.data }, { on := 24, ground := Ground.guard }], guard := some (24, true) }, { dst := some 39, op := Op.load 3 (Operand.tmp 38), type := 3, pos := "law.go:26", after := #[{ on := 27, ground := Ground.data }, { on := 24, ground := Ground.guard }], guard := some (24, true) }, { dst := some 40, op := Op.binOp BinOp.eql 3 (Operand.tmp 39) (Operand.const (Value.int IntKind.i64 1)) 3, type := 4, pos := "law.go:26", after := #[{ on := 28, ground := Ground.data }, { on := 24, ground := Ground.guard }], guard := some (24, true) }, { dst := some 41, op := Op.pick (Operand.tmp 35) (Operand.tmp 40) (Operand.const (Value.bool false)), type := 4, pos := "law.go:26", after := #[{ on := 24, ground := Ground.data }, { on := 29, ground := Ground.data }], guard := none }, { dst := some 42, op := Op.move (Operand.tmp 41), type := 4, pos := "law.go:26", after := #[{ on := 30, ground := Ground.data }, { on := 24, ground := Ground.chain }], guard := none }, { dst := some 43, op := Op.move (Operand.tmp 3), type := 22, pos := "law.go:26", after := #[{ on := 31, ground := Ground.guard }], guard := some (31, true) }, { dst := some 44, op := Op.indexAddr 22 (Operand.tmp 43) (Operand.const (Value.int IntKind.i64 1)), type := 0, pos := "law.go:26", after := #[{ on := 32, ground := Ground.data }, { on := 31, ground := Ground.guard }], guard := some (31, true) }, { dst := some 45, op := Op.fieldAddr 26 (Operand.tmp 44) 3, type := 0, pos := "law.go:26", after := #[{ on := 33, ground := Ground.data }, { on := 31, ground := Ground.guard }], guard := some (31, true) }, { dst := some 46, op := Op.load 24 (Operand.tmp 45), type := 24, pos := "law.go:26", after := #[{ on := 34, ground := Ground.data }, { on := 31, ground := Ground.guard }], guard := some (31, true) }, { dst := some 47, op := Op.convert 24 9 (Operand.tmp 46), type := 9, pos := "law.go:26", after := #[{ on := 35, ground := Ground.data }, { on := 31, ground := Ground.guard }], guard := some (31, true) }, { dst := some 48, op := Op.binOp BinOp.eql 9 (Operand.tmp 47) (Operand.const (Value.string { data := #[1, 255] })) 9, type := 4, pos := "law.go:26", after := #[{ on := 36, ground := Ground.data }, { on := 31, ground := Ground.guard }], guard := some (31, true) }, { dst := some 49, op := Op.pick (Operand.tmp 42) (Operand.tmp 48) (Operand.const (Value.bool false)), type := 4, pos := "law.go:26", after := #[{ on := 31, ground := Ground.data }, { on := 37, ground := Ground.data }], guard := none }, { dst := some 50, op := Op.move (Operand.tmp 49), type := 4, pos := "law.go:26", after := #[{ on := 38, ground := Ground.data }, { on := 31, ground := Ground.chain }], guard := none }, { dst := some 51, op := Op.move (Operand.tmp 3), type := 22, pos := "law.go:26", after := #[{ on := 39, ground := Ground.guard }], guard := some (39, true) }, { dst := some 52, op := Op.indexAddr 22 (Operand.tmp 51) (Operand.const (Value.int IntKind.i64 2)), type := 0, pos := "law.go:26", after := #[{ on := 40, ground := Ground.data }, { on := 39, ground := Ground.guard }], guard := some (39, true) }, { dst := some 53, op := Op.fieldAddr 26 (Operand.tmp 52) 0, type := 0, pos := "law.go:26", after := #[{ on := 41, ground := Ground.data }, { on := 39, ground := Ground.guard }], guard := some (39, true) }, { dst := some 54, op := Op.load 3 (Operand.tmp 53), type := 3, pos := "law.go:26", after := #[{ on := 42, ground := Ground.data }, { on := 39, ground := Ground.guard }], guard := some (39, true) }, { dst := some 55, op := Op.binOp BinOp.eql 3 (Operand.tmp 54) (Operand.const (Value.int IntKind.i64 2)) 3, type := 4, pos := "law.go:26", after := #[{ on := 43, ground := Ground.data }, { on := 39, ground := Ground.guard }], guard := some (39, true) }, { dst := some 56, op := Op.pick (Operand.tmp 50) (Operand.tmp 55) (Operand.const (Value.bool false)), type := 4, pos := "law.go:26", after := #[{ on := 39, ground := Ground.data }, { on := 44, ground := Ground.data }], guard := none }, { dst := some 57, op := Op.move (Operand.tmp 56), type := 4, pos := "law.go:26", after := #[{ on := 45, ground := Ground.data }, { on := 39, ground := Ground.chain }], guard := none }, { dst := some 58, op := Op.move (Operand.tmp 4), type := 4, pos := "law.go:26", after := #[{ on := 46, ground := Ground.guard }], guard := some (46, true) }, { dst := some 59, op := Op.unOp UnOp.not 4 (Operand.tmp 58), type := 4, pos := "law.go:26", after := #[{ on := 47, ground := Ground.data }, { on := 46, ground := Ground.guard }], guard := some (46, true) }, { dst := some 60, op := Op.pick (Operand.tmp 57) (Operand.tmp 59) (Operand.const (Value.bool false)), type := 4, pos := "law.go:26", after := #[{ on := 46, ground := Ground.data }, { on := 48, ground := Ground.data }], guard := none }, { dst := some 61, op := Op.move (Operand.tmp 60), type := 4, pos := "law.go:26", after := #[{ on := 49, ground := Ground.data }, { on := 46, ground := Ground.chain }], guard := none }, { dst := some 62, op := Op.call { callee := Callee.value (Operand.func 63), args := #[Operand.tmp 1], argTypes := #[102] }, type := 4, pos := "law.go:26", after := #[{ on := 50, ground := Ground.chain }, { on := 50, ground := Ground.guard }], guard := some (50, true) }, { dst := some 63, op := Op.pick (Operand.tmp 61) (Operand.tmp 62) (Operand.const (Value.bool false)), type := 4, pos := "law.go:26", after := #[{ on := 50, ground := Ground.data }, { on := 51, ground := Ground.data }], guard := none }, { dst := some 64, op := Op.move (Operand.tmp 63), type := 4, pos := "law.go:26", after := #[{ on := 52, ground := Ground.data }, { on := 51, ground := Ground.chain }], guard := none }, { dst := some 65, op := Op.move (Operand.tmp 3), type := 22, pos := "law.go:26", after := #[{ on := 53, ground := Ground.guard }], guard := some (53, true) }, { dst := some 66, op := Op.call { callee := Callee.value (Operand.func 17), args := #[Operand.tmp 65], argTypes := #[22] }, type := 24, pos := "law.go:26", after := #[{ on := 54, ground := Ground.data }, { on := 53, ground := Ground.chain }, { on := 53, ground := Ground.guard }], guard := some (53, true) }, { dst := some 67, op := Op.convert 24 9 (Operand.tmp 66), type := 9, pos := "law.go:26", after := #[{ on := 55, ground := Ground.data }, { on := 53, ground := Ground.guard }], guard := some (53, true) }, { dst := some 68, op := Op.move (Operand.tmp 2), type := 24, pos := "law.go:26", after := #[{ on := 53, ground := Ground.guard }], guard := some (53, true) }, { dst := some 69, op := Op.convert 24 9 (Operand.tmp 68), type := 9, pos := "law.go:26", after := #[{ on := 57, ground := Ground.data }, { on := 53, ground := Ground.guard }], guard := some (53, true) }, { dst := some 70, op := Op.binOp BinOp.eql 9 (Operand.tmp 67) (Operand.tmp 69) 9, type := 4, pos := "law.go:26", after := #[{ on := 56, ground := Ground.data }, { on := 58, ground := Ground.data }, { on := 53, ground := Ground.guard }], guard := some (53, true) }, { dst := some 71, op := Op.pick (Operand.tmp 64) (Operand.tmp 70) (Operand.const (Value.bool false)), type := 4, pos := "law.go:26", after := #[{ on := 53, ground := Ground.data }, { on := 59, ground := Ground.data }], guard := none }, { dst := some 72, op := Op.move (Operand.tmp 71), type := 4, pos := "law.go:26", after := #[{ on := 60, ground := Ground.data }, { on := 55, ground := Ground.chain }], guard := none }, { dst := some 73, op := Op.buildSlice 24 1 #[(0, Operand.const (Value.int IntKind.u8 0))], type := 24, pos := "law.go:26", after := #[{ on := 61, ground := Ground.guard }], guard := some (61, true) }, { dst := some 74, op := Op.call { callee := Callee.value (Operand.func 14), args := #[Operand.const (Value.int IntKind.u8 24), Operand.tmp 73], argTypes := #[5, 24] }, type := 24, pos := "law.go:26", after := #[{ on := 62, ground := Ground.data }, { on := 61, ground := Ground.chain }, { on := 61, ground := Ground.guard }], guard := some (61, true) }, { dst := some 75, op := Op.convert 24 9 (Operand.tmp 74), type := 9, pos := "law.go:26", after := #[{ on := 63, ground := Ground.data }, { on := 61, ground := Ground.guard }], guard := some (61, true) }, { dst := some 76, op := Op.binOp BinOp.eql 9 (Operand.tmp 75) (Operand.const (Value.string { data := #[255, 250, 24, 0, 255, 240] })) 9, type := 4, pos := "law.go:26", after := #[{ on := 64, ground := Ground.data }, { on := 61, ground := Ground.guard }], guard := some (61, true) }, { dst := some 77, op := Op.pick (Operand.tmp 72) (Operand.tmp 76) (Operand.const (Value.bool false)), type := 4, pos := "law.go:26", after := #[{ on := 61, ground := Ground.data }, { on := 65, ground := Ground.data }], guard := none }, { dst := some 78, op := Op.move (Operand.tmp 77), type := 4, pos := "law.go:26", after := #[{ on := 66, ground := Ground.data }, { on := 63, ground := Ground.chain }], guard := none }, { dst := some 79, op := Op.buildSlice 24 1 #[(0, Operand.const (Value.int IntKind.u8 255))], type := 24, pos := "law.go:26", after := #[{ on := 67, ground := Ground.guard }], guard := some (67, true) }, { dst := some 80, op := Op.call { callee := Callee.value (Operand.func 16), args := #[Operand.tmp 79], argTypes := #[24] }, type := 24, pos := "law.go:26", after := #[{ on := 68, ground := Ground.data }, { on := 67, ground := Ground.chain }, { on := 67, ground := Ground.guard }], guard := some (67, true) }, { dst := some 81, op := Op.convert 24 9 (Operand.tmp 80), type := 9, pos := "law.go:26", after := #[{ on := 69, ground := Ground.data }, { on := 67, ground := Ground.guard }], guard := some (67, true) }, { dst := some 82, op := Op.binOp BinOp.eql 9 (Operand.tmp 81) (Operand.const (Value.string { data := #[255, 255, 255, 239] })) 9, type := 4, pos := "law.go:26", after := #[{ on := 70, ground := Ground.data }, { on := 67, ground := Ground.guard }], guard := some (67, true) }, { dst := some 83, op := Op.pick (Operand.tmp 78) (Operand.tmp 82) (Operand.const (Value.bool false)), type := 4, pos := "law.go:26", after := #[{ on := 67, ground := Ground.data }, { on := 71, ground := Ground.data }], guard := none }, { dst := some 84, op := Op.move (Operand.tmp 83), type := 4, pos := "law.go:26", after := #[{ on := 72, ground := Ground.data }, { on := 69, ground := Ground.chain }], guard := none }, { dst := some 85, op := Op.call { callee := Callee.value (Operand.func 22), args := #[Operand.const (Value.int IntKind.u8 251), Operand.const (Value.int IntKind.u8 25)], argTypes := #[5, 5] }, type := 24, pos := "law.go:26", after := #[{ on := 73, ground := Ground.chain }, { on := 73, ground := Ground.guard }], guard := some (73, true) }, { dst := some 86, op := Op.convert 24 9 (Operand.tmp 85), type := 9, pos := "law.go:26", after := #[{ on := 74, ground := Ground.data }, { on := 73, ground := Ground.guard }], guard := some (73, true) }, { dst := some 87, op := Op.binOp BinOp.eql 9 (Operand.tmp 86) (Operand.const (Value.string { data := #[255, 251, 25] })) 9, type := 4, pos := "law.go:26", after := #[{ on := 75, ground := Ground.data }, { on := 73, ground := Ground.guard }], guard := some (73, true) }, { dst := some 88, op := Op.pick (Operand.tmp 84) (Operand.tmp 87) (Operand.const (Value.bool false)), type := 4, pos := "law.go:26", after := #[{ on := 73, ground := Ground.data }, { on := 76, ground := Ground.data }], guard := none }, { dst := some 89, op := Op.move (Operand.tmp 88), type := 4, pos := "law.go:26", after := #[{ on := 77, ground := Ground.data }, { on := 74, ground := Ground.chain }], guard := none }, { dst := some 90, op := Op.buildSlice 24 2 #[(0, Operand.const (Value.int IntKind.u8 255)), (1, Operand.const (Value.int IntKind.u8 1))], type := 24, pos := "law.go:26", after := #[{ on := 78, ground := Ground.guard }], guard := some (78, true) }, { dst := some 91, op := Op.call { callee := Callee.value (Operand.func 12), args := #[Operand.tmp 90], argTypes := #[24] }, type := 24, pos := "law.go:26", after := #[{ on := 79, ground := Ground.data }, { on := 78, ground := Ground.chain }, { on := 78, ground := Ground.guard }], guard := some (78, true) }, { dst := some 92, op := Op.convert 24 9 (Operand.tmp 91), type := 9, pos := "law.go:26", after := #[{ on := 80, ground := Ground.data }, { on := 78, ground := Ground.guard }], guard := some (78, true) }, { dst := some 93, op := Op.binOp BinOp.eql 9 (Operand.tmp 92) (Operand.const (Value.string { data := #[255, 255, 1] })) 9, type := 4, pos := "law.go:26", after := #[{ on := 81, ground := Ground.data }, { on := 78, ground := Ground.guard }], guard := some (78, true) }, { dst := some 94, op := Op.pick (Operand.tmp 89) (Operand.tmp 93) (Operand.const (Value.bool false)), type := 4, pos := "law.go:26", after := #[{ on := 78, ground := Ground.data }, { on := 82, ground := Ground.data }], guard := none }, { dst := some 95, op := Op.move (Operand.tmp 94), type := 4, pos := "law.go:26", after := #[{ on := 83, ground := Ground.data }, { on := 80, ground := Ground.chain }], guard := none }, { dst := some 96, op := Op.build 26 #[(0, Operand.const (Value.int IntKind.i64 1))], type := 26, pos := "law.go:26", after := #[{ on := 84, ground := Ground.guard }], guard := some (84, true) }, { dst := some 97, op := Op.build 26 #[(0, Operand.const (Value.int IntKind.i64 2))], type := 26, pos := "law.go:26", after := #[{ on := 84, ground := Ground.guard }], guard := some (84, true) }, { dst := some 98, op := Op.buildSlice 22 2 #[(0, Operand.tmp 96), (1, Operand.tmp 97)], type := 22, pos := "law.go:26", after := #[{ on := 85, ground := Ground.data }, { on := 86, ground := Ground.data }, { on := 84, ground := Ground.guard }], guard := some (84, true) }, { dst := some 99, op := Op.call { callee := Callee.value (Operand.func 20), args := #[Operand.tmp 98], argTypes := #[22] }, type := 22, pos := "law.go:26", after := #[{ on := 87, ground := Ground.data }, { on := 84, ground := Ground.chain }, { on := 84, ground := Ground.guard }], guard := some (84, true) }, { dst := some 100, op := Op.call { callee := Callee.builtin Builtin.len, args := #[Operand.tmp 99], argTypes := #[22] }, type := 3, pos := "law.go:26", after := #[{ on := 88, ground := Ground.data }, { on := 84, ground := Ground.guard }], guard := some (84, true) }, { dst := some 101, op := Op.binOp BinOp.eql 3 (Operand.tmp 100) (Operand.const (Value.int IntKind.i64 1)) 3, type := 4, pos := "law.go:26", after := #[{ on := 89, ground := Ground.data }, { on := 84, ground := Ground.guard }], guard := some (84, true) }, { dst := some 102, op := Op.pick (Operand.tmp 95) (Operand.tmp 101) (Operand.const (Value.bool false)), type := 4, pos := "law.go:26", after := #[{ on := 84, ground := Ground.data }, { on := 90, ground := Ground.data }], guard := none }, { dst := some 0, op := Op.assign (Operand.tmp 102), type := 4, pos := "law.go:26", after := ([{ on := 91, ground := Ground.data }, { on := 88, ground := Ground.chain }, { on := 0, ground := Ground.phase }, { on := 1, ground := Ground.phase }, { on := 2, ground := Ground.phase }, { on := 3, ground := Ground.phase }, { on := 4, ground := Ground.phase }, { on := 5, ground := Ground.phase }, { on := 6, ground := Ground.phase }, { on := 7, ground := Ground.phase }, { on := 8, ground := Ground.phase }, { on := 9, ground := Ground.phase }, { on := 10, ground := Ground.phase }, { on := 11, ground := Ground.phase }, { on := 12, ground := Ground.phase }, { on := 13, ground := Ground.phase }, { on := 14, ground := Ground.phase }, { on := 15, ground := Ground.phase }, { on := 16, ground := Ground.phase }, { on := 17, ground := Ground.phase }, { on := 18, ground := Ground.phase }, { on := 19, ground := Ground.phase }, { on := 20, ground := Ground.phase }, { on := 21, ground := Ground.phase }, { on := 22, ground := Ground.phase }, { on := 23, ground := Ground.phase }, { on := 24, ground := Ground.phase }, { on := 25, ground := Ground.phase }, { on := 26, ground := Ground.phase }, { on := 27, ground := Ground.phase }, { on := 28, ground := Ground.phase }, { on := 29, ground := Ground.phase }, { on := 30, ground := Ground.phase }, { on := 31, ground := Ground.phase }, { on := 32, ground := Ground.phase }, { on := 33, ground := Ground.phase }, { on := 34, ground := Ground.phase }, { on := 35, ground := Ground.phase }, { on := 36, ground := Ground.phase }, { on := 37, ground := Ground.phase }, { on := 38, ground := Ground.phase }, { on := 39, ground := Ground.phase }, { on := 40, ground := Ground.phase }, { on := 41, ground := Ground.phase }, { on := 42, ground := Ground.phase }, { on := 43, ground := Ground.phase }, { on := 44, ground := Ground.phase }].append [{ on := 45, ground := Ground.phase }, { on := 46, ground := Ground.phase }, { on := 47, ground := Ground.phase }, { on := 48, ground := Ground.phase }, { on := 49, ground := Ground.phase }, { on := 50, ground := Ground.phase }, { on := 51, ground := Ground.phase }, { on := 52, ground := Ground.phase }, { on := 53, ground := Ground.phase }, { on := 54, ground := Ground.phase }, { on := 55, ground := Ground.phase }, { on := 56, ground := Ground.phase }, { on := 57, ground := Ground.phase }, { on := 58, ground := Ground.phase }, { on := 59, ground := Ground.phase }, { on := 60, ground := Ground.phase }, { on := 61, ground := Ground.phase }, { on := 62, ground := Ground.phase }, { on := 63, ground := Ground.phase }, { on := 64, ground := Ground.phase }, { on := 65, ground := Ground.phase }, { on := 66, ground := Ground.phase }, { on := 67, ground := Ground.phase }, { on := 68, ground := Ground.phase }, { on := 69, ground := Ground.phase }, { on := 70, ground := Ground.phase }, { on := 71, ground := Ground.phase }, { on := 72, ground := Ground.phase }, { on := 73, ground := Ground.phase }, { on := 74, ground := Ground.phase }, { on := 75, ground := Ground.phase }, { on := 76, ground := Ground.phase }, { on := 77, ground := Ground.phase }, { on := 78, ground := Ground.phase }, { on := 79, ground := Ground.phase }, { on := 80, ground := Ground.phase }, { on := 81, ground := Ground.phase }, { on := 82, ground := Ground.phase }, { on := 83, ground := Ground.phase }, { on := 84, ground := Ground.phase }, { on := 85, ground := Ground.phase }, { on := 86, ground := Ground.phase }, { on := 87, ground := Ground.phase }, { on := 88, ground := Ground.phase }, { on := 89, ground := Ground.phase }, { on := 90, ground := Ground.phase }, { on := 91, ground := Ground.phase }]).toArray, guard := none }]
theorem al6_nosel : Region.noSelect al6 = true := by kernel_rfl
def al6_l0 : Array Bool := Array.replicate 93 false
theorem al6_g0 : al6[0]? = some { dst := some 11, op := Op.move (Operand.tmp 3), type := 22, pos := "law.go:26", after := #[], guard := none } := by kernel_rfl
theorem al6_f0 : Region.free .any al6 al6_l0 0 = true := by kernel_rfl
theorem al6_r0 : (Region.ready .any al6 al6_l0).contains 0 = true := by kernel_rfl
def al6_l1 : Array Bool := al6_l0.setIfInBounds 0 true
theorem al6_g1 : al6[1]? = some { dst := some 12, op := Op.call { callee := Callee.builtin Builtin.len, args := #[Operand.tmp 11], argTypes := #[22] }, type := 3, pos := "law.go:26", after := #[{ on := 0, ground := Ground.data }], guard := none } := by kernel_rfl
theorem al6_f1 : Region.free .any al6 al6_l1 1 = true := by kernel_rfl
theorem al6_r1 : (Region.ready .any al6 al6_l1).contains 1 = true := by kernel_rfl
def al6_l2 : Array Bool := al6_l1.setIfInBounds 1 true
theorem al6_g2 : al6[2]? = some { dst := some 13, op := Op.binOp BinOp.eql 3 (Operand.tmp 12) (Operand.const (Value.int IntKind.i64 3)) 3, type := 4, pos := "law.go:26", after := #[{ on := 1, ground := Ground.data }], guard := none } := by kernel_rfl
theorem al6_f2 : Region.free .any al6 al6_l2 2 = true := by kernel_rfl
theorem al6_r2 : (Region.ready .any al6 al6_l2).contains 2 = true := by kernel_rfl
def al6_l3 : Array Bool := al6_l2.setIfInBounds 2 true
theorem al6_g3 : al6[3]? = some { dst := some 14, op := Op.move (Operand.tmp 13), type := 4, pos := "law.go:26", after := #[{ on := 2, ground := Ground.data }], guard := none } := by kernel_rfl
theorem al6_f3 : Region.free .any al6 al6_l3 3 = true := by kernel_rfl
theorem al6_r3 : (Region.ready .any al6 al6_l3).contains 3 = true := by kernel_rfl
def al6_l4 : Array Bool := al6_l3.setIfInBounds 3 true
theorem al6_g4 : al6[4]? = some { dst := some 15, op := Op.move (Operand.tmp 3), type := 22, pos := "law.go:26", after := #[{ on := 3, ground := Ground.guard }], guard := some (3, true) } := by kernel_rfl
theorem al6_f4 : Region.free .any al6 al6_l4 4 = true := by kernel_rfl
theorem al6_r4 : (Region.ready .any al6 al6_l4).contains 4 = true := by kernel_rfl
def al6_l5 : Array Bool := al6_l4.setIfInBounds 4 true
theorem al6_g5 : al6[5]? = some { dst := some 16, op := Op.indexAddr 22 (Operand.tmp 15) (Operand.const (Value.int IntKind.i64 0)), type := 0, pos := "law.go:26", after := #[{ on := 4, ground := Ground.data }, { on := 3, ground := Ground.guard }], guard := some (3, true) } := by kernel_rfl
theorem al6_f5 : Region.free .any al6 al6_l5 5 = true := by kernel_rfl
theorem al6_r5 : (Region.ready .any al6 al6_l5).contains 5 = true := by kernel_rfl
def al6_l6 : Array Bool := al6_l5.setIfInBounds 5 true
theorem al6_g6 : al6[6]? = some { dst := some 17, op := Op.fieldAddr 26 (Operand.tmp 16) 0, type := 0, pos := "law.go:26", after := #[{ on := 5, ground := Ground.data }, { on := 3, ground := Ground.guard }], guard := some (3, true) } := by kernel_rfl
theorem al6_f6 : Region.free .any al6 al6_l6 6 = true := by kernel_rfl
theorem al6_r6 : (Region.ready .any al6 al6_l6).contains 6 = true := by kernel_rfl
def al6_l7 : Array Bool := al6_l6.setIfInBounds 6 true
theorem al6_g7 : al6[7]? = some { dst := some 18, op := Op.load 3 (Operand.tmp 17), type := 3, pos := "law.go:26", after := #[{ on := 6, ground := Ground.data }, { on := 3, ground := Ground.guard }], guard := some (3, true) } := by kernel_rfl
theorem al6_f7 : Region.free .any al6 al6_l7 7 = true := by kernel_rfl
theorem al6_r7 : (Region.ready .any al6 al6_l7).contains 7 = true := by kernel_rfl
def al6_l8 : Array Bool := al6_l7.setIfInBounds 7 true
theorem al6_g8 : al6[8]? = some { dst := some 19, op := Op.binOp BinOp.eql 3 (Operand.tmp 18) (Operand.const (Value.int IntKind.i64 4)) 3, type := 4, pos := "law.go:26", after := #[{ on := 7, ground := Ground.data }, { on := 3, ground := Ground.guard }], guard := some (3, true) } := by kernel_rfl
theorem al6_f8 : Region.free .any al6 al6_l8 8 = true := by kernel_rfl
theorem al6_r8 : (Region.ready .any al6 al6_l8).contains 8 = true := by kernel_rfl
def al6_l9 : Array Bool := al6_l8.setIfInBounds 8 true
theorem al6_g9 : al6[9]? = some { dst := some 20, op := Op.pick (Operand.tmp 14) (Operand.tmp 19) (Operand.const (Value.bool false)), type := 4, pos := "law.go:26", after := #[{ on := 3, ground := Ground.data }, { on := 8, ground := Ground.data }], guard := none } := by kernel_rfl
theorem al6_f9 : Region.free .any al6 al6_l9 9 = true := by kernel_rfl
theorem al6_r9 : (Region.ready .any al6 al6_l9).contains 9 = true := by kernel_rfl
def al6_l10 : Array Bool := al6_l9.setIfInBounds 9 true
theorem al6_g10 : al6[10]? = some { dst := some 21, op := Op.move (Operand.tmp 20), type := 4, pos := "law.go:26", after := #[{ on := 9, ground := Ground.data }, { on := 3, ground := Ground.chain }], guard := none } := by kernel_rfl
theorem al6_f10 : Region.free .any al6 al6_l10 10 = true := by kernel_rfl
theorem al6_r10 : (Region.ready .any al6 al6_l10).contains 10 = true := by kernel_rfl
def al6_l11 : Array Bool := al6_l10.setIfInBounds 10 true
theorem al6_g11 : al6[11]? = some { dst := some 22, op := Op.move (Operand.tmp 3), type := 22, pos := "law.go:26", after := #[{ on := 10, ground := Ground.guard }], guard := some (10, true) } := by kernel_rfl
theorem al6_f11 : Region.free .any al6 al6_l11 11 = true := by kernel_rfl
theorem al6_r11 : (Region.ready .any al6 al6_l11).contains 11 = true := by kernel_rfl
def al6_l12 : Array Bool := al6_l11.setIfInBounds 11 true
theorem al6_g12 : al6[12]? = some { dst := some 23, op := Op.indexAddr 22 (Operand.tmp 22) (Operand.const (Value.int IntKind.i64 0)), type := 0, pos := "law.go:26", after := #[{ on := 11, ground := Ground.data }, { on := 10, ground := Ground.guard }], guard := some (10, true) } := by kernel_rfl
theorem al6_f12 : Region.free .any al6 al6_l12 12 = true := by kernel_rfl
theorem al6_r12 : (Region.ready .any al6 al6_l12).contains 12 = true := by kernel_rfl
def al6_l13 : Array Bool := al6_l12.setIfInBounds 12 true
theorem al6_g13 : al6[13]? = some { dst := some 24, op := Op.fieldAddr 26 (Operand.tmp 23) 1, type := 0, pos := "law.go:26", after := #[{ on := 12, ground := Ground.data }, { on := 10, ground := Ground.guard }], guard := some (10, true) } := by kernel_rfl
theorem al6_f13 : Region.free .any al6 al6_l13 13 = true := by kernel_rfl
theorem al6_r13 : (Region.ready .any al6 al6_l13).contains 13 = true := by kernel_rfl
def al6_l14 : Array Bool := al6_l13.setIfInBounds 13 true
theorem al6_g14 : al6[14]? = some { dst := some 25, op := Op.load 5 (Operand.tmp 24), type := 5, pos := "law.go:26", after := #[{ on := 13, ground := Ground.data }, { on := 10, ground := Ground.guard }], guard := some (10, true) } := by kernel_rfl
theorem al6_f14 : Region.free .any al6 al6_l14 14 = true := by kernel_rfl
theorem al6_r14 : (Region.ready .any al6 al6_l14).contains 14 = true := by kernel_rfl
def al6_l15 : Array Bool := al6_l14.setIfInBounds 14 true
theorem al6_g15 : al6[15]? = some { dst := some 26, op := Op.binOp BinOp.eql 5 (Operand.tmp 25) (Operand.const (Value.int IntKind.u8 253)) 5, type := 4, pos := "law.go:26", after := #[{ on := 14, ground := Ground.data }, { on := 10, ground := Ground.guard }], guard := some (10, true) } := by kernel_rfl
theorem al6_f15 : Region.free .any al6 al6_l15 15 = true := by kernel_rfl
theorem al6_r15 : (Region.ready .any al6 al6_l15).contains 15 = true := by kernel_rfl
def al6_l16 : Array Bool := al6_l15.setIfInBounds 15 true
theorem al6_g16 : al6[16]? = some { dst := some 27, op := Op.pick (Operand.tmp 21) (Operand.tmp 26) (Operand.const (Value.bool false)), type := 4, pos := "law.go:26", after := #[{ on := 10, ground := Ground.data }, { on := 15, ground := Ground.data }], guard := none } := by kernel_rfl
theorem al6_f16 : Region.free .any al6 al6_l16 16 = true := by kernel_rfl
theorem al6_r16 : (Region.ready .any al6 al6_l16).contains 16 = true := by kernel_rfl
def al6_l17 : Array Bool := al6_l16.setIfInBounds 16 true
theorem al6_g17 : al6[17]? = some { dst := some 28, op := Op.move (Operand.tmp 27), type := 4, pos := "law.go:26", after := #[{ on := 16, ground := Ground.data }, { on := 10, ground := Ground.chain }], guard := none } := by kernel_rfl
theorem al6_f17 : Region.free .any al6 al6_l17 17 = true := by kernel_rfl
theorem al6_r17 : (Region.ready .any al6 al6_l17).contains 17 = true := by kernel_rfl
def al6_l18 : Array Bool := al6_l17.setIfInBounds 17 true
theorem al6_g18 : al6[18]? = some { dst := some 29, op := Op.move (Operand.tmp 3), type := 22, pos := "law.go:26", after := #[{ on := 17, ground := Ground.guard }], guard := some (17, true) } := by kernel_rfl
theorem al6_f18 : Region.free .any al6 al6_l18 18 = true := by kernel_rfl
theorem al6_r18 : (Region.ready .any al6 al6_l18).contains 18 = true := by kernel_rfl
def al6_l19 : Array Bool := al6_l18.setIfInBounds 18 true
theorem al6_g19 : al6[19]? = some { dst := some 30, op := Op.indexAddr 22 (Operand.tmp 29) (Operand.const (Value.int IntKind.i64 0)), type := 0, pos := "law.go:26", after := #[{ on := 18, ground := Ground.data }, { on := 17, ground := Ground.guard }], guard := some (17, true) } := by kernel_rfl
theorem al6_f19 : Region.free .any al6 al6_l19 19 = true := by kernel_rfl
theorem al6_r19 : (Region.ready .any al6 al6_l19).contains 19 = true := by kernel_rfl
def al6_l20 : Array Bool := al6_l19.setIfInBounds 19 true
theorem al6_g20 : al6[20]? = some { dst := some 31, op := Op.fieldAddr 26 (Operand.tmp 30) 2, type := 0, pos := "law.go:26", after := #[{ on := 19, ground := Ground.data }, { on := 17, ground := Ground.guard }], guard := some (17, true) } := by kernel_rfl
theorem al6_f20 : Region.free .any al6 al6_l20 20 = true := by kernel_rfl
theorem al6_r20 : (Region.ready .any al6 al6_l20).contains 20 = true := by kernel_rfl
def al6_l21 : Array Bool := al6_l20.setIfInBounds 20 true
theorem al6_g21 : al6[21]? = some { dst := some 32, op := Op.load 5 (Operand.tmp 31), type := 5, pos := "law.go:26", after := #[{ on := 20, ground := Ground.data }, { on := 17, ground := Ground.guard }], guard := some (17, true) } := by kernel_rfl
theorem al6_f21 : Region.free .any al6 al6_l21 21 = true := by kernel_rfl
theorem al6_r21 : (Region.ready .any al6 al6_l21).contains 21 = true := by kernel_rfl
def al6_l22 : Array Bool := al6_l21.setIfInBounds 21 true
theorem al6_g22 : al6[22]? = some { dst := some 33, op := Op.binOp BinOp.eql 5 (Operand.tmp 32) (Operand.const (Value.int IntKind.u8 25)) 5, type := 4, pos := "law.go:26", after := #[{ on := 21, ground := Ground.data }, { on := 17, ground := Ground.guard }], guard := some (17, true) } := by kernel_rfl
theorem al6_f22 : Region.free .any al6 al6_l22 22 = true := by kernel_rfl
theorem al6_r22 : (Region.ready .any al6 al6_l22).contains 22 = true := by kernel_rfl
def al6_l23 : Array Bool := al6_l22.setIfInBounds 22 true
theorem al6_g23 : al6[23]? = some { dst := some 34, op := Op.pick (Operand.tmp 28) (Operand.tmp 33) (Operand.const (Value.bool false)), type := 4, pos := "law.go:26", after := #[{ on := 17, ground := Ground.data }, { on := 22, ground := Ground.data }], guard := none } := by kernel_rfl
theorem al6_f23 : Region.free .any al6 al6_l23 23 = true := by kernel_rfl
theorem al6_r23 : (Region.ready .any al6 al6_l23).contains 23 = true := by kernel_rfl
def al6_l24 : Array Bool := al6_l23.setIfInBounds 23 true
theorem al6_g24 : al6[24]? = some { dst := some 35, op := Op.move (Operand.tmp 34), type := 4, pos := "law.go:26", after := #[{ on := 23, ground := Ground.data }, { on := 17, ground := Ground.chain }], guard := none } := by kernel_rfl
theorem al6_f24 : Region.free .any al6 al6_l24 24 = true := by kernel_rfl
theorem al6_r24 : (Region.ready .any al6 al6_l24).contains 24 = true := by kernel_rfl
def al6_l25 : Array Bool := al6_l24.setIfInBounds 24 true
theorem al6_g25 : al6[25]? = some { dst := some 36, op := Op.move (Operand.tmp 3), type := 22, pos := "law.go:26", after := #[{ on := 24, ground := Ground.guard }], guard := some (24, true) } := by kernel_rfl
theorem al6_f25 : Region.free .any al6 al6_l25 25 = true := by kernel_rfl
theorem al6_r25 : (Region.ready .any al6 al6_l25).contains 25 = true := by kernel_rfl
def al6_l26 : Array Bool := al6_l25.setIfInBounds 25 true
theorem al6_g26 : al6[26]? = some { dst := some 37, op := Op.indexAddr 22 (Operand.tmp 36) (Operand.const (Value.int IntKind.i64 1)), type := 0, pos := "law.go:26", after := #[{ on := 25, ground := Ground.data }, { on := 24, ground := Ground.guard }], guard := some (24, true) } := by kernel_rfl
theorem al6_f26 : Region.free .any al6 al6_l26 26 = true := by kernel_rfl
theorem al6_r26 : (Region.ready .any al6 al6_l26).contains 26 = true := by kernel_rfl
def al6_l27 : Array Bool := al6_l26.setIfInBounds 26 true
theorem al6_g27 : al6[27]? = some { dst := some 38, op := Op.fieldAddr 26 (Operand.tmp 37) 0, type := 0, pos := "law.go:26", after := #[{ on := 26, ground := Ground.data }, { on := 24, ground := Ground.guard }], guard := some (24, true) } := by kernel_rfl
theorem al6_f27 : Region.free .any al6 al6_l27 27 = true := by kernel_rfl
theorem al6_r27 : (Region.ready .any al6 al6_l27).contains 27 = true := by kernel_rfl
def al6_l28 : Array Bool := al6_l27.setIfInBounds 27 true
theorem al6_g28 : al6[28]? = some { dst := some 39, op := Op.load 3 (Operand.tmp 38), type := 3, pos := "law.go:26", after := #[{ on := 27, ground := Ground.data }, { on := 24, ground := Ground.guard }], guard := some (24, true) } := by kernel_rfl
theorem al6_f28 : Region.free .any al6 al6_l28 28 = true := by kernel_rfl
theorem al6_r28 : (Region.ready .any al6 al6_l28).contains 28 = true := by kernel_rfl
def al6_l29 : Array Bool := al6_l28.setIfInBounds 28 true
theorem al6_g29 : al6[29]? = some { dst := some 40, op := Op.binOp BinOp.eql 3 (Operand.tmp 39) (Operand.const (Value.int IntKind.i64 1)) 3, type := 4, pos := "law.go:26", after := #[{ on := 28, ground := Ground.data }, { on := 24, ground := Ground.guard }], guard := some (24, true) } := by kernel_rfl
theorem al6_f29 : Region.free .any al6 al6_l29 29 = true := by kernel_rfl
theorem al6_r29 : (Region.ready .any al6 al6_l29).contains 29 = true := by kernel_rfl
def al6_l30 : Array Bool := al6_l29.setIfInBounds 29 true
theorem al6_g30 : al6[30]? = some { dst := some 41, op := Op.pick (Operand.tmp 35) (Operand.tmp 40) (Operand.const (Value.bool false)), type := 4, pos := "law.go:26", after := #[{ on := 24, ground := Ground.data }, { on := 29, ground := Ground.data }], guard := none } := by kernel_rfl
theorem al6_f30 : Region.free .any al6 al6_l30 30 = true := by kernel_rfl
theorem al6_r30 : (Region.ready .any al6 al6_l30).contains 30 = true := by kernel_rfl
def al6_l31 : Array Bool := al6_l30.setIfInBounds 30 true
theorem al6_g31 : al6[31]? = some { dst := some 42, op := Op.move (Operand.tmp 41), type := 4, pos := "law.go:26", after := #[{ on := 30, ground := Ground.data }, { on := 24, ground := Ground.chain }], guard := none } := by kernel_rfl
theorem al6_f31 : Region.free .any al6 al6_l31 31 = true := by kernel_rfl
theorem al6_r31 : (Region.ready .any al6 al6_l31).contains 31 = true := by kernel_rfl
def al6_l32 : Array Bool := al6_l31.setIfInBounds 31 true
theorem al6_g32 : al6[32]? = some { dst := some 43, op := Op.move (Operand.tmp 3), type := 22, pos := "law.go:26", after := #[{ on := 31, ground := Ground.guard }], guard := some (31, true) } := by kernel_rfl
theorem al6_f32 : Region.free .any al6 al6_l32 32 = true := by kernel_rfl
theorem al6_r32 : (Region.ready .any al6 al6_l32).contains 32 = true := by kernel_rfl
def al6_l33 : Array Bool := al6_l32.setIfInBounds 32 true
theorem al6_g33 : al6[33]? = some { dst := some 44, op := Op.indexAddr 22 (Operand.tmp 43) (Operand.const (Value.int IntKind.i64 1)), type := 0, pos := "law.go:26", after := #[{ on := 32, ground := Ground.data }, { on := 31, ground := Ground.guard }], guard := some (31, true) } := by kernel_rfl
theorem al6_f33 : Region.free .any al6 al6_l33 33 = true := by kernel_rfl
theorem al6_r33 : (Region.ready .any al6 al6_l33).contains 33 = true := by kernel_rfl
def al6_l34 : Array Bool := al6_l33.setIfInBounds 33 true
theorem al6_g34 : al6[34]? = some { dst := some 45, op := Op.fieldAddr 26 (Operand.tmp 44) 3, type := 0, pos := "law.go:26", after := #[{ on := 33, ground := Ground.data }, { on := 31, ground := Ground.guard }], guard := some (31, true) } := by kernel_rfl
theorem al6_f34 : Region.free .any al6 al6_l34 34 = true := by kernel_rfl
theorem al6_r34 : (Region.ready .any al6 al6_l34).contains 34 = true := by kernel_rfl
def al6_l35 : Array Bool := al6_l34.setIfInBounds 34 true
theorem al6_g35 : al6[35]? = some { dst := some 46, op := Op.load 24 (Operand.tmp 45), type := 24, pos := "law.go:26", after := #[{ on := 34, ground := Ground.data }, { on := 31, ground := Ground.guard }], guard := some (31, true) } := by kernel_rfl
theorem al6_f35 : Region.free .any al6 al6_l35 35 = true := by kernel_rfl
theorem al6_r35 : (Region.ready .any al6 al6_l35).contains 35 = true := by kernel_rfl
def al6_l36 : Array Bool := al6_l35.setIfInBounds 35 true
theorem al6_g36 : al6[36]? = some { dst := some 47, op := Op.convert 24 9 (Operand.tmp 46), type := 9, pos := "law.go:26", after := #[{ on := 35, ground := Ground.data }, { on := 31, ground := Ground.guard }], guard := some (31, true) } := by kernel_rfl
theorem al6_f36 : Region.free .any al6 al6_l36 36 = true := by kernel_rfl
theorem al6_r36 : (Region.ready .any al6 al6_l36).contains 36 = true := by kernel_rfl
def al6_l37 : Array Bool := al6_l36.setIfInBounds 36 true
theorem al6_g37 : al6[37]? = some { dst := some 48, op := Op.binOp BinOp.eql 9 (Operand.tmp 47) (Operand.const (Value.string { data := #[1, 255] })) 9, type := 4, pos := "law.go:26", after := #[{ on := 36, ground := Ground.data }, { on := 31, ground := Ground.guard }], guard := some (31, true) } := by kernel_rfl
theorem al6_f37 : Region.free .any al6 al6_l37 37 = true := by kernel_rfl
theorem al6_r37 : (Region.ready .any al6 al6_l37).contains 37 = true := by kernel_rfl
def al6_l38 : Array Bool := al6_l37.setIfInBounds 37 true
theorem al6_g38 : al6[38]? = some { dst := some 49, op := Op.pick (Operand.tmp 42) (Operand.tmp 48) (Operand.const (Value.bool false)), type := 4, pos := "law.go:26", after := #[{ on := 31, ground := Ground.data }, { on := 37, ground := Ground.data }], guard := none } := by kernel_rfl
theorem al6_f38 : Region.free .any al6 al6_l38 38 = true := by kernel_rfl
theorem al6_r38 : (Region.ready .any al6 al6_l38).contains 38 = true := by kernel_rfl
def al6_l39 : Array Bool := al6_l38.setIfInBounds 38 true
theorem al6_g39 : al6[39]? = some { dst := some 50, op := Op.move (Operand.tmp 49), type := 4, pos := "law.go:26", after := #[{ on := 38, ground := Ground.data }, { on := 31, ground := Ground.chain }], guard := none } := by kernel_rfl
theorem al6_f39 : Region.free .any al6 al6_l39 39 = true := by kernel_rfl
theorem al6_r39 : (Region.ready .any al6 al6_l39).contains 39 = true := by kernel_rfl
def al6_l40 : Array Bool := al6_l39.setIfInBounds 39 true
theorem al6_g40 : al6[40]? = some { dst := some 51, op := Op.move (Operand.tmp 3), type := 22, pos := "law.go:26", after := #[{ on := 39, ground := Ground.guard }], guard := some (39, true) } := by kernel_rfl
theorem al6_f40 : Region.free .any al6 al6_l40 40 = true := by kernel_rfl
theorem al6_r40 : (Region.ready .any al6 al6_l40).contains 40 = true := by kernel_rfl
def al6_l41 : Array Bool := al6_l40.setIfInBounds 40 true
theorem al6_g41 : al6[41]? = some { dst := some 52, op := Op.indexAddr 22 (Operand.tmp 51) (Operand.const (Value.int IntKind.i64 2)), type := 0, pos := "law.go:26", after := #[{ on := 40, ground := Ground.data }, { on := 39, ground := Ground.guard }], guard := some (39, true) } := by kernel_rfl
theorem al6_f41 : Region.free .any al6 al6_l41 41 = true := by kernel_rfl
theorem al6_r41 : (Region.ready .any al6 al6_l41).contains 41 = true := by kernel_rfl
def al6_l42 : Array Bool := al6_l41.setIfInBounds 41 true
theorem al6_g42 : al6[42]? = some { dst := some 53, op := Op.fieldAddr 26 (Operand.tmp 52) 0, type := 0, pos := "law.go:26", after := #[{ on := 41, ground := Ground.data }, { on := 39, ground := Ground.guard }], guard := some (39, true) } := by kernel_rfl
theorem al6_f42 : Region.free .any al6 al6_l42 42 = true := by kernel_rfl
theorem al6_r42 : (Region.ready .any al6 al6_l42).contains 42 = true := by kernel_rfl
def al6_l43 : Array Bool := al6_l42.setIfInBounds 42 true
theorem al6_g43 : al6[43]? = some { dst := some 54, op := Op.load 3 (Operand.tmp 53), type := 3, pos := "law.go:26", after := #[{ on := 42, ground := Ground.data }, { on := 39, ground := Ground.guard }], guard := some (39, true) } := by kernel_rfl
theorem al6_f43 : Region.free .any al6 al6_l43 43 = true := by kernel_rfl
theorem al6_r43 : (Region.ready .any al6 al6_l43).contains 43 = true := by kernel_rfl
def al6_l44 : Array Bool := al6_l43.setIfInBounds 43 true
theorem al6_g44 : al6[44]? = some { dst := some 55, op := Op.binOp BinOp.eql 3 (Operand.tmp 54) (Operand.const (Value.int IntKind.i64 2)) 3, type := 4, pos := "law.go:26", after := #[{ on := 43, ground := Ground.data }, { on := 39, ground := Ground.guard }], guard := some (39, true) } := by kernel_rfl
theorem al6_f44 : Region.free .any al6 al6_l44 44 = true := by kernel_rfl
theorem al6_r44 : (Region.ready .any al6 al6_l44).contains 44 = true := by kernel_rfl
def al6_l45 : Array Bool := al6_l44.setIfInBounds 44 true
theorem al6_g45 : al6[45]? = some { dst := some 56, op := Op.pick (Operand.tmp 50) (Operand.tmp 55) (Operand.const (Value.bool false)), type := 4, pos := "law.go:26", after := #[{ on := 39, ground := Ground.data }, { on := 44, ground := Ground.data }], guard := none } := by kernel_rfl
theorem al6_f45 : Region.free .any al6 al6_l45 45 = true := by kernel_rfl
theorem al6_r45 : (Region.ready .any al6 al6_l45).contains 45 = true := by kernel_rfl
def al6_l46 : Array Bool := al6_l45.setIfInBounds 45 true
theorem al6_g46 : al6[46]? = some { dst := some 57, op := Op.move (Operand.tmp 56), type := 4, pos := "law.go:26", after := #[{ on := 45, ground := Ground.data }, { on := 39, ground := Ground.chain }], guard := none } := by kernel_rfl
theorem al6_f46 : Region.free .any al6 al6_l46 46 = true := by kernel_rfl
theorem al6_r46 : (Region.ready .any al6 al6_l46).contains 46 = true := by kernel_rfl
def al6_l47 : Array Bool := al6_l46.setIfInBounds 46 true
theorem al6_g47 : al6[47]? = some { dst := some 58, op := Op.move (Operand.tmp 4), type := 4, pos := "law.go:26", after := #[{ on := 46, ground := Ground.guard }], guard := some (46, true) } := by kernel_rfl
theorem al6_f47 : Region.free .any al6 al6_l47 47 = true := by kernel_rfl
theorem al6_r47 : (Region.ready .any al6 al6_l47).contains 47 = true := by kernel_rfl
def al6_l48 : Array Bool := al6_l47.setIfInBounds 47 true
theorem al6_g48 : al6[48]? = some { dst := some 59, op := Op.unOp UnOp.not 4 (Operand.tmp 58), type := 4, pos := "law.go:26", after := #[{ on := 47, ground := Ground.data }, { on := 46, ground := Ground.guard }], guard := some (46, true) } := by kernel_rfl
theorem al6_f48 : Region.free .any al6 al6_l48 48 = true := by kernel_rfl
theorem al6_r48 : (Region.ready .any al6 al6_l48).contains 48 = true := by kernel_rfl
def al6_l49 : Array Bool := al6_l48.setIfInBounds 48 true
theorem al6_g49 : al6[49]? = some { dst := some 60, op := Op.pick (Operand.tmp 57) (Operand.tmp 59) (Operand.const (Value.bool false)), type := 4, pos := "law.go:26", after := #[{ on := 46, ground := Ground.data }, { on := 48, ground := Ground.data }], guard := none } := by kernel_rfl
theorem al6_f49 : Region.free .any al6 al6_l49 49 = true := by kernel_rfl
theorem al6_r49 : (Region.ready .any al6 al6_l49).contains 49 = true := by kernel_rfl
def al6_l50 : Array Bool := al6_l49.setIfInBounds 49 true
theorem al6_g50 : al6[50]? = some { dst := some 61, op := Op.move (Operand.tmp 60), type := 4, pos := "law.go:26", after := #[{ on := 49, ground := Ground.data }, { on := 46, ground := Ground.chain }], guard := none } := by kernel_rfl
theorem al6_f50 : Region.free .any al6 al6_l50 50 = true := by kernel_rfl
theorem al6_r50 : (Region.ready .any al6 al6_l50).contains 50 = true := by kernel_rfl
def al6_l51 : Array Bool := al6_l50.setIfInBounds 50 true
theorem al6_g51 : al6[51]? = some { dst := some 62, op := Op.call { callee := Callee.value (Operand.func 63), args := #[Operand.tmp 1], argTypes := #[102] }, type := 4, pos := "law.go:26", after := #[{ on := 50, ground := Ground.chain }, { on := 50, ground := Ground.guard }], guard := some (50, true) } := by kernel_rfl
theorem al6_r51 : Region.ready .any al6 al6_l51 = [51] := by kernel_rfl
def al6_l52 : Array Bool := al6_l51.setIfInBounds 51 true
theorem al6_g52 : al6[52]? = some { dst := some 63, op := Op.pick (Operand.tmp 61) (Operand.tmp 62) (Operand.const (Value.bool false)), type := 4, pos := "law.go:26", after := #[{ on := 50, ground := Ground.data }, { on := 51, ground := Ground.data }], guard := none } := by kernel_rfl
theorem al6_f52 : Region.free .any al6 al6_l52 52 = true := by kernel_rfl
theorem al6_r52 : (Region.ready .any al6 al6_l52).contains 52 = true := by kernel_rfl
def al6_l53 : Array Bool := al6_l52.setIfInBounds 52 true
theorem al6_g53 : al6[53]? = some { dst := some 64, op := Op.move (Operand.tmp 63), type := 4, pos := "law.go:26", after := #[{ on := 52, ground := Ground.data }, { on := 51, ground := Ground.chain }], guard := none } := by kernel_rfl
theorem al6_f53 : Region.free .any al6 al6_l53 53 = true := by kernel_rfl
theorem al6_r53 : (Region.ready .any al6 al6_l53).contains 53 = true := by kernel_rfl
def al6_l54 : Array Bool := al6_l53.setIfInBounds 53 true
theorem al6_g54 : al6[54]? = some { dst := some 65, op := Op.move (Operand.tmp 3), type := 22, pos := "law.go:26", after := #[{ on := 53, ground := Ground.guard }], guard := some (53, true) } := by kernel_rfl
theorem al6_f54 : Region.free .any al6 al6_l54 54 = true := by kernel_rfl
theorem al6_r54 : (Region.ready .any al6 al6_l54).contains 54 = true := by kernel_rfl
def al6_l55 : Array Bool := al6_l54.setIfInBounds 54 true
theorem al6_g57 : al6[57]? = some { dst := some 68, op := Op.move (Operand.tmp 2), type := 24, pos := "law.go:26", after := #[{ on := 53, ground := Ground.guard }], guard := some (53, true) } := by kernel_rfl
theorem al6_f55 : Region.free .any al6 al6_l55 57 = true := by kernel_rfl
theorem al6_r55 : (Region.ready .any al6 al6_l55).contains 57 = true := by kernel_rfl
def al6_l56 : Array Bool := al6_l55.setIfInBounds 57 true
theorem al6_g58 : al6[58]? = some { dst := some 69, op := Op.convert 24 9 (Operand.tmp 68), type := 9, pos := "law.go:26", after := #[{ on := 57, ground := Ground.data }, { on := 53, ground := Ground.guard }], guard := some (53, true) } := by kernel_rfl
theorem al6_f56 : Region.free .any al6 al6_l56 58 = true := by kernel_rfl
theorem al6_r56 : (Region.ready .any al6 al6_l56).contains 58 = true := by kernel_rfl
def al6_l57 : Array Bool := al6_l56.setIfInBounds 58 true
theorem al6_g55 : al6[55]? = some { dst := some 66, op := Op.call { callee := Callee.value (Operand.func 17), args := #[Operand.tmp 65], argTypes := #[22] }, type := 24, pos := "law.go:26", after := #[{ on := 54, ground := Ground.data }, { on := 53, ground := Ground.chain }, { on := 53, ground := Ground.guard }], guard := some (53, true) } := by kernel_rfl
theorem al6_r57 : Region.ready .any al6 al6_l57 = [55] := by kernel_rfl
def al6_l58 : Array Bool := al6_l57.setIfInBounds 55 true
theorem al6_g56 : al6[56]? = some { dst := some 67, op := Op.convert 24 9 (Operand.tmp 66), type := 9, pos := "law.go:26", after := #[{ on := 55, ground := Ground.data }, { on := 53, ground := Ground.guard }], guard := some (53, true) } := by kernel_rfl
theorem al6_r58 : Region.ready .any al6 al6_l58 = [56] := by kernel_rfl
def al6_l59 : Array Bool := al6_l58.setIfInBounds 56 true
theorem al6_g59 : al6[59]? = some { dst := some 70, op := Op.binOp BinOp.eql 9 (Operand.tmp 67) (Operand.tmp 69) 9, type := 4, pos := "law.go:26", after := #[{ on := 56, ground := Ground.data }, { on := 58, ground := Ground.data }, { on := 53, ground := Ground.guard }], guard := some (53, true) } := by kernel_rfl
theorem al6_f59 : Region.free .any al6 al6_l59 59 = true := by kernel_rfl
theorem al6_r59 : (Region.ready .any al6 al6_l59).contains 59 = true := by kernel_rfl
def al6_l60 : Array Bool := al6_l59.setIfInBounds 59 true
theorem al6_g60 : al6[60]? = some { dst := some 71, op := Op.pick (Operand.tmp 64) (Operand.tmp 70) (Operand.const (Value.bool false)), type := 4, pos := "law.go:26", after := #[{ on := 53, ground := Ground.data }, { on := 59, ground := Ground.data }], guard := none } := by kernel_rfl
theorem al6_f60 : Region.free .any al6 al6_l60 60 = true := by kernel_rfl
theorem al6_r60 : (Region.ready .any al6 al6_l60).contains 60 = true := by kernel_rfl
def al6_l61 : Array Bool := al6_l60.setIfInBounds 60 true
theorem al6_g61 : al6[61]? = some { dst := some 72, op := Op.move (Operand.tmp 71), type := 4, pos := "law.go:26", after := #[{ on := 60, ground := Ground.data }, { on := 55, ground := Ground.chain }], guard := none } := by kernel_rfl
theorem al6_f61 : Region.free .any al6 al6_l61 61 = true := by kernel_rfl
theorem al6_r61 : (Region.ready .any al6 al6_l61).contains 61 = true := by kernel_rfl
def al6_l62 : Array Bool := al6_l61.setIfInBounds 61 true
theorem al6_g62 : al6[62]? = some { dst := some 73, op := Op.buildSlice 24 1 #[(0, Operand.const (Value.int IntKind.u8 0))], type := 24, pos := "law.go:26", after := #[{ on := 61, ground := Ground.guard }], guard := some (61, true) } := by kernel_rfl
theorem al6_r62 : Region.ready .any al6 al6_l62 = [62] := by kernel_rfl
def al6_l63 : Array Bool := al6_l62.setIfInBounds 62 true
theorem al6_g63 : al6[63]? = some { dst := some 74, op := Op.call { callee := Callee.value (Operand.func 14), args := #[Operand.const (Value.int IntKind.u8 24), Operand.tmp 73], argTypes := #[5, 24] }, type := 24, pos := "law.go:26", after := #[{ on := 62, ground := Ground.data }, { on := 61, ground := Ground.chain }, { on := 61, ground := Ground.guard }], guard := some (61, true) } := by kernel_rfl
theorem al6_r63 : Region.ready .any al6 al6_l63 = [63] := by kernel_rfl
def al6_l64 : Array Bool := al6_l63.setIfInBounds 63 true
theorem al6_g64 : al6[64]? = some { dst := some 75, op := Op.convert 24 9 (Operand.tmp 74), type := 9, pos := "law.go:26", after := #[{ on := 63, ground := Ground.data }, { on := 61, ground := Ground.guard }], guard := some (61, true) } := by kernel_rfl
theorem al6_r64 : Region.ready .any al6 al6_l64 = [64] := by kernel_rfl
def al6_l65 : Array Bool := al6_l64.setIfInBounds 64 true
theorem al6_g65 : al6[65]? = some { dst := some 76, op := Op.binOp BinOp.eql 9 (Operand.tmp 75) (Operand.const (Value.string { data := #[255, 250, 24, 0, 255, 240] })) 9, type := 4, pos := "law.go:26", after := #[{ on := 64, ground := Ground.data }, { on := 61, ground := Ground.guard }], guard := some (61, true) } := by kernel_rfl
theorem al6_f65 : Region.free .any al6 al6_l65 65 = true := by kernel_rfl
theorem al6_r65 : (Region.ready .any al6 al6_l65).contains 65 = true := by kernel_rfl
def al6_l66 : Array Bool := al6_l65.setIfInBounds 65 true
theorem al6_g66 : al6[66]? = some { dst := some 77, op := Op.pick (Operand.tmp 72) (Operand.tmp 76) (Operand.const (Value.bool false)), type := 4, pos := "law.go:26", after := #[{ on := 61, ground := Ground.data }, { on := 65, ground := Ground.data }], guard := none } := by kernel_rfl
theorem al6_f66 : Region.free .any al6 al6_l66 66 = true := by kernel_rfl
theorem al6_r66 : (Region.ready .any al6 al6_l66).contains 66 = true := by kernel_rfl
def al6_l67 : Array Bool := al6_l66.setIfInBounds 66 true
theorem al6_g67 : al6[67]? = some { dst := some 78, op := Op.move (Operand.tmp 77), type := 4, pos := "law.go:26", after := #[{ on := 66, ground := Ground.data }, { on := 63, ground := Ground.chain }], guard := none } := by kernel_rfl
theorem al6_f67 : Region.free .any al6 al6_l67 67 = true := by kernel_rfl
theorem al6_r67 : (Region.ready .any al6 al6_l67).contains 67 = true := by kernel_rfl
def al6_l68 : Array Bool := al6_l67.setIfInBounds 67 true
theorem al6_g68 : al6[68]? = some { dst := some 79, op := Op.buildSlice 24 1 #[(0, Operand.const (Value.int IntKind.u8 255))], type := 24, pos := "law.go:26", after := #[{ on := 67, ground := Ground.guard }], guard := some (67, true) } := by kernel_rfl
theorem al6_r68 : Region.ready .any al6 al6_l68 = [68] := by kernel_rfl
def al6_l69 : Array Bool := al6_l68.setIfInBounds 68 true
theorem al6_g69 : al6[69]? = some { dst := some 80, op := Op.call { callee := Callee.value (Operand.func 16), args := #[Operand.tmp 79], argTypes := #[24] }, type := 24, pos := "law.go:26", after := #[{ on := 68, ground := Ground.data }, { on := 67, ground := Ground.chain }, { on := 67, ground := Ground.guard }], guard := some (67, true) } := by kernel_rfl
theorem al6_r69 : Region.ready .any al6 al6_l69 = [69] := by kernel_rfl
def al6_l70 : Array Bool := al6_l69.setIfInBounds 69 true
theorem al6_g70 : al6[70]? = some { dst := some 81, op := Op.convert 24 9 (Operand.tmp 80), type := 9, pos := "law.go:26", after := #[{ on := 69, ground := Ground.data }, { on := 67, ground := Ground.guard }], guard := some (67, true) } := by kernel_rfl
theorem al6_r70 : Region.ready .any al6 al6_l70 = [70] := by kernel_rfl
def al6_l71 : Array Bool := al6_l70.setIfInBounds 70 true
theorem al6_g71 : al6[71]? = some { dst := some 82, op := Op.binOp BinOp.eql 9 (Operand.tmp 81) (Operand.const (Value.string { data := #[255, 255, 255, 239] })) 9, type := 4, pos := "law.go:26", after := #[{ on := 70, ground := Ground.data }, { on := 67, ground := Ground.guard }], guard := some (67, true) } := by kernel_rfl
theorem al6_f71 : Region.free .any al6 al6_l71 71 = true := by kernel_rfl
theorem al6_r71 : (Region.ready .any al6 al6_l71).contains 71 = true := by kernel_rfl
def al6_l72 : Array Bool := al6_l71.setIfInBounds 71 true
theorem al6_g72 : al6[72]? = some { dst := some 83, op := Op.pick (Operand.tmp 78) (Operand.tmp 82) (Operand.const (Value.bool false)), type := 4, pos := "law.go:26", after := #[{ on := 67, ground := Ground.data }, { on := 71, ground := Ground.data }], guard := none } := by kernel_rfl
theorem al6_f72 : Region.free .any al6 al6_l72 72 = true := by kernel_rfl
theorem al6_r72 : (Region.ready .any al6 al6_l72).contains 72 = true := by kernel_rfl
def al6_l73 : Array Bool := al6_l72.setIfInBounds 72 true
theorem al6_g73 : al6[73]? = some { dst := some 84, op := Op.move (Operand.tmp 83), type := 4, pos := "law.go:26", after := #[{ on := 72, ground := Ground.data }, { on := 69, ground := Ground.chain }], guard := none } := by kernel_rfl
theorem al6_f73 : Region.free .any al6 al6_l73 73 = true := by kernel_rfl
theorem al6_r73 : (Region.ready .any al6 al6_l73).contains 73 = true := by kernel_rfl
def al6_l74 : Array Bool := al6_l73.setIfInBounds 73 true
theorem al6_g74 : al6[74]? = some { dst := some 85, op := Op.call { callee := Callee.value (Operand.func 22), args := #[Operand.const (Value.int IntKind.u8 251), Operand.const (Value.int IntKind.u8 25)], argTypes := #[5, 5] }, type := 24, pos := "law.go:26", after := #[{ on := 73, ground := Ground.chain }, { on := 73, ground := Ground.guard }], guard := some (73, true) } := by kernel_rfl
theorem al6_r74 : Region.ready .any al6 al6_l74 = [74] := by kernel_rfl
def al6_l75 : Array Bool := al6_l74.setIfInBounds 74 true
theorem al6_g75 : al6[75]? = some { dst := some 86, op := Op.convert 24 9 (Operand.tmp 85), type := 9, pos := "law.go:26", after := #[{ on := 74, ground := Ground.data }, { on := 73, ground := Ground.guard }], guard := some (73, true) } := by kernel_rfl
theorem al6_r75 : Region.ready .any al6 al6_l75 = [75] := by kernel_rfl
def al6_l76 : Array Bool := al6_l75.setIfInBounds 75 true
theorem al6_g76 : al6[76]? = some { dst := some 87, op := Op.binOp BinOp.eql 9 (Operand.tmp 86) (Operand.const (Value.string { data := #[255, 251, 25] })) 9, type := 4, pos := "law.go:26", after := #[{ on := 75, ground := Ground.data }, { on := 73, ground := Ground.guard }], guard := some (73, true) } := by kernel_rfl
theorem al6_f76 : Region.free .any al6 al6_l76 76 = true := by kernel_rfl
theorem al6_r76 : (Region.ready .any al6 al6_l76).contains 76 = true := by kernel_rfl
def al6_l77 : Array Bool := al6_l76.setIfInBounds 76 true
theorem al6_g77 : al6[77]? = some { dst := some 88, op := Op.pick (Operand.tmp 84) (Operand.tmp 87) (Operand.const (Value.bool false)), type := 4, pos := "law.go:26", after := #[{ on := 73, ground := Ground.data }, { on := 76, ground := Ground.data }], guard := none } := by kernel_rfl
theorem al6_f77 : Region.free .any al6 al6_l77 77 = true := by kernel_rfl
theorem al6_r77 : (Region.ready .any al6 al6_l77).contains 77 = true := by kernel_rfl
def al6_l78 : Array Bool := al6_l77.setIfInBounds 77 true
theorem al6_g78 : al6[78]? = some { dst := some 89, op := Op.move (Operand.tmp 88), type := 4, pos := "law.go:26", after := #[{ on := 77, ground := Ground.data }, { on := 74, ground := Ground.chain }], guard := none } := by kernel_rfl
theorem al6_f78 : Region.free .any al6 al6_l78 78 = true := by kernel_rfl
theorem al6_r78 : (Region.ready .any al6 al6_l78).contains 78 = true := by kernel_rfl
def al6_l79 : Array Bool := al6_l78.setIfInBounds 78 true
theorem al6_g79 : al6[79]? = some { dst := some 90, op := Op.buildSlice 24 2 #[(0, Operand.const (Value.int IntKind.u8 255)), (1, Operand.const (Value.int IntKind.u8 1))], type := 24, pos := "law.go:26", after := #[{ on := 78, ground := Ground.guard }], guard := some (78, true) } := by kernel_rfl
theorem al6_r79 : Region.ready .any al6 al6_l79 = [79] := by kernel_rfl
def al6_l80 : Array Bool := al6_l79.setIfInBounds 79 true
theorem al6_g80 : al6[80]? = some { dst := some 91, op := Op.call { callee := Callee.value (Operand.func 12), args := #[Operand.tmp 90], argTypes := #[24] }, type := 24, pos := "law.go:26", after := #[{ on := 79, ground := Ground.data }, { on := 78, ground := Ground.chain }, { on := 78, ground := Ground.guard }], guard := some (78, true) } := by kernel_rfl
theorem al6_r80 : Region.ready .any al6 al6_l80 = [80] := by kernel_rfl
def al6_l81 : Array Bool := al6_l80.setIfInBounds 80 true
theorem al6_g81 : al6[81]? = some { dst := some 92, op := Op.convert 24 9 (Operand.tmp 91), type := 9, pos := "law.go:26", after := #[{ on := 80, ground := Ground.data }, { on := 78, ground := Ground.guard }], guard := some (78, true) } := by kernel_rfl
theorem al6_r81 : Region.ready .any al6 al6_l81 = [81] := by kernel_rfl
def al6_l82 : Array Bool := al6_l81.setIfInBounds 81 true
theorem al6_g82 : al6[82]? = some { dst := some 93, op := Op.binOp BinOp.eql 9 (Operand.tmp 92) (Operand.const (Value.string { data := #[255, 255, 1] })) 9, type := 4, pos := "law.go:26", after := #[{ on := 81, ground := Ground.data }, { on := 78, ground := Ground.guard }], guard := some (78, true) } := by kernel_rfl
theorem al6_f82 : Region.free .any al6 al6_l82 82 = true := by kernel_rfl
theorem al6_r82 : (Region.ready .any al6 al6_l82).contains 82 = true := by kernel_rfl
def al6_l83 : Array Bool := al6_l82.setIfInBounds 82 true
theorem al6_g83 : al6[83]? = some { dst := some 94, op := Op.pick (Operand.tmp 89) (Operand.tmp 93) (Operand.const (Value.bool false)), type := 4, pos := "law.go:26", after := #[{ on := 78, ground := Ground.data }, { on := 82, ground := Ground.data }], guard := none } := by kernel_rfl
theorem al6_f83 : Region.free .any al6 al6_l83 83 = true := by kernel_rfl
theorem al6_r83 : (Region.ready .any al6 al6_l83).contains 83 = true := by kernel_rfl
def al6_l84 : Array Bool := al6_l83.setIfInBounds 83 true
theorem al6_g84 : al6[84]? = some { dst := some 95, op := Op.move (Operand.tmp 94), type := 4, pos := "law.go:26", after := #[{ on := 83, ground := Ground.data }, { on := 80, ground := Ground.chain }], guard := none } := by kernel_rfl
theorem al6_f84 : Region.free .any al6 al6_l84 84 = true := by kernel_rfl
theorem al6_r84 : (Region.ready .any al6 al6_l84).contains 84 = true := by kernel_rfl
def al6_l85 : Array Bool := al6_l84.setIfInBounds 84 true
theorem al6_g85 : al6[85]? = some { dst := some 96, op := Op.build 26 #[(0, Operand.const (Value.int IntKind.i64 1))], type := 26, pos := "law.go:26", after := #[{ on := 84, ground := Ground.guard }], guard := some (84, true) } := by kernel_rfl
theorem al6_f85 : Region.free .any al6 al6_l85 85 = true := by kernel_rfl
theorem al6_r85 : (Region.ready .any al6 al6_l85).contains 85 = true := by kernel_rfl
def al6_l86 : Array Bool := al6_l85.setIfInBounds 85 true
theorem al6_g86 : al6[86]? = some { dst := some 97, op := Op.build 26 #[(0, Operand.const (Value.int IntKind.i64 2))], type := 26, pos := "law.go:26", after := #[{ on := 84, ground := Ground.guard }], guard := some (84, true) } := by kernel_rfl
theorem al6_f86 : Region.free .any al6 al6_l86 86 = true := by kernel_rfl
theorem al6_r86 : (Region.ready .any al6 al6_l86).contains 86 = true := by kernel_rfl
def al6_l87 : Array Bool := al6_l86.setIfInBounds 86 true
theorem al6_g87 : al6[87]? = some { dst := some 98, op := Op.buildSlice 22 2 #[(0, Operand.tmp 96), (1, Operand.tmp 97)], type := 22, pos := "law.go:26", after := #[{ on := 85, ground := Ground.data }, { on := 86, ground := Ground.data }, { on := 84, ground := Ground.guard }], guard := some (84, true) } := by kernel_rfl
theorem al6_r87 : Region.ready .any al6 al6_l87 = [87] := by kernel_rfl
def al6_l88 : Array Bool := al6_l87.setIfInBounds 87 true
theorem al6_g88 : al6[88]? = some { dst := some 99, op := Op.call { callee := Callee.value (Operand.func 20), args := #[Operand.tmp 98], argTypes := #[22] }, type := 22, pos := "law.go:26", after := #[{ on := 87, ground := Ground.data }, { on := 84, ground := Ground.chain }, { on := 84, ground := Ground.guard }], guard := some (84, true) } := by kernel_rfl
theorem al6_r88 : Region.ready .any al6 al6_l88 = [88] := by kernel_rfl
def al6_l89 : Array Bool := al6_l88.setIfInBounds 88 true
theorem al6_g89 : al6[89]? = some { dst := some 100, op := Op.call { callee := Callee.builtin Builtin.len, args := #[Operand.tmp 99], argTypes := #[22] }, type := 3, pos := "law.go:26", after := #[{ on := 88, ground := Ground.data }, { on := 84, ground := Ground.guard }], guard := some (84, true) } := by kernel_rfl
theorem al6_f89 : Region.free .any al6 al6_l89 89 = true := by kernel_rfl
theorem al6_r89 : (Region.ready .any al6 al6_l89).contains 89 = true := by kernel_rfl
def al6_l90 : Array Bool := al6_l89.setIfInBounds 89 true
theorem al6_g90 : al6[90]? = some { dst := some 101, op := Op.binOp BinOp.eql 3 (Operand.tmp 100) (Operand.const (Value.int IntKind.i64 1)) 3, type := 4, pos := "law.go:26", after := #[{ on := 89, ground := Ground.data }, { on := 84, ground := Ground.guard }], guard := some (84, true) } := by kernel_rfl
theorem al6_f90 : Region.free .any al6 al6_l90 90 = true := by kernel_rfl
theorem al6_r90 : (Region.ready .any al6 al6_l90).contains 90 = true := by kernel_rfl
def al6_l91 : Array Bool := al6_l90.setIfInBounds 90 true
theorem al6_g91 : al6[91]? = some { dst := some 102, op := Op.pick (Operand.tmp 95) (Operand.tmp 101) (Operand.const (Value.bool false)), type := 4, pos := "law.go:26", after := #[{ on := 84, ground := Ground.data }, { on := 90, ground := Ground.data }], guard := none } := by kernel_rfl
theorem al6_f91 : Region.free .any al6 al6_l91 91 = true := by kernel_rfl
theorem al6_r91 : (Region.ready .any al6 al6_l91).contains 91 = true := by kernel_rfl
def al6_l92 : Array Bool := al6_l91.setIfInBounds 91 true
theorem al6_g92 : al6[92]? = some { dst := some 0, op := Op.assign (Operand.tmp 102), type := 4, pos := "law.go:26", after := ([{ on := 91, ground := Ground.data }, { on := 88, ground := Ground.chain }, { on := 0, ground := Ground.phase }, { on := 1, ground := Ground.phase }, { on := 2, ground := Ground.phase }, { on := 3, ground := Ground.phase }, { on := 4, ground := Ground.phase }, { on := 5, ground := Ground.phase }, { on := 6, ground := Ground.phase }, { on := 7, ground := Ground.phase }, { on := 8, ground := Ground.phase }, { on := 9, ground := Ground.phase }, { on := 10, ground := Ground.phase }, { on := 11, ground := Ground.phase }, { on := 12, ground := Ground.phase }, { on := 13, ground := Ground.phase }, { on := 14, ground := Ground.phase }, { on := 15, ground := Ground.phase }, { on := 16, ground := Ground.phase }, { on := 17, ground := Ground.phase }, { on := 18, ground := Ground.phase }, { on := 19, ground := Ground.phase }, { on := 20, ground := Ground.phase }, { on := 21, ground := Ground.phase }, { on := 22, ground := Ground.phase }, { on := 23, ground := Ground.phase }, { on := 24, ground := Ground.phase }, { on := 25, ground := Ground.phase }, { on := 26, ground := Ground.phase }, { on := 27, ground := Ground.phase }, { on := 28, ground := Ground.phase }, { on := 29, ground := Ground.phase }, { on := 30, ground := Ground.phase }, { on := 31, ground := Ground.phase }, { on := 32, ground := Ground.phase }, { on := 33, ground := Ground.phase }, { on := 34, ground := Ground.phase }, { on := 35, ground := Ground.phase }, { on := 36, ground := Ground.phase }, { on := 37, ground := Ground.phase }, { on := 38, ground := Ground.phase }, { on := 39, ground := Ground.phase }, { on := 40, ground := Ground.phase }, { on := 41, ground := Ground.phase }, { on := 42, ground := Ground.phase }, { on := 43, ground := Ground.phase }, { on := 44, ground := Ground.phase }].append [{ on := 45, ground := Ground.phase }, { on := 46, ground := Ground.phase }, { on := 47, ground := Ground.phase }, { on := 48, ground := Ground.phase }, { on := 49, ground := Ground.phase }, { on := 50, ground := Ground.phase }, { on := 51, ground := Ground.phase }, { on := 52, ground := Ground.phase }, { on := 53, ground := Ground.phase }, { on := 54, ground := Ground.phase }, { on := 55, ground := Ground.phase }, { on := 56, ground := Ground.phase }, { on := 57, ground := Ground.phase }, { on := 58, ground := Ground.phase }, { on := 59, ground := Ground.phase }, { on := 60, ground := Ground.phase }, { on := 61, ground := Ground.phase }, { on := 62, ground := Ground.phase }, { on := 63, ground := Ground.phase }, { on := 64, ground := Ground.phase }, { on := 65, ground := Ground.phase }, { on := 66, ground := Ground.phase }, { on := 67, ground := Ground.phase }, { on := 68, ground := Ground.phase }, { on := 69, ground := Ground.phase }, { on := 70, ground := Ground.phase }, { on := 71, ground := Ground.phase }, { on := 72, ground := Ground.phase }, { on := 73, ground := Ground.phase }, { on := 74, ground := Ground.phase }, { on := 75, ground := Ground.phase }, { on := 76, ground := Ground.phase }, { on := 77, ground := Ground.phase }, { on := 78, ground := Ground.phase }, { on := 79, ground := Ground.phase }, { on := 80, ground := Ground.phase }, { on := 81, ground := Ground.phase }, { on := 82, ground := Ground.phase }, { on := 83, ground := Ground.phase }, { on := 84, ground := Ground.phase }, { on := 85, ground := Ground.phase }, { on := 86, ground := Ground.phase }, { on := 87, ground := Ground.phase }, { on := 88, ground := Ground.phase }, { on := 89, ground := Ground.phase }, { on := 90, ground := Ground.phase }, { on := 91, ground := Ground.phase }]).toArray, guard := none } := by kernel_rfl
theorem al6_f92 : Region.free .any al6 al6_l92 92 = true := by kernel_rfl
theorem al6_r92 : (Region.ready .any al6 al6_l92).contains 92 = true := by kernel_rfl
def al6_l93 : Array Bool := al6_l92.setIfInBounds 92 true
theorem al6_end : Region.ready .any al6 al6_l93 = [] := by kernel_rfl
end Go.Proofs.Ytimidoaafllnkaa.Iac
