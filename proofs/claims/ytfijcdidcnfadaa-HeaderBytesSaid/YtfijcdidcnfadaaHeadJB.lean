/-
  HeaderBytes: the order of its last return's operations.
-/
import Derived.Test.YtfijcdidcnfadaaHeadJ
import Derived.Deep.RegionHeld3
namespace Go.Proofs.Ytfijcdidcnfadaa.Head
open Go.RowKit Base
set_option linter.unusedVariables false

def hb13 : Array Oper := #[{ dst := some 109, op := Op.move (Operand.tmp 11), type := 26, pos := "law.go:48", after := #[], guard := none }, { dst := some 110, op := Op.move (Operand.tmp 14), type := 3, pos := "law.go:48", after := #[], guard := none }, { dst := some 111, op := Op.binOp BinOp.eql 3 (Operand.tmp 109) (Operand.tmp 110) 3, type := 4, pos := "law.go:48", after := #[{ on := 0, ground := Ground.data }, { on := 1, ground := Ground.data }], guard := none }, { dst := some 112, op := Op.move (Operand.tmp 111), type := 4, pos := "law.go:48", after := #[{ on := 2, ground := Ground.data }], guard := none }, { dst := some 113, op := Op.load 25 (Operand.tmp 9), type := 25, pos := "law.go:48", after := #[{ on := 3, ground := Ground.guard }], guard := some (3, true) }, { dst := some 114, op := Op.call { callee := Callee.value (Operand.func 20), args := #[Operand.tmp 113], argTypes := #[25] }, type := 31, pos := "law.go:48", after := #[{ on := 4, ground := Ground.data }, { on := 3, ground := Ground.chain }, { on := 3, ground := Ground.guard }], guard := some (3, true) }, { dst := some 115, op := Op.load 31 (Operand.tmp 12), type := 31, pos := "law.go:48", after := #[{ on := 3, ground := Ground.guard }], guard := some (3, true) }, { dst := some 116, op := Op.binOp BinOp.eql 31 (Operand.tmp 114) (Operand.tmp 115) 31, type := 4, pos := "law.go:48", after := #[{ on := 5, ground := Ground.data }, { on := 6, ground := Ground.data }, { on := 3, ground := Ground.guard }], guard := some (3, true) }, { dst := some 117, op := Op.pick (Operand.tmp 112) (Operand.tmp 116) (Operand.const (Value.bool false)), type := 4, pos := "law.go:48", after := #[{ on := 3, ground := Ground.data }, { on := 7, ground := Ground.data }], guard := none }, { dst := some 118, op := Op.move (Operand.tmp 117), type := 4, pos := "law.go:48", after := #[{ on := 8, ground := Ground.data }, { on := 5, ground := Ground.chain }], guard := none }, { dst := some 119, op := Op.move (Operand.tmp 10), type := 22, pos := "law.go:48", after := #[{ on := 9, ground := Ground.guard }], guard := some (9, true) }, { dst := some 120, op := Op.move (Operand.tmp 13), type := 22, pos := "law.go:48", after := #[{ on := 9, ground := Ground.guard }], guard := some (9, true) }, { dst := some 121, op := Op.call { callee := Callee.value (Operand.func 22), args := #[Operand.tmp 119, Operand.tmp 120], argTypes := #[22, 22] }, type := 4, pos := "law.go:48", after := #[{ on := 10, ground := Ground.data }, { on := 11, ground := Ground.data }, { on := 9, ground := Ground.chain }, { on := 9, ground := Ground.guard }], guard := some (9, true) }, { dst := some 122, op := Op.pick (Operand.tmp 118) (Operand.tmp 121) (Operand.const (Value.bool false)), type := 4, pos := "law.go:48", after := #[{ on := 9, ground := Ground.data }, { on := 12, ground := Ground.data }], guard := none }, { dst := some 123, op := Op.move (Operand.tmp 122), type := 4, pos := "law.go:48", after := #[{ on := 13, ground := Ground.data }, { on := 12, ground := Ground.chain }], guard := none }, { dst := some 124, op := Op.move (Operand.tmp 16), type := 4, pos := "law.go:48", after := #[{ on := 14, ground := Ground.guard }], guard := some (14, true) }, { dst := some 125, op := Op.move (Operand.tmp 18), type := 4, pos := "law.go:48", after := #[{ on := 14, ground := Ground.guard }], guard := some (14, true) }, { dst := some 126, op := Op.binOp BinOp.eql 4 (Operand.tmp 124) (Operand.tmp 125) 4, type := 4, pos := "law.go:48", after := #[{ on := 15, ground := Ground.data }, { on := 16, ground := Ground.data }, { on := 14, ground := Ground.guard }], guard := some (14, true) }, { dst := some 127, op := Op.pick (Operand.tmp 123) (Operand.tmp 126) (Operand.const (Value.bool false)), type := 4, pos := "law.go:48", after := #[{ on := 14, ground := Ground.data }, { on := 17, ground := Ground.data }], guard := none }, { dst := some 128, op := Op.move (Operand.tmp 127), type := 4, pos := "law.go:48", after := #[{ on := 18, ground := Ground.data }, { on := 14, ground := Ground.chain }], guard := none }, { dst := some 129, op := Op.move (Operand.tmp 15), type := 22, pos := "law.go:48", after := #[{ on := 19, ground := Ground.guard }], guard := some (19, true) }, { dst := some 130, op := Op.move (Operand.tmp 17), type := 22, pos := "law.go:48", after := #[{ on := 19, ground := Ground.guard }], guard := some (19, true) }, { dst := some 131, op := Op.call { callee := Callee.value (Operand.func 22), args := #[Operand.tmp 129, Operand.tmp 130], argTypes := #[22, 22] }, type := 4, pos := "law.go:48", after := #[{ on := 20, ground := Ground.data }, { on := 21, ground := Ground.data }, { on := 19, ground := Ground.chain }, { on := 19, ground := Ground.guard }], guard := some (19, true) }, { dst := some 132, op := Op.pick (Operand.tmp 128) (Operand.tmp 131) (Operand.const (Value.bool false)), type := 4, pos := "law.go:48", after := #[{ on := 19, ground := Ground.data }, { on := 22, ground := Ground.data }], guard := none }, { dst := some 133, op := Op.move (Operand.tmp 132), type := 4, pos := "law.go:48", after := #[{ on := 23, ground := Ground.data }, { on := 22, ground := Ground.chain }], guard := none }, { dst := some 134, op := Op.move (Operand.tmp 2), type := 26, pos := "law.go:48", after := #[{ on := 24, ground := Ground.guard }], guard := some (24, true) }, { dst := some 135, op := Op.call { callee := Callee.value (Operand.func 23), args := #[Operand.tmp 134], argTypes := #[26] }, type := 5, pos := "law.go:48", after := #[{ on := 25, ground := Ground.data }, { on := 24, ground := Ground.chain }, { on := 24, ground := Ground.guard }], guard := some (24, true) }, { dst := some 136, op := Op.move (Operand.tmp 2), type := 26, pos := "law.go:48", after := #[{ on := 24, ground := Ground.guard }], guard := some (24, true) }, { dst := some 137, op := Op.call { callee := Callee.value (Operand.func 24), args := #[Operand.tmp 136], argTypes := #[3] }, type := 5, pos := "law.go:48", after := #[{ on := 27, ground := Ground.data }, { on := 26, ground := Ground.chain }, { on := 24, ground := Ground.guard }], guard := some (24, true) }, { dst := some 138, op := Op.binOp BinOp.eql 5 (Operand.tmp 135) (Operand.tmp 137) 5, type := 4, pos := "law.go:48", after := #[{ on := 26, ground := Ground.data }, { on := 28, ground := Ground.data }, { on := 24, ground := Ground.guard }], guard := some (24, true) }, { dst := some 139, op := Op.pick (Operand.tmp 133) (Operand.tmp 138) (Operand.const (Value.bool false)), type := 4, pos := "law.go:48", after := #[{ on := 24, ground := Ground.data }, { on := 29, ground := Ground.data }], guard := none }, { dst := some 140, op := Op.move (Operand.tmp 139), type := 4, pos := "law.go:48", after := #[{ on := 30, ground := Ground.data }, { on := 28, ground := Ground.chain }], guard := none }, { dst := some 141, op := Op.load 25 (Operand.tmp 5), type := 25, pos := "law.go:48", after := #[{ on := 31, ground := Ground.guard }], guard := some (31, true) }, { dst := some 142, op := Op.move (Operand.tmp 3), type := 22, pos := "law.go:48", after := #[{ on := 31, ground := Ground.guard }], guard := some (31, true) }, { dst := some 143, op := Op.call { callee := Callee.value (Operand.func 25), args := #[Operand.tmp 141, Operand.tmp 142], argTypes := #[25, 22] }, type := 22, pos := "law.go:48", after := #[{ on := 32, ground := Ground.data }, { on := 33, ground := Ground.data }, { on := 31, ground := Ground.chain }, { on := 31, ground := Ground.guard }], guard := some (31, true) }, { dst := some 144, op := Op.load 25 (Operand.tmp 5), type := 25, pos := "law.go:48", after := #[{ on := 31, ground := Ground.guard }], guard := some (31, true) }, { dst := some 145, op := Op.call { callee := Callee.value (Operand.func 20), args := #[Operand.tmp 144], argTypes := #[25] }, type := 31, pos := "law.go:48", after := #[{ on := 35, ground := Ground.data }, { on := 34, ground := Ground.chain }, { on := 31, ground := Ground.guard }], guard := some (31, true) }, { dst := some 146, op := Op.move (Operand.tmp 3), type := 22, pos := "law.go:48", after := #[{ on := 31, ground := Ground.guard }], guard := some (31, true) }, { dst := some 147, op := Op.call { callee := Callee.value (Operand.func 26), args := #[Operand.tmp 145, Operand.tmp 146], argTypes := #[31, 22] }, type := 22, pos := "law.go:48", after := #[{ on := 36, ground := Ground.data }, { on := 37, ground := Ground.data }, { on := 36, ground := Ground.chain }, { on := 31, ground := Ground.guard }], guard := some (31, true) }, { dst := some 148, op := Op.call { callee := Callee.value (Operand.func 22), args := #[Operand.tmp 143, Operand.tmp 147], argTypes := #[22, 22] }, type := 4, pos := "law.go:48", after := #[{ on := 34, ground := Ground.data }, { on := 38, ground := Ground.data }, { on := 38, ground := Ground.chain }, { on := 31, ground := Ground.guard }], guard := some (31, true) }, { dst := some 149, op := Op.pick (Operand.tmp 140) (Operand.tmp 148) (Operand.const (Value.bool false)), type := 4, pos := "law.go:48", after := #[{ on := 31, ground := Ground.data }, { on := 39, ground := Ground.data }], guard := none }, { dst := some 8, op := Op.assign (Operand.tmp 149), type := 4, pos := "law.go:48", after := #[{ on := 40, ground := Ground.data }, { on := 39, ground := Ground.chain }, { on := 0, ground := Ground.phase }, { on := 1, ground := Ground.phase }, { on := 2, ground := Ground.phase }, { on := 3, ground := Ground.phase }, { on := 4, ground := Ground.phase }, { on := 5, ground := Ground.phase }, { on := 6, ground := Ground.phase }, { on := 7, ground := Ground.phase }, { on := 8, ground := Ground.phase }, { on := 9, ground := Ground.phase }, { on := 10, ground := Ground.phase }, { on := 11, ground := Ground.phase }, { on := 12, ground := Ground.phase }, { on := 13, ground := Ground.phase }, { on := 14, ground := Ground.phase }, { on := 15, ground := Ground.phase }, { on := 16, ground := Ground.phase }, { on := 17, ground := Ground.phase }, { on := 18, ground := Ground.phase }, { on := 19, ground := Ground.phase }, { on := 20, ground := Ground.phase }, { on := 21, ground := Ground.phase }, { on := 22, ground := Ground.phase }, { on := 23, ground := Ground.phase }, { on := 24, ground := Ground.phase }, { on := 25, ground := Ground.phase }, { on := 26, ground := Ground.phase }, { on := 27, ground := Ground.phase }, { on := 28, ground := Ground.phase }, { on := 29, ground := Ground.phase }, { on := 30, ground := Ground.phase }, { on := 31, ground := Ground.phase }, { on := 32, ground := Ground.phase }, { on := 33, ground := Ground.phase }, { on := 34, ground := Ground.phase }, { on := 35, ground := Ground.phase }, { on := 36, ground := Ground.phase }, { on := 37, ground := Ground.phase }, { on := 38, ground := Ground.phase }, { on := 39, ground := Ground.phase }, { on := 40, ground := Ground.phase }], guard := none }]
theorem hb13_nosel : Region.noSelect hb13 = true := by kernel_rfl
def hb13_l0 : Array Bool := Array.replicate 42 false
theorem hb13_g0 : hb13[0]? = some { dst := some 109, op := Op.move (Operand.tmp 11), type := 26, pos := "law.go:48", after := #[], guard := none } := by kernel_rfl
theorem hb13_f0 : Region.free .any hb13 hb13_l0 0 = true := by kernel_rfl
theorem hb13_r0 : (Region.ready .any hb13 hb13_l0).contains 0 = true := by kernel_rfl
def hb13_l1 : Array Bool := hb13_l0.setIfInBounds 0 true
theorem hb13_g1 : hb13[1]? = some { dst := some 110, op := Op.move (Operand.tmp 14), type := 3, pos := "law.go:48", after := #[], guard := none } := by kernel_rfl
theorem hb13_f1 : Region.free .any hb13 hb13_l1 1 = true := by kernel_rfl
theorem hb13_r1 : (Region.ready .any hb13 hb13_l1).contains 1 = true := by kernel_rfl
def hb13_l2 : Array Bool := hb13_l1.setIfInBounds 1 true
theorem hb13_g2 : hb13[2]? = some { dst := some 111, op := Op.binOp BinOp.eql 3 (Operand.tmp 109) (Operand.tmp 110) 3, type := 4, pos := "law.go:48", after := #[{ on := 0, ground := Ground.data }, { on := 1, ground := Ground.data }], guard := none } := by kernel_rfl
theorem hb13_f2 : Region.free .any hb13 hb13_l2 2 = true := by kernel_rfl
theorem hb13_r2 : (Region.ready .any hb13 hb13_l2).contains 2 = true := by kernel_rfl
def hb13_l3 : Array Bool := hb13_l2.setIfInBounds 2 true
theorem hb13_g3 : hb13[3]? = some { dst := some 112, op := Op.move (Operand.tmp 111), type := 4, pos := "law.go:48", after := #[{ on := 2, ground := Ground.data }], guard := none } := by kernel_rfl
theorem hb13_f3 : Region.free .any hb13 hb13_l3 3 = true := by kernel_rfl
theorem hb13_r3 : (Region.ready .any hb13 hb13_l3).contains 3 = true := by kernel_rfl
def hb13_l4 : Array Bool := hb13_l3.setIfInBounds 3 true
theorem hb13_g4 : hb13[4]? = some { dst := some 113, op := Op.load 25 (Operand.tmp 9), type := 25, pos := "law.go:48", after := #[{ on := 3, ground := Ground.guard }], guard := some (3, true) } := by kernel_rfl
theorem hb13_f4 : Region.free .any hb13 hb13_l4 4 = true := by kernel_rfl
theorem hb13_r4 : (Region.ready .any hb13 hb13_l4).contains 4 = true := by kernel_rfl
def hb13_l5 : Array Bool := hb13_l4.setIfInBounds 4 true
theorem hb13_g6 : hb13[6]? = some { dst := some 115, op := Op.load 31 (Operand.tmp 12), type := 31, pos := "law.go:48", after := #[{ on := 3, ground := Ground.guard }], guard := some (3, true) } := by kernel_rfl
theorem hb13_f5 : Region.free .any hb13 hb13_l5 6 = true := by kernel_rfl
theorem hb13_r5 : (Region.ready .any hb13 hb13_l5).contains 6 = true := by kernel_rfl
def hb13_l6 : Array Bool := hb13_l5.setIfInBounds 6 true
theorem hb13_g5 : hb13[5]? = some { dst := some 114, op := Op.call { callee := Callee.value (Operand.func 20), args := #[Operand.tmp 113], argTypes := #[25] }, type := 31, pos := "law.go:48", after := #[{ on := 4, ground := Ground.data }, { on := 3, ground := Ground.chain }, { on := 3, ground := Ground.guard }], guard := some (3, true) } := by kernel_rfl
theorem hb13_r6 : Region.ready .any hb13 hb13_l6 = [5] := by kernel_rfl
def hb13_l7 : Array Bool := hb13_l6.setIfInBounds 5 true
theorem hb13_g7 : hb13[7]? = some { dst := some 116, op := Op.binOp BinOp.eql 31 (Operand.tmp 114) (Operand.tmp 115) 31, type := 4, pos := "law.go:48", after := #[{ on := 5, ground := Ground.data }, { on := 6, ground := Ground.data }, { on := 3, ground := Ground.guard }], guard := some (3, true) } := by kernel_rfl
theorem hb13_f7 : Region.free .any hb13 hb13_l7 7 = true := by kernel_rfl
theorem hb13_r7 : (Region.ready .any hb13 hb13_l7).contains 7 = true := by kernel_rfl
def hb13_l8 : Array Bool := hb13_l7.setIfInBounds 7 true
theorem hb13_g8 : hb13[8]? = some { dst := some 117, op := Op.pick (Operand.tmp 112) (Operand.tmp 116) (Operand.const (Value.bool false)), type := 4, pos := "law.go:48", after := #[{ on := 3, ground := Ground.data }, { on := 7, ground := Ground.data }], guard := none } := by kernel_rfl
theorem hb13_f8 : Region.free .any hb13 hb13_l8 8 = true := by kernel_rfl
theorem hb13_r8 : (Region.ready .any hb13 hb13_l8).contains 8 = true := by kernel_rfl
def hb13_l9 : Array Bool := hb13_l8.setIfInBounds 8 true
theorem hb13_g9 : hb13[9]? = some { dst := some 118, op := Op.move (Operand.tmp 117), type := 4, pos := "law.go:48", after := #[{ on := 8, ground := Ground.data }, { on := 5, ground := Ground.chain }], guard := none } := by kernel_rfl
theorem hb13_f9 : Region.free .any hb13 hb13_l9 9 = true := by kernel_rfl
theorem hb13_r9 : (Region.ready .any hb13 hb13_l9).contains 9 = true := by kernel_rfl
def hb13_l10 : Array Bool := hb13_l9.setIfInBounds 9 true
theorem hb13_g10 : hb13[10]? = some { dst := some 119, op := Op.move (Operand.tmp 10), type := 22, pos := "law.go:48", after := #[{ on := 9, ground := Ground.guard }], guard := some (9, true) } := by kernel_rfl
theorem hb13_f10 : Region.free .any hb13 hb13_l10 10 = true := by kernel_rfl
theorem hb13_r10 : (Region.ready .any hb13 hb13_l10).contains 10 = true := by kernel_rfl
def hb13_l11 : Array Bool := hb13_l10.setIfInBounds 10 true
theorem hb13_g11 : hb13[11]? = some { dst := some 120, op := Op.move (Operand.tmp 13), type := 22, pos := "law.go:48", after := #[{ on := 9, ground := Ground.guard }], guard := some (9, true) } := by kernel_rfl
theorem hb13_f11 : Region.free .any hb13 hb13_l11 11 = true := by kernel_rfl
theorem hb13_r11 : (Region.ready .any hb13 hb13_l11).contains 11 = true := by kernel_rfl
def hb13_l12 : Array Bool := hb13_l11.setIfInBounds 11 true
theorem hb13_g12 : hb13[12]? = some { dst := some 121, op := Op.call { callee := Callee.value (Operand.func 22), args := #[Operand.tmp 119, Operand.tmp 120], argTypes := #[22, 22] }, type := 4, pos := "law.go:48", after := #[{ on := 10, ground := Ground.data }, { on := 11, ground := Ground.data }, { on := 9, ground := Ground.chain }, { on := 9, ground := Ground.guard }], guard := some (9, true) } := by kernel_rfl
theorem hb13_r12 : Region.ready .any hb13 hb13_l12 = [12] := by kernel_rfl
def hb13_l13 : Array Bool := hb13_l12.setIfInBounds 12 true
theorem hb13_g13 : hb13[13]? = some { dst := some 122, op := Op.pick (Operand.tmp 118) (Operand.tmp 121) (Operand.const (Value.bool false)), type := 4, pos := "law.go:48", after := #[{ on := 9, ground := Ground.data }, { on := 12, ground := Ground.data }], guard := none } := by kernel_rfl
theorem hb13_f13 : Region.free .any hb13 hb13_l13 13 = true := by kernel_rfl
theorem hb13_r13 : (Region.ready .any hb13 hb13_l13).contains 13 = true := by kernel_rfl
def hb13_l14 : Array Bool := hb13_l13.setIfInBounds 13 true
theorem hb13_g14 : hb13[14]? = some { dst := some 123, op := Op.move (Operand.tmp 122), type := 4, pos := "law.go:48", after := #[{ on := 13, ground := Ground.data }, { on := 12, ground := Ground.chain }], guard := none } := by kernel_rfl
theorem hb13_f14 : Region.free .any hb13 hb13_l14 14 = true := by kernel_rfl
theorem hb13_r14 : (Region.ready .any hb13 hb13_l14).contains 14 = true := by kernel_rfl
def hb13_l15 : Array Bool := hb13_l14.setIfInBounds 14 true
theorem hb13_g15 : hb13[15]? = some { dst := some 124, op := Op.move (Operand.tmp 16), type := 4, pos := "law.go:48", after := #[{ on := 14, ground := Ground.guard }], guard := some (14, true) } := by kernel_rfl
theorem hb13_f15 : Region.free .any hb13 hb13_l15 15 = true := by kernel_rfl
theorem hb13_r15 : (Region.ready .any hb13 hb13_l15).contains 15 = true := by kernel_rfl
def hb13_l16 : Array Bool := hb13_l15.setIfInBounds 15 true
theorem hb13_g16 : hb13[16]? = some { dst := some 125, op := Op.move (Operand.tmp 18), type := 4, pos := "law.go:48", after := #[{ on := 14, ground := Ground.guard }], guard := some (14, true) } := by kernel_rfl
theorem hb13_f16 : Region.free .any hb13 hb13_l16 16 = true := by kernel_rfl
theorem hb13_r16 : (Region.ready .any hb13 hb13_l16).contains 16 = true := by kernel_rfl
def hb13_l17 : Array Bool := hb13_l16.setIfInBounds 16 true
theorem hb13_g17 : hb13[17]? = some { dst := some 126, op := Op.binOp BinOp.eql 4 (Operand.tmp 124) (Operand.tmp 125) 4, type := 4, pos := "law.go:48", after := #[{ on := 15, ground := Ground.data }, { on := 16, ground := Ground.data }, { on := 14, ground := Ground.guard }], guard := some (14, true) } := by kernel_rfl
theorem hb13_f17 : Region.free .any hb13 hb13_l17 17 = true := by kernel_rfl
theorem hb13_r17 : (Region.ready .any hb13 hb13_l17).contains 17 = true := by kernel_rfl
def hb13_l18 : Array Bool := hb13_l17.setIfInBounds 17 true
theorem hb13_g18 : hb13[18]? = some { dst := some 127, op := Op.pick (Operand.tmp 123) (Operand.tmp 126) (Operand.const (Value.bool false)), type := 4, pos := "law.go:48", after := #[{ on := 14, ground := Ground.data }, { on := 17, ground := Ground.data }], guard := none } := by kernel_rfl
theorem hb13_f18 : Region.free .any hb13 hb13_l18 18 = true := by kernel_rfl
theorem hb13_r18 : (Region.ready .any hb13 hb13_l18).contains 18 = true := by kernel_rfl
def hb13_l19 : Array Bool := hb13_l18.setIfInBounds 18 true
theorem hb13_g19 : hb13[19]? = some { dst := some 128, op := Op.move (Operand.tmp 127), type := 4, pos := "law.go:48", after := #[{ on := 18, ground := Ground.data }, { on := 14, ground := Ground.chain }], guard := none } := by kernel_rfl
theorem hb13_f19 : Region.free .any hb13 hb13_l19 19 = true := by kernel_rfl
theorem hb13_r19 : (Region.ready .any hb13 hb13_l19).contains 19 = true := by kernel_rfl
def hb13_l20 : Array Bool := hb13_l19.setIfInBounds 19 true
theorem hb13_g20 : hb13[20]? = some { dst := some 129, op := Op.move (Operand.tmp 15), type := 22, pos := "law.go:48", after := #[{ on := 19, ground := Ground.guard }], guard := some (19, true) } := by kernel_rfl
theorem hb13_f20 : Region.free .any hb13 hb13_l20 20 = true := by kernel_rfl
theorem hb13_r20 : (Region.ready .any hb13 hb13_l20).contains 20 = true := by kernel_rfl
def hb13_l21 : Array Bool := hb13_l20.setIfInBounds 20 true
theorem hb13_g21 : hb13[21]? = some { dst := some 130, op := Op.move (Operand.tmp 17), type := 22, pos := "law.go:48", after := #[{ on := 19, ground := Ground.guard }], guard := some (19, true) } := by kernel_rfl
theorem hb13_f21 : Region.free .any hb13 hb13_l21 21 = true := by kernel_rfl
theorem hb13_r21 : (Region.ready .any hb13 hb13_l21).contains 21 = true := by kernel_rfl
def hb13_l22 : Array Bool := hb13_l21.setIfInBounds 21 true
theorem hb13_g22 : hb13[22]? = some { dst := some 131, op := Op.call { callee := Callee.value (Operand.func 22), args := #[Operand.tmp 129, Operand.tmp 130], argTypes := #[22, 22] }, type := 4, pos := "law.go:48", after := #[{ on := 20, ground := Ground.data }, { on := 21, ground := Ground.data }, { on := 19, ground := Ground.chain }, { on := 19, ground := Ground.guard }], guard := some (19, true) } := by kernel_rfl
theorem hb13_r22 : Region.ready .any hb13 hb13_l22 = [22] := by kernel_rfl
def hb13_l23 : Array Bool := hb13_l22.setIfInBounds 22 true
theorem hb13_g23 : hb13[23]? = some { dst := some 132, op := Op.pick (Operand.tmp 128) (Operand.tmp 131) (Operand.const (Value.bool false)), type := 4, pos := "law.go:48", after := #[{ on := 19, ground := Ground.data }, { on := 22, ground := Ground.data }], guard := none } := by kernel_rfl
theorem hb13_f23 : Region.free .any hb13 hb13_l23 23 = true := by kernel_rfl
theorem hb13_r23 : (Region.ready .any hb13 hb13_l23).contains 23 = true := by kernel_rfl
def hb13_l24 : Array Bool := hb13_l23.setIfInBounds 23 true
theorem hb13_g24 : hb13[24]? = some { dst := some 133, op := Op.move (Operand.tmp 132), type := 4, pos := "law.go:48", after := #[{ on := 23, ground := Ground.data }, { on := 22, ground := Ground.chain }], guard := none } := by kernel_rfl
theorem hb13_f24 : Region.free .any hb13 hb13_l24 24 = true := by kernel_rfl
theorem hb13_r24 : (Region.ready .any hb13 hb13_l24).contains 24 = true := by kernel_rfl
def hb13_l25 : Array Bool := hb13_l24.setIfInBounds 24 true
theorem hb13_g25 : hb13[25]? = some { dst := some 134, op := Op.move (Operand.tmp 2), type := 26, pos := "law.go:48", after := #[{ on := 24, ground := Ground.guard }], guard := some (24, true) } := by kernel_rfl
theorem hb13_f25 : Region.free .any hb13 hb13_l25 25 = true := by kernel_rfl
theorem hb13_r25 : (Region.ready .any hb13 hb13_l25).contains 25 = true := by kernel_rfl
def hb13_l26 : Array Bool := hb13_l25.setIfInBounds 25 true
theorem hb13_g27 : hb13[27]? = some { dst := some 136, op := Op.move (Operand.tmp 2), type := 26, pos := "law.go:48", after := #[{ on := 24, ground := Ground.guard }], guard := some (24, true) } := by kernel_rfl
theorem hb13_f26 : Region.free .any hb13 hb13_l26 27 = true := by kernel_rfl
theorem hb13_r26 : (Region.ready .any hb13 hb13_l26).contains 27 = true := by kernel_rfl
def hb13_l27 : Array Bool := hb13_l26.setIfInBounds 27 true
theorem hb13_g26 : hb13[26]? = some { dst := some 135, op := Op.call { callee := Callee.value (Operand.func 23), args := #[Operand.tmp 134], argTypes := #[26] }, type := 5, pos := "law.go:48", after := #[{ on := 25, ground := Ground.data }, { on := 24, ground := Ground.chain }, { on := 24, ground := Ground.guard }], guard := some (24, true) } := by kernel_rfl
theorem hb13_r27 : Region.ready .any hb13 hb13_l27 = [26] := by kernel_rfl
def hb13_l28 : Array Bool := hb13_l27.setIfInBounds 26 true
theorem hb13_g28 : hb13[28]? = some { dst := some 137, op := Op.call { callee := Callee.value (Operand.func 24), args := #[Operand.tmp 136], argTypes := #[3] }, type := 5, pos := "law.go:48", after := #[{ on := 27, ground := Ground.data }, { on := 26, ground := Ground.chain }, { on := 24, ground := Ground.guard }], guard := some (24, true) } := by kernel_rfl
theorem hb13_r28 : Region.ready .any hb13 hb13_l28 = [28] := by kernel_rfl
def hb13_l29 : Array Bool := hb13_l28.setIfInBounds 28 true
theorem hb13_g29 : hb13[29]? = some { dst := some 138, op := Op.binOp BinOp.eql 5 (Operand.tmp 135) (Operand.tmp 137) 5, type := 4, pos := "law.go:48", after := #[{ on := 26, ground := Ground.data }, { on := 28, ground := Ground.data }, { on := 24, ground := Ground.guard }], guard := some (24, true) } := by kernel_rfl
theorem hb13_f29 : Region.free .any hb13 hb13_l29 29 = true := by kernel_rfl
theorem hb13_r29 : (Region.ready .any hb13 hb13_l29).contains 29 = true := by kernel_rfl
def hb13_l30 : Array Bool := hb13_l29.setIfInBounds 29 true
theorem hb13_g30 : hb13[30]? = some { dst := some 139, op := Op.pick (Operand.tmp 133) (Operand.tmp 138) (Operand.const (Value.bool false)), type := 4, pos := "law.go:48", after := #[{ on := 24, ground := Ground.data }, { on := 29, ground := Ground.data }], guard := none } := by kernel_rfl
theorem hb13_f30 : Region.free .any hb13 hb13_l30 30 = true := by kernel_rfl
theorem hb13_r30 : (Region.ready .any hb13 hb13_l30).contains 30 = true := by kernel_rfl
def hb13_l31 : Array Bool := hb13_l30.setIfInBounds 30 true
theorem hb13_g31 : hb13[31]? = some { dst := some 140, op := Op.move (Operand.tmp 139), type := 4, pos := "law.go:48", after := #[{ on := 30, ground := Ground.data }, { on := 28, ground := Ground.chain }], guard := none } := by kernel_rfl
theorem hb13_f31 : Region.free .any hb13 hb13_l31 31 = true := by kernel_rfl
theorem hb13_r31 : (Region.ready .any hb13 hb13_l31).contains 31 = true := by kernel_rfl
def hb13_l32 : Array Bool := hb13_l31.setIfInBounds 31 true
theorem hb13_g32 : hb13[32]? = some { dst := some 141, op := Op.load 25 (Operand.tmp 5), type := 25, pos := "law.go:48", after := #[{ on := 31, ground := Ground.guard }], guard := some (31, true) } := by kernel_rfl
theorem hb13_f32 : Region.free .any hb13 hb13_l32 32 = true := by kernel_rfl
theorem hb13_r32 : (Region.ready .any hb13 hb13_l32).contains 32 = true := by kernel_rfl
def hb13_l33 : Array Bool := hb13_l32.setIfInBounds 32 true
theorem hb13_g33 : hb13[33]? = some { dst := some 142, op := Op.move (Operand.tmp 3), type := 22, pos := "law.go:48", after := #[{ on := 31, ground := Ground.guard }], guard := some (31, true) } := by kernel_rfl
theorem hb13_f33 : Region.free .any hb13 hb13_l33 33 = true := by kernel_rfl
theorem hb13_r33 : (Region.ready .any hb13 hb13_l33).contains 33 = true := by kernel_rfl
def hb13_l34 : Array Bool := hb13_l33.setIfInBounds 33 true
theorem hb13_g35 : hb13[35]? = some { dst := some 144, op := Op.load 25 (Operand.tmp 5), type := 25, pos := "law.go:48", after := #[{ on := 31, ground := Ground.guard }], guard := some (31, true) } := by kernel_rfl
theorem hb13_f34 : Region.free .any hb13 hb13_l34 35 = true := by kernel_rfl
theorem hb13_r34 : (Region.ready .any hb13 hb13_l34).contains 35 = true := by kernel_rfl
def hb13_l35 : Array Bool := hb13_l34.setIfInBounds 35 true
theorem hb13_g37 : hb13[37]? = some { dst := some 146, op := Op.move (Operand.tmp 3), type := 22, pos := "law.go:48", after := #[{ on := 31, ground := Ground.guard }], guard := some (31, true) } := by kernel_rfl
theorem hb13_f35 : Region.free .any hb13 hb13_l35 37 = true := by kernel_rfl
theorem hb13_r35 : (Region.ready .any hb13 hb13_l35).contains 37 = true := by kernel_rfl
def hb13_l36 : Array Bool := hb13_l35.setIfInBounds 37 true
theorem hb13_g34 : hb13[34]? = some { dst := some 143, op := Op.call { callee := Callee.value (Operand.func 25), args := #[Operand.tmp 141, Operand.tmp 142], argTypes := #[25, 22] }, type := 22, pos := "law.go:48", after := #[{ on := 32, ground := Ground.data }, { on := 33, ground := Ground.data }, { on := 31, ground := Ground.chain }, { on := 31, ground := Ground.guard }], guard := some (31, true) } := by kernel_rfl
theorem hb13_r36 : Region.ready .any hb13 hb13_l36 = [34] := by kernel_rfl
def hb13_l37 : Array Bool := hb13_l36.setIfInBounds 34 true
theorem hb13_g36 : hb13[36]? = some { dst := some 145, op := Op.call { callee := Callee.value (Operand.func 20), args := #[Operand.tmp 144], argTypes := #[25] }, type := 31, pos := "law.go:48", after := #[{ on := 35, ground := Ground.data }, { on := 34, ground := Ground.chain }, { on := 31, ground := Ground.guard }], guard := some (31, true) } := by kernel_rfl
theorem hb13_r37 : Region.ready .any hb13 hb13_l37 = [36] := by kernel_rfl
def hb13_l38 : Array Bool := hb13_l37.setIfInBounds 36 true
theorem hb13_g38 : hb13[38]? = some { dst := some 147, op := Op.call { callee := Callee.value (Operand.func 26), args := #[Operand.tmp 145, Operand.tmp 146], argTypes := #[31, 22] }, type := 22, pos := "law.go:48", after := #[{ on := 36, ground := Ground.data }, { on := 37, ground := Ground.data }, { on := 36, ground := Ground.chain }, { on := 31, ground := Ground.guard }], guard := some (31, true) } := by kernel_rfl
theorem hb13_r38 : Region.ready .any hb13 hb13_l38 = [38] := by kernel_rfl
def hb13_l39 : Array Bool := hb13_l38.setIfInBounds 38 true
theorem hb13_g39 : hb13[39]? = some { dst := some 148, op := Op.call { callee := Callee.value (Operand.func 22), args := #[Operand.tmp 143, Operand.tmp 147], argTypes := #[22, 22] }, type := 4, pos := "law.go:48", after := #[{ on := 34, ground := Ground.data }, { on := 38, ground := Ground.data }, { on := 38, ground := Ground.chain }, { on := 31, ground := Ground.guard }], guard := some (31, true) } := by kernel_rfl
theorem hb13_r39 : Region.ready .any hb13 hb13_l39 = [39] := by kernel_rfl
def hb13_l40 : Array Bool := hb13_l39.setIfInBounds 39 true
theorem hb13_g40 : hb13[40]? = some { dst := some 149, op := Op.pick (Operand.tmp 140) (Operand.tmp 148) (Operand.const (Value.bool false)), type := 4, pos := "law.go:48", after := #[{ on := 31, ground := Ground.data }, { on := 39, ground := Ground.data }], guard := none } := by kernel_rfl
theorem hb13_f40 : Region.free .any hb13 hb13_l40 40 = true := by kernel_rfl
theorem hb13_r40 : (Region.ready .any hb13 hb13_l40).contains 40 = true := by kernel_rfl
def hb13_l41 : Array Bool := hb13_l40.setIfInBounds 40 true
theorem hb13_g41 : hb13[41]? = some { dst := some 8, op := Op.assign (Operand.tmp 149), type := 4, pos := "law.go:48", after := #[{ on := 40, ground := Ground.data }, { on := 39, ground := Ground.chain }, { on := 0, ground := Ground.phase }, { on := 1, ground := Ground.phase }, { on := 2, ground := Ground.phase }, { on := 3, ground := Ground.phase }, { on := 4, ground := Ground.phase }, { on := 5, ground := Ground.phase }, { on := 6, ground := Ground.phase }, { on := 7, ground := Ground.phase }, { on := 8, ground := Ground.phase }, { on := 9, ground := Ground.phase }, { on := 10, ground := Ground.phase }, { on := 11, ground := Ground.phase }, { on := 12, ground := Ground.phase }, { on := 13, ground := Ground.phase }, { on := 14, ground := Ground.phase }, { on := 15, ground := Ground.phase }, { on := 16, ground := Ground.phase }, { on := 17, ground := Ground.phase }, { on := 18, ground := Ground.phase }, { on := 19, ground := Ground.phase }, { on := 20, ground := Ground.phase }, { on := 21, ground := Ground.phase }, { on := 22, ground := Ground.phase }, { on := 23, ground := Ground.phase }, { on := 24, ground := Ground.phase }, { on := 25, ground := Ground.phase }, { on := 26, ground := Ground.phase }, { on := 27, ground := Ground.phase }, { on := 28, ground := Ground.phase }, { on := 29, ground := Ground.phase }, { on := 30, ground := Ground.phase }, { on := 31, ground := Ground.phase }, { on := 32, ground := Ground.phase }, { on := 33, ground := Ground.phase }, { on := 34, ground := Ground.phase }, { on := 35, ground := Ground.phase }, { on := 36, ground := Ground.phase }, { on := 37, ground := Ground.phase }, { on := 38, ground := Ground.phase }, { on := 39, ground := Ground.phase }, { on := 40, ground := Ground.phase }], guard := none } := by kernel_rfl
theorem hb13_f41 : Region.free .any hb13 hb13_l41 41 = true := by kernel_rfl
theorem hb13_r41 : (Region.ready .any hb13 hb13_l41).contains 41 = true := by kernel_rfl
def hb13_l42 : Array Bool := hb13_l41.setIfInBounds 41 true
theorem hb13_end : Region.ready .any hb13 hb13_l42 = [] := by kernel_rfl
end Go.Proofs.Ytfijcdidcnfadaa.Head
