/-
  The reference's Parse: the order of its last region's operations.
-/
import Derived.Test.YtfijcdidcnfadaaHeadH
import Derived.Deep.RegionHeld3
namespace Go.Proofs.Ytfijcdidcnfadaa.Head
open Go.RowKit Base Iac
set_option linter.unusedVariables false

def rp5 : Array Oper := #[{ dst := some 14, op := Op.move (Operand.tmp 0), type := 22, pos := "ref.go:20", after := #[], guard := none }, { dst := some 15, op := Op.indexAddr 22 (Operand.tmp 14) (Operand.const (Value.int IntKind.i64 0)), type := 0, pos := "ref.go:20", after := #[{ on := 0, ground := Ground.data }], guard := none }, { dst := some 16, op := Op.load 5 (Operand.tmp 15), type := 5, pos := "ref.go:20", after := #[{ on := 1, ground := Ground.data }], guard := none }, { dst := some 17, op := Op.move (Operand.tmp 0), type := 22, pos := "ref.go:20", after := #[], guard := none }, { dst := some 18, op := Op.indexAddr 22 (Operand.tmp 17) (Operand.const (Value.int IntKind.i64 1)), type := 0, pos := "ref.go:20", after := #[{ on := 3, ground := Ground.data }], guard := none }, { dst := some 19, op := Op.load 5 (Operand.tmp 18), type := 5, pos := "ref.go:20", after := #[{ on := 4, ground := Ground.data }], guard := none }, { dst := some 20, op := Op.move (Operand.tmp 0), type := 22, pos := "ref.go:20", after := #[], guard := none }, { dst := some 21, op := Op.indexAddr 22 (Operand.tmp 20) (Operand.const (Value.int IntKind.i64 2)), type := 0, pos := "ref.go:20", after := #[{ on := 6, ground := Ground.data }], guard := none }, { dst := some 22, op := Op.load 5 (Operand.tmp 21), type := 5, pos := "ref.go:20", after := #[{ on := 7, ground := Ground.data }], guard := none }, { dst := some 23, op := Op.move (Operand.tmp 0), type := 22, pos := "ref.go:20", after := #[], guard := none }, { dst := some 24, op := Op.indexAddr 22 (Operand.tmp 23) (Operand.const (Value.int IntKind.i64 3)), type := 0, pos := "ref.go:20", after := #[{ on := 9, ground := Ground.data }], guard := none }, { dst := some 25, op := Op.load 5 (Operand.tmp 24), type := 5, pos := "ref.go:20", after := #[{ on := 10, ground := Ground.data }], guard := none }, { dst := some 26, op := Op.convert 5 3 (Operand.tmp 25), type := 3, pos := "ref.go:20", after := #[{ on := 11, ground := Ground.data }], guard := none }, { dst := some 27, op := Op.binOp BinOp.mul 3 (Operand.const (Value.int IntKind.i64 256)) (Operand.tmp 26) 3, type := 3, pos := "ref.go:20", after := #[{ on := 12, ground := Ground.data }], guard := none }, { dst := some 28, op := Op.move (Operand.tmp 0), type := 22, pos := "ref.go:20", after := #[], guard := none }, { dst := some 29, op := Op.indexAddr 22 (Operand.tmp 28) (Operand.const (Value.int IntKind.i64 4)), type := 0, pos := "ref.go:20", after := #[{ on := 14, ground := Ground.data }], guard := none }, { dst := some 30, op := Op.load 5 (Operand.tmp 29), type := 5, pos := "ref.go:20", after := #[{ on := 15, ground := Ground.data }], guard := none }, { dst := some 31, op := Op.convert 5 3 (Operand.tmp 30), type := 3, pos := "ref.go:20", after := #[{ on := 16, ground := Ground.data }], guard := none }, { dst := some 32, op := Op.binOp BinOp.add 3 (Operand.tmp 27) (Operand.tmp 31) 3, type := 3, pos := "ref.go:20", after := #[{ on := 13, ground := Ground.data }, { on := 17, ground := Ground.data }], guard := none }, { dst := some 33, op := Op.build 31 #[(0, Operand.tmp 16), (1, Operand.tmp 19), (2, Operand.tmp 22), (3, Operand.tmp 32)], type := 31, pos := "ref.go:20", after := #[{ on := 2, ground := Ground.data }, { on := 5, ground := Ground.data }, { on := 8, ground := Ground.data }, { on := 18, ground := Ground.data }], guard := none }, { dst := some 34, op := Op.move (Operand.tmp 0), type := 22, pos := "ref.go:20", after := #[], guard := none }, { dst := some 35, op := Op.slice 22 (Operand.tmp 34) (some (Operand.const (Value.int IntKind.i64 5))) none none, type := 22, pos := "ref.go:20", after := #[{ on := 20, ground := Ground.data }], guard := none }, { dst := none, op := Op.store 31 (Operand.tmp 2) (Operand.tmp 33), type := 0, pos := "ref.go:20", after := #[{ on := 19, ground := Ground.data }, { on := 0, ground := Ground.phase }, { on := 1, ground := Ground.phase }, { on := 2, ground := Ground.phase }, { on := 3, ground := Ground.phase }, { on := 4, ground := Ground.phase }, { on := 5, ground := Ground.phase }, { on := 6, ground := Ground.phase }, { on := 7, ground := Ground.phase }, { on := 8, ground := Ground.phase }, { on := 9, ground := Ground.phase }, { on := 10, ground := Ground.phase }, { on := 11, ground := Ground.phase }, { on := 12, ground := Ground.phase }, { on := 13, ground := Ground.phase }, { on := 14, ground := Ground.phase }, { on := 15, ground := Ground.phase }, { on := 16, ground := Ground.phase }, { on := 17, ground := Ground.phase }, { on := 18, ground := Ground.phase }, { on := 19, ground := Ground.phase }, { on := 20, ground := Ground.textOnly Departure.lateStores }, { on := 21, ground := Ground.textOnly Departure.lateStoresUnsure }], guard := none }, { dst := some 3, op := Op.assign (Operand.tmp 35), type := 22, pos := "ref.go:20", after := #[{ on := 21, ground := Ground.data }, { on := 22, ground := Ground.chain }, { on := 0, ground := Ground.phase }, { on := 1, ground := Ground.phase }, { on := 2, ground := Ground.phase }, { on := 3, ground := Ground.phase }, { on := 4, ground := Ground.phase }, { on := 5, ground := Ground.phase }, { on := 6, ground := Ground.phase }, { on := 7, ground := Ground.phase }, { on := 8, ground := Ground.phase }, { on := 9, ground := Ground.phase }, { on := 10, ground := Ground.phase }, { on := 11, ground := Ground.phase }, { on := 12, ground := Ground.phase }, { on := 13, ground := Ground.phase }, { on := 14, ground := Ground.phase }, { on := 15, ground := Ground.phase }, { on := 16, ground := Ground.phase }, { on := 17, ground := Ground.phase }, { on := 18, ground := Ground.phase }, { on := 19, ground := Ground.phase }, { on := 20, ground := Ground.phase }, { on := 21, ground := Ground.phase }, { on := 22, ground := Ground.phase }], guard := none }, { dst := some 4, op := Op.assign (Operand.const (Value.int IntKind.i64 0)), type := 3, pos := "ref.go:20", after := #[{ on := 23, ground := Ground.chain }, { on := 0, ground := Ground.phase }, { on := 1, ground := Ground.phase }, { on := 2, ground := Ground.phase }, { on := 3, ground := Ground.phase }, { on := 4, ground := Ground.phase }, { on := 5, ground := Ground.phase }, { on := 6, ground := Ground.phase }, { on := 7, ground := Ground.phase }, { on := 8, ground := Ground.phase }, { on := 9, ground := Ground.phase }, { on := 10, ground := Ground.phase }, { on := 11, ground := Ground.phase }, { on := 12, ground := Ground.phase }, { on := 13, ground := Ground.phase }, { on := 14, ground := Ground.phase }, { on := 15, ground := Ground.phase }, { on := 16, ground := Ground.phase }, { on := 17, ground := Ground.phase }, { on := 18, ground := Ground.phase }, { on := 19, ground := Ground.phase }, { on := 20, ground := Ground.phase }, { on := 21, ground := Ground.phase }, { on := 22, ground := Ground.phase }, { on := 23, ground := Ground.phase }], guard := none }]
theorem rp5_nosel : Region.noSelect rp5 = true := by kernel_rfl
def rp5_l0 : Array Bool := Array.replicate 25 false
theorem rp5_g0 : rp5[0]? = some { dst := some 14, op := Op.move (Operand.tmp 0), type := 22, pos := "ref.go:20", after := #[], guard := none } := by kernel_rfl
theorem rp5_f0 : Region.free .any rp5 rp5_l0 0 = true := by kernel_rfl
theorem rp5_r0 : (Region.ready .any rp5 rp5_l0).contains 0 = true := by kernel_rfl
def rp5_l1 : Array Bool := rp5_l0.setIfInBounds 0 true
theorem rp5_g1 : rp5[1]? = some { dst := some 15, op := Op.indexAddr 22 (Operand.tmp 14) (Operand.const (Value.int IntKind.i64 0)), type := 0, pos := "ref.go:20", after := #[{ on := 0, ground := Ground.data }], guard := none } := by kernel_rfl
theorem rp5_f1 : Region.free .any rp5 rp5_l1 1 = true := by kernel_rfl
theorem rp5_r1 : (Region.ready .any rp5 rp5_l1).contains 1 = true := by kernel_rfl
def rp5_l2 : Array Bool := rp5_l1.setIfInBounds 1 true
theorem rp5_g2 : rp5[2]? = some { dst := some 16, op := Op.load 5 (Operand.tmp 15), type := 5, pos := "ref.go:20", after := #[{ on := 1, ground := Ground.data }], guard := none } := by kernel_rfl
theorem rp5_f2 : Region.free .any rp5 rp5_l2 2 = true := by kernel_rfl
theorem rp5_r2 : (Region.ready .any rp5 rp5_l2).contains 2 = true := by kernel_rfl
def rp5_l3 : Array Bool := rp5_l2.setIfInBounds 2 true
theorem rp5_g3 : rp5[3]? = some { dst := some 17, op := Op.move (Operand.tmp 0), type := 22, pos := "ref.go:20", after := #[], guard := none } := by kernel_rfl
theorem rp5_f3 : Region.free .any rp5 rp5_l3 3 = true := by kernel_rfl
theorem rp5_r3 : (Region.ready .any rp5 rp5_l3).contains 3 = true := by kernel_rfl
def rp5_l4 : Array Bool := rp5_l3.setIfInBounds 3 true
theorem rp5_g4 : rp5[4]? = some { dst := some 18, op := Op.indexAddr 22 (Operand.tmp 17) (Operand.const (Value.int IntKind.i64 1)), type := 0, pos := "ref.go:20", after := #[{ on := 3, ground := Ground.data }], guard := none } := by kernel_rfl
theorem rp5_f4 : Region.free .any rp5 rp5_l4 4 = true := by kernel_rfl
theorem rp5_r4 : (Region.ready .any rp5 rp5_l4).contains 4 = true := by kernel_rfl
def rp5_l5 : Array Bool := rp5_l4.setIfInBounds 4 true
theorem rp5_g5 : rp5[5]? = some { dst := some 19, op := Op.load 5 (Operand.tmp 18), type := 5, pos := "ref.go:20", after := #[{ on := 4, ground := Ground.data }], guard := none } := by kernel_rfl
theorem rp5_f5 : Region.free .any rp5 rp5_l5 5 = true := by kernel_rfl
theorem rp5_r5 : (Region.ready .any rp5 rp5_l5).contains 5 = true := by kernel_rfl
def rp5_l6 : Array Bool := rp5_l5.setIfInBounds 5 true
theorem rp5_g6 : rp5[6]? = some { dst := some 20, op := Op.move (Operand.tmp 0), type := 22, pos := "ref.go:20", after := #[], guard := none } := by kernel_rfl
theorem rp5_f6 : Region.free .any rp5 rp5_l6 6 = true := by kernel_rfl
theorem rp5_r6 : (Region.ready .any rp5 rp5_l6).contains 6 = true := by kernel_rfl
def rp5_l7 : Array Bool := rp5_l6.setIfInBounds 6 true
theorem rp5_g7 : rp5[7]? = some { dst := some 21, op := Op.indexAddr 22 (Operand.tmp 20) (Operand.const (Value.int IntKind.i64 2)), type := 0, pos := "ref.go:20", after := #[{ on := 6, ground := Ground.data }], guard := none } := by kernel_rfl
theorem rp5_f7 : Region.free .any rp5 rp5_l7 7 = true := by kernel_rfl
theorem rp5_r7 : (Region.ready .any rp5 rp5_l7).contains 7 = true := by kernel_rfl
def rp5_l8 : Array Bool := rp5_l7.setIfInBounds 7 true
theorem rp5_g8 : rp5[8]? = some { dst := some 22, op := Op.load 5 (Operand.tmp 21), type := 5, pos := "ref.go:20", after := #[{ on := 7, ground := Ground.data }], guard := none } := by kernel_rfl
theorem rp5_f8 : Region.free .any rp5 rp5_l8 8 = true := by kernel_rfl
theorem rp5_r8 : (Region.ready .any rp5 rp5_l8).contains 8 = true := by kernel_rfl
def rp5_l9 : Array Bool := rp5_l8.setIfInBounds 8 true
theorem rp5_g9 : rp5[9]? = some { dst := some 23, op := Op.move (Operand.tmp 0), type := 22, pos := "ref.go:20", after := #[], guard := none } := by kernel_rfl
theorem rp5_f9 : Region.free .any rp5 rp5_l9 9 = true := by kernel_rfl
theorem rp5_r9 : (Region.ready .any rp5 rp5_l9).contains 9 = true := by kernel_rfl
def rp5_l10 : Array Bool := rp5_l9.setIfInBounds 9 true
theorem rp5_g10 : rp5[10]? = some { dst := some 24, op := Op.indexAddr 22 (Operand.tmp 23) (Operand.const (Value.int IntKind.i64 3)), type := 0, pos := "ref.go:20", after := #[{ on := 9, ground := Ground.data }], guard := none } := by kernel_rfl
theorem rp5_f10 : Region.free .any rp5 rp5_l10 10 = true := by kernel_rfl
theorem rp5_r10 : (Region.ready .any rp5 rp5_l10).contains 10 = true := by kernel_rfl
def rp5_l11 : Array Bool := rp5_l10.setIfInBounds 10 true
theorem rp5_g11 : rp5[11]? = some { dst := some 25, op := Op.load 5 (Operand.tmp 24), type := 5, pos := "ref.go:20", after := #[{ on := 10, ground := Ground.data }], guard := none } := by kernel_rfl
theorem rp5_f11 : Region.free .any rp5 rp5_l11 11 = true := by kernel_rfl
theorem rp5_r11 : (Region.ready .any rp5 rp5_l11).contains 11 = true := by kernel_rfl
def rp5_l12 : Array Bool := rp5_l11.setIfInBounds 11 true
theorem rp5_g12 : rp5[12]? = some { dst := some 26, op := Op.convert 5 3 (Operand.tmp 25), type := 3, pos := "ref.go:20", after := #[{ on := 11, ground := Ground.data }], guard := none } := by kernel_rfl
theorem rp5_f12 : Region.free .any rp5 rp5_l12 12 = true := by kernel_rfl
theorem rp5_r12 : (Region.ready .any rp5 rp5_l12).contains 12 = true := by kernel_rfl
def rp5_l13 : Array Bool := rp5_l12.setIfInBounds 12 true
theorem rp5_g13 : rp5[13]? = some { dst := some 27, op := Op.binOp BinOp.mul 3 (Operand.const (Value.int IntKind.i64 256)) (Operand.tmp 26) 3, type := 3, pos := "ref.go:20", after := #[{ on := 12, ground := Ground.data }], guard := none } := by kernel_rfl
theorem rp5_f13 : Region.free .any rp5 rp5_l13 13 = true := by kernel_rfl
theorem rp5_r13 : (Region.ready .any rp5 rp5_l13).contains 13 = true := by kernel_rfl
def rp5_l14 : Array Bool := rp5_l13.setIfInBounds 13 true
theorem rp5_g14 : rp5[14]? = some { dst := some 28, op := Op.move (Operand.tmp 0), type := 22, pos := "ref.go:20", after := #[], guard := none } := by kernel_rfl
theorem rp5_f14 : Region.free .any rp5 rp5_l14 14 = true := by kernel_rfl
theorem rp5_r14 : (Region.ready .any rp5 rp5_l14).contains 14 = true := by kernel_rfl
def rp5_l15 : Array Bool := rp5_l14.setIfInBounds 14 true
theorem rp5_g15 : rp5[15]? = some { dst := some 29, op := Op.indexAddr 22 (Operand.tmp 28) (Operand.const (Value.int IntKind.i64 4)), type := 0, pos := "ref.go:20", after := #[{ on := 14, ground := Ground.data }], guard := none } := by kernel_rfl
theorem rp5_f15 : Region.free .any rp5 rp5_l15 15 = true := by kernel_rfl
theorem rp5_r15 : (Region.ready .any rp5 rp5_l15).contains 15 = true := by kernel_rfl
def rp5_l16 : Array Bool := rp5_l15.setIfInBounds 15 true
theorem rp5_g16 : rp5[16]? = some { dst := some 30, op := Op.load 5 (Operand.tmp 29), type := 5, pos := "ref.go:20", after := #[{ on := 15, ground := Ground.data }], guard := none } := by kernel_rfl
theorem rp5_f16 : Region.free .any rp5 rp5_l16 16 = true := by kernel_rfl
theorem rp5_r16 : (Region.ready .any rp5 rp5_l16).contains 16 = true := by kernel_rfl
def rp5_l17 : Array Bool := rp5_l16.setIfInBounds 16 true
theorem rp5_g17 : rp5[17]? = some { dst := some 31, op := Op.convert 5 3 (Operand.tmp 30), type := 3, pos := "ref.go:20", after := #[{ on := 16, ground := Ground.data }], guard := none } := by kernel_rfl
theorem rp5_f17 : Region.free .any rp5 rp5_l17 17 = true := by kernel_rfl
theorem rp5_r17 : (Region.ready .any rp5 rp5_l17).contains 17 = true := by kernel_rfl
def rp5_l18 : Array Bool := rp5_l17.setIfInBounds 17 true
theorem rp5_g18 : rp5[18]? = some { dst := some 32, op := Op.binOp BinOp.add 3 (Operand.tmp 27) (Operand.tmp 31) 3, type := 3, pos := "ref.go:20", after := #[{ on := 13, ground := Ground.data }, { on := 17, ground := Ground.data }], guard := none } := by kernel_rfl
theorem rp5_f18 : Region.free .any rp5 rp5_l18 18 = true := by kernel_rfl
theorem rp5_r18 : (Region.ready .any rp5 rp5_l18).contains 18 = true := by kernel_rfl
def rp5_l19 : Array Bool := rp5_l18.setIfInBounds 18 true
theorem rp5_g19 : rp5[19]? = some { dst := some 33, op := Op.build 31 #[(0, Operand.tmp 16), (1, Operand.tmp 19), (2, Operand.tmp 22), (3, Operand.tmp 32)], type := 31, pos := "ref.go:20", after := #[{ on := 2, ground := Ground.data }, { on := 5, ground := Ground.data }, { on := 8, ground := Ground.data }, { on := 18, ground := Ground.data }], guard := none } := by kernel_rfl
theorem rp5_f19 : Region.free .any rp5 rp5_l19 19 = true := by kernel_rfl
theorem rp5_r19 : (Region.ready .any rp5 rp5_l19).contains 19 = true := by kernel_rfl
def rp5_l20 : Array Bool := rp5_l19.setIfInBounds 19 true
theorem rp5_g20 : rp5[20]? = some { dst := some 34, op := Op.move (Operand.tmp 0), type := 22, pos := "ref.go:20", after := #[], guard := none } := by kernel_rfl
theorem rp5_f20 : Region.free .any rp5 rp5_l20 20 = true := by kernel_rfl
theorem rp5_r20 : (Region.ready .any rp5 rp5_l20).contains 20 = true := by kernel_rfl
def rp5_l21 : Array Bool := rp5_l20.setIfInBounds 20 true
theorem rp5_g21 : rp5[21]? = some { dst := some 35, op := Op.slice 22 (Operand.tmp 34) (some (Operand.const (Value.int IntKind.i64 5))) none none, type := 22, pos := "ref.go:20", after := #[{ on := 20, ground := Ground.data }], guard := none } := by kernel_rfl
theorem rp5_f21 : Region.free .any rp5 rp5_l21 21 = true := by kernel_rfl
theorem rp5_r21 : (Region.ready .any rp5 rp5_l21).contains 21 = true := by kernel_rfl
def rp5_l22 : Array Bool := rp5_l21.setIfInBounds 21 true
theorem rp5_g22 : rp5[22]? = some { dst := none, op := Op.store 31 (Operand.tmp 2) (Operand.tmp 33), type := 0, pos := "ref.go:20", after := #[{ on := 19, ground := Ground.data }, { on := 0, ground := Ground.phase }, { on := 1, ground := Ground.phase }, { on := 2, ground := Ground.phase }, { on := 3, ground := Ground.phase }, { on := 4, ground := Ground.phase }, { on := 5, ground := Ground.phase }, { on := 6, ground := Ground.phase }, { on := 7, ground := Ground.phase }, { on := 8, ground := Ground.phase }, { on := 9, ground := Ground.phase }, { on := 10, ground := Ground.phase }, { on := 11, ground := Ground.phase }, { on := 12, ground := Ground.phase }, { on := 13, ground := Ground.phase }, { on := 14, ground := Ground.phase }, { on := 15, ground := Ground.phase }, { on := 16, ground := Ground.phase }, { on := 17, ground := Ground.phase }, { on := 18, ground := Ground.phase }, { on := 19, ground := Ground.phase }, { on := 20, ground := Ground.textOnly Departure.lateStores }, { on := 21, ground := Ground.textOnly Departure.lateStoresUnsure }], guard := none } := by kernel_rfl
theorem rp5_r22 : Region.ready .any rp5 rp5_l22 = [22] := by kernel_rfl
def rp5_l23 : Array Bool := rp5_l22.setIfInBounds 22 true
theorem rp5_g23 : rp5[23]? = some { dst := some 3, op := Op.assign (Operand.tmp 35), type := 22, pos := "ref.go:20", after := #[{ on := 21, ground := Ground.data }, { on := 22, ground := Ground.chain }, { on := 0, ground := Ground.phase }, { on := 1, ground := Ground.phase }, { on := 2, ground := Ground.phase }, { on := 3, ground := Ground.phase }, { on := 4, ground := Ground.phase }, { on := 5, ground := Ground.phase }, { on := 6, ground := Ground.phase }, { on := 7, ground := Ground.phase }, { on := 8, ground := Ground.phase }, { on := 9, ground := Ground.phase }, { on := 10, ground := Ground.phase }, { on := 11, ground := Ground.phase }, { on := 12, ground := Ground.phase }, { on := 13, ground := Ground.phase }, { on := 14, ground := Ground.phase }, { on := 15, ground := Ground.phase }, { on := 16, ground := Ground.phase }, { on := 17, ground := Ground.phase }, { on := 18, ground := Ground.phase }, { on := 19, ground := Ground.phase }, { on := 20, ground := Ground.phase }, { on := 21, ground := Ground.phase }, { on := 22, ground := Ground.phase }], guard := none } := by kernel_rfl
theorem rp5_f23 : Region.free .any rp5 rp5_l23 23 = true := by kernel_rfl
theorem rp5_r23 : (Region.ready .any rp5 rp5_l23).contains 23 = true := by kernel_rfl
def rp5_l24 : Array Bool := rp5_l23.setIfInBounds 23 true
theorem rp5_g24 : rp5[24]? = some { dst := some 4, op := Op.assign (Operand.const (Value.int IntKind.i64 0)), type := 3, pos := "ref.go:20", after := #[{ on := 23, ground := Ground.chain }, { on := 0, ground := Ground.phase }, { on := 1, ground := Ground.phase }, { on := 2, ground := Ground.phase }, { on := 3, ground := Ground.phase }, { on := 4, ground := Ground.phase }, { on := 5, ground := Ground.phase }, { on := 6, ground := Ground.phase }, { on := 7, ground := Ground.phase }, { on := 8, ground := Ground.phase }, { on := 9, ground := Ground.phase }, { on := 10, ground := Ground.phase }, { on := 11, ground := Ground.phase }, { on := 12, ground := Ground.phase }, { on := 13, ground := Ground.phase }, { on := 14, ground := Ground.phase }, { on := 15, ground := Ground.phase }, { on := 16, ground := Ground.phase }, { on := 17, ground := Ground.phase }, { on := 18, ground := Ground.phase }, { on := 19, ground := Ground.phase }, { on := 20, ground := Ground.phase }, { on := 21, ground := Ground.phase }, { on := 22, ground := Ground.phase }, { on := 23, ground := Ground.phase }], guard := none } := by kernel_rfl
theorem rp5_f24 : Region.free .any rp5 rp5_l24 24 = true := by kernel_rfl
theorem rp5_r24 : (Region.ready .any rp5 rp5_l24).contains 24 = true := by kernel_rfl
def rp5_l25 : Array Bool := rp5_l24.setIfInBounds 24 true
theorem rp5_end : Region.ready .any rp5 rp5_l25 = [] := by kernel_rfl
end Go.Proofs.Ytfijcdidcnfadaa.Head
