/-
  What is asked of a kind, of a WCC, of a field.
-/
import Derived.Test.YtmmgebiojpnhcaaDoorCmdB
import Derived.Test.YtmmgebiojpnhcaaDoorAttrA
namespace Go.Proofs.YtmmgebiojpnhcaaDoor.Cmd
open Go.RowKit Base
set_option linter.unusedVariables false
set_option linter.unusedSimpArgs false

def hasK (k : Int) : Bool := k == 241 || k == 245 || k == 126
def aheadK (op : Int) : Int := if op = 2 then 255 else 0
def asK (id op k : Int) : Bool := if id = 1 then op == 2 || op == 242 || op == 246 || op == 110 else if id = 3 then op == 0 || op == 128 else if id = 64 then op == 0 && (hasK k || k == 111) else false
theorem field0 (x y : Int) (n : ByteArray) (w : World) : (Instr.field 65 (.agg #[.int .u8 x, .int .u8 y, .string n]) 0).run Tryd.prog w = .ok (.int .u8 x) w := by kernel_rfl
theorem field2 (x y : Int) (n : ByteArray) (w : World) : (Instr.field 65 (.agg #[.int .u8 x, .int .u8 y, .string n]) 2).run Tryd.prog w = .ok (.string n) w := by kernel_rfl
set_option maxRecDepth 100000 in
theorem told_any {w : World} (ht : Tbl w) (b : Int) : Calls Tryd.prog 20 #[.int .u8 b] w fun e w' => e = .returned (.int .u8 (toldK b)) ∧ Below w.heap.size w w' := by
  have H := Lib.hid (find_any ht b)
  unfold toldK
  obtain ⟨⟨x, y, n⟩, hk⟩ : ∃ k, k = findK b := ⟨_, rfl⟩
  rw [← hk] at H ⊢
  unfold knownV at H
  clear hk ht
  have hf := field0 x y n
  go_enter Tryd.func20, Tryd.ntmps20
  go_wp2_with fail
  refine H.out.mono ?_
  rintro e w' ⟨rfl, hb⟩
  have HB := Lib.hid hb
  clear hb
  go_wp2_with fail
  go_ret
  exact ⟨rfl, HB.out⟩
set_option maxRecDepth 100000 in
theorem name_any {w : World} (ht : Tbl w) (b : Int) : Calls Tryd.prog 12 #[.int .u8 b] w fun e w' => e = .returned (.string (nameK b)) ∧ Below w.heap.size w w' := by
  have H := Lib.hid (find_any ht b)
  unfold nameK
  obtain ⟨⟨x, y, n⟩, hk⟩ : ∃ k, k = findK b := ⟨_, rfl⟩
  rw [← hk] at H ⊢
  unfold knownV at H
  clear hk ht
  have hf := field2 x y n
  go_enter Tryd.func12, Tryd.ntmps12
  go_wp2_with fail
  refine H.out.mono ?_
  rintro e w' ⟨rfl, hb⟩
  have HB := Lib.hid hb
  clear hb
  go_wp2_with fail
  go_ret
  exact ⟨rfl, HB.out⟩
theorem has_any (k : Int) (w : World) : Calls Tryd.prog 22 #[.int .u8 k] w fun e w' => e = .returned (.bool (hasK k)) ∧ w = w' := by
  have hk : k = 241 ∨ k = 245 ∨ k = 126 ∨ ((k == 241) = false ∧ (k == 245) = false ∧ (k == 126) = false) := by simp; omega
  rcases hk with rfl | rfl | rfl | ⟨t1, t2, t3⟩
  all_goals
    go_enter Tryd.func22, Tryd.ntmps22
    go_wp2_with fail
    go_ret
    refine ⟨ret_bool ?_, rfl⟩
    first | rfl | (unfold hasK; rw [t1, t2, t3]; rfl)
theorem ahead_any (k : Int) (w : World) : Calls Tryd.prog 49 #[.int .u8 k] w fun e w' => e = .returned (.int .u8 (aheadK k)) ∧ w = w' := by
  unfold aheadK
  have hk : k = 2 ∨ ((k == 2) = false ∧ k ≠ 2) := by simp; omega
  rcases hk with rfl | ⟨t1, t2⟩
  · go_enter Tryd.func49, Tryd.ntmps49
    go_wp2_with fail
    go_ret
    exact ⟨rfl, rfl⟩
  · rw [if_neg t2]
    go_enter Tryd.func49, Tryd.ntmps49
    go_wp2_with fail
    go_ret
    exact ⟨rfl, rfl⟩
theorem bit4 (b : Int) (h0 : 0 ≤ b) (h1 : b ≤ 255) : (bits .and .u8 b 4 != 0) = (b / 4 % 2 == 1) := Attr.byte_fin (p := fun b => (bits .and .u8 b 4 != 0) = (b / 4 % 2 == 1)) (by decide +kernel) b h0 h1
theorem bit2 (b : Int) (h0 : 0 ≤ b) (h1 : b ≤ 255) : (bits .and .u8 b 2 != 0) = (b / 2 % 2 == 1) := Attr.byte_fin (p := fun b => (bits .and .u8 b 2 != 0) = (b / 2 % 2 == 1)) (by decide +kernel) b h0 h1
theorem bit1 (b : Int) (h0 : 0 ≤ b) (h1 : b ≤ 255) : (bits .and .u8 b 1 != 0) = (b % 2 == 1) := Attr.byte_fin (p := fun b => (bits .and .u8 b 1 != 0) = (b % 2 == 1)) (by decide +kernel) b h0 h1
theorem alarm_any (b : Int) (w : World) (h0 : 0 ≤ b) (h1 : b ≤ 255) : Calls Tryd.prog 14 #[.int .u8 b] w fun e w' => e = .returned (.bool (b / 4 % 2 == 1)) ∧ w = w' := by
  go_enter Tryd.func14, Tryd.ntmps14
  go_wp2_with fail
  go_ret
  exact ⟨ret_bool (bit4 b h0 h1), rfl⟩
theorem restore_any (b : Int) (w : World) (h0 : 0 ≤ b) (h1 : b ≤ 255) : Calls Tryd.prog 15 #[.int .u8 b] w fun e w' => e = .returned (.bool (b / 2 % 2 == 1)) ∧ w = w' := by
  go_enter Tryd.func15, Tryd.ntmps15
  go_wp2_with fail
  go_ret
  exact ⟨ret_bool (bit2 b h0 h1), rfl⟩
theorem clean_any (b : Int) (w : World) (h0 : 0 ≤ b) (h1 : b ≤ 255) : Calls Tryd.prog 16 #[.int .u8 b] w fun e w' => e = .returned (.bool (b % 2 == 1)) ∧ w = w' := by
  go_enter Tryd.func16, Tryd.ntmps16
  go_wp2_with fail
  go_ret
  exact ⟨ret_bool (bit1 b h0 h1), rfl⟩
set_option maxHeartbeats 2000000 in
theorem as_any (id op k c : Int) (vo : Value) (e : Int) (vf : Value) (w : World) : Calls Tryd.prog 48 #[.agg #[.int .u8 id, .int .u8 op, .int .u8 k, .int .u8 c, vo, .int .i64 e, vf]] w fun r w' => r = .returned (.bool (asK id op k)) ∧ Below w.heap.size w w' := by
  have HB := Lib.hid (below_alloc w (.cells #[.int .u8 id, .int .u8 op, .int .u8 k, .int .u8 c, vo, .int .i64 e, vf] 39))
  have HH := Lib.hid (has_any k)
  have hid : id = 1 ∨ id = 3 ∨ id = 64 ∨ ((id == 1) = false ∧ (id == 3) = false ∧ (id == 64) = false) := by simp; omega
  rcases hid with rfl | rfl | rfl | ⟨t1, t2, t3⟩
  · have ho : op = 2 ∨ op = 242 ∨ op = 246 ∨ op = 110 ∨ ((op == 2) = false ∧ (op == 242) = false ∧ (op == 246) = false ∧ (op == 110) = false) := by simp; omega
    rcases ho with rfl | rfl | rfl | rfl | ⟨s1, s2, s3, s4⟩
    all_goals
      go_enter Tryd.func48, Tryd.ntmps48
      go_wp2_with fail
      go_ret
      refine ⟨ret_bool ?_, HB.out⟩
      first | rfl | (unfold asK; rw [if_pos rfl, s1, s2, s3, s4]; rfl)
  · have ho : op = 0 ∨ op = 128 ∨ ((op == 0) = false ∧ (op == 128) = false) := by simp; omega
    rcases ho with rfl | rfl | ⟨s1, s2⟩
    all_goals
      go_enter Tryd.func48, Tryd.ntmps48
      go_wp2_with fail
      go_ret
      refine ⟨ret_bool ?_, HB.out⟩
      first | rfl | (unfold asK; rw [if_neg (by decide), if_pos rfl, s1, s2]; rfl)
  · have ho : op = 0 ∨ (op == 0) = false := by simp; omega
    rcases ho with rfl | s1
    · have hk : k = 111 ∨ (k == 111) = false := by simp; omega
      obtain ⟨H, hH⟩ : ∃ H, H = hasK k := ⟨_, rfl⟩
      have ha : asK 64 0 k = (H || k == 111) := by rw [hH]; rfl
      rw [ha]
      rw [← hH] at HH
      clear ha
      rcases hk with rfl | hk <;> cases H
      all_goals
        clear hH
        go_enter Tryd.func48, Tryd.ntmps48
        go_wp2_with (first | (go_at_call 22; refine (HH.out _).mono ?_; rintro e w' ⟨rfl, rfl⟩))
        go_ret
        refine ⟨ret_bool ?_, HB.out⟩
        first | rfl | simp [hk]
    · go_enter Tryd.func48, Tryd.ntmps48
      go_wp2_with fail
      go_ret
      refine ⟨ret_bool ?_, HB.out⟩
      unfold asK
      rw [if_neg (by decide), if_neg (by decide), if_pos rfl, s1]
      rfl
  · go_enter Tryd.func48, Tryd.ntmps48
    go_wp2_with fail
    go_ret
    refine ⟨ret_bool ?_, HB.out⟩
    unfold asK
    rw [if_neg (by simpa using t1), if_neg (by simpa using t2), if_neg (by simpa using t3)]
end Go.Proofs.YtmmgebiojpnhcaaDoor.Cmd
