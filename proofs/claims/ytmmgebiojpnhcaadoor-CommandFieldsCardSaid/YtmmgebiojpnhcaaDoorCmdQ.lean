/-
  Same's closures, where one list has to wait.
-/
import Derived.Test.YtmmgebiojpnhcaaDoorCmdN
namespace Go.Proofs.YtmmgebiojpnhcaaDoor.Cmd
open Go.RowKit Base Go.Proofs.YtmmgebiojpnhcaaDoor.Ord
set_option linter.unusedVariables false
set_option linter.unusedSimpArgs false

/-- What waits: one list of two. -/
structure Waits (w : World) (p m q : Nat) (va vb : Value) (W : World) : Prop where
  tw : Turn (fun k => k = q ∨ k = m) w W
  wt : ∃ g c, W.heap[q]? = some (.cells #[.slice (some ⟨g, 0, none⟩) 1 c] 68 (0, 0)) ∧ 1 ≤ c ∧ W.cell? ⟨g, 0, none⟩ = some va ∧ W.cell? ⟨g, 1, none⟩ = some vb ∧ w.heap.size ≤ g
def WPost (w : World) (p m q : Nat) (ak aw ae bk bw be : Int) (u v : Value) (e : Ending) (w' : World) : Prop := e = .returned (.bool true) ∧ ∃ ga gb oa ob ca cb n, u = .agg #[.int .u8 ak, .int .u8 aw, ga, .int .i64 ae, .slice oa n ca] ∧ v = .agg #[.int .u8 bk, .int .u8 bw, gb, .int .i64 be, .slice ob n cb] ∧ Waits w p m q (.slice oa n ca) (.slice ob n cb) w'
theorem info_ls : (Tryd.prog.info? 76).map (fun i => (i.zero, i.size, i.bytes)) = some (some (.agg #[.slice none 0 0, .slice none 0 0]), 2, 48) := by kernel_rfl
theorem one_list {w : World} {s : Nat} {v va vb : Value} (h : w.ownsRow s 76 2 v 1 [va, vb]) : ∃ g c, v = .slice (some ⟨g, 0, none⟩) 1 c ∧ 1 ≤ c ∧ s ≤ g ∧ g < w.heap.size ∧ w.cell? ⟨g, 0, none⟩ = some va ∧ w.cell? ⟨g, 1, none⟩ = some vb := by
  rcases h.2 with ⟨rfl, hn⟩ | ⟨g, cap, cur, rfl, hg, hgb, h1, hrest⟩
  · cases hn
  · exact ⟨g, cap, rfl, h1, hg, lt_of_block hgb, own_cell h 0 _ rfl, own_cell h 1 _ rfl⟩
set_option maxRecDepth 100000 in
set_option maxHeartbeats 4000000 in
theorem same1_waits {w : World} {a b : Cm} {u v : Value} (p m q : Nat) (h : CmR w a u) (k : CmR w b v) (ha : OsOk a.ords) (hb : OsOk b.ords) (hn : alikeK a b = true) (hf : a.fields ≠ [])
    (hp : w.heap[p]? = some (.cells #[.map (some m)] 69 (0, 0))) (hm : w.heap[m]? = some (.map #[] 0)) (hq : w.heap[q]? = some (.cells #[.slice none 0 0] 68 (0, 0))) (hpm : p ≠ m) (hpq : p ≠ q) (hmq : m ≠ q) :
    Calls Tryd.prog 30 #[u, v, .pointer (some ⟨p, 0, none⟩), .pointer (some ⟨q, 0, none⟩)] w (WPost w p m q a.kind a.wcc a.err b.kind b.wcc b.err u v) := by
  obtain ⟨i0, hi, hz0, hz1, hz2⟩ := info_parts info_ls
  have H := Lib.hid h
  have K := Lib.hid k
  obtain ⟨vo, vf, rfl, hpo, hd⟩ := h
  obtain ⟨vo2, vf2, rfl, hp2, hd2⟩ := k
  have HAL : Hid (∀ W, Below w.heap.size w W → Calls Tryd.prog 31 #[.agg #[.int .u8 a.kind, .int .u8 a.wcc, vo, .int .i64 a.err, vf], .agg #[.int .u8 b.kind, .int .u8 b.wcc, vo2, .int .i64 b.err, vf2]] W fun e w' => e = .returned (.bool true) ∧ Below W.heap.size W w') := Lib.hid (fun W hW => by rw [← hn]; exact alike_any (H.out.below hW) (K.out.below hW) ha hb)
  have hlen : a.fields.length = b.fields.length := by simp [alikeK] at hn; omega
  obtain ⟨fa, fc, rfl, hr⟩ := hd
  obtain ⟨fa2, fc2, rfl, hr2⟩ := hd2
  obtain ⟨g1, off1, rfl, _, _⟩ := hr hf
  obtain ⟨g2, off2, rfl, _, _⟩ := hr2 (by intro e; rw [e] at hlen; simp at hlen; exact hf hlen)
  obtain ⟨n, hn1⟩ : ∃ n, n = a.fields.length := ⟨_, rfl⟩
  rw [← hlen, ← hn1] at HAL ⊢
  have hnpos : 0 < n := by rw [hn1]; exact List.length_pos_iff.2 hf
  obtain ⟨k1, hk1⟩ : ∃ x, x = a.kind := ⟨_, rfl⟩
  obtain ⟨c1, hc1⟩ : ∃ x, x = a.wcc := ⟨_, rfl⟩
  obtain ⟨e1, he1⟩ : ∃ x, x = a.err := ⟨_, rfl⟩
  obtain ⟨k2, hk2⟩ : ∃ x, x = b.kind := ⟨_, rfl⟩
  obtain ⟨c2, hc2⟩ : ∃ x, x = b.wcc := ⟨_, rfl⟩
  obtain ⟨e2, he2⟩ : ∃ x, x = b.err := ⟨_, rfl⟩
  rw [← hk1, ← hc1, ← he1, ← hk2, ← hc2, ← he2] at HAL ⊢
  have t0 : ((n : Int) == 0) = false := by simp; omega
  have i0' : (0 : Int) < (n : Int) := by omega
  clear hn1 hk1 hc1 he1 hk2 hc2 he2 hn hpo hp2 hlen hr hr2 hf H K
  have x1 := below_alloc w (.cells #[.int .u8 k1, .int .u8 c1, vo, .int .i64 e1, .slice (some ⟨g1, off1, none⟩) n fc] 28)
  have y1 := heap_alloc_new w (.cells #[.int .u8 k1, .int .u8 c1, vo, .int .i64 e1, .slice (some ⟨g1, off1, none⟩) n fc] 28)
  have z1 := World.size_alloc w (.cells #[.int .u8 k1, .int .u8 c1, vo, .int .i64 e1, .slice (some ⟨g1, off1, none⟩) n fc] 28)
  obtain ⟨W1, hW1⟩ : ∃ W1, W1 = w.alloc (.cells #[.int .u8 k1, .int .u8 c1, vo, .int .i64 e1, .slice (some ⟨g1, off1, none⟩) n fc] 28) := ⟨_, rfl⟩
  rw [← hW1] at x1 y1 z1
  have x2 := below_alloc W1 (.cells #[.int .u8 k2, .int .u8 c2, vo2, .int .i64 e2, .slice (some ⟨g2, off2, none⟩) n fc2] 28)
  have y2 := heap_alloc_new W1 (.cells #[.int .u8 k2, .int .u8 c2, vo2, .int .i64 e2, .slice (some ⟨g2, off2, none⟩) n fc2] 28)
  obtain ⟨W2, hW2⟩ : ∃ W2, W2 = W1.alloc (.cells #[.int .u8 k2, .int .u8 c2, vo2, .int .i64 e2, .slice (some ⟨g2, off2, none⟩) n fc2] 28) := ⟨_, rfl⟩
  rw [← hW2] at x2 y2
  have y3 := (x2.block _ (lt_of_block y1)).trans y1
  obtain ⟨s, hs⟩ : ∃ s, s = w.heap.size := ⟨_, rfl⟩
  have hold : Below w.heap.size w W2 := x1.trans (x2.mono x1.size)
  rw [← hs] at y3
  rw [z1, ← hs] at y2
  have HY2 := Lib.hid y2
  have HY3 := Lib.hid y3
  have HW1 := Lib.hid hW1.symm
  have HW2 := Lib.hid hW2.symm
  have HS := Lib.hid hs.symm
  have HO := Lib.hid hold
  have HP := Lib.hid hp
  have HM := Lib.hid hm
  have HQ := Lib.hid hq
  clear x1 y1 z1 x2 y2 y3 hW1 hW2 hs hold hp hm hq
  obtain ⟨q0, q1, q2, q3, q4, _⟩ := cells5 HY3.out
  obtain ⟨r0, r1, r2, r3, r4, _⟩ := cells5 HY2.out
  go_enter Tryd.func30, Tryd.ntmps30
  go_upto_region 1 with fail
  rw [HW1.out, HW2.out, HS.out]
  go_wp2_with fail
  refine (HAL.out _ HO.out).mono ?_
  rintro e W3 ⟨rfl, b3⟩
  have hb3 := HO.out.trans (b3.mono HO.out.size)
  have HB3 := Lib.hid hb3
  have hy := (b3.block _ (lt_of_block HY3.out)).trans HY3.out
  have hy2 := (b3.block _ (lt_of_block HY2.out)).trans HY2.out
  have hp3 := (hb3.block _ (lt_of_block HP.out)).trans HP.out
  have hm3 := (hb3.block _ (lt_of_block HM.out)).trans HM.out
  have hq3 := (hb3.block _ (lt_of_block HQ.out)).trans HQ.out
  have HP3 := Lib.hid hp3
  have HM3 := Lib.hid hm3
  have HQ3 := Lib.hid hq3
  have HYA := Lib.hid hy
  have HYB := Lib.hid hy2
  clear b3 hb3 q0 q1 q2 q3 q4 r0 r1 r2 r3 r4 hy hy2 hp3 hm3 hq3
  obtain ⟨q0, q1, q2, q3, q4, _⟩ := cells5 HYA.out
  obtain ⟨r0, r1, r2, r3, r4, _⟩ := cells5 HYB.out
  go_upto_region 5 with fail
  have l1 := fun o => ((below_alloc W3 o).cell (World.block_lt_of_cell? W3 _ q4)).trans q4
  have l2 := fun o => ((below_alloc W3 o).cell (World.block_lt_of_cell? W3 _ r4)).trans r4
  go_region
  have hb4 : Below W3.heap.size W3 (W3.alloc (.cells #[.pointer (some ⟨g1, off1, none⟩), .pointer (some ⟨g2, off2, none⟩), .int .i64 n] 72)).drew := (below_alloc W3 _).drew
  have hk4 := heap_alloc_new W3 (.cells #[.pointer (some ⟨g1, off1, none⟩), .pointer (some ⟨g2, off2, none⟩), .int .i64 n] 72)
  obtain ⟨W4, hW4⟩ : ∃ W4, W4 = (W3.alloc (.cells #[.pointer (some ⟨g1, off1, none⟩), .pointer (some ⟨g2, off2, none⟩), .int .i64 n] 72)).drew := ⟨_, rfl⟩
  have hk4' : W4.heap[W3.heap.size]? = some (.cells #[.pointer (some ⟨g1, off1, none⟩), .pointer (some ⟨g2, off2, none⟩), .int .i64 n] 72 (0, 0)) := by rw [hW4]; exact hk4
  rw [← hW4] at hb4 ⊢
  obtain ⟨kk, hkk⟩ : ∃ kk, kk = W3.heap.size := ⟨_, rfl⟩
  rw [← hkk] at hk4' ⊢
  have HB4 := Lib.hid (HB3.out.trans (hb4.mono HB3.out.size))
  have HYA4 := Lib.hid ((hb4.block _ (lt_of_block HYA.out)).trans HYA.out)
  have HYB4 := Lib.hid ((hb4.block _ (lt_of_block HYB.out)).trans HYB.out)
  have HP4 := Lib.hid ((hb4.block _ (lt_of_block HP3.out)).trans HP3.out)
  have HM4 := Lib.hid ((hb4.block _ (lt_of_block HM3.out)).trans HM3.out)
  have HQ4 := Lib.hid ((hb4.block _ (lt_of_block HQ3.out)).trans HQ3.out)
  have HK4 := Lib.hid hk4'
  clear l1 l2 q0 q1 q2 q3 q4 r0 r1 r2 r3 r4 hk4 hk4' hb4 hW4 hkk
  obtain ⟨p0, _⟩ := cell1 HP4.out
  obtain ⟨b0, b1, b2, _⟩ := cells3 HK4.out
  have hlk := map_look HM4.out (some ⟨g1, off1, none⟩) (some ⟨g2, off2, none⟩) n
  have hb5 := below_alloc W4 (.cells #[] 73)
  obtain ⟨W5, hW5⟩ : ∃ W5, W5 = W4.alloc (.cells #[] 73) := ⟨_, rfl⟩
  rw [← hW5] at hb5
  have HW5 := Lib.hid hW5.symm
  have HB5 := Lib.hid (HB4.out.trans (hb5.mono HB4.out.size))
  have HYA5 := Lib.hid ((hb5.block _ (lt_of_block HYA4.out)).trans HYA4.out)
  have HYB5 := Lib.hid ((hb5.block _ (lt_of_block HYB4.out)).trans HYB4.out)
  have HP5 := Lib.hid ((hb5.block _ (lt_of_block HP4.out)).trans HP4.out)
  have HM5 := Lib.hid ((hb5.block _ (lt_of_block HM4.out)).trans HM4.out)
  have HQ5 := Lib.hid ((hb5.block _ (lt_of_block HQ4.out)).trans HQ4.out)
  have HK5 := Lib.hid ((hb5.block _ (lt_of_block HK4.out)).trans HK4.out)
  have HSL : Hid (m < s ∧ p < s ∧ q < s) := Lib.hid (by rw [← HS.out]; exact ⟨lt_of_block HM.out, lt_of_block HP.out, lt_of_block HQ.out⟩)
  clear hW5 hb5
  go_upto_region 8 with fail
  rw [HW5.out]
  clear p0 b0 b1 b2 hlk
  obtain ⟨p0, _⟩ := cell1 HP5.out
  obtain ⟨b0, b1, b2, _⟩ := cells3 HK5.out
  obtain ⟨W6, hput, hT6⟩ := map_put HM5.out (some ⟨g1, off1, none⟩) (some ⟨g2, off2, none⟩) n
  have HT6 := Lib.hid hT6
  have ht6 := HT6.out
  have HYA6 := Lib.hid ((ht6.block _ (lt_of_block HYA5.out) (fun e => by have : s = m := e; have := HSL.out; omega)).trans HYA5.out)
  have HYB6 := Lib.hid ((ht6.block _ (lt_of_block HYB5.out) (fun e => by have : s + 1 = m := e; have := HSL.out; omega)).trans HYB5.out)
  have HQ6 := Lib.hid ((ht6.block _ (lt_of_block HQ5.out) (fun e => by have : q = m := e; omega)).trans HQ5.out)
  have HB6 := Lib.hid (show Turn (fun k => k = q ∨ k = m) w W6 from ((Turn.of_below HB5.out).trans (ht6.mono fun k hk => .inr hk)))
  clear ht6
  go_upto_region 9 with fail
  clear p0 b0 b1 b2 hput
  obtain ⟨q0, q1, q2, q3, q4, _⟩ := cells5 HYA6.out
  obtain ⟨r0, r1, r2, r3, r4, _⟩ := cells5 HYB6.out
  obtain ⟨u0, uf⟩ := cell1 HQ6.out
  go_wp2_with (first
    | (at_builtin; refine wpList_append_own _ rfl _ _ 68 rfl W6.heap.size 76 i0 (.agg #[.slice none 0 0, .slice none 0 0]) 2 48 Tryd.underlying68 hi hz0 hz1 hz2 rfl (by decide) (.slice none 0 0) 0 [] rfl ⟨rfl, .inl ⟨rfl, rfl⟩⟩ ⟨W6.heap.size, 0, none⟩ 1 1 [.slice (some ⟨g1, off1, none⟩) n fc, .slice (some ⟨g2, off2, none⟩) n fc2] rfl rfl (fun j u hu => by
        match j, hu with
        | 0, hu => simp at hu; subst hu; simp [go_sem, Addr.add]
        | 1, hu => simp at hu; subst hu; simp [go_sem, Addr.add]) (by simp [Value.oneCell']) (by unfold maxLen; omega) (by omega) (by rw [World.size_alloc]; omega) ?_; intro v' W8 hown' hgrow _; obtain ⟨g, cc, rfl, hcc, hgg, hgl, hca, hcb⟩ := one_list hown'; have HGR := Lib.hid hgrow; have HCA := Lib.hid hca; have HCB := Lib.hid hcb; have HGG := Lib.hid (And.intro hgg (And.intro hgl hcc)); have HQ8 := Lib.hid (((hgrow.block q (by rw [World.size_alloc]; have := lt_of_block HQ6.out; omega) (by simp [Value.ownBlock])).trans (Below.heap_alloc _ _ _ (lt_of_block HQ6.out))).trans HQ6.out); obtain ⟨v0, vf⟩ := cell1 HQ8.out; clear hown' hgrow hca hcb hgg hgl hcc u0 uf))
  go_ret
  have hT8 : Turn (fun k => k = q ∨ k = m) w W8 := HB6.out.trans (((Turn.of_below (below_alloc W6 _)).grown HGR.out fun k e => by simp [Value.ownBlock] at e).mono fun k hk => hk)
  have hrow := heap_set HQ8.out 0 (.slice (some ⟨g, 0, none⟩) 1 cc)
  have hgq : g ≠ q := fun e => by have := lt_of_block HQ6.out; have := HGG.out.1; omega
  have hgb : (W8.setCell ⟨q, 0, none⟩ (.slice (some ⟨g, 0, none⟩) 1 cc)).heap[g]? = W8.heap[g]? := Below.heap_setCell _ _ _ _ hgq
  exact ⟨rfl, _, _, _, _, _, _, _, rfl, rfl, hT8.trans ((turn_set W8 q 0 _).mono fun k hk => .inl hk), g, cc, hrow, HGG.out.2.2, (cell_block hgb 0).trans HCA.out, (cell_block hgb 1).trans HCB.out, Nat.le_trans HB6.out.size HGG.out.1⟩
end Go.Proofs.YtmmgebiojpnhcaaDoor.Cmd
