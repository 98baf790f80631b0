/-
  A builder that grows beside a row of bytes: which blocks a write turns, and where the grown row lies.
-/
import Derived.Test.YtgjhboikfbafcaaCodeF
import Derived.Test.YtgjhboikfbafcaaPlD
namespace Go.Proofs.Ytgjhboikfbafcaa.Pl
open Go.RowKit Go.Shelf Base
set_option linter.unusedVariables false
set_option linter.unusedSimpArgs false

theorem run_str_at (w : World) (ty : TypeId) (v : Value) (l : List UInt8) (hown : w.ownsRow 0 5 1 v l.length (Lib.byteCells l)) (s : ByteArray) (hb : l.length + s.size ≤ 100000000000000) :
    ∃ v' w', (Builtin.append_ #[43, 9] ty #[v, .string s]).run Try.prog w = .ok v' w' ∧ w'.ownsRow 0 5 1 v' (l ++ s.data.toList).length (Lib.byteCells (l ++ s.data.toList)) ∧ w.grownBy w' v.ownBlock ∧ (v'.ownBlock = v.ownBlock ∨ v'.ownBlock = some w.heap.size) := by
  obtain ⟨i, hi, hz, hsize, hby⟩ := info_parts Code.infoByte
  have ht := Try.underlying43
  have hu := Try.underlying9
  have hss : s.data.toList.length = s.size := by rw [Array.length_toList]; rfl
  obtain ⟨v', w', hr, ho, hg, hn⟩ := Lib.run_append_own_string (P := Try.prog) w 0 43 9 ty 5 i ht hu hi hz hsize hby v l.length _ hown s (by unfold maxLen; omega) (by omega) (Nat.zero_le _)
  have e1 : (l ++ s.data.toList).length = l.length + s.size := by rw [List.length_append, hss]
  refine ⟨v', w', hr, ?_, hg, ?_⟩
  · rw [e1, Lib.byteCells_append]; exact ho
  · rcases hown.2 with ⟨rfl, h0⟩ | ⟨g, cap, cur, rfl, hbg, hgb, hnc, hcm, hcs, htake⟩
    · by_cases hm : s.size = 0
      · have := hn.2 ⟨rfl, hm⟩
        rw [this]; exact .inl rfl
      · have hr2 := run_append_nil_string (P := Try.prog) w 43 9 ty 5 i (.int .u8 0) ht hu hi hz s (by omega) (by omega) (by rw [hby]; omega)
        have := hr.symm.trans hr2
        cases this
        exact .inr rfl
    · by_cases hroom : l.length + s.size ≤ cap
      · have hcs' : cur.size = cap := by simpa using hcs
        have hr2 := Lib.run_append_room_string (P := Try.prog) w 43 9 ty 5 i ht hu hi hsize g l.length cap cur hgb s hroom (by omega)
        have := hr.symm.trans hr2
        cases this
        exact .inl rfl
      · have holds : ∀ j u, (Lib.byteCells l)[j]? = some u → w.cell? ((⟨g, 0, none⟩ : Addr).add j) = some u := hown.cells (g := g) rfl
        have hr2 := Lib.run_append_grow_string (P := Try.prog) w 43 9 ty 5 i (.int .u8 0) ht hu hi hz ⟨g, 0, none⟩ l.length cap _ (by rw [hsize, Lib.byteCells_length]; omega) holds s (by omega) (by omega) (by rw [hby]; exact growslice_fits (by omega) (by omega))
        have := hr.symm.trans hr2
        cases this
        exact .inr rfl
theorem wp_str_at {ops : Array Oper} {rest : List Oper} {o : Oper} {a : Act} {w : World} {Q : Exit → Act → World → Prop} (hgd : o.guard = none) (sl x : Operand)
    (ho : o.op = .call { callee := .builtin .append, args := #[sl, x], argTypes := #[43, 9] })
    (v : Value) (l : List UInt8) (hs : a.eval sl = v) (hown : w.ownsRow 0 5 1 v l.length (Lib.byteCells l)) (s : ByteArray) (hx : a.eval x = .string s) (hb : l.length + s.size ≤ 100000000000000)
    (h : ∀ v' w', w'.ownsRow 0 5 1 v' (l ++ s.data.toList).length (Lib.byteCells (l ++ s.data.toList)) → w.grownBy w' v.ownBlock → (v'.ownBlock = v.ownBlock ∨ v'.ownBlock = some w.heap.size) → wpList Try.prog ops Q rest (a.put o.dst v') w') : wpList Try.prog ops Q (o :: rest) a w := by
  refine wpList_plain hgd fun K hK => ?_
  obtain ⟨v', w', hr, h2, h3, h4⟩ := run_str_at w o.type v l hown s hb
  unfold Oper.wp execOp
  simp only [ho, resolve, invoke, builtin, Sem.run_bind, Sem.run_pure, Result.andThen_ok, List.map_toArray, List.map_cons, List.map_nil, hs, hx, hr]
  exact hK _ _ (h v' w' h2 h3 h4)

/-- A builder in block b, its bytes in block G (none, as long as it has none). -/
def Bd (W : World) (b : Nat) (G : Option Nat) (l : List UInt8) : Prop :=
  ∃ p v, (p = .pointer none ∨ p = .pointer (some ⟨b, 0, none⟩)) ∧ W.heap[b]? = some (.cells #[p, v] 98 (0, 0)) ∧ W.ownsRow 0 5 1 v l.length (Lib.byteCells l) ∧ v.ownBlock = G ∧ G ≠ some b
section
variable {w W W' : World} {b : Nat} {G : Option Nat} {l : List UInt8}
theorem Bd.lt (h : Bd W b G l) : b < W.heap.size := by obtain ⟨_, _, _, h, _⟩ := h; exact lt_of_block h
theorem Bd.ltG (h : Bd W b G l) : ∀ k, G = some k → k < W.heap.size := by
  obtain ⟨_, v, _, _, h, e, _⟩ := h
  intro k hk
  exact (h.lt k (e.trans hk)).2
theorem Bd.turn {S : Nat → Prop} (h : Bd W b G l) (t : Turn S W W') (hb : ¬ S b) (hG : ∀ k, G = some k → ¬ S k) : Bd W' b G l := by
  obtain ⟨p, v, hp, h1, h2, h3, h4⟩ := h
  refine ⟨p, v, hp, (t.block b (lt_of_block h1) hb).trans h1, ⟨h2.1, ?_⟩, h3, h4⟩
  rcases h2.2 with hn | ⟨g, cap, cur, rfl, hbg, hg, rest⟩
  · exact .inl hn
  · exact .inr ⟨g, cap, cur, rfl, hbg, (t.block g (lt_of_block hg) (hG g h3.symm)).trans hg, rest⟩
theorem Bd.below (h : Bd W b G l) (t : Below W.heap.size W W') : Bd W' b G l := h.turn (S := fun _ => False) (Turn.of_below t) id fun _ _ => id
theorem Bd.fresh (w : World) : Bd (w.alloc (.cells #[.pointer none, .slice none 0 0] 98)) w.heap.size none [] :=
  ⟨_, _, .inl rfl, heap_alloc_new w _, World.ownsRow_nil _ _ _ _, rfl, by simp⟩
theorem Bd.is (h : Bd W b G l) : Lib.IsBuilderF 98 5 0 b (Lib.byteCells l) W := by
  obtain ⟨p, v, hp, h1, h2, h3, h4⟩ := h
  have hA : Lib.BuilderAtF 98 5 0 b p (Lib.byteCells l) W := ⟨Nat.zero_le _, v, h1, by rw [Lib.byteCells_length]; exact World.ownsRowF_of h2, by rw [h3]; exact h4⟩
  rcases hp with rfl | rfl
  · exact .inl hA
  · exact .inr hA
/-- What a write turns. -/
def BT (b : Nat) (G : Option Nat) (k : Nat) : Prop := k = b ∨ G = some k
theorem copyCheck_b (h : Bd W b G l) : Calls Try.prog 90 #[.pointer (some ⟨b, 0, none⟩)] W fun e W' => e = .returned (.tuple #[]) ∧ ∃ v, W'.heap[b]? = some (.cells #[.pointer (some ⟨b, 0, none⟩), v] 98 (0, 0)) ∧ W'.ownsRow 0 5 1 v l.length (Lib.byteCells l) ∧ v.ownBlock = G ∧ G ≠ some b ∧ Turn (At b) W W' ∧ W'.heap.size = W.heap.size := by
  obtain ⟨p, v, hp, h1, h2, h3, h4⟩ := h
  rcases hp with rfl | rfl
  · refine (Code.copyCheck_fresh b W (by simp [World.cell?, h1]) (by simp [World.shape?, h1]) (by simp [World.frozen?, h1])).mono ?_
    rintro e W' ⟨rfl, rfl⟩
    refine ⟨rfl, v, ?_, ?_, h3, h4, turn_set _ _ _ _, by simp⟩
    · simpa using heap_set h1 0 (.pointer (some ⟨b, 0, none⟩))
    · exact h2.kept (row := some b) ⟨rfl, rfl, rfl, by simp, fun k _ hk => Below.heap_setCell _ _ _ _ (fun e => hk (by simp [e]))⟩ (.inr (by rw [h3]; exact h4))
  · refine (Code.copyCheck_used b W (by simp [World.cell?, h1])).mono ?_
    rintro e W' ⟨rfl, rfl⟩
    exact ⟨rfl, v, h1, h2, h3, h4, Turn.refl _ _, rfl⟩
theorem written {W1 W2 : World} {v v' : Value} {l' : List UInt8} (h1 : W1.heap[b]? = some (.cells #[.pointer (some ⟨b, 0, none⟩), v] 98 (0, 0))) (hG : v.ownBlock = G) (hne : G ≠ some b) (hz : W1.heap.size = W.heap.size)
    (t : Turn (At b) W W1) (hg : W1.grownBy W2 v.ownBlock) (ho : W2.ownsRow 0 5 1 v' l'.length (Lib.byteCells l')) (hat : v'.ownBlock = v.ownBlock ∨ v'.ownBlock = some W1.heap.size) :
    ∃ G', Bd (W2.setCell ⟨b, 1, none⟩ v') b G' l' ∧ Turn (BT b G) W (W2.setCell ⟨b, 1, none⟩ v') ∧ (G' = G ∨ ∃ k, G' = some k ∧ W.heap.size ≤ k) := by
  have hlt := lt_of_block h1
  have h2 : W2.heap[b]? = some (.cells #[.pointer (some ⟨b, 0, none⟩), v] 98 (0, 0)) := (hg.block b hlt (by rw [hG]; exact fun e => hne e.symm)).trans h1
  have h3 := heap_set h2 1 v'
  have hne' : v'.ownBlock ≠ some b := by
    rcases hat with e | e
    · rw [e, hG]; exact hne
    · rw [e]; intro e; cases e; omega
  refine ⟨v'.ownBlock, ⟨_, v', .inr rfl, by simpa using h3, ?_, rfl, hne'⟩, ?_, ?_⟩
  · exact ho.kept (row := some b) ⟨rfl, rfl, rfl, by simp, fun k _ hk => Below.heap_setCell _ _ _ _ (fun e => hk (by simp [e]))⟩ (.inr hne')
  · refine ((t.mono fun k hk => .inl hk).grown hg fun k hk => .inr (.inr (by rw [← hG]; exact hk))).trans ((turn_set W2 b 1 v').mono fun k hk => .inl hk)
  · rcases hat with e | e
    · exact .inl (e.trans hG)
    · exact .inr ⟨_, e, by omega⟩
theorem written2 {W1 W2 : World} {v v' : Value} {l' : List UInt8} (h1 : W1.heap[b]? = some (.cells #[.pointer (some ⟨b, 0, none⟩), v] 98 (0, 0))) (hG : v.ownBlock = G) (hne : G ≠ some b) (hz : W1.heap.size = W.heap.size)
    (t : Turn (At b) W W1) (hg : W1.grownBy W2 v.ownBlock) (ho : W2.ownsRow 0 5 1 v' l'.length (Lib.byteCells l')) (hat : v'.ownBlock = v.ownBlock ∨ v'.ownBlock = some W1.heap.size) :
    ∃ G', Hid (Bd (W2.setCell ⟨b, 1, none⟩ v') b G' l' ∧ Turn (BT b G) W (W2.setCell ⟨b, 1, none⟩ v') ∧ (G' = G ∨ ∃ k, G' = some k ∧ W.heap.size ≤ k)) ∧ W2.cell? ⟨b, 1, none⟩ = some v ∧ W2.frozen? ⟨b, 1, none⟩ = false ∧ ∃ ao n' cap, v' = .slice ao n' cap := by
  obtain ⟨G', hR⟩ := written h1 hG hne hz t hg ho hat
  have e := (hg.block b (lt_of_block h1) (by rw [hG]; exact fun e => hne e.symm)).trans h1
  refine ⟨G', hR, by simp [World.cell?, e], by simp [World.frozen?, e], ?_⟩
  rcases ho.2 with ⟨hv, _⟩ | ⟨g, cap, cur, hv, _⟩
  · exact ⟨_, _, _, hv⟩
  · exact ⟨_, _, _, hv⟩
set_option maxHeartbeats 2000000 in
set_option maxRecDepth 100000 in
theorem writeString_b (h : Bd W b G l) (s : ByteArray) (hb : l.length + s.size ≤ 100000000000000) :
    Calls Try.prog 60 #[.pointer (some ⟨b, 0, none⟩), .string s] W fun e W' => (∃ v, e = .returned v) ∧ ∃ G', Bd W' b G' (l ++ s.data.toList) ∧ Turn (BT b G) W W' ∧ (G' = G ∨ ∃ k, G' = some k ∧ W.heap.size ≤ k) := by
  go_enter Try.func60, Try.ntmps60
  go_wp2_with fail
  refine (copyCheck_b h).mono ?_
  rintro e W1 ⟨rfl, v, h1, h2, h3, h4, t, hz⟩
  have c0 : W1.cell? ⟨b, 1, none⟩ = some v := by simp [World.cell?, h1]
  have H1 := Lib.hid h1
  have H3 := Lib.hid h3
  have H4 := Lib.hid h4
  have T := Lib.hid t
  have HZ := Lib.hid hz
  clear h1 h3 h4 t hz h
  go_wp2_with (at_builtin; refine wp_str_at rfl _ _ rfl v l rfl h2 s rfl hb ?_)
  intro v' W2 ho hg hat
  obtain ⟨G', HR, d1, f1, ao, n', cap, rfl⟩ := written2 (l' := l ++ s.data.toList) H1.out H3.out H4.out HZ.out T.out hg (by rw [List.length_append, show s.data.toList.length = s.size from by rw [Array.length_toList]; rfl]; exact ho) hat
  clear ho hg hat c0
  go_wp2
  go_ret2
  exact ⟨⟨_, rfl⟩, G', HR.out⟩
end
/-! ### A sign of GE -/
def geL (k : Int) : List UInt8 := Lib.encodeRune (57344 + k)
theorem geC (k : Int) (h0 : 0 ≤ k) (h1 : k ≤ 255) : Lib.byteCells (geL k) = [.int .u8 (224 + (57344 + k) / 4096), .int .u8 (128 + (57344 + k) / 64 % 64), .int .u8 (128 + (57344 + k) % 64)] := by
  unfold geL
  rw [Lib.byteCells_encodeRune]
  unfold Lib.runeCells
  rw [Lib.encodeRuneZ_three (.inr ⟨by omega, by omega⟩)]
  rfl
theorem geL_length (k : Int) (h0 : 0 ≤ k) (h1 : k ≤ 255) : (geL k).length = 3 := by
  have := congrArg List.length (geC k h0 h1)
  rw [Lib.byteCells_length] at this
  exact this
theorem cell_three_new (w : World) (x y z : Value) (t : TypeId) : ∀ j u, [x, y, z][j]? = some u → (w.alloc (.cells #[x, y, z] t)).cell? ((⟨w.heap.size, 0, none⟩ : Addr).add j) = some u := by
  intro j u hu
  have hj : j = 0 ∨ j = 1 ∨ j = 2 := by have := (List.getElem?_eq_some_iff.1 hu).1; simp at this; omega
  have e : (⟨w.heap.size, 0, none⟩ : Addr).add j = ⟨w.heap.size, j, none⟩ := by unfold Addr.add; split <;> simp_all
  rw [e]
  rcases hj with rfl | rfl | rfl
  · simp at hu; subst hu; simp [go_sem]
  · simp at hu; subst hu; simp [go_sem]
  · simp at hu; subst hu; simp [go_sem]
set_option maxHeartbeats 4000000 in
set_option maxRecDepth 100000 in
theorem runeNon_b (v : Value) (l : List UInt8) (k : Int) (w : World) (h0 : 0 ≤ k) (h1 : k ≤ 255) (hown : w.ownsRow 0 5 1 v l.length (Lib.byteCells l)) (hb : l.length ≤ 10000000000) :
    Calls Try.prog 139 #[v, .int .i32 (57344 + k)] w fun e w' => ∃ v', e = .returned v' ∧ w'.ownsRow 0 5 1 v' (l ++ geL k).length (Lib.byteCells (l ++ geL k)) ∧ w.grownBy w' v.ownBlock ∧ (v'.ownBlock = v.ownBlock ∨ ∃ j, v'.ownBlock = some j ∧ w.heap.size ≤ j) := by
  obtain ⟨i0, hi, hz0, hz1, hz2⟩ := info_parts Code.infoByte
  have hw : IntKind.u32.wrap (57344 + k) = 57344 + k := by simp [IntKind.wrap, IntKind.bits, IntKind.signed]; omega
  go_enter Try.func139, Try.ntmps139
  have hC := geC k h0 h1
  have hL := geL_length k h0 h1
  have HG := Lib.hid (below_alloc w)
  go_wp2_with (at_builtin; refine wpList_append_own_at _ rfl _ _ 43 rfl 0 5 i0 (.int .u8 0) 1 1 Try.underlying43 hi hz0 hz1 hz2 rfl (by decide) _ _ _ rfl (hown.alloc _) ⟨w.heap.size, 0, none⟩ 3 3 _ rfl rfl (cell_three_new _ _ _ _ _) (by simp [Value.oneCell']) (by unfold maxLen; omega) (by omega) (Nat.zero_le _) ?_)
  intro v' w2 ho hg _ hat
  rw [← hC, ← Lib.byteCells_append] at ho
  go_wp2
  go_ret
  refine ⟨_, rfl, by rw [List.length_append, hL]; exact ho, ⟨hg.os, hg.tape, hg.output, Nat.le_trans (by simp) hg.size, fun j hj hne => (hg.block j (by simp; omega) hne).trans (Below.heap_alloc _ _ _ hj)⟩, hat.imp id fun e => ⟨_, e, by simp⟩⟩
set_option maxHeartbeats 4000000 in
set_option maxRecDepth 100000 in
theorem appendRune_b (v : Value) (l : List UInt8) (k : Int) (w : World) (h0 : 0 ≤ k) (h1 : k ≤ 255) (hown : w.ownsRow 0 5 1 v l.length (Lib.byteCells l)) (hb : l.length ≤ 10000000000) :
    Calls Try.prog 117 #[v, .int .i32 (57344 + k)] w fun e w' => ∃ v', e = .returned v' ∧ w'.ownsRow 0 5 1 v' (l ++ geL k).length (Lib.byteCells (l ++ geL k)) ∧ w.grownBy w' v.ownBlock ∧ (v'.ownBlock = v.ownBlock ∨ ∃ j, v'.ownBlock = some j ∧ w.heap.size ≤ j) := by
  have hw : IntKind.u32.wrap (57344 + k) = 57344 + k := by simp [IntKind.wrap, IntKind.bits, IntKind.signed]; omega
  have HR := Lib.hid (runeNon_b v l k w h0 h1 hown hb)
  clear hown
  go_enter Try.func117, Try.ntmps117
  go_wp2_with fail
  refine HR.out.mono ?_
  rintro e w' ⟨v', rfl, h2, h3, h4⟩
  have H2 := Lib.hid h2
  have H3 := Lib.hid h3
  have H4 := Lib.hid h4
  clear h2 h3 h4
  go_wp2
  go_ret
  exact ⟨_, rfl, H2.out, H3.out, H4.out⟩
theorem written3 {W W1 W2 : World} {b : Nat} {G : Option Nat} {v v' : Value} {l' : List UInt8} (h1 : W1.heap[b]? = some (.cells #[.pointer (some ⟨b, 0, none⟩), v] 98 (0, 0))) (hG : v.ownBlock = G) (hne : G ≠ some b) (hz : W1.heap.size = W.heap.size)
    (t : Turn (At b) W W1) (hg : W1.grownBy W2 v.ownBlock) (ho : W2.ownsRow 0 5 1 v' l'.length (Lib.byteCells l')) (hat : v'.ownBlock = v.ownBlock ∨ ∃ j, v'.ownBlock = some j ∧ W1.heap.size ≤ j) :
    ∃ G', Hid (Bd (W2.setCell ⟨b, 1, none⟩ v') b G' l' ∧ Turn (BT b G) W (W2.setCell ⟨b, 1, none⟩ v') ∧ (G' = G ∨ ∃ k, G' = some k ∧ W.heap.size ≤ k)) ∧ W2.cell? ⟨b, 0, none⟩ = some (.pointer (some ⟨b, 0, none⟩)) ∧ W2.cell? ⟨b, 1, none⟩ = some v ∧ W2.frozen? ⟨b, 1, none⟩ = false ∧ ∃ ao n' cap, v' = .slice ao n' cap := by
  have hlt := lt_of_block h1
  have h2 : W2.heap[b]? = some (.cells #[.pointer (some ⟨b, 0, none⟩), v] 98 (0, 0)) := (hg.block b hlt (by rw [hG]; exact fun e => hne e.symm)).trans h1
  have h3 := heap_set h2 1 v'
  have hne' : v'.ownBlock ≠ some b := by
    rcases hat with e | ⟨j, e, hj⟩
    · rw [e, hG]; exact hne
    · rw [e]; intro e; cases e; omega
  refine ⟨v'.ownBlock, ⟨⟨_, v', .inr rfl, by simpa using h3, ?_, rfl, hne'⟩, ?_, ?_⟩, by simp [World.cell?, h2], by simp [World.cell?, h2], by simp [World.frozen?, h2], ?_⟩
  · exact ho.kept (row := some b) ⟨rfl, rfl, rfl, by simp, fun k _ hk => Below.heap_setCell _ _ _ _ (fun e => hk (by simp [e]))⟩ (.inr hne')
  · exact ((t.mono fun k hk => .inl hk).grown hg fun k hk => .inr (.inr (by rw [← hG]; exact hk))).trans ((turn_set W2 b 1 v').mono fun k hk => .inl hk)
  · rcases hat with e | ⟨j, e, hj⟩
    · exact .inl (e.trans hG)
    · exact .inr ⟨_, e, by omega⟩
  · rcases ho.2 with ⟨hv, _⟩ | ⟨g, cap, cur, hv, _⟩
    · exact ⟨_, _, _, hv⟩
    · exact ⟨_, _, _, hv⟩
set_option maxHeartbeats 4000000 in
set_option maxRecDepth 100000 in
theorem writeRune_b {W : World} {b : Nat} {G : Option Nat} {l : List UInt8} (h : Bd W b G l) (k : Int) (h0 : 0 ≤ k) (h1 : k ≤ 255) (hb : l.length ≤ 10000000000) :
    Calls Try.prog 93 #[.pointer (some ⟨b, 0, none⟩), .int .i32 (57344 + k)] W fun e W' => (∃ v, e = .returned v) ∧ ∃ G', Bd W' b G' (l ++ geL k) ∧ Turn (BT b G) W W' ∧ (G' = G ∨ ∃ k, G' = some k ∧ W.heap.size ≤ k) := by
  go_enter Try.func93, Try.ntmps93
  go_wp2_with fail
  refine (copyCheck_b h).mono ?_
  rintro e W1 ⟨rfl, v, h1', h2, h3, h4, t, hz⟩
  have c1 : W1.cell? ⟨b, 1, none⟩ = some v := by simp [World.cell?, h1']
  obtain ⟨ao, cap, rfl⟩ : ∃ ao cap, v = .slice ao l.length cap := by
    rcases h2.2 with ⟨hv, h0⟩ | ⟨g, cap, cur, hv, _⟩
    · exact ⟨none, 0, by rw [hv, h0]⟩
    · exact ⟨_, _, hv⟩
  have H1 := Lib.hid h1'
  have H2 := Lib.hid h2
  have H3 := Lib.hid h3
  have H4 := Lib.hid h4
  have T := Lib.hid t
  have HZ := Lib.hid hz
  clear h1' h2 h3 h4 t hz h
  go_wp2_with fail
  refine (appendRune_b _ l k _ h0 h1 H2.out hb).mono ?_
  rintro e W2 ⟨v', rfl, ho, hg, hat⟩
  obtain ⟨G', HR, d0, d1, f1, ao', n', cap', rfl⟩ := written3 H1.out H3.out H4.out HZ.out T.out hg ho hat
  clear ho hg hat c1
  go_wp2
  go_ret2
  exact ⟨⟨_, rfl⟩, G', HR.out⟩
end Go.Proofs.Ytgjhboikfbafcaa.Pl
