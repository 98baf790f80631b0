/-
  Contract of makeRoom of package typing.
-/
import Derived.Test.YtlcjiffnmpkndaaTyD
namespace Go.Proofs.Ytlcjiffnmpkndaa.Pl
open Go.RowKit Go.Shelf Base
attribute [local go_sem] Oper.semAt_some
set_option linter.unusedVariables false
set_option linter.unusedSimpArgs false

/-- Behind some places of the row: the plane's cells, and the cell that moves on. -/
def mrS (L : List Cl) (a : Int) (pre : List Int) : List Cl × Cl := pre.foldl (fun S p => (setL S.1 p S.2, atL S.1 p)) (L, atL L a)
theorem mrS_snoc (L : List Cl) (a : Int) (pre : List Int) (p : Int) : mrS L a (pre ++ [p]) = (setL (mrS L a pre).1 p (mrS L a pre).2, atL (mrS L a pre).1 p) := by simp [mrS, List.foldl_append]
theorem snoc_indI {P : List Int → Prop} (h0 : P []) (h1 : ∀ xs y, P xs → P (xs ++ [y])) (xs : List Int) : P xs := by
  have : ∀ n (ys : List Int), ys.length = n → P ys := by
    intro n
    induction n with
    | zero => intro ys h; rw [List.eq_nil_of_length_eq_zero h]; exact h0
    | succ n ih =>
      intro ys h
      have hne : ys ≠ [] := fun e => by rw [e] at h; cases h
      rw [← List.dropLast_concat_getLast hne]
      exact h1 _ _ (ih _ (by rw [List.length_dropLast, h]; rfl))
  exact this _ xs rfl
theorem mrS_len (L : List Cl) (a : Int) (pre : List Int) : (mrS L a pre).1.length = L.length :=
  snoc_indI (P := fun pre => (mrS L a pre).1.length = L.length) rfl (fun xs y h => by rw [mrS_snoc]; show (setL _ _ _).length = _; rw [setL_length]; exact h) pre
def takeTo (e : Int) (xs : List Int) : List Int := xs.takeWhile (fun y => decide (y ≠ e)) ++ [e]
theorem takeTo_eq {e : Int} {pre xs : List Int} (hp : pre ++ [e] <+: xs) (hno : e ∉ pre) : takeTo e xs = pre ++ [e] := by
  obtain ⟨t, rfl⟩ := hp
  unfold takeTo
  congr 1
  rw [List.append_assoc, List.takeWhile_append_of_pos (fun y hy => by have : y ≠ e := fun h => hno (h ▸ hy); simpa using this)]
  simp
def roomL (L : List Cl) (a e : Int) : List Cl := (mrS L a (takeTo e (rowL L a))).1
/-- What the loop holds. -/
structure MkI (w : World) (b g : Nat) (r c cur : Int) (L : List Cl) (a e : Int) (se sm : Nat) (pre : List Int) (W : World) : Prop where
  pl : PlAt W b g r c cur (mrS L a pre).1
  b0 : W.heap[w.heap.size]? = some (.cells #[.pointer (some ⟨b, 0, none⟩)] 27 (0, 0))
  be : W.heap[se]? = some (.cells #[.int .i64 e] 3 (0, 0))
  bm : W.heap[sm]? = some (.cells (mrS L a pre).2.arr 58 (0, 0))
  tn : Turn (At g) w W
  no : e ∉ pre
  lo : b < w.heap.size ∧ g < w.heap.size ∧ w.heap.size < se ∧ se < sm
structure MkX (w : World) (b g : Nat) (r c cur : Int) (L : List Cl) (a e : Int) (pre : List Int) (W : World) : Prop where
  pl : PlAt W b g r c cur (mrS L a pre).1
  tn : Turn (At g) w W
  hit : ∃ pre', pre = pre' ++ [e] ∧ e ∉ pre'
  lo : b < w.heap.size ∧ g < w.heap.size
section
variable {w : World} {b g : Nat} {r c cur : Int} {L : List Cl} {a e : Int} {se sm : Nat} {pre : List Int} {W W' : World}
theorem turn_lowg {B : Nat} {X Y : World} (h : Turn (At g) w X) (t : Turn (fun k => B ≤ k) X Y) (hB : w.heap.size ≤ B) : Turn (At g) w Y :=
  ⟨t.os.trans h.os, t.tape.trans h.tape, t.output.trans h.output, Nat.le_trans h.size t.size, fun k hk hn => (t.block k (Nat.lt_of_lt_of_le hk h.size) (by omega)).trans (h.block k hk hn)⟩
theorem MkI.low {B : Nat} (hB : sm < B) : LowFrom B (MkI w b g r c cur L a e se sm) := by
  intro s X Y h t
  obtain ⟨l1, l2, l3, l4⟩ := h.lo
  exact ⟨h.pl.turn t (by omega) (by omega), (t.block _ (lt_of_block h.b0) (by omega)).trans h.b0, (t.block _ (lt_of_block h.be) (by omega)).trans h.be, (t.block _ (lt_of_block h.bm) (by omega)).trans h.bm, turn_lowg h.tn t (by omega), h.no, h.lo⟩
theorem MkX.low {B : Nat} (hB : w.heap.size ≤ B) : LowFrom B (MkX w b g r c cur L a e) := by
  intro s X Y h t
  obtain ⟨l1, l2⟩ := h.lo
  exact ⟨h.pl.turn t (by omega) (by omega), turn_lowg h.tn t hB, h.hit, h.lo⟩
end
set_option maxRecDepth 100000 in
set_option maxHeartbeats 8000000 in
theorem room_in {w : World} {b g : Nat} {r c cur a : Int} {L : List Cl} (h : PlAt w b g r c cur L) (hbo : BoL L) (hk : (wholeF L a).k ≤ 9223372036854775807) :
    CallsIn Fence.wide 4 Try.prog 92 #[.pointer (some ⟨b, 0, none⟩), .int .i64 a] w fun e W => e = .returned (.bool (fempL L a).isSome) ∧ PlAt W b g r c cur (match fempL L a with | some e => roomL L a e | none => L) ∧ Turn (At g) w W := by
  obtain ⟨W0, hW0⟩ : ∃ W0, W0 = w.alloc (.cells #[.pointer (some ⟨b, 0, none⟩)] 27) := ⟨_, rfl⟩
  have hb0 : Below w.heap.size w W0 := by rw [hW0]; exact below_alloc _ _
  have hs0 : W0.heap.size = w.heap.size + 1 := by rw [hW0]; simp
  have c0 : W0.heap[w.heap.size]? = some (.cells #[.pointer (some ⟨b, 0, none⟩)] 27 (0, 0)) := by rw [hW0]; exact heap_alloc_new _ _
  have p0 : W0.cell? ⟨w.heap.size, 0, none⟩ = some (.pointer (some ⟨b, 0, none⟩)) := by simp [World.cell?, c0]
  obtain ⟨o, ho⟩ : ∃ o, o = fempL L a := ⟨_, rfl⟩
  have HFE := Lib.hid (femp_any (a := a) (h.below hb0) hbo hk)
  rw [← ho] at HFE ⊢
  have HO := Lib.hid ho
  have H0 := Lib.hid (h.below hb0)
  have HLL := Lib.hid (And.intro h.lt h.ltg)
  have HW0 := Lib.hid hW0.symm
  have C0 := Lib.hid c0
  have B0 := Lib.hid hb0
  have HBO := Lib.hid hbo
  have HK := Lib.hid hk
  clear hW0 hb0 c0 h hbo hk ho
  refine callsIn_of_wp_marks Try.func92 rfl trivial ?_ rfl
  simp only [Try.ntmps92, List.size_toArray, List.length_cons, List.length_nil, Nat.reduceAdd, Nat.reduceSub, Array.replicate_succ, Array.replicate_zero, List.push_toArray, List.append_toArray, List.nil_append, List.cons_append]
  cases o with
  | none =>
    gi_upto_region 1 with fail
    rw [HW0.out]
    gi_wp2_with fail
    refine ⟨trivial, ?_⟩
    refine (callsIn_wide.2 HFE.out).mono ?_
    rintro e W1 ⟨rfl, hb1⟩
    have B1 := Lib.hid hb1
    clear hb1
    gi_wp2
    exact ⟨_, results_tmp rfl _ _ _, rfl, (H0.out.below B1.out).alloc _, Turn.of_below ((B0.out.trans (B1.out.mono B0.out.size)).alloc (by have := B0.out.size; have := B1.out.size; omega) _)⟩
  | some e =>
    gi_upto_region 1 with fail
    rw [HW0.out]
    gi_wp2_with fail
    refine ⟨trivial, ?_⟩
    refine (callsIn_wide.2 HFE.out).mono ?_
    rintro e' W1 ⟨rfl, hb1⟩
    have B1 := Lib.hid hb1
    clear hb1
    gi_upto_region 4 with fail
    have hba := below_alloc W1 (.cells #[.int .i64 e] 3)
    have hbe := heap_alloc_new W1 (.cells #[.int .i64 e] 3)
    obtain ⟨W2, hW2⟩ : ∃ W2, W2 = W1.alloc (.cells #[.int .i64 e] 3) := ⟨_, rfl⟩
    obtain ⟨se, hse⟩ : ∃ se, se = W1.heap.size := ⟨_, rfl⟩
    rw [← hW2] at hba hbe ⊢
    rw [← hse] at hbe ⊢
    have B2 := Lib.hid (B1.out.trans (hba.mono B1.out.size))
    have H2 := Lib.hid ((H0.out.below B1.out).below hba)
    have C2 := Lib.hid ((hba.block _ (Nat.lt_of_lt_of_le (lt_of_block C0.out) B1.out.size)).trans ((B1.out.block _ (lt_of_block C0.out)).trans C0.out))
    have p2 : W2.cell? ⟨w.heap.size, 0, none⟩ = some (.pointer (some ⟨b, 0, none⟩)) := by simp [World.cell?, C2.out]
    have hse2 : w.heap.size < se := by have := lt_of_block C0.out; have := B1.out.size; omega
    have HE2 := Lib.hid hbe
    clear hba hbe hW2 hse p0 H0 C0
    gi_wp2_with fail
    refine ⟨trivial, ?_⟩
    refine (callsIn_wide.2 (at_any H2.out a)).mono ?_
    rintro e' W3 ⟨he, hb3⟩
    obtain ⟨⟨yb, yg, ys, yl, yc⟩, hy⟩ : ∃ y, y = atL L a := ⟨_, rfl⟩
    rw [← hy] at he
    simp only [Cl.val] at he
    subst he
    have HY := Lib.hid hy
    have B3 := Lib.hid hb3
    clear hy hb3
    gi_upto_region 5 with fail
    have hba := below_alloc W3 (.cells #[.int .u8 yb, .bool yg, .bool ys, .int .u8 yl, .int .u8 yc] 58)
    have hbm := heap_alloc_new W3 (.cells #[.int .u8 yb, .bool yg, .bool ys, .int .u8 yl, .int .u8 yc] 58)
    obtain ⟨W4, hW4⟩ : ∃ W4, W4 = W3.alloc (.cells #[.int .u8 yb, .bool yg, .bool ys, .int .u8 yl, .int .u8 yc] 58) := ⟨_, rfl⟩
    obtain ⟨sm, hsm⟩ : ∃ sm, sm = W3.heap.size := ⟨_, rfl⟩
    rw [← hW4] at hba hbm ⊢
    rw [← hsm] at hbm ⊢
    have hB4 := B3.out.trans (hba.mono B3.out.size)
    have h4 : MkI w b g r c cur L a e se sm [] W4 := by
      refine ⟨H2.out.below hB4, (hB4.block _ (lt_of_block C2.out)).trans C2.out, (hB4.block _ (lt_of_block HE2.out)).trans HE2.out, ?_, (Turn.of_below ((B0.out.trans (B2.out.mono B0.out.size)).trans (hB4.mono (by have := B0.out.size; have := B2.out.size; omega)))), by simp, ⟨HLL.out.1, HLL.out.2, hse2, by have := lt_of_block HE2.out; have := B3.out.size; omega⟩⟩
      have e1 : (mrS L a []).2 = ⟨yb, yg, ys, yl, yc⟩ := by rw [HY.out]; rfl
      rw [e1]; exact hbm
    have H4 := Lib.hid h4
    have p4 : W4.cell? ⟨w.heap.size, 0, none⟩ = some (.pointer (some ⟨b, 0, none⟩)) := by simp [World.cell?, h4.b0]
    clear h4 hba hbm hW4 hsm hB4 p2
    gi_wp2_with fail
    refine ⟨trivial, ?_⟩
    refine (callsIn_wide.2 (row_any W4 b a)).mono ?_
    rintro e' W5 ⟨rfl, hI, hb5, hs5⟩
    have hlm := lt_of_block H4.out.bm
    have h5 : MkI w b g r c cur L a e se sm [] W5 := MkI.low (B := W4.heap.size) hlm [] W4 W5 H4.out (low_below hb5)
    have H5 := Lib.hid h5
    have hsq := row_seq (w := W5) (g := g) (r := r) (c := c) (cur := cur) hI HBO.out HK.out
    obtain ⟨sr, hsr⟩ : ∃ sr, sr = W4.heap.size := ⟨_, rfl⟩
    rw [← hsr] at hsq hs5 hlm ⊢
    have HSQ := Lib.hid hsq
    have hlo := h5.lo
    clear hI hsq hb5 p4 h5 hsr
    gi_wp2_with fail
    refine range_low (α := Int) rfl (by omega) (gf := 123) rfl trivial (enters_of Try.func123 (by kernel_rfl) rfl) HSQ.out KR.trans ?hKb (Below.refl _ _) (fun _ => rfl)
      (MkI w b g r c cur L a e se sm) (fun pre W h => ⟨fun hp => (by have h1 := h.pl; rw [hp] at h1; exact h1), (by have h1 := h.pl.n; rw [mrS_len] at h1; exact h1)⟩) (fun c' pre W => c' = .exit 0 ∧ MkX w b g r c cur L a e pre W) (MkI.low (by omega)) (fun c' s X Y h t => ⟨h.1, MkX.low (by omega) s X Y h.2 t⟩) H5.out
      (fun p a' _ => a' = { tmps := #[.pointer (some ⟨b, 0, none⟩), .int .i64 a, .pointer (some ⟨w.heap.size, 0, none⟩), undef, .bool false, .pointer (some ⟨se, 0, none⟩), .bool true, .pointer (some ⟨sm, 0, none⟩), .int .i64 p, undef, .tuple #[.int .i64 e, .bool true], .pointer (some ⟨b, 0, none⟩), .int .i64 a, .tuple #[.int .i64 e, .bool true], .int .i64 e, .bool true, .bool true, .bool false, .pointer (some ⟨b, 0, none⟩), .int .i64 a, .agg #[.int .u8 yb, .bool yg, .bool ys, .int .u8 yl, .int .u8 yc], .pointer (some ⟨b, 0, none⟩), .int .i64 a, .func (.func 123) #[] #[.pointer (some ⟨sr, 0, none⟩), .pointer (some ⟨sr + 1, 0, none⟩)], .int .i64 p, undef, undef, undef, undef, undef, undef, undef, undef, undef, undef, undef], defers := [] })
      (fun _ _ _ _ _ _ h _ _ => h) ?assign ?body ?done ?stop
    case hKb =>
      intro W o o' ho hc
      have := lt_of_block ho
      exact KR.put W o' (by omega) (by omega) (by omega) (by omega) (by omega)
    case assign =>
      intro l pre p W K hsp hWs hI' hK
      gi_wp2
      exact hK _ _ (KeepsFrom.refl _ _) (KR.refl _ _ _ _) hI' rfl
    case body =>
      rintro l pre x a' W hsp hI' rfl hlt hWs
      rw [Nat.add_zero] at hWs
      have q0 : W.cell? ⟨w.heap.size, 0, none⟩ = some (.pointer (some ⟨b, 0, none⟩)) := by simp [World.cell?, hI'.b0]
      have HI' := Lib.hid hI'
      clear hI' hlt hsp
      gi_wp2_with fail
      refine ⟨trivial, ?_⟩
      refine (CallsIn.inRound l (callsIn_wide.2 (at_any HI'.out.pl x))).mono ?_
      rintro e' W6 ⟨he, hb6⟩
      obtain ⟨⟨zb, zg, zs, zl, zc⟩, hz⟩ : ∃ z, z = atL (mrS L a pre).1 x := ⟨_, rfl⟩
      obtain ⟨⟨mb, mg, ms, ml, mc⟩, hmv⟩ : ∃ z, z = (mrS L a pre).2 := ⟨_, rfl⟩
      rw [← hz] at he
      simp only [Cl.val] at he
      subst he
      have HZ := Lib.hid hz
      have HMV := Lib.hid hmv
      have B6 := Lib.hid hb6
      clear hz hmv hb6 q0
      gi_upto_region 8 with fail
      have hba := below_alloc W6 (.cells #[.int .u8 zb, .bool zg, .bool zs, .int .u8 zl, .int .u8 zc] 58)
      have hbz := heap_alloc_new W6 (.cells #[.int .u8 zb, .bool zg, .bool zs, .int .u8 zl, .int .u8 zc] 58)
      obtain ⟨W7, hW7⟩ : ∃ W7, W7 = W6.alloc (.cells #[.int .u8 zb, .bool zg, .bool zs, .int .u8 zl, .int .u8 zc] 58) := ⟨_, rfl⟩
      obtain ⟨sz, hsz⟩ : ∃ sz, sz = W6.heap.size := ⟨_, rfl⟩
      rw [← hW7] at hba hbz ⊢
      rw [← hsz] at hbz ⊢
      have B7 := Lib.hid (B6.out.trans (hba.mono B6.out.size))
      have h7 : MkI w b g r c cur L a e se sm pre W7 := MkI.low (B := W.heap.size) (by have := lt_of_block HI'.out.bm; omega) pre W W7 HI'.out (low_below B7.out)
      have hszW : W.heap.size ≤ sz := by have := B6.out.size; omega
      have HZ7 := Lib.hid hbz
      have H7 := Lib.hid h7
      have q0 : W7.cell? ⟨w.heap.size, 0, none⟩ = some (.pointer (some ⟨b, 0, none⟩)) := by simp [World.cell?, h7.b0]
      have hbm := h7.bm
      rw [← HMV.out] at hbm
      have m0 : W7.cell? ⟨sm, 0, none⟩ = some (.int .u8 mb) := by simp [World.cell?, hbm, Cl.arr]
      have m1 : W7.cell? ⟨sm, 1, none⟩ = some (.bool mg) := by simp [World.cell?, hbm, Cl.arr]
      have m2 : W7.cell? ⟨sm, 2, none⟩ = some (.bool ms) := by simp [World.cell?, hbm, Cl.arr]
      have m3 : W7.cell? ⟨sm, 3, none⟩ = some (.int .u8 ml) := by simp [World.cell?, hbm, Cl.arr]
      have m4 : W7.cell? ⟨sm, 4, none⟩ = some (.int .u8 mc) := by simp [World.cell?, hbm, Cl.arr]
      clear hba hbz hW7 hsz h7 hbm
      gi_wp2_with fail
      refine ⟨trivial, ?_⟩
      refine (CallsIn.inRound l (callsIn_wide.2 (set_any H7.out.pl x ⟨mb, mg, ms, ml, mc⟩))).mono ?_
      rintro e' W8 ⟨rfl, hp8, ht8⟩
      have hlo8 := H7.out.lo
      have hlt7 := lt_of_block H7.out.bm
      have e8 := (ht8.block _ (lt_of_block H7.out.b0) (by unfold At; omega)).trans H7.out.b0
      have e8e := (ht8.block _ (lt_of_block H7.out.be) (by unfold At; omega)).trans H7.out.be
      have e8m := (ht8.block _ (lt_of_block H7.out.bm) (by unfold At; omega)).trans H7.out.bm
      have e8z := (ht8.block _ (lt_of_block HZ7.out) (by unfold At; omega)).trans HZ7.out
      rw [← HMV.out] at e8m
      have v0 : W8.cell? ⟨w.heap.size, 0, none⟩ = some (.pointer (some ⟨b, 0, none⟩)) := by simp [World.cell?, e8]
      have v1 : W8.cell? ⟨se, 0, none⟩ = some (.int .i64 e) := by simp [World.cell?, e8e]
      have n0 : W8.cell? ⟨sm, 0, none⟩ = some (.int .u8 mb) := by simp [World.cell?, e8m, Cl.arr]
      have n1 : W8.cell? ⟨sm, 1, none⟩ = some (.bool mg) := by simp [World.cell?, e8m, Cl.arr]
      have n2 : W8.cell? ⟨sm, 2, none⟩ = some (.bool ms) := by simp [World.cell?, e8m, Cl.arr]
      have n3 : W8.cell? ⟨sm, 3, none⟩ = some (.int .u8 ml) := by simp [World.cell?, e8m, Cl.arr]
      have n4 : W8.cell? ⟨sm, 4, none⟩ = some (.int .u8 mc) := by simp [World.cell?, e8m, Cl.arr]
      have nf : ∀ o, W8.frozen? ⟨sm, o, none⟩ = false := fun o => by simp [World.frozen?, e8m]
      have z0 : W8.cell? ⟨sz, 0, none⟩ = some (.int .u8 zb) := by simp [World.cell?, e8z]
      have z1 : W8.cell? ⟨sz, 1, none⟩ = some (.bool zg) := by simp [World.cell?, e8z]
      have z2 : W8.cell? ⟨sz, 2, none⟩ = some (.bool zs) := by simp [World.cell?, e8z]
      have z3 : W8.cell? ⟨sz, 3, none⟩ = some (.int .u8 zl) := by simp [World.cell?, e8z]
      have z4 : W8.cell? ⟨sz, 4, none⟩ = some (.int .u8 zc) := by simp [World.cell?, e8z]
      have hmr : mrS L a (pre ++ [x]) = (setL (mrS L a pre).1 x ⟨mb, mg, ms, ml, mc⟩, ⟨zb, zg, zs, zl, zc⟩) := by rw [mrS_snoc, ← HMV.out, ← HZ.out]
      have HMR := Lib.hid hmr
      have HP8 := Lib.hid hp8
      have HT8 := Lib.hid ((Turn.of_below (S := fun k => k = g ∨ k = sm) B7.out).trans (ht8.mono fun k hk => .inl hk))
      have HE8 := Lib.hid (And.intro e8 (And.intro e8e e8m))
      clear hmr hp8 ht8 e8 e8e e8m e8z m0 m1 m2 m3 m4 q0 HZ7
      have fin : ∀ W9 : World, Turn (fun k => k = g ∨ k = sm) W W9 → KeepsFrom W5.heap.size W W9 ∧ KR sr (sr + 1) (W5.heap.size + 2) W W9 ∧ Turn (At g) w W9 := by
        intro W9 t
        refine ⟨keeps_of_turn t (fun k hk => by rcases hk with hk | hk <;> omega), KR.turn t (fun k hk => by rcases hk with hk | hk <;> omega) ⟨by omega, by omega⟩ ⟨by omega, by omega⟩, ?_⟩
        have t2 := (HI'.out.tn.mono (S' := fun k => k = g ∨ w.heap.size ≤ k) fun k hk => .inl hk).trans (t.mono fun k hk => by rcases hk with hk | hk; exact .inl hk; exact .inr (by omega))
        exact ⟨t2.os, t2.tape, t2.output, t2.size, fun k hk hn => t2.block k hk (by rintro (h | h); exact hn h; omega)⟩
      have HFIN := Lib.hid fin
      clear fin
      by_cases hxe : x = e
      · have hxe1 : (x == e) = true := by simpa using hxe
        have HXE := Lib.hid hxe
        clear hxe
        gi_wp2
        obtain ⟨f1, f2, f3⟩ := HFIN.out W8 HT8.out
        refine ⟨f1, rfl, ⟨?_, f3, ⟨pre, by rw [HXE.out], HI'.out.no⟩, ⟨hlo8.1, hlo8.2.1⟩⟩⟩
        rw [HMR.out]; exact HP8.out
      · have hxe1 : (x == e) = false := by simpa using hxe
        have HXE := Lib.hid hxe
        clear hxe
        gi_wp2
        have ts : Turn (At sm) W8 (((((W8.setCell ⟨sm, 0, none⟩ (.int .u8 zb)).setCell ⟨sm, 1, none⟩ (.bool zg)).setCell ⟨sm, 2, none⟩ (.bool zs)).setCell ⟨sm, 3, none⟩ (.int .u8 zl)).setCell ⟨sm, 4, none⟩ (.int .u8 zc)) := turn5 W8 sm 0 1 2 3 4 _ _ _ _ _
        obtain ⟨f1, f2, f3⟩ := HFIN.out _ (HT8.out.trans (ts.mono fun k hk => .inr hk))
        refine ⟨f1, f2, ⟨?_, ?_, ?_, ?_, f3, ?_, hlo8⟩⟩
        · rw [HMR.out]; exact HP8.out.turn ts (by unfold At; omega) (by unfold At; omega)
        · exact (ts.block _ (lt_of_block HE8.out.1) (by unfold At; omega)).trans HE8.out.1
        · exact (ts.block _ (lt_of_block HE8.out.2.1) (by unfold At; omega)).trans HE8.out.2.1
        · rw [HMR.out, heap_set (heap_set (heap_set (heap_set (heap_set HE8.out.2.2 0 _) 1 _) 2 _) 3 _) 4 _]; simp [Cl.arr]
        · intro hm
          rcases List.mem_append.1 hm with hm | hm
          · exact HI'.out.no hm
          · exact HXE.out (List.mem_singleton.1 hm).symm
    case done =>
      rintro D ys W hD rfl hI' hK
      exfalso
      have hf := HO.out.symm
      unfold fempL at hf
      exact hI'.no (List.mem_of_find?_eq_some hf)
    case stop =>
      rintro D c' pre W hD hpre ⟨rfl, hx⟩ hK
      have HX := Lib.hid hx
      clear hx
      gi_wp2
      obtain ⟨pre', rfl, hno⟩ := HX.out.hit
      refine ⟨by simp, .inl ⟨_, _, rfl, run_takeDeferred hK, ?_⟩⟩
      have hl := HX.out.lo
      refine ⟨_, results_tmp rfl _ _ _, rfl, ?_, ?_⟩
      · have e1 : roomL L a e = (mrS L a (pre' ++ [e])).1 := by unfold roomL; rw [takeTo_eq hpre hno]
        show PlAt _ b g r c cur (roomL L a e)
        rw [e1]
        exact HX.out.pl.grown (grownBy_putObj' _ D (.deferred none)) (fun k ek => by cases ek; exact ⟨_, hK, rfl⟩)
      · exact HX.out.tn.grown (grownBy_putObj' _ D (.deferred none)) (fun k ek => by cases ek; left; omega)
theorem room_any {w : World} {b g : Nat} {r c cur a : Int} {L : List Cl} (h : PlAt w b g r c cur L) (hbo : BoL L) (hk : (wholeF L a).k ≤ 9223372036854775807) :
    Calls Try.prog 92 #[.pointer (some ⟨b, 0, none⟩), .int .i64 a] w fun e W => e = .returned (.bool (fempL L a).isSome) ∧ PlAt W b g r c cur (match fempL L a with | some e => roomL L a e | none => L) ∧ Turn (At g) w W := callsIn_wide.1 (room_in h hbo hk)
end Go.Proofs.Ytlcjiffnmpkndaa.Pl
