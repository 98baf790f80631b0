/-
  The contract of command: a byte behind an IAC.
-/
import Derived.Test.YtimidoaafllnkaaDecC
namespace Go.Proofs.Ytimidoaafllnkaa.Iac
open Go.RowKit Base
set_option linter.unusedVariables false

section
variable {P : Program}
theorem wpList_build_as {ops : Array Oper} {rest : List Oper} {o : Oper} {a : Act} {w : World} {Q : Exit → Act → World → Prop} (hg : o.guard = none) (t : TypeId) (parts : Array (Nat × Operand)) (ho : o.op = .build t parts)
    (cs : Array Value) (hb : P.built t (parts.map fun (i, x) => (i, a.eval x)).toList = some cs)
    (h : wpList P ops Q rest (a.put o.dst (.agg cs)) w) : wpList P ops Q (o :: rest) a w := by
  refine wpList_build hg t parts ho (by rw [hb]; rfl) ?_
  rw [hb]; exact h
/-- Cells stored into a block, from a place on. -/
theorem run_storeCells_off (g off : Nat) (t : TypeId) : ∀ (cells : List Value) (i : Nat) (cur : Array Value) (w : World), w.heap[g]? = some (.cells cur t (0, 0)) → off + i + cells.length ≤ cur.size → (∀ v ∈ cells, v.oneCell' = true) →
    ∃ cur' w', (storeCells ⟨g, off, none⟩ cells i).run P w = .ok () w' ∧ w'.heap[g]? = some (.cells cur' t (0, 0)) ∧ Turn (At g) w w' ∧ cur'.size = cur.size ∧
      (∀ k, k < cells.length → cur'[off + i + k]? = cells[k]?) ∧ ∀ k, (k < off + i ∨ off + i + cells.length ≤ k) → cur'[k]? = cur[k]?
  | [], i, cur, w, hg, hl, _ => ⟨cur, w, by simp [storeCells], hg, Turn.refl _ w, rfl, fun k hk => by simp at hk, fun k _ => rfl⟩
  | v :: rest, i, cur, w, hg, hl, h1 => by
    have hi : off + i < cur.size := by simp at hl; omega
    have hadd : (⟨g, off, none⟩ : Addr).add i = ⟨g, off + i, none⟩ := by unfold Addr.add; split <;> simp_all
    have hcell : w.cell? ⟨g, off + i, none⟩ = some cur[off + i] := by simp [World.cell?, hg, hi]
    have hfro : w.frozen? ⟨g, off + i, none⟩ = false := by simp [World.frozen?, hg]
    have hst : (store ((⟨g, off, none⟩ : Addr).add i) v).run P w = .ok () (w.setCell ⟨g, off + i, none⟩ v) := by
      rw [hadd, run_store P w _ v _ (h1 v (by simp)), hcell]
      simp [hfro]
    obtain ⟨cur', w', hr, hg', ht, hs', hin, hout⟩ := run_storeCells_off g off t rest (i + 1) (cur.setIfInBounds (off + i) v) (w.setCell ⟨g, off + i, none⟩ v) (heap_set hg _ _) (by simp at hl ⊢; omega) (fun x hx => h1 x (by simp [hx]))
    refine ⟨cur', w', ?_, hg', (turn_set w g _ v).trans ht, by simpa using hs', fun k hk => ?_, fun k hk => ?_⟩
    · simp only [storeCells, Sem.run_bind, hst, Result.andThen_ok, hr]
    · match k with
      | 0 =>
        rw [Nat.add_zero, hout _ (.inl (by omega)), Array.getElem?_setIfInBounds, if_pos rfl, if_pos hi]
        rfl
      | k + 1 =>
        have := hin k (by simp at hk; omega)
        rw [show off + i + (k + 1) = off + (i + 1) + k by omega, this]
        rfl
    · rw [hout k (by simp at hk; omega), Array.getElem?_setIfInBounds, if_neg (by simp at hk; omega)]
end
/-- The zero subnegotiation. -/
def zsubL : List Value := [.bool false, .int .u8 0] ++ (List.replicate 256 (.int .u8 0) ++ [.int .i64 0, .bool false])
def zsub : Array Value := zsubL.toArray
theorem zsubL_length : zsubL.length = 260 := by kernel_rfl
theorem zsub_one : ∀ v ∈ zsubL, v.oneCell' = true := by
  intro v hv
  simp [zsubL, -List.reduceReplicate] at hv
  rcases hv with rfl | rfl | rfl | rfl | rfl <;> rfl
theorem zsub_byte (i : Nat) (h : i < 256) : zsubL[2 + i]? = some (.int .u8 0) := by
  unfold zsubL
  rw [List.getElem?_append_right (by show 2 ≤ 2 + i; omega)]
  show (List.replicate 256 (Value.int .u8 0) ++ _)[2 + i - 2]? = _
  rw [show 2 + i - 2 = i by omega, List.getElem?_append_left (by rw [List.length_replicate]; exact h), List.getElem?_replicate, if_pos h]
theorem zsub_many : zsubL[258]? = some (.int .i64 0) := by
  unfold zsubL
  rw [List.getElem?_append_right (by simp [-List.reduceReplicate]), List.getElem?_append_right (by simp [-List.reduceReplicate])]
  simp [-List.reduceReplicate]
theorem zsub_long : zsubL[259]? = some (.bool false) := by
  unfold zsubL
  rw [List.getElem?_append_right (by simp [-List.reduceReplicate]), List.getElem?_append_right (by simp [-List.reduceReplicate])]
  simp [-List.reduceReplicate]
theorem DecAt.zero {w : World} {b : Nat} {D : Dec} (h : DecAt w b D) : ∃ w', (storeCells ⟨b, 2, none⟩ zsub.toList 0).run Try.prog w = .ok () w' ∧ DecAt w' b ⟨D.state, D.verb, false, 0, [], false⟩ ∧ Turn (At b) w w' := by
  obtain ⟨A, hA, k⟩ := h
  have hs := k.size
  obtain ⟨A', w', hr, hg, ht, hs', hin, hout⟩ := run_storeCells_off (P := Try.prog) b 2 102 zsubL 0 A w hA (by rw [zsubL_length]; omega) zsub_one
  rw [zsubL_length] at hin hout
  refine ⟨w', by unfold zsub; simpa using hr, ⟨A', hg, ?_⟩, ht⟩
  refine ⟨hs'.trans hs, ?_, ?_, ?_, ?_, fun i hi => ⟨0, ?_⟩, fun i hi => ?_, ?_, ?_, by simp⟩
  · rw [hout 0 (by omega)]; exact k.state
  · rw [hout 1 (by omega)]; exact k.verb
  · have := hin 0 (by omega)
    simpa [zsubL, -List.reduceReplicate] using this
  · have := hin 1 (by omega)
    simpa [zsubL, -List.reduceReplicate] using this
  · have := hin (2 + i) (by omega)
    rw [zsub_byte i hi] at this
    rw [← this]; congr 1; omega
  · simp at hi
  · have := hin 258 (by omega)
    rw [zsub_many] at this
    exact this
  · have := hin 259 (by omega)
    rw [zsub_long] at this
    exact this

/-! ### Plainly -/
def commandD (D : Dec) (L : List Ev) (x : Int) : Dec × List Ev :=
  if x = 255 then ({ D with state := 0 }, layL L x)
  else if x = 239 then ({ D with state := 0 }, L ++ [⟨2, 0, 0, []⟩])
  else if x = 250 then (⟨3, D.verb, false, 0, [], false⟩, L)
  else if 251 ≤ x ∧ x ≤ 254 then ({ D with state := 2, verb := x }, L)
  else ({ D with state := 0 }, L ++ [⟨3, x, 0, []⟩])
def markedD (D : Dec) (L : List Ev) (x : Int) : Dec × List Ev :=
  if x = 255 then (keepD { D with state := 3 } x, L)
  else if x = 240 then ({ D with state := 0 }, L ++ [eventE D])
  else commandD D (L ++ [badE D]) x
def takeD (D : Dec) (L : List Ev) (x : Int) : Dec × List Ev :=
  if D.state = 1 then commandD D L x
  else if D.state = 2 then ({ D with state := 0 }, L ++ [⟨4, D.verb, x, []⟩])
  else if D.state = 3 then (if x = 255 then ({ D with state := 4 }, L) else (keepD D x, L))
  else if D.state = 4 then markedD D L x
  else if x = 255 then ({ D with state := 1 }, L) else (D, layL L x)
/-- A call that answers events, as new memory from s on, and turns the decoder in block b. -/
def Fed2 (s b : Nat) (w : World) (r : Dec × List Ev) (e : Ending) (w' : World) : Prop := ∃ v P, e = .returned v ∧ DecAt w' b r.1 ∧ EvsOwn s w' v P ∧ P.map (·.1) = r.2 ∧ Turn (fun k => k = b ∨ s ≤ k) w w'
theorem turn_or {s b : Nat} {w w' : World} (h : Turn (At b) w w') : Turn (fun k => k = b ∨ s ≤ k) w w' := h.mono fun k hk => .inl hk
theorem turn_orR {s b : Nat} {w w' : World} (h : Turn (fun k => s ≤ k) w w') : Turn (fun k => k = b ∨ s ≤ k) w w' := h.mono fun k hk => .inr hk
set_option maxRecDepth 100000 in
set_option maxHeartbeats 4000000 in
theorem command_any (s b : Nat) (D : Dec) (v : Value) (P : List EvP) (x : Int) (w : World) (hd : DecAt w b D) (h : EvsOwn s w v P) (hbs : b < s) (hs : s ≤ w.heap.size) (hl : P.length ≤ 100000) (hb : ∀ p ∈ P, p.1.bytes.length ≤ 100000) :
    Calls Try.prog 118 #[.pointer (some ⟨b, 0, none⟩), v, .int .u8 x] w (Fed2 s b w (commandD D (P.map (·.1)) x)) := by
  obtain ⟨i0, hi, hz0, hz1, hz2⟩ := info_parts info_event
  have hz := (zero_of_info (v := .agg #[.int .i64 0, .int .u8 0, .int .u8 0, .slice none 0 0]) (n := 4) (P := Try.prog) (t := 26) (by kernel_rfl)).1
  obtain ⟨c0, c1, _, _, _, _⟩ := hd.cell
  have f0 := hd.frozen 0
  have f1 := hd.frozen 1
  have hd1 := hd.setState 0
  have ht1 := turn_set w b 0 (.int .i64 (0 : Nat))
  have h1 : EvsOwn s (w.setCell ⟨b, 0, none⟩ (.int .i64 (0 : Nat))) v P := h.turn ht1 fun k hk => by rw [show k = b from hk]; exact hbs
  obtain ⟨W, hW⟩ : ∃ W, W = w.setCell ⟨b, 0, none⟩ (.int .i64 (0 : Nat)) := ⟨_, rfl⟩
  rw [← hW] at hd1 ht1 h1
  have hsz : W.heap.size = w.heap.size := by rw [hW]; simp
  obtain ⟨d0, d1, _, _, _, _⟩ := hd1.cell
  have g0 := hd1.frozen 0
  have g1 := hd1.frozen 1
  have hsW : s ≤ W.heap.size := by omega
  have HB := Lib.hid hb
  have HW : Hid (w.setCell ⟨b, 0, none⟩ (.int .i64 0) = W) := Lib.hid hW.symm
  have HD1 := Lib.hid hd1
  have HT1 := Lib.hid ht1
  have H1 := Lib.hid h1
  obtain ⟨a, cap, rfl⟩ := h.form
  have hraw : W.ownsRow s 26 4 (.slice a P.length cap) P.length (evC P) := h1.row
  obtain ⟨n, hn⟩ : ∃ n, n = P.length := ⟨_, rfl⟩
  rw [← hn] at hraw hl H1 ⊢
  have HN := Lib.hid hn
  clear hb hW hd1 ht1 h1 hd h hsz hn
  by_cases x1 : x = 255
  · subst x1
    clear hraw
    rw [show commandD D (P.map (·.1)) 255 = ({ D with state := 0 }, layL (P.map (·.1)) 255) from rfl]
    go_enter Try.func118, Try.ntmps118
    go_upto_region 3 with fail
    rw [HW.out]
    go_wp2_with fail
    refine (lay_any s (.slice a n cap) P 255 W H1.out hsW (by rw [← HN.out]; exact hl) HB.out).mono ?_
    rintro e w2 ⟨v2, P2, rfl, hE2, hP2, hT2⟩
    have HE2 := Lib.hid hE2
    have HP2 := Lib.hid hP2
    have HT2 := Lib.hid hT2
    clear hE2 hP2 hT2
    go_wp2_with fail
    go_ret
    exact ⟨_, P2, rfl, HD1.out.turn HT2.out (by show ¬ s ≤ b; omega), HE2.out, HP2.out, (turn_or HT1.out).trans (turn_orR HT2.out)⟩
  · have t1 : (x == 255) = false := by simpa using x1
    by_cases x2 : x = 239
    · subst x2
      rw [show commandD D (P.map (·.1)) 239 = ({ D with state := 0 }, P.map (·.1) ++ [⟨2, 0, 0, []⟩]) from rfl]
      have HCL := Lib.hid (ev_cl W 2 0 0 (.slice none 0 0))
      clear x1 t1
      go_enter Try.func118, Try.ntmps118
      go_upto_region 3 with fail
      rw [HW.out]
      go_wp2_with (at_builtin; refine wpList_append_own _ rfl _ _ 22 rfl s 26 i0 (.agg #[.int .i64 0, .int .u8 0, .int .u8 0, .slice none 0 0]) 4 40 Try.underlying22 hi hz0 hz1 hz2 rfl (by decide) _ _ _ rfl (hraw.alloc _) ⟨W.heap.size, 0, none⟩ 1 1 [.int .i64 2, .int .u8 0, .int .u8 0, .slice none 0 0] rfl rfl HCL.out (by simp [Value.oneCell']) (by unfold maxLen; omega) (by omega) (by rw [World.size_alloc]; omega) ?_; intro v' w5 hown' hgrow _)
      go_ret
      have hE2 := H1.out.grown (e := ⟨2, 0, 0, []⟩) (OwnBytes.nil _ _) (fun p hp => Apart.none) (by rw [← HN.out]; exact hown') hgrow
      have hT2 := turn_grown_from hgrow hsW H1.out.rowFirst
      exact ⟨_, _, rfl, HD1.out.turn hT2 (by show ¬ s ≤ b; omega), hE2, by simp, (turn_or HT1.out).trans (turn_orR hT2)⟩
    · have t2 : (x == 239) = false := by simpa using x2
      by_cases x3 : x = 250
      · subst x3
        rw [show commandD D (P.map (·.1)) 250 = (⟨3, D.verb, false, 0, [], false⟩, P.map (·.1)) from rfl]
        obtain ⟨W3, hr3, hd3, ht3⟩ := DecAt.zero (HD1.out.setState 3)
        have hs3 := turn_set W b 0 (.int .i64 (3 : Nat))
        have HR3 : Hid ((storeCells ⟨b, 2, none⟩ zsub.toList 0).run Try.prog (W.setCell ⟨b, 0, none⟩ (.int .i64 3)) = .ok () W3) := Lib.hid hr3
        have HD3 := Lib.hid hd3
        have HT3 := Lib.hid (hs3.trans ht3)
        have hr3 := HR3.out
        have hsz : (Try.prog.info? 100).map (·.size) = some 260 := by kernel_rfl
        clear x1 x2 t1 t2 hraw hd3 ht3 hs3
        go_enter Try.func118, Try.ntmps118
        go_upto_region 3 with fail
        rw [HW.out]
        go_wp2_with (first | (refine wpList_build_as rfl _ _ rfl zsub (by kernel_rfl) ?_))
        go_ret
        exact ⟨_, P, rfl, HD3.out, H1.out.turn HT3.out (fun k hk => by rw [show k = b from hk]; exact hbs), rfl, turn_or (HT1.out.trans HT3.out)⟩
      · have t3 : (x == 250) = false := by simpa using x3
        by_cases x4 : 251 ≤ x ∧ x ≤ 254
        · have hc : commandD D (P.map (·.1)) x = ({ D with state := 2, verb := x }, P.map (·.1)) := by unfold commandD; rw [if_neg x1, if_neg x2, if_neg x3, if_pos x4]
          rw [hc]
          have HD4 := Lib.hid ((HD1.out.setState 2).setVerb x)
          have HT4 := Lib.hid (turn_set2 W b 0 1 (.int .i64 (2 : Nat)) (.int .u8 x))
          obtain ⟨y1, y2⟩ := x4
          clear x1 x2 x3 hc hraw
          go_enter Try.func118, Try.ntmps118
          go_upto_region 3 with fail
          rw [HW.out]
          go_wp2_with fail
          go_ret
          exact ⟨_, P, rfl, HD4.out, H1.out.turn HT4.out (fun k hk => by rw [show k = b from hk]; exact hbs), rfl, turn_or (HT1.out.trans HT4.out)⟩
        · have hc : commandD D (P.map (·.1)) x = ({ D with state := 0 }, P.map (·.1) ++ [⟨3, x, 0, []⟩]) := by unfold commandD; rw [if_neg x1, if_neg x2, if_neg x3, if_neg x4]
          have HC := Lib.hid hc
          have HCL := Lib.hid (ev_cl W 3 x 0 (.slice none 0 0))
          have hy : x < 251 ∨ 254 < x := by omega
          clear x1 x2 x3 x4 hc
          rcases hy with y1 | y1
          · go_enter Try.func118, Try.ntmps118
            go_upto_region 3 with fail
            rw [HW.out]
            go_wp2_with (at_builtin; refine wpList_append_own _ rfl _ _ 22 rfl s 26 i0 (.agg #[.int .i64 0, .int .u8 0, .int .u8 0, .slice none 0 0]) 4 40 Try.underlying22 hi hz0 hz1 hz2 rfl (by decide) _ _ _ rfl (hraw.alloc _) ⟨W.heap.size, 0, none⟩ 1 1 [.int .i64 3, .int .u8 x, .int .u8 0, .slice none 0 0] rfl rfl HCL.out (by simp [Value.oneCell']) (by unfold maxLen; omega) (by omega) (by rw [World.size_alloc]; omega) ?_; intro v' w5 hown' hgrow _)
            go_ret
            have hE2 := H1.out.grown (e := ⟨3, x, 0, []⟩) (OwnBytes.nil _ _) (fun p hp => Apart.none) (by rw [← HN.out]; exact hown') hgrow
            have hT2 := turn_grown_from hgrow hsW H1.out.rowFirst
            rw [HC.out]
            exact ⟨_, _, rfl, HD1.out.turn hT2 (by show ¬ s ≤ b; omega), hE2, by simp, (turn_or HT1.out).trans (turn_orR hT2)⟩
          · have y2 : 251 ≤ x := by omega
            go_enter Try.func118, Try.ntmps118
            go_upto_region 3 with fail
            rw [HW.out]
            go_wp2_with (at_builtin; refine wpList_append_own _ rfl _ _ 22 rfl s 26 i0 (.agg #[.int .i64 0, .int .u8 0, .int .u8 0, .slice none 0 0]) 4 40 Try.underlying22 hi hz0 hz1 hz2 rfl (by decide) _ _ _ rfl (hraw.alloc _) ⟨W.heap.size, 0, none⟩ 1 1 [.int .i64 3, .int .u8 x, .int .u8 0, .slice none 0 0] rfl rfl HCL.out (by simp [Value.oneCell']) (by unfold maxLen; omega) (by omega) (by rw [World.size_alloc]; omega) ?_; intro v' w5 hown' hgrow _)
            go_ret
            have hE2 := H1.out.grown (e := ⟨3, x, 0, []⟩) (OwnBytes.nil _ _) (fun p hp => Apart.none) (by rw [← HN.out]; exact hown') hgrow
            have hT2 := turn_grown_from hgrow hsW H1.out.rowFirst
            rw [HC.out]
            exact ⟨_, _, rfl, HD1.out.turn hT2 (by show ¬ s ≤ b; omega), hE2, by simp, (turn_or HT1.out).trans (turn_orR hT2)⟩
end Go.Proofs.Ytimidoaafllnkaa.Iac
