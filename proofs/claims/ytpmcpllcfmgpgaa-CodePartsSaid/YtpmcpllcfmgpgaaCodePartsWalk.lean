/-
  The walk of CodeParts: it returns true whatever comes, and leaves all that was in memory as it was.
-/
import Derived.Test.YtpmcpllcfmgpgaaCodeTextsWalk
import Derived.Laws.AppendOwnNone
namespace Go.Proofs.Ytpmcpllcfmgpgaa.Code
open Go.RowKit Go.Shelf Go.Maps
set_option linter.unusedVariables false

theorem RowOf.cells {w : World} {b off : Nat} {n cap : Nat} {L : List Int} (h : ∀ i, i < L.length → w.cell? ⟨b, off + i, none⟩ = some (.int .u8 (L[i]?.getD 0))) :
    ∀ j u, (L.map (Value.int .u8))[j]? = some u → w.cell? ((⟨b, off, none⟩ : Addr).add j) = some u := by
  intro j u hu
  have hj : j < L.length := by
    have := (List.getElem?_eq_some_iff.1 hu).1
    simpa using this
  have e : (Addr.mk b off none).add j = ⟨b, off + j, none⟩ := by unfold Addr.add; split <;> simp_all
  rw [e, h j hj]
  simp [hj] at hu
  simp [hj, hu]
/-- append(v, y...) of rows of bytes: v a row of one's own, y whatever row. -/
theorem wpList_append_bytes {ops : Array Oper} {rest : List Oper} {o : Oper} {a : Act} {w : World} {Q : Exit → Act → World → Prop} (hw : Region.wanted o (yielded ops a.tmps) = true) (s x : Operand)
    (ho : o.op = .call { callee := .builtin .append, args := #[s, x], argTypes := #[32, 32] })
    (base : Nat) (v : Value) (A : List Int) (hs : a.eval s = v) (hown : w.ownsRow base 5 1 v A.length (A.map (Value.int .u8)))
    (y : Value) (B : List Int) (hx : a.eval x = y) (hrow : RowOf .u8 w y B) (hnil : ∀ l c, y = .slice none l c → c = 0) (hlen : A.length + B.length ≤ 1000000000) (hbase : base ≤ w.heap.size)
    (h : ∀ v' w', w'.ownsRow base 5 1 v' (A ++ B).length ((A ++ B).map (Value.int .u8)) → w.grownBy w' v.ownBlock → wpList Try.prog ops Q rest (a.put o.dst v') w') : wpList Try.prog ops Q (o :: rest) a w := by
  obtain ⟨i0, hi, hz0, hz1, hz2⟩ := info_parts infoByte2
  refine wpList_step fun K hK => ?_
  rw [if_pos hw]
  obtain ⟨q, cap, rfl, hr⟩ := hrow
  rcases q with _ | ad
  · obtain rfl : B = [] := by
      rcases List.eq_nil_or_concat B with h | ⟨B', b', h⟩
      · exact h
      · obtain ⟨_, _, h2, _⟩ := hr (by rw [h]; simp)
        cases h2
    obtain rfl : cap = 0 := hnil _ _ rfl
    have hrun := run_append_owned_none (P := Try.prog) (w := w) base 32 o.type 5 i0 1 Try.underlying32 hi v _ _ hown
    unfold Oper.wp
    simp [execOp, ho, resolve, invoke, builtin, hs, hx, hrun, Result.andThen]
    exact hK _ _ (h v w (by simpa using hown) ⟨rfl, rfl, rfl, Nat.le_refl _, fun _ _ _ => rfl⟩)
  · have hnews : ∀ j u, (B.map (Value.int .u8))[j]? = some u → w.cell? (ad.add j) = some u := by
      by_cases h0 : B = []
      · subst h0; intro j u hu; simp at hu
      · obtain ⟨b, off, h2, hc⟩ := hr h0
        cases h2
        exact RowOf.cells (n := 0) (cap := 0) hc
    obtain ⟨v', w', hrun, h2, h3, _⟩ := run_append_own_at (P := Try.prog) w base 32 o.type 5 i0 (.int .u8 0) 1 1 Try.underlying32 hi hz0 hz1 hz2 rfl (by decide) v _ _ hown ad B.length cap (B.map (Value.int .u8)) (by simp) hnews (by simp [Value.oneCell']) (by unfold maxLen; omega) (by omega) hbase
    unfold Oper.wp execOp
    simp only [ho, resolve, invoke, builtin, Sem.run_bind, Sem.run_pure, Result.andThen_ok, List.map_toArray, List.map_cons, List.map_nil, hs, hx, hrun]
    exact hK _ _ (h v' w' (by simpa using h2) h3)

theorem own_later {w W : World} {base : Nat} {e : TypeId} {size n : Nat} {v : Value} {xs : List Value} (h : w.ownsRow base e size v n xs) (hb : Below w.heap.size w W) : W.ownsRow base e size v n xs :=
  h.kept (grown_below hb) (by cases hv : v.ownBlock <;> simp)
theorem own_apart {W W' : World} {base : Nat} {e : TypeId} {size n : Nat} {v x : Value} {xs : List Value} (h : W.ownsRow base e size v n xs) (hx : ∀ k, x.ownBlock = some k → k < base) (hg : W.grownBy W' x.ownBlock) : W'.ownsRow base e size v n xs := by
  refine h.kept hg ?_
  cases hv : v.ownBlock with
  | none => exact .inl rfl
  | some g =>
    refine .inr fun e => ?_
    have h1 := (h.lt g hv).1
    have h2 := hx g e.symm
    omega
theorem own_nil {w : World} {base : Nat} {e : TypeId} {size n : Nat} {v : Value} {xs : List Value} (h : w.ownsRow base e size v n xs) : ∀ l c, v = .slice none l c → c = 0 := by
  intro l c e
  rcases h.2 with ⟨h, _⟩ | ⟨g, cap, cur, h, _⟩
  · rw [h] at e; cases e; rfl
  · rw [h] at e; cases e
theorem bres_some {k0 : IntKind} {page : Int} {s : ByteArray} {w : World} {P : Program} {f : FuncId} {args : Array Value} (h : Calls P f args w (BRes k0 page s w)) :
    Calls P f args w fun e w' => ∃ v k, e = .returned (.tuple #[v, .int k0 k]) ∧ Below w.heap.size w w' := by
  refine h.mono ?_
  rintro e w' ⟨h, hB⟩
  rcases h with ⟨M, v, hM, rfl, _⟩ | ⟨_, rfl⟩
  · exact ⟨_, _, rfl, hB⟩
  · exact ⟨_, _, rfl, hB⟩

/-- What the loop over a text of bytes knows between two rounds. -/
def PtRel (page : Int) (L : List Int) (n : Nat) (w0 : World) (I : Nat) (s : ByteArray) (i : Value) (wr : World) : Prop :=
  ∃ k pos : Nat, k ≤ n ∧ i = .int .i64 k ∧ wr.heap[I]? = some (.stringIter s pos) ∧ s.data.toList.drop pos = textOf page (L.drop k) ∧ Below w0.heap.size w0 wr
theorem pt_step (page : Int) (L : List Int) (s : ByteArray) (k pos : Nat) (hk : k < L.length) (hb : IsBytes L) (h : s.data.toList.drop pos = textOf page (L.drop k)) :
    pos < s.size ∧ s.data.toList.drop (pos + (Utf8.decode s pos).2) = textOf page (L.drop (k + 1)) := by
  have hd : L.drop k = L[k] :: L.drop (k + 1) := List.drop_eq_getElem_cons hk
  rw [hd, textOf_cons] at h
  obtain ⟨h1, h2⟩ := decode_text page L[k] (hb _ (List.getElem_mem hk)) (textOf page (L.drop (k + 1)))
  rw [← h, Lib.decodeL_drop] at h1
  have hsz : s.data.toList.length = s.size := by rw [Array.length_toList]; rfl
  constructor
  · have := congrArg List.length h
    rw [List.length_drop, hsz, List.length_append] at this
    omega
  · rw [← List.drop_drop, h, h1, List.drop_left]
theorem pt_end (page : Int) (L : List Int) (s : ByteArray) (pos : Nat) (h : s.data.toList.drop pos = textOf page (L.drop L.length)) : ¬ pos < s.size := by
  have hsz : s.data.toList.length = s.size := by rw [Array.length_toList]; rfl
  rw [List.drop_length, textOf_nil] at h
  have := congrArg List.length h
  rw [List.length_drop, hsz, List.length_nil] at this
  omega

set_option maxRecDepth 100000 in
set_option maxHeartbeats 8000000 in
theorem parts_main {w : World} (page : Int) (a : Option Addr) (n acap : Nat) (A : List Int) (hn : A.length = n) (b : Option Addr) (m bcap : Nat) (B : List Int) (hm : B.length = m) (s t : ByteArray)
    (ha : RowOf .u8 w (.slice a n acap) A) (hA : IsBytes A) (hb : RowOf .u8 w (.slice b m bcap) B) (hB : IsBytes B) (hnil : ∀ l c, Value.slice b m bcap = .slice none l c → c = 0)
    (g1 : (n : Int) ≤ 300) (g2 : (m : Int) ≤ 300) (g3 : (s.size : Int) ≤ 300) (g4 : (t.size : Int) ≤ 300) :
    Calls Try.prog 8 #[.int .i64 page, .slice a n acap, .slice b m bcap, .string s, .string t] w fun e w' => e = .returned (.bool true) ∧ Below w.heap.size w w' := by
  have HN := Lib.hid hn
  have HM := Lib.hid hm
  have HAB := Lib.hid (And.intro hA hB)
  have htA := textOf_le page A
  have htB := textOf_le page B
  rw [hn] at htA
  rw [hm] at htB
  obtain ⟨ta, hta⟩ : ∃ ta : ByteArray, ⟨(textOf page A).toArray⟩ = ta := ⟨_, rfl⟩
  obtain ⟨tb, htb⟩ : ∃ tb : ByteArray, ⟨(textOf page B).toArray⟩ = tb := ⟨_, rfl⟩
  have hza : ta.size = (textOf page A).length := by rw [← hta]; rfl
  have hzb : tb.size = (textOf page B).length := by rw [← htb]; rfl
  have HTA := Lib.hid hta
  have HTB := Lib.hid htb
  have HTAB : Hid ((⟨(textOf page (A ++ B)).toArray⟩ : ByteArray) = ta ++ tb) := by
    unfold Hid
    rw [textOf_append, ← hta, ← htb]
    apply ByteArray.ext
    simp
  have HDA : Hid (ta.data.toList = textOf page A) := by rw [← hta]; rfl
  clear hta htb hA hB hn hm
  have HNIL := Lib.hid hnil
  clear hnil
  have hadd : ∀ w : World, (Op.stringOp .add ta tb).run Try.prog w = .ok (.string (ta ++ tb)) w := fun w => run_string_add_sum w _ _ (by omega)
  have htt : ((ta ++ tb).toList == (ta ++ tb).toList) = true := by simp
  clear htA htB hza hzb
  have hst : ∀ w : World, (Op.stringOp .add s t).run Try.prog w = .ok (.string (s ++ t)) w := fun w => run_string_add_sum w _ _ (by omega)
  go_enter Try.func8, Try.ntmps8
  go_wp2_with fail
  refine (alive1_any _).mono ?_
  rintro e w1 ⟨rfl, B1⟩
  have ha1 := ha.below B1
  have hb1 := hb.below B1
  clear ha hb
  go_wp2_with fail
  refine (copy_any _ A _ ha1 (by rw [HN.out]; omega)).mono ?_
  rintro e w2 ⟨cv, rfl, hc2, hq2⟩
  have hb2 := hb1.below hq2
  have hsz2 := hq2.size
  go_wp2_with (at_builtin; refine wpList_append_bytes rfl _ _ rfl w1.heap.size _ A rfl hc2 _ B rfl hb2 HNIL.out (by rw [HN.out, HM.out]; omega) hsz2 ?_; intro dv w3 hd3 hg3)
  have hq3 : Below w1.heap.size w1 w3 := hq2.grown hg3 hsz2 (fun k e => (hc2.lt k e).1)
  have ha3 := ha1.below hq3
  have hb3 := hb1.below hq3
  have B3 := B1.trans (hq3.mono B1.size)
  have hdr := RowOf.of_owns hd3
  clear ha1 hb1 hb2 hc2 hq2 hg3 hd3 hq3 B1 hsz2
  go_wp2_with fail
  refine (to_str (text_any page _ (A ++ B) _ hdr (fun x hx => (List.mem_append.1 hx).elim (HAB.out.1 x) (HAB.out.2 x)) (by rw [List.length_append, HN.out, HM.out]; omega)) HTAB.out).mono ?_
  rintro e w4 ⟨rfl, hq4⟩
  have ha4 := ha3.below hq4
  have hb4 := hb3.below hq4
  have B4 := B3.trans (hq4.mono B3.size)
  clear ha3 hb3 hq4 B3 hdr
  go_wp2_with fail
  refine (to_str (text_any page _ A _ ha4 HAB.out.1 (by rw [HN.out]; omega)) HTA.out).mono ?_
  rintro e w5 ⟨rfl, hq5⟩
  have ha5 := ha4.below hq5
  have hb5 := hb4.below hq5
  have B5 := B4.trans (hq5.mono B4.size)
  clear ha4 hb4 hq5 B4
  go_wp2_with fail
  refine (to_str (text_any page _ B _ hb5 HAB.out.2 (by rw [HM.out]; omega)) HTB.out).mono ?_
  rintro e w6 ⟨rfl, hq6⟩
  have ha6 := ha5.below hq6
  have B6 := B5.trans (hq6.mono B5.size)
  clear ha5 hb5 hq6 B5
  go_wp2_with fail
  refine (to_str (text_any page _ A _ ha6 HAB.out.1 (by rw [HN.out]; omega)) HTA.out).mono ?_
  rintro e w7 ⟨rfl, hq7⟩
  have B7 := B6.trans (hq7.mono B6.size)
  clear ha6 hq7 B6
  have hst0 : PtRel page A n w w7.heap.size ta (.int .i64 0) (w7.iter ta 0) :=
    ⟨0, 0, Nat.zero_le _, rfl, World.iter_heap w7 ta 0, by rw [List.drop_zero, List.drop_zero]; exact HDA.out, B7.alloc B7.size _⟩
  have hsz7 := B7.size
  clear B7
  go_wp2_with fail
  go_loopw [11] (PtRel page A n w w7.heap.size ta) (fun i _ => n - (intOf i).toNat)
  case atStart => exact hst0
  case round =>
    obtain ⟨k, pos, hk, rfl, hit, hdr, hBw⟩ := hrel
    by_cases hlt : k < n
    · obtain ⟨hp, hnext⟩ := pt_step page A ta k pos (by rw [HN.out]; exact hlt) HAB.out.1 hdr
      have hnx : ∀ ty, (Instr.next (.pointer (some ⟨w7.heap.size, 0, none⟩)) true ty).run Try.prog wr = _ := fun ty => Lib.run_next_any_at wr w7.heap.size ta pos ty hit hp
      have hit2 := Lib.hid (Lib.iterAt_heap wr w7.heap.size ta pos (pos + (Utf8.decode ta pos).2) hit)
      have hB2 := Lib.below_iterAt hBw hsz7 ta (pos + (Utf8.decode ta pos).2)
      have HNX := Lib.hid hnext
      clear hdr hnext hit hp
      obtain ⟨r, hr⟩ : ∃ r, r = (Utf8.decode ta pos).1 := ⟨_, rfl⟩
      obtain ⟨wd, hwd⟩ : ∃ d, d = (Utf8.decode ta pos).2 := ⟨_, rfl⟩
      rw [← hr, ← hwd] at hnx
      rw [← hwd] at hit2 hB2 HNX
      clear hr hwd
      go_wp2_with fail
      go_roundw
      case rel => exact ⟨k + 1, _, by omega, by go_num, hit2.out, HNX.out, hB2⟩
      case measure => simp [intOf]; omega
    · obtain rfl : k = n := by omega
      have hend := pt_end page A ta pos (by rw [HN.out]; exact hdr)
      have hnx : ∀ ty, (Instr.next (.pointer (some ⟨w7.heap.size, 0, none⟩)) true ty).run Try.prog wr = _ := fun ty => Lib.run_next_end_at wr w7.heap.size ta pos ty hit hend
      clear hit hdr hend hst0
      rcases hbs : bytesOf page s with _ | X
      · have HBS := Lib.hid hbs
        clear hbs
        go_wp2_with fail
        refine (bres_no (bytes_any page s _ (by omega)) HBS.out).mono ?_
        rintro e w8 ⟨rfl, hq8⟩
        have B8 := hBw.trans (hq8.mono hBw.size)
        clear hBw hq8
        go_wp2_with fail
        refine (bres_some (bytes_any page t _ (by omega))).mono ?_
        rintro e w9 ⟨yv, ye, rfl, hq9⟩
        have B9 := B8.trans (hq9.mono B8.size)
        clear B8 hq9
        go_wp2_with fail
        go_ret
        exact ⟨rfl, B9⟩
      · have hXl := bytesOf_length page s X hbs
        rcases hbt : bytesOf page t with _ | Y
        · have HBS := Lib.hid hbs
          have HBT := Lib.hid hbt
          clear hbs hbt
          go_wp2_with fail
          refine (bres_yes (bytes_any page s _ (by omega)) HBS.out).mono ?_
          rintro e w8 ⟨xv, rfl, _, hx8, hq8⟩
          have B8 := hBw.trans (hq8.mono hBw.size)
          clear hBw hq8 hx8
          go_wp2_with fail
          refine (bres_no (bytes_any page t _ (by omega)) HBT.out).mono ?_
          rintro e w9 ⟨rfl, hq9⟩
          have B9 := B8.trans (hq9.mono B8.size)
          clear B8 hq9
          go_wp2_with fail
          go_ret
          exact ⟨rfl, B9⟩
        · have hYl := bytesOf_length page t Y hbt
          have hss : (s ++ t).size = s.size + t.size := by rw [ByteArray.size_append]
          have HST := Lib.hid (bytesOf_append page s t X Y hbs hbt)
          have HBS := Lib.hid hbs
          have HBT := Lib.hid hbt
          clear hbs hbt
          go_wp2_with fail
          refine (bres_yes (bytes_any page s _ (by omega)) HBS.out).mono ?_
          rintro e w8 ⟨xv, rfl, _, hx8, hq8⟩
          have B8 := hBw.trans (hq8.mono hBw.size)
          have hbx := hq8.size
          have hwr := hBw.size
          clear hBw hq8
          go_wp2_with fail
          refine (bres_yes (bytes_any page t _ (by omega)) HBT.out).mono ?_
          rintro e w9 ⟨yv, rfl, hy9, hyo, hq9⟩
          have B9 := B8.trans (hq9.mono B8.size)
          have hx9 := own_later hx8 hq9
          have hbx9 := Nat.le_trans hbx hq9.size
          have hyn := Lib.hid (own_nil hyo)
          clear B8 hq9 hx8 hyo
          go_wp2_with fail
          refine (bres_yes (bytes_any page (s ++ t) _ (by omega)) HST.out).mono ?_
          rintro e w10 ⟨zv, rfl, _, hz10, hq10⟩
          have B10 := B9.trans (hq10.mono B9.size)
          have hx10 := own_later hx9 hq10
          have hbx10 := Nat.le_trans hbx9 hq10.size
          have hy10 := hy9.below hq10
          have hxz : ∀ k, xv.ownBlock = some k → k < w9.heap.size := fun k e => (hx9.lt k e).2
          clear B9 hq10 hx9 hy9
          go_wp2_with (at_builtin; go_loud (refine wpList_append_bytes (by first | rfl | kernel_rfl | decide | (simp [Region.wanted, yielded]; done)) _ _ rfl wr.heap.size _ X rfl hx10 _ Y rfl hy10 hyn.out (by omega) hbx10 ?_); intro dv w11 hd11 hg11)
          have hz11 := RowOf.of_owns (own_apart hz10 hxz hg11)
          have B11 := B10.grown hg11 B10.size (fun k e => by have := (hx10.lt k e).1; have := B10.size; omega)
          have hdr := RowOf.of_owns hd11
          clear hz10 hxz hg11 B10 hd11 hx10 hy10
          go_wp2_with fail
          refine (same_yes _ _ (X ++ Y) _ hz11 hdr (by rw [List.length_append]; unfold maxLen; omega)).mono ?_
          rintro e w12 ⟨rfl, hq12⟩
          have B12 := B11.trans (hq12.mono B11.size)
          go_wp2_with fail
          go_ret
          exact ⟨rfl, B12⟩

theorem codeParts_walk {w : World} (page : Int) (hp : (Lit.int .i64 page).wf = true) (u : Value) (A : List Int) (hu : RowOf .u8 w u A ∧ A.length ≤ maxLen ∧ IsBytes A) (v : Value) (B : List Int) (hv : RowOf .u8 w v B ∧ B.length ≤ maxLen ∧ IsBytes B) (hnil : ∀ l c, v = .slice none l c → c = 0) (s : ByteArray) (hs : s.size ≤ maxLen) (t : ByteArray) (ht : t.size ≤ maxLen) :
    Calls Try.prog 8 #[.int .i64 page, u, v, .string s, .string t] w fun e w' => e = .returned (.bool true) ∧ Below w.heap.size w w' := by
  obtain ⟨hu, hm, hA⟩ := hu
  obtain ⟨hv, hm2, hB⟩ := hv
  unfold maxLen at hm hm2 hs ht
  obtain ⟨a, acap, rfl, _⟩ := id hu
  obtain ⟨b, bcap, rfl, _⟩ := id hv
  obtain ⟨n, hn⟩ : ∃ n, n = A.length := ⟨_, rfl⟩
  obtain ⟨m, hmm⟩ : ∃ m, m = B.length := ⟨_, rfl⟩
  rw [← hn] at hu hm ⊢
  rw [← hmm] at hv hm2 hnil ⊢
  by_cases h1 : 300 < n
  · have g1 : (300 : Int) < (n : Int) := by omega
    clear h1 hu hv hn hmm hA hB hnil
    go_enter Try.func8, Try.ntmps8
    go_wp2_with fail
    refine (alive1_any _).mono ?_
    rintro e w1 ⟨rfl, B1⟩
    go_wp2_with fail
    go_ret
    exact ⟨rfl, B1⟩
  by_cases h2 : 300 < m
  · have g1 : (n : Int) ≤ 300 := by omega
    have g2 : (300 : Int) < (m : Int) := by omega
    clear h1 h2 hu hv hn hmm hA hB hnil
    go_enter Try.func8, Try.ntmps8
    go_wp2_with fail
    refine (alive1_any _).mono ?_
    rintro e w1 ⟨rfl, B1⟩
    go_wp2_with fail
    go_ret
    exact ⟨rfl, B1⟩
  by_cases h3 : 300 < s.size
  · have g1 : (n : Int) ≤ 300 := by omega
    have g2 : (m : Int) ≤ 300 := by omega
    have g3 : (300 : Int) < (s.size : Int) := by omega
    clear h1 h2 h3 hu hv hn hmm hA hB hnil
    go_enter Try.func8, Try.ntmps8
    go_wp2_with fail
    refine (alive1_any _).mono ?_
    rintro e w1 ⟨rfl, B1⟩
    go_wp2_with fail
    go_ret
    exact ⟨rfl, B1⟩
  by_cases h4 : 300 < t.size
  · have g1 : (n : Int) ≤ 300 := by omega
    have g2 : (m : Int) ≤ 300 := by omega
    have g3 : (s.size : Int) ≤ 300 := by omega
    have g4 : (300 : Int) < (t.size : Int) := by omega
    clear h1 h2 h3 h4 hu hv hn hmm hA hB hnil
    go_enter Try.func8, Try.ntmps8
    go_wp2_with fail
    refine (alive1_any _).mono ?_
    rintro e w1 ⟨rfl, B1⟩
    go_wp2_with fail
    go_ret
    exact ⟨rfl, B1⟩
  exact parts_main page a n acap A hn.symm b m bcap B hmm.symm s t hu hA hv hB hnil (by omega) (by omega) (by omega) (by omega)

end Go.Proofs.Ytpmcpllcfmgpgaa.Code
