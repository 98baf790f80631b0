/-
  The walk of WholeTalks.
-/
import Derived.Test.YtkolhjglehnigaaTalkX
import Derived.Test.YtkolhjglehnigaaFrames
namespace Go.Proofs.Ytkolhjglehnigaa.Talk
open Go.RowKit Base Opt Iac Rec
set_option linter.unusedVariables false

theorem byte_fin {p : Int → Prop} (h : ∀ x : Fin 256, p (x.val : Int)) (b : Int) (h0 : 0 ≤ b) (h1 : b ≤ 255) : p b := by
  have := h ⟨b.toNat, by omega⟩
  simpa [Int.toNat_of_nonneg h0] using this
theorem and3u (b : Int) (h0 : 0 ≤ b) (h1 : b ≤ 255) : bits .and .u8 b 3 = b % 4 := byte_fin (p := fun b => bits .and .u8 b 3 = b % 4) (by decide +kernel) b h0 h1
/-- Both sides of the call's own. -/
structure LQ (w : World) (bt bh bd be s : Nat) (nm : ByteArray) (MA MB : Nat → Bool) (SA SB : Nat → Nat) (nd : Bool) (D E : Dec) (W : World) : Prop where
  tk : TalkAt W bt nm MA SA nd
  oh : OptAt W bh MB SB
  dd : DecAt W bd D
  de : DecAt W be E
  ap : Apart4 bt bh bd be s
  sz : s ≤ W.heap.size
  old : Below w.heap.size w W
  lt : w.heap.size ≤ bt
  lh : w.heap.size ≤ bh
  ld : w.heap.size ≤ bd
  le : w.heap.size ≤ be
  d0 : D.state = 0
  e0 : E.state = 0
  la : Le5 SA
  lb : Le5 SB
section
variable {bt bh bd be s : Nat} {nm : ByteArray} {MA MB : Nat → Bool} {SA SB SA' SB' : Nat → Nat} {nd nd' : Bool} {D E D' E' : Dec} {w W W' : World}
theorem LQ.tw (h : LQ w bt bh bd be s nm MA MB SA SB nd D E W) : TW bt bh bd be W.heap.size nm MA MB SA SB nd D E W W := by
  have a := h.ap; have z := h.sz
  have h1 := a.t; have h2 := a.h; have h3 := a.d; have h4 := a.e
  exact ⟨h.tk, h.oh, h.dd, h.de, ⟨by omega, by omega, by omega, by omega, a.th, a.td, a.te, a.hd, a.he, a.de⟩, Nat.le_refl _, Turn.refl _ _⟩
theorem LQ.of (h : LQ w bt bh bd be s nm MA MB SA SB nd D E W) {r : Nat} (hr : s ≤ r) (k : TW bt bh bd be r nm MA MB SA' SB' nd' D' E' W W') (hd : D'.state = 0) (he : E'.state = 0) (ha : Le5 SA') (hb : Le5 SB') : LQ w bt bh bd be s nm MA MB SA' SB' nd' D' E' W' := by
  have h1 := h.lt; have h2 := h.lh; have h3 := h.ld; have h4 := h.le
  have h5 := h.ap.t
  refine ⟨k.tk, k.oh, k.dd, k.de, h.ap, Nat.le_trans h.sz k.t.size, h.old.trans (k.t.below h.old.size fun j hj => ?_), h1, h2, h3, h4, hd, he, ha, hb⟩
  rcases hj with e | e | e | e | e <;> omega
theorem LQ.below (h : LQ w bt bh bd be s nm MA MB SA SB nd D E W) (t : Below W.heap.size W W') : LQ w bt bh bd be s nm MA MB SA SB nd D E W' :=
  h.of h.sz (h.tw.below t) h.d0 h.e0 h.la h.lb
theorem LQ.host (h : LQ w bt bh bd be s nm MA MB SA SB nd D E W) (t : Turn (At bh) W W') (k : OptAt W' bh MB SB') (hb : Le5 SB') : LQ w bt bh bd be s nm MA MB SA SB' nd D E W' :=
  h.of h.sz (h.tw.host t k) h.d0 h.e0 h.la hb
theorem LQ.talk (h : LQ w bt bh bd be s nm MA MB SA SB nd D E W) (t : Turn (At bt) W W') (k : TalkAt W' bt nm MA SA nd') : LQ w bt bh bd be s nm MA MB SA SB nd' D E W' :=
  h.of h.sz (h.tw.talk t k) h.d0 h.e0 h.la h.lb
theorem LQ.high (h : LQ w bt bh bd be s nm MA MB SA SB nd D E W) (t : Turn (fun k => s ≤ k) W W') : LQ w bt bh bd be s nm MA MB SA SB nd D E W' := by
  have a := h.ap
  have h1 := a.t; have h2 := a.h; have h3 := a.d; have h4 := a.e; have h5 := h.lt
  exact ⟨h.tk.keep t (by omega), opt_turn h.oh t (by omega), h.dd.turn t (by omega), h.de.turn t (by omega), a, Nat.le_trans h.sz t.size, h.old.trans (t.below h.old.size fun k hk => by omega), h.lt, h.lh, h.ld, h.le, h.d0, h.e0, h.la, h.lb⟩
theorem LQ.apart (h : LQ w bt bh bd be s nm MA MB SA SB nd D E W) : bd < s := h.ap.d
end
/-! ### Plainly -/
def net (MA MB : Nat → Bool) (SA SB : Nat → Nat) (ba : List Wd) : Net := ⟨MA, MB, SA, SB, [], ba⟩
theorem net_wish {MA MB : Nat → Bool} {SA SB : Nat → Nat} {ba : List Wd} (h : (net MA MB SA SB ba).Good) (x : Wd) (hx : x.2 < 256) : (net MA MB SA (wantW SB x).1 (ba ++ (wantW SB x).2)).Good ∧ (net MA MB SA (wantW SB x).1 (ba ++ (wantW SB x).2)).F + (wantW SB x).2.length ≤ (net MA MB SA SB ba).F + 2 := by
  obtain ⟨h1, h2⟩ := h.swap
  obtain ⟨h3, h4⟩ := h1.wishA x hx
  obtain ⟨h5, h6⟩ := h3.swap
  have e : ((net MA MB SA SB ba).swap.wishA x).swap = net MA MB SA (wantW SB x).1 (ba ++ (wantW SB x).2) := rfl
  rw [e] at h5 h6
  have e2 : (wantW (net MA MB SA SB ba).swap.SA x).2 = (wantW SB x).2 := rfl
  rw [e2] at h4
  exact ⟨h5, by omega⟩
theorem net_turn {MA MB : Nat → Bool} {SA SB : Nat → Nat} {ba : List Wd} (h : (net MA MB SA SB ba).Good) :
    (net MA MB (runW MA SA ba).1 (runW MB SB (runW MA SA ba).2).1 (runW MB SB (runW MA SA ba).2).2).Good ∧ (net MA MB (runW MA SA ba).1 (runW MB SB (runW MA SA ba).2).1 (runW MB SB (runW MA SA ba).2).2).F + (runW MB SB (runW MA SA ba).2).2.length ≤ (net MA MB SA SB ba).F := by
  obtain ⟨h1, h2⟩ := h.allA ba _ rfl
  obtain ⟨e1, e2, e3, e4⟩ := Net.allA_ba ba (net MA MB SA SB ba) rfl
  have e5 := allA_run ba (net MA MB SA SB ba)
  obtain ⟨N1, hN1⟩ : ∃ N1, N1 = (net MA MB SA SB ba).allA ba := ⟨_, rfl⟩
  rw [← hN1] at h1 h2 e1 e2 e3 e4 e5
  have e5 : (N1.SA, N1.ab) = runW MA SA ba := e5
  have e6 : N1.SA = (runW MA SA ba).1 := by rw [← e5]
  have e7 : N1.ab = (runW MA SA ba).2 := by rw [← e5]
  obtain ⟨g1, g2⟩ := h1.swap
  obtain ⟨h3, h4⟩ := g1.allA N1.ab _ rfl
  obtain ⟨f1, f2, f3, f4⟩ := Net.allA_ba N1.ab N1.swap rfl
  have f5 := allA_run N1.ab N1.swap
  obtain ⟨N2, hN2⟩ : ∃ N2, N2 = N1.swap.allA N1.ab := ⟨_, rfl⟩
  rw [← hN2] at h3 h4 f1 f2 f3 f4 f5
  have eMB : N1.MB = MB := e4
  have eSB : N1.SB = SB := e2
  have eMA : N1.MA = MA := e3
  have f5 : (N2.SA, N2.ab) = runW MB SB (runW MA SA ba).2 := by
    rw [f5, ← e7]
    show N1.ab.foldl (stepW N1.MB) (N1.SB, N1.ba) = _
    rw [eMB, eSB, e1]
    rfl
  have f6 : N2.SA = (runW MB SB (runW MA SA ba).2).1 := by rw [← f5]
  have f7 : N2.ab = (runW MB SB (runW MA SA ba).2).2 := by rw [← f5]
  obtain ⟨k1, k2⟩ := h3.swap
  have hfin : N2.swap = net MA MB (runW MA SA ba).1 (runW MB SB (runW MA SA ba).2).1 (runW MB SB (runW MA SA ba).2).2 := by
    unfold Net.swap net
    rw [f4, f3, f2, f1, f6, f7]
    show Net.mk N1.MA N1.MB N1.SA _ [] _ = _
    rw [eMA, eMB, e6]
  rw [hfin] at k1 k2
  refine ⟨k1, ?_⟩
  rw [f7] at h4
  have a1 : (net MA MB SA SB ba).ab.length = 0 := rfl
  have a2 : N1.swap.ab.length = 0 := by show N1.ba.length = 0; rw [e1]; rfl
  omega
theorem wantW_le (S : Nat → Nat) (x : Wd) (h : Le5 S) (h1 : 251 ≤ x.1) (h2 : x.1 ≤ 254) : Le5 (wantW S x).1 := by
  obtain ⟨e, he⟩ := wantS_W S x h1 h2
  have := wantS_le x.1 x.2 h
  rw [he] at this
  exact this
theorem want_word {W : World} {b : Nat} {M : Nat → Bool} {S : Nat → Nat} (h : OptAt W b M S) (hs : Le5 S) (x : Wd) (hx : WdOk x) :
    Calls Try.prog 30 #[.pointer (some ⟨b, 0, none⟩), .int .u8 x.1, .int .u8 x.2] W fun e W' => ∃ p n, e = .returned (.tuple #[p, .int .i64 n]) ∧ RowOf .u8 W' p (flatW (wantW S x).2) ∧ OptAt W' b M (wantW S x).1 ∧ Turn (At b) W W' := by
  obtain ⟨er, he⟩ := wantS_W S x hx.1 hx.2.1
  refine (want_any x.1 x.2 hx.2.2 h hs).mono ?_
  rw [he]
  rintro e W' ⟨p, rfl, hp, ht, hu⟩
  exact ⟨p, _, rfl, hp.row, ht, hu⟩
theorem boxed7 {W : World} {g : Nat} {a b c d e f x : Value} {t : TypeId} (h : W.heap[g]? = some (.cells #[a, b, c, d, e, f, x] t (0, 0))) :
    W.cell? ⟨g, 0, none⟩ = some a ∧ W.cell? ⟨g, 1, none⟩ = some b ∧ W.cell? ⟨g, 2, none⟩ = some c ∧ W.cell? ⟨g, 3, none⟩ = some d ∧ W.cell? ⟨g, 4, none⟩ = some e ∧ W.cell? ⟨g, 5, none⟩ = some f ∧ W.cell? ⟨g, 6, none⟩ = some x ∧ ∀ o, W.frozen? ⟨g, o, none⟩ = false := by
  simp [World.cell?, World.frozen?, h]
/-- A part is not the call's own row of bytes. -/
theorem part_ne {W : World} {s g : Nat} {v : Value} {L : List Int} {cs : Array Value} (h : W.heap[g]? = some (.cells cs 118 (0, 0))) (ho : OwnBytes s W v L) : v.ownBlock ≠ some g := by
  intro e
  obtain ⟨c, fz, h1⟩ := Lib.ownsRow_kind ho g e
  rw [h] at h1
  injection h1 with h1
  injection h1 with _ h2
  exact absurd h2 (by decide)
/-- What the rounds find. -/
structure TR (w : World) (bt bh bd be s : Nat) (nm : ByteArray) (MA MB : Nat → Bool) (m : Nat) (v : Value) (ba : List Wd) (SA SB : Nat → Nat) (nd : Bool) (D E : Dec) (W : World) : Prop where
  q : LQ w bt bh bd be s nm MA MB SA SB nd D E W
  own : OwnBytes s W v (flatW ba)
  good : (net MA MB SA SB ba).Good
  f : (net MA MB SA SB ba).F + ba.length ≤ m
def WishRel (w : World) (bt bh bd be s : Nat) (nm : ByteArray) (MA MB : Nat → Bool) (n : Nat) (v i : Value) (wr : World) : Prop :=
  ∃ k ba SA SB nd D E, k ≤ n ∧ i = .int .i64 (k : Nat) ∧ TR w bt bh bd be s nm MA MB (2 * k) v ba SA SB nd D E wr
def RoundRel (w : World) (bt bh bd be s : Nat) (nm : ByteArray) (MA MB : Nat → Bool) (v i : Value) (wr : World) : Prop :=
  ∃ k m ba SA SB nd D E, k + m ≤ 60 ∧ i = .int .i64 (k : Nat) ∧ TR w bt bh bd be s nm MA MB m v ba SA SB nd D E wr
def LastRel (w : World) (bt bh bd be s : Nat) (nm : ByteArray) (MA MB : Nat → Bool) (SA SB : Nat → Nat) (D E : Dec) (i : Value) (wr : World) : Prop :=
  ∃ k nd, k ≤ 256 ∧ i = .int .i64 (k : Nat) ∧ LQ w bt bh bd be s nm MA MB SA SB nd D E wr
set_option maxRecDepth 100000 in
set_option maxHeartbeats 8000000 in
theorem wholeTalks_law {w : World} (ext : Bool) (u : Value) (A : List Int) (hA : RowOf .u8 w u A ∧ A.length ≤ maxLen ∧ ∀ n ∈ A, Open.Byte n) (z : Value) (B : List Int) (hB : RowOf .u8 w z B ∧ B.length ≤ maxLen ∧ ∀ n ∈ B, Open.Byte n) (v : Value) (ps : List Pt) (hP : PtsAt w v ps ∧ ps.length ≤ maxLen ∧ ∀ p ∈ ps, p.Ok) :
    Calls Try.prog 13 #[.bool ext, u, z, v] w fun e W' => e = .returned (.bool true) ∧ Below w.heap.size w W' := by
  have hzd := (zero_of_info info_dec).1
  obtain ⟨hra, hla, hba⟩ := hA
  obtain ⟨hrb, hlb, hbb⟩ := hB
  obtain ⟨hrp, hlp, hok⟩ := hP
  have HRA := Lib.hid hra
  have HRB := Lib.hid hrb
  have HBA : Hid (IsBytes A) := Lib.hid fun x hx => by have := hba x hx; unfold Open.Byte at this; omega
  have HBB : Hid (IsBytes B) := Lib.hid fun x hx => by have := hbb x hx; unfold Open.Byte at this; omega
  have HLA := Lib.hid hla
  have HLB := Lib.hid hlb
  obtain ⟨aa, ca, rfl, _⟩ := hra
  obtain ⟨ab, cb, rfl, _⟩ := hrb
  obtain ⟨ap, cp, rfl, hrowp⟩ := hrp
  obtain ⟨n, hn⟩ : ∃ n, n = ps.length := ⟨_, rfl⟩
  obtain ⟨na, hna⟩ : ∃ na, na = A.length := ⟨_, rfl⟩
  obtain ⟨nb, hnb⟩ : ∃ nb, nb = B.length := ⟨_, rfl⟩
  have HN := Lib.hid hn
  have HROW := Lib.hid hrowp
  have HOK := Lib.hid hok
  unfold maxLen at hlp hla hlb
  rw [← hn] at hlp ⊢
  rw [← hna] at hla HRA ⊢
  rw [← hnb] at hlb HRB ⊢
  have HNEW : Hid (∀ w, Calls Try.prog 36 #[.string ⟨#[73, 66, 77]⟩, .bool ext] w (NewK nmI ext w)) := Lib.hid fun w => by
    have := talk_new nmI ext w (by unfold maxLen; decide)
    rw [nmI_clean] at this
    exact this
  clear hn hna hnb hrowp hok hba hbb
  by_cases hbig : 30 < n
  · have hbig' : (30 : Int) < n := by omega
    go_enter Try.func13, Try.ntmps13
    go_wp2_with fail
    refine (sound_line w).mono ?_
    rintro e W1 ⟨rfl, b1⟩
    go_wp2_with fail
    go_ret
    exact ⟨rfl, b1⟩
  have hni : (n : Int) ≤ 30 := by omega
  by_cases hbiga : 30 < na
  · have hbig' : (30 : Int) < na := by omega
    go_enter Try.func13, Try.ntmps13
    go_wp2_with fail
    refine (sound_line w).mono ?_
    rintro e W1 ⟨rfl, b1⟩
    go_wp2_with fail
    go_ret
    exact ⟨rfl, b1⟩
  have hnai : (na : Int) ≤ 30 := by omega
  by_cases hbigb : 30 < nb
  · have hbig' : (30 : Int) < nb := by omega
    go_enter Try.func13, Try.ntmps13
    go_wp2_with fail
    refine (sound_line w).mono ?_
    rintro e W1 ⟨rfl, b1⟩
    go_wp2_with fail
    go_ret
    exact ⟨rfl, b1⟩
  have hnbi : (nb : Int) ≤ 30 := by omega
  clear hbig hbiga hbigb
  go_enter Try.func13, Try.ntmps13
  go_wp2_with fail
  refine (sound_line w).mono ?_
  rintro e W1 ⟨rfl, b1⟩
  have B1 := Lib.hid b1
  clear b1
  go_wp2_with fail
  refine (HNEW.out W1).mono ?_
  rintro e W2 ⟨bt, rfl, ht2, hb2, hlo2⟩
  have B2 := Lib.hid (B1.out.trans (hb2.mono B1.out.size))
  have T2 := Lib.hid ht2
  have HLO : Hid (w.heap.size ≤ bt) := Lib.hid (Nat.le_trans B1.out.size hlo2)
  clear ht2 hb2 hlo2
  go_wp2_with fail
  refine (new_any _ _ A B W2 (HRA.out.below B2.out) (HRB.out.below B2.out) HBA.out HBB.out HLA.out HLB.out).mono ?_
  rintro e W3 ⟨rfl, ho3, hb3, hz3⟩
  obtain ⟨MA, hMA⟩ : ∃ MA, MA = M0 ext := ⟨_, rfl⟩
  obtain ⟨MB, hMB⟩ : ∃ MB, MB = mayM A B := ⟨_, rfl⟩
  obtain ⟨bh, hbh⟩ : ∃ bh, bh = W2.heap.size := ⟨_, rfl⟩
  have t2 : TalkAt W2 bt nmI MA S0 false := by rw [hMA]; exact T2.out
  have hbt := T2.out.lt
  rw [← hMB, ← hbh] at ho3
  rw [← hbh]
  have z4 := World.size_alloc W3 (.cells zdec 124)
  have b4 := below_alloc W3 (.cells zdec 124)
  have d4 := dec_new W3
  obtain ⟨W4, hW4⟩ : ∃ W4, W4 = W3.alloc (.cells zdec 124) := ⟨_, rfl⟩
  rw [← hW4] at z4 b4 d4
  have z5 := World.size_alloc W4 (.cells zdec 124)
  have b5 := below_alloc W4 (.cells zdec 124)
  have d5 := dec_new W4
  obtain ⟨W5, hW5⟩ : ∃ W5, W5 = W4.alloc (.cells zdec 124) := ⟨_, rfl⟩
  rw [← hW5] at z5 b5 d5
  have z6 := World.size_alloc W5 (.cells #[] 5)
  have b6 := below_alloc W5 (.cells #[] 5)
  have o6 := own0 (s := W5.heap.size) (w := W5) (Nat.le_refl _)
  obtain ⟨W6, hW6⟩ : ∃ W6, W6 = W5.alloc (.cells #[] 5) := ⟨_, rfl⟩
  rw [← hW6] at z6 b6 o6
  obtain ⟨bd, hbd⟩ : ∃ bd, bd = W3.heap.size := ⟨_, rfl⟩
  obtain ⟨be, hbe⟩ : ∃ be, be = W4.heap.size := ⟨_, rfl⟩
  obtain ⟨s, hs⟩ : ∃ s, s = W5.heap.size := ⟨_, rfl⟩
  rw [← hbd] at d4
  rw [← hbe] at d5
  rw [← hs] at o6
  have b36 := b4.trans ((b5.trans (b6.mono b5.size)).mono b4.size)
  have b56 := b5.trans (b6.mono b5.size)
  have b26 := hb3.trans (b36.mono hb3.size)
  have hLQ : LQ w bt bh bd be s nmI MA MB S0 (fun _ => 0) false dec0 dec0 W6 :=
    ⟨t2.below b26, (b36.block bh (lt_of_block ho3)).trans ho3, d4.below b56, d5.below b6, ⟨by omega, by omega, by omega, by omega, by omega, by omega, by omega, by omega, by omega, by omega⟩, by omega, B2.out.trans (b26.mono B2.out.size), HLO.out, by rw [hbh]; exact B2.out.size, by have := B2.out.size; omega, by have := B2.out.size; omega, rfl, rfl, le5_S0, fun _ => by simp⟩
  have hg := Net.good0 MA MB
  have HTR : Hid (TR w bt bh bd be s nmI MA MB (2 * 0) (.slice (some ⟨s, 0, none⟩) 0 0) [] S0 (fun _ => 0) false dec0 dec0 W6) := Lib.hid ⟨hLQ, o6, hg.1, by show (net MA MB S0 (fun _ => 0) []).F + 0 ≤ 0; exact Nat.le_of_eq (by rw [Nat.add_zero]; exact hg.2)⟩
  have HW4 := Lib.hid hW4.symm
  have HW5 := Lib.hid hW5.symm
  have HW6 := Lib.hid hW6.symm
  have HBD := Lib.hid hbd.symm
  have HBE : Hid (bd + 1 = be) := Lib.hid (by omega)
  have HSS : Hid (be + 1 = s) := Lib.hid (by omega)
  have hnm : nmI.size ≤ 1000 := by decide
  clear ho3 hb3 hz3 hMA hMB hbh t2 hbt z4 b4 d4 hW4 z5 b5 d5 hW5 z6 b6 o6 hW6 hbd hbe hs b36 b56 b26 hLQ hg T2 HLO HNEW HRA HRB HBA HBB HLA HLB hla hlb
  go_upto_region 9 with fail
  rw [HW4.out, HW5.out, HW6.out, HBD.out, HBE.out, HSS.out]
  clear HW4 HW5 HW6 HBD HBE HSS
  go_upto_region 10 with fail
  go_loopw [13, 44] (fun v i wr => WishRel w bt bh bd be s nmI MA MB n v i wr) (fun _ i _ => n - (intOf i).toNat)
  case atStart => exact ⟨0, [], S0, fun _ => 0, false, dec0, dec0, by omega, rfl, HTR.out⟩
  case round =>
    obtain ⟨k, ba, SA, SB, nd, D, E, hk, rfl, htr⟩ := hrel
    have HT := Lib.hid htr
    have hbal : ba.length ≤ 60 := by have := htr.f; omega
    obtain ⟨va, vc, rfl⟩ := htr.own.slice
    obtain ⟨l, hl⟩ : ∃ l, l = (flatW ba).length := ⟨_, rfl⟩
    have hl180 : l ≤ 180 := by rw [hl, flatW_length]; omega
    rw [← hl] at HT ⊢
    have HLL := Lib.hid hl
    clear htr hl
    by_cases hkn : k < n
    · have hkl : k < ps.length := by rw [← HN.out]; exact hkn
      obtain ⟨gp, off, rfl, hgp, hc⟩ := HROW.out (by intro e; rw [e] at hkl; simp at hkl)
      obtain ⟨q, hq⟩ : ∃ q, ps[k]? = some q := ⟨_, List.getElem?_eq_getElem hkl⟩
      obtain ⟨y, d0, d1, d2, d3, d4, d5, d6, hy⟩ := hc k q hq
      have hqo := HOK.out q (List.mem_of_getElem? hq)
      obtain ⟨o, ho⟩ : ∃ o : Nat, q.op = (o : Int) := ⟨q.op.toNat, by have := hqo.op.1; omega⟩
      rw [ho] at d6
      have ho256 : o < 256 := by have := hqo.op.2; omega
      have hbo := HT.out.q.old
      have d0 := (hbo.cell (p := ⟨gp, off + k * 7, none⟩) hgp).trans d0
      have d1 := (hbo.cell (p := ⟨gp, off + k * 7 + 1, none⟩) hgp).trans d1
      have d2 := (hbo.cell (p := ⟨gp, off + k * 7 + 2, none⟩) hgp).trans d2
      have d3 := (hbo.cell (p := ⟨gp, off + k * 7 + 3, none⟩) hgp).trans d3
      have d4 := (hbo.cell (p := ⟨gp, off + k * 7 + 4, none⟩) hgp).trans d4
      have d5 := (hbo.cell (p := ⟨gp, off + k * 7 + 5, none⟩) hgp).trans d5
      have d6 := (hbo.cell (p := ⟨gp, off + k * 7 + 6, none⟩) hgp).trans d6
      obtain ⟨ya, yl, yc, rfl⟩ : ∃ ya yl yc, y = .slice ya yl yc := by
        obtain ⟨⟨a', c', e', _⟩, _⟩ := hy
        exact ⟨a', _, c', e'⟩
      have hcd : (251 + bits .and .u8 q.vb 3) % 256 = q.code := by
        rw [and3u q.vb hqo.vb.1 (by have := hqo.vb.2; omega)]
        unfold Pt.code
        omega
      have HXO : Hid (WdOk (q.code, o)) := Lib.hid ⟨by show 251 ≤ q.code; unfold Pt.code; omega, by show q.code ≤ 254; unfold Pt.code; omega, ho256⟩
      have HCD := Lib.hid hcd
      have hik : (0 : Int) ≤ (k : Int) := Int.natCast_nonneg _
      have hikn : (k : Int) < (n : Int) := by omega
      clear hc hq hqo ho hy hbo hcd hkl
      have hb7 := below_alloc wr (.cells #[.int .u8 q.h.ty, .int .u8 q.h.rq, .int .u8 q.h.rs, .int .u16 q.h.seq, .slice ya yl yc, .int .u8 q.vb, .int .u8 o] 118)
      have hk7 := heap_alloc_new wr (.cells #[.int .u8 q.h.ty, .int .u8 q.h.rq, .int .u8 q.h.rs, .int .u16 q.h.seq, .slice ya yl yc, .int .u8 q.vb, .int .u8 o] 118)
      obtain ⟨W7, hW7⟩ : ∃ W7, W7 = wr.alloc (.cells #[.int .u8 q.h.ty, .int .u8 q.h.rq, .int .u8 q.h.rs, .int .u16 q.h.seq, .slice ya yl yc, .int .u8 q.vb, .int .u8 o] 118) := ⟨_, rfl⟩
      obtain ⟨px, hpx⟩ : ∃ px, px = wr.heap.size := ⟨_, rfl⟩
      rw [← hW7] at hb7 hk7
      rw [← hpx] at hk7
      have Q7 := Lib.hid (HT.out.q.below hb7)
      have O7 := Lib.hid (HT.out.own.below hb7)
      have K7 := Lib.hid hk7
      have hpbh : px ≠ bh := by have := HT.out.q.ap.h; have := HT.out.q.sz; omega
      have HW7 := Lib.hid hW7.symm
      have HPX := Lib.hid hpx.symm
      obtain ⟨_, _, _, _, _, f5, f6, _⟩ := boxed7 hk7
      clear hb7 hk7 hW7 hpx
      go_upto_region 12 with fail
      rw [HW7.out, HPX.out]
      clear d0 d1 d2 d3 d4 d5 d6
      go_wp2_with fail
      rw [HCD.out]
      refine (want_word Q7.out.oh Q7.out.lb (q.code, o) HXO.out).mono ?_
      rintro e W8 ⟨p, nn, rfl, hp8, hh8, hu8⟩
      have Q8 := Lib.hid (Q7.out.host hu8 hh8 (wantW_le _ _ Q7.out.lb HXO.out.1 HXO.out.2.1))
      have O8 := Lib.hid (own_turn O7.out hu8 Q7.out.ap.h)
      have K8 := Lib.hid ((hu8.block px (lt_of_block K7.out) hpbh).trans K7.out)
      obtain ⟨hg8, hf8⟩ := net_wish HT.out.good (q.code, o) ho256
      have P8 := Lib.hid hp8
      obtain ⟨pa, pc, rfl, _⟩ := hp8
      obtain ⟨pl, hpl⟩ : ∃ pl, pl = (flatW (wantW SB (q.code, o)).2).length := ⟨_, rfl⟩
      have hpl3 : pl ≤ 3 := by
        rw [hpl, flatW_length]
        show 3 * (saidW _ _ _).length ≤ 3
        have : ∀ r w o, (saidW r w o).length ≤ 1 := fun r w o => by unfold saidW; split <;> simp
        have := this (!sideW (q.code, o)) (want2 (isOn (q.code, o)) (SB (ixb (!sideW (q.code, o)) (q.code, o).2))).2.1 (q.code, o).2
        omega
      rw [← hpl] at P8 ⊢
      have HPL := Lib.hid hpl
      have HG8 := Lib.hid hg8
      have HF8 := Lib.hid hf8
      clear hh8 hu8 hg8 hf8 hpl f5 f6
      go_upto_region 14 with (at_builtin; refine append_any rfl _ _ rfl (base := s) O8.out P8.out rfl rfl (by have := HLL.out; have := HPL.out; omega) Q8.out.sz ?_; intro v' W9 hown hgrow)
      have hk9 := (hgrow.block px (lt_of_block K8.out) (fun e => part_ne K8.out O8.out e.symm)).trans K8.out
      have Q9 := Lib.hid (Q8.out.high (grown_high O8.out hgrow))
      rw [← flatW_append] at hown
      have O9 := Lib.hid hown
      obtain ⟨e0, e1, e2, e3, _⟩ := boxed7 hk9
      have hm9 : (net MA MB SA (wantW SB (q.code, o)).1 (ba ++ (wantW SB (q.code, o)).2)).F + (ba ++ (wantW SB (q.code, o)).2).length ≤ 2 * (k + 1) := by
        have h1 := HF8.out
        have h2 := HT.out.f
        rw [List.length_append]
        omega
      have HM9 := Lib.hid hm9
      clear hgrow hown hk9 hm9
      obtain ⟨ba2, hba2⟩ : ∃ ba2, ba2 = ba ++ (wantW SB (q.code, o)).2 := ⟨_, rfl⟩
      obtain ⟨SB2, hSB2⟩ : ∃ SB2, SB2 = (wantW SB (q.code, o)).1 := ⟨_, rfl⟩
      rw [← hba2] at O9 HG8 HM9
      rw [← hSB2] at Q9 HG8 HM9
      clear hba2 hSB2 HF8
      cases hsq : (bits .and .u16 q.h.seq 1 == 1)
      · go_wp2_with fail
        go_roundw
        case rel => exact ⟨k + 1, ba2, SA, SB2, nd, D, E, by omega, by go_num, Q9.out, O9.out, HG8.out, HM9.out⟩
        case measure => simp [intOf]; omega
      · have hlen2 : ba2.length ≤ 1000 := by have := HM9.out; omega
        go_wp2_with fail
        refine (turn_any _ ba2 HG8.out.wb hlen2 Q9.out.la Q9.out.lb hnm (O9.out.rowIn.mono fun k hk => by have := Q9.out.ap.d; omega) Q9.out.tw Q9.out.d0 Q9.out.e0).mono ?_
        rintro e W10 ⟨p10, nd10, D10, E10, rfl, hp10, hq10, hd10, he10⟩
        have hrun := runW_ok MA SA Q9.out.la ba2 HG8.out.wb
        have hrun2 := runW_ok MB SB2 Q9.out.lb (runW MA SA ba2).2 hrun.ok
        have Q10 := Lib.hid (Q9.out.of Q9.out.sz hq10 hd10 he10 hrun.le hrun2.le)
        have O10 := Lib.hid (hp10.lower Q9.out.sz)
        obtain ⟨hg10, hf10⟩ := net_turn HG8.out
        have HG10 := Lib.hid hg10
        have HF10 := Lib.hid hf10
        clear hp10 hq10 hd10 he10 hrun hrun2 hg10 hf10 hlen2
        go_wp2_with fail
        go_roundw
        case rel => exact ⟨k + 1, _, _, _, nd10, D10, E10, by omega, by go_num, Q10.out, O10.out, HG10.out, by have := HF10.out; have := HM9.out; omega⟩
        case measure => simp [intOf]; omega
    · obtain rfl : n = k := by omega
      have hm60 : 2 * n ≤ 60 := by omega
      have HO17 := Lib.hid HT.out
      clear HLL hl180 hbal
      go_upto_region 17 with fail
      go_loopw [13, 14] (fun v i wr => RoundRel w bt bh bd be s nmI MA MB v i wr) (fun _ i _ => 61 - (intOf i).toNat)
      case atStart => exact ⟨0, 2 * n, ba, SA, SB, nd, D, E, by omega, rfl, HO17.out⟩
      case round =>
        obtain ⟨j, m, bb, SA, SB, nd, D, E, hjm, rfl, htr⟩ := hrel
        have HT := Lib.hid htr
        have hbl : bb.length ≤ 1000 := by have := htr.f; omega
        obtain ⟨va, vc, rfl⟩ := htr.own.slice
        obtain ⟨l, hl⟩ : ∃ l, l = (flatW bb).length := ⟨_, rfl⟩
        rw [← hl] at HT ⊢
        rw [flatW_length] at hl
        have HLL := Lib.hid hl
        have hj60 : (j : Int) ≤ 60 := by omega
        have hj0 : (0 : Int) ≤ (j : Int) := Int.natCast_nonneg _
        clear htr hl HO17
        by_cases hl0 : 0 < l
        · have hl0i : (0 : Int) < (l : Int) := by omega
          have hm1 : 1 ≤ m := by have := HT.out.f; have := HLL.out; omega
          clear hl0
          go_wp2_with fail
          refine (turn_any _ bb HT.out.good.wb hbl HT.out.q.la HT.out.q.lb hnm (HT.out.own.rowIn.mono fun k hk => by have := HT.out.q.ap.d; omega) HT.out.q.tw HT.out.q.d0 HT.out.q.e0).mono ?_
          rintro e W10 ⟨p10, nd10, D10, E10, rfl, hp10, hq10, hd10, he10⟩
          have hrun := runW_ok MA SA HT.out.q.la bb HT.out.good.wb
          have hrun2 := runW_ok MB SB HT.out.q.lb (runW MA SA bb).2 hrun.ok
          have Q10 := Lib.hid (HT.out.q.of HT.out.q.sz hq10 hd10 he10 hrun.le hrun2.le)
          have O10 := Lib.hid (hp10.lower HT.out.q.sz)
          obtain ⟨hg10, hf10⟩ := net_turn HT.out.good
          have HG10 := Lib.hid hg10
          have HF10 := Lib.hid hf10
          have hdec : decide ((100 : Int) < (j : Int) + 1) = false := by simp; omega
          clear hp10 hq10 hd10 he10 hrun hrun2 hg10 hf10 hl0i
          go_wp2_with fail
          go_roundw
          case rel => exact ⟨j + 1, m - 1, _, _, _, nd10, D10, E10, by omega, by go_num, Q10.out, O10.out, HG10.out, by have := HF10.out; have := HT.out.f; have := HLL.out; omega⟩
          case measure => simp [intOf]; omega
        · obtain rfl : l = 0 := by omega
          have hb0 : bb = [] := List.eq_nil_of_length_eq_zero (by have := HLL.out; omega)
          subst hb0
          have hst : ∀ r o, o < 256 → SA (ixb r o) = SB (ixb (!r) o) ∧ SA (ixb r o) ≤ 1 := fun r o ho => HT.out.good.rest rfl rfl r o ho
          have HST := Lib.hid hst
          have HQ := Lib.hid HT.out.q
          clear hst HT HLL hl0
          go_upto_region 23 with fail
          go_loopw [19] (fun i wr => LastRel w bt bh bd be s nmI MA MB SA SB D E i wr) (fun i _ => 256 - (intOf i).toNat)
          case atStart => exact ⟨0, nd, by omega, rfl, HQ.out⟩
          case round =>
            obtain ⟨o, nd, ho, rfl, hq⟩ := hrel
            have HQ := Lib.hid hq
            clear hq
            by_cases hon : o < 256
            · have hoi : (o : Int) < 256 := by omega
              have ho0 : (0 : Int) ≤ (o : Int) := Int.natCast_nonneg _
              have hwr : IntKind.u8.wrap (o : Int) = o := by show ((o : Int)) % 256 = o; omega
              obtain ⟨e1, _⟩ := HST.out true o hon
              obtain ⟨e2, _⟩ := HST.out false o hon
              have E1 : Hid (stOf SB false o = stOf SA true o) := Lib.hid e1.symm
              have E2 : Hid (stOf SB true o = stOf SA false o) := Lib.hid e2.symm
              obtain ⟨x1, hx1⟩ : ∃ x1, x1 = stOf SA true o := ⟨_, rfl⟩
              obtain ⟨x2, hx2⟩ : ∃ x2, x2 = stOf SA false o := ⟨_, rfl⟩
              rw [← hx1] at E1
              rw [← hx2] at E2
              have X1 := Lib.hid hx1.symm
              have X2 := Lib.hid hx2.symm
              have HON := Lib.hid hon
              clear e1 e2 hx1 hx2 hon
              go_wp2_with fail
              refine (options_any HQ.out.tk).mono ?_
              rintro e W11 ⟨rfl, ht11, hu11⟩
              have Q11 := Lib.hid (HQ.out.talk hu11 ht11)
              clear ht11 hu11
              go_wp2_with fail
              refine (state_talk true o HON.out Q11.out.tk).mono ?_
              rintro e W' ⟨rfl, rfl⟩
              rw [X1.out]
              go_wp2_with fail
              refine (state_any false o HON.out Q11.out.oh).mono ?_
              rintro e W' ⟨rfl, rfl⟩
              rw [E1.out]
              go_wp2_with fail
              refine (options_any Q11.out.tk).mono ?_
              rintro e W12 ⟨rfl, ht12, hu12⟩
              have Q12 := Lib.hid (Q11.out.talk hu12 ht12)
              clear ht12 hu12
              go_wp2_with fail
              refine (state_talk false o HON.out Q12.out.tk).mono ?_
              rintro e W' ⟨rfl, rfl⟩
              rw [X2.out]
              go_wp2_with fail
              refine (state_any true o HON.out Q12.out.oh).mono ?_
              rintro e W' ⟨rfl, rfl⟩
              rw [E2.out]
              go_wp2_with fail
              go_roundw
              case rel => exact ⟨o + 1, _, by have := HON.out; omega, by go_num, Q12.out⟩
              case measure => have := HON.out; simp [intOf]; omega
            · obtain rfl : o = 256 := by omega
              have hb1 : busyB SB = false := by
                unfold busyB
                rw [bz_false (S := SB) (off := 256) (fun k hk => by
                  obtain ⟨a1, a2⟩ := HST.out false k hk
                  have a1 : SA (ixb false k) = SB (256 + k) := a1
                  omega), bz_false (S := SB) (off := 768) (fun k hk => by
                  obtain ⟨a1, a2⟩ := HST.out true k hk
                  have a1 : SA (ixb true k) = SB (768 + k) := a1
                  omega)]
                rfl
              have HB1 := Lib.hid hb1
              clear hb1
              go_wp2_with fail
              refine (busy_any HQ.out.oh).mono ?_
              rw [HB1.out]
              rintro e W' ⟨rfl, rfl⟩
              go_wp2_with fail
              refine (options_any HQ.out.tk).mono ?_
              rintro e W11 ⟨rfl, ht11, hu11⟩
              have Q11 := Lib.hid (HQ.out.talk hu11 ht11)
              clear ht11 hu11
              go_wp2_with fail
              refine (busy_talk Q11.out.tk (fun k hk => (HST.out true k hk).2) (fun k hk => (HST.out false k hk).2)).mono ?_
              rintro e W' ⟨rfl, rfl⟩
              go_wp2_with fail
              go_ret
              exact ⟨rfl, Q11.out.old⟩
end Go.Proofs.Ytkolhjglehnigaa.Talk
