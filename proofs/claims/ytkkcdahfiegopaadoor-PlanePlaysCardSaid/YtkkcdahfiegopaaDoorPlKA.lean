/-
  What Find answers, plainly; the package variables that it reads.
-/
import Derived.Test.YtkkcdahfiegopaaDoorPlI
import Derived.Shelf.Unicode.DecodeSlow
import Derived.Lib.ValidU
import Derived.Lib.RuneCount
import Derived.Lib.IndexBytes
namespace Go.Proofs.YtkkcdahfiegopaaDoor.Pl
open Go.RowKit Go.Shelf Base
set_option linter.unusedVariables false
set_option linter.unusedSimpArgs false

/-- What a search reads of package variables: blocks 0 to 2. -/
structure Glob (w : World) : Prop where
  tabs : Lib.Utf8Tabs 0 1 w
  most : ∃ m, w.cell? ⟨2, 0, none⟩ = some (.int .i64 m)
theorem Glob.below {w w' : World} (h : Glob w) (t : Below w.heap.size w w') : Glob w' := by
  obtain ⟨⟨h1, h2⟩, m, h3⟩ := h
  exact ⟨⟨fun c hc => cell_later t (h1 c hc), fun i hi => ⟨cell_later t (h2 i hi).1, cell_later t (h2 i hi).2⟩⟩, m, cell_later t h3⟩
/-- The first place from which on a text stands, as the program looks for it. -/
def allL (page : Int) (L : List Cl) (k : Nat) : List UInt8 := textL page L 0 L.length ++ textL page L 0 ((k : Int) - 1)
def findL (page : Int) (L : List Cl) (t : List UInt8) : Int :=
  if L.length < Lib.runeCount ⟨t.toArray⟩ then -1 else if Lib.validD t = false then -1 else
    if Lib.index (allL page L (Lib.runeCount ⟨t.toArray⟩)) t < 0 then -1 else Lib.runeCount ⟨((allL page L (Lib.runeCount ⟨t.toArray⟩)).take (Lib.index (allL page L (Lib.runeCount ⟨t.toArray⟩)) t).toNat).toArray⟩
theorem signL_le (page : Int) (x : Cl) (h : x.Ok) : (signL page x).length ≤ 4 := by
  unfold signL
  split
  · simp
  · split
    · rw [geL_length x.b h.1.1 h.1.2]; omega
    · exact Code.piece_le page x.b
theorem textC_le (page : Int) : ∀ P : List Cl, (∀ x ∈ P, x.Ok) → (textC page P).length ≤ 4 * P.length
  | [], _ => by simp [textC]
  | x :: P, h => by
    have h1 := signL_le page x (h x (by simp))
    have h2 := textC_le page P (fun y hy => h y (by simp [hy]))
    simp only [textC, List.flatMap_cons, List.length_append, List.length_cons] at h2 ⊢
    omega
theorem cellsL_ok {L : List Cl} (h : OkL L) (from_ n : Int) : ∀ x ∈ cellsL L from_ n, x.Ok := by
  intro x hx
  rw [← cellsO_val h] at hx
  obtain ⟨y, _, rfl⟩ := List.mem_map.1 hx
  exact y.2
theorem cellsL_le {L : List Cl} (hm : L.length ≤ 4096) (from_ n : Int) : (cellsL L from_ n).length ≤ 4096 := by
  unfold cellsL
  split
  · simp
  · rw [List.length_map]; exact betw_length _ _ _ (by omega)
theorem textL_le {L : List Cl} (h : OkL L) (hm : L.length ≤ 4096) (page from_ n : Int) : (textL page L from_ n).length ≤ 16384 := by
  have h1 := textC_le page _ (cellsL_ok h from_ n)
  have h2 := cellsL_le hm from_ n
  unfold textL
  omega
/-- The contract of Find, as the example takes it. -/
def FindK : Prop := ∀ {w : World} {b g : Nat} {r c cur : Int} {L : List Cl}, PlAt w b g r c cur L → OkL L → Glob w → ∀ (page : Int) (t : List UInt8), t.length ≤ 1000000000000000 →
    Calls Tryd.prog 25 #[.pointer (some ⟨b, 0, none⟩), .int .i64 page, .string ⟨t.toArray⟩] w fun e W => e = .returned (.int .i64 (findL page L t)) ∧ Below w.heap.size w W
end Go.Proofs.YtkkcdahfiegopaaDoor.Pl
