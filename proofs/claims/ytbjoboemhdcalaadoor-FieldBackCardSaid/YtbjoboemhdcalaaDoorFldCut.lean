/- bytes.Cut around the first = ; field.fieldOf: the field of a word. -/
import Derived.Test.YtbjoboemhdcalaaDoorFldAt
import Derived.Test.YtbjoboemhdcalaaDoorFldLayB
import Derived.Test.YtbjoboemhdcalaaDoorCuts
import Derived.Test.YtbjoboemhdcalaaDoorBytesEq
import Derived.Lib.SlBytesConst
namespace Go.Proofs.YtbjoboemhdcalaaDoor
open Go.RowKit
set_option maxRecDepth 100000

theorem Fld.index_eq : ∀ l : List UInt8, Lib.indexByte l 61 = if Fld.eqAt l < l.length then (Fld.eqAt l : Int) else -1
  | [] => rfl
  | c :: r => by
    rw [Lib.indexByte, Fld.index_eq r, Fld.eqAt]
    by_cases hc : c.toNat = 61
    · have : (c == 61) = true := by simp only [beq_iff_eq]; exact UInt8.toNat_inj.1 hc
      rw [if_pos this, if_pos hc, if_pos (by simp)]
      rfl
    · have : ¬ (c == 61) = true := fun e => hc (by rw [beq_iff_eq.1 e]; rfl)
      rw [if_neg this, if_neg hc]
      by_cases hr : Fld.eqAt r < r.length
      · have h1 : ¬ (((Fld.eqAt r : Nat) : Int) == -1) = true := by
          simp only [beq_iff_eq]; omega
        have h2 : Fld.eqAt r + 1 < (c :: r).length := by rw [List.length_cons]; omega
        rw [if_pos hr, if_neg h1, if_pos h2]
        omega
      · have h2 : ¬ Fld.eqAt r + 1 < (c :: r).length := by rw [List.length_cons]; omega
        rw [if_neg hr, if_neg h2]
        rfl
theorem bytesOf_map (l : List UInt8) : Lib.bytesOf (l.map fun b => (b.toNat : Int)) = l := by
  unfold Lib.bytesOf
  rw [List.map_map]
  conv => rhs; rw [← List.map_id l]
  apply List.map_congr_left
  intro b _
  simp
/-- what bytes.Cut answers -/
def cutAns (ad : Addr) (n c : Nat) (l : List UInt8) : Value :=
  if Fld.eqAt l < l.length then .tuple #[.slice (some ad) (Fld.eqAt l) c, .slice (cutAt (some ad) c (Fld.eqAt l + 1)) (n - (Fld.eqAt l + 1)) (c - (Fld.eqAt l + 1)), .bool true] else .tuple #[.slice (some ad) n c, .slice none 0 0, .bool false]
theorem cut_any (ad : Addr) (n c B g d : Nat) (l : List UInt8) (w : World) (hl : l.length = n) (hnc : n ≤ c) (hn : n ≤ 140737488355328) (hb : Bytes w B (some ad) l) (hne : l ≠ []) (hg : w.cell? ⟨g, 0, none⟩ = some (.int .u8 61)) :
    Calls Tryd.prog 41 #[.slice (some ad) n c, .slice (some ⟨g, 0, none⟩) 1 d] w fun e w' => e = .returned (cutAns ad n c l) ∧ Drawn w w' := by
  have hidx := Any.bytes_Index_one_at Tryd.indexL ad n c g 0 d (l.map fun b => (b.toNat : Int)) 61 w (by simpa using hl) (fun i hi => by
    obtain ⟨ad', h, _, hc⟩ := hb hne
    cases h
    rw [hc i (by omega)]
    simp [List.getD_eq_getElem?_getD, List.getElem?_eq_getElem (show i < l.length by omega), bval]) hg
  rw [bytesOf_map, show ((61 : Int).toNat.toUInt8) = 61 from rfl, Fld.index_eq] at hidx
  have hle := Fld.eqAt_le l
  have := Any.bytes_Cut_of Tryd.cutL (some ad) (some ⟨g, 0, none⟩) n c 1 d (if Fld.eqAt l < l.length then (Fld.eqAt l : Int) else -1) w hnc (by split <;> omega) (by split <;> omega) (by omega) (hidx.mono fun _ _ ⟨he, hw⟩ => ⟨he, 0, by rw [hw]; rfl⟩)
  refine this.mono fun e w' ⟨he, q, hq⟩ => ⟨?_, q, hq⟩
  rw [he]
  congr 1
  unfold cutAns Lib.cutV
  by_cases h : Fld.eqAt l < l.length
  · simp only [if_pos h]
    rw [if_pos (by omega)]
    rfl
  · simp only [if_neg h]
    rw [if_neg (by omega)]
end Go.Proofs.YtbjoboemhdcalaaDoor
