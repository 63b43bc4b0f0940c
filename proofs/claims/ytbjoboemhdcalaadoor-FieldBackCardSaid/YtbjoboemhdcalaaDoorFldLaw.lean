/- What the laws on field share: alive. -/
import Derived.Test.YtbjoboemhdcalaaDoorFldSame
import Derived.Test.YtbjoboemhdcalaaDoorFldGet
import Derived.Test.YtbjoboemhdcalaaDoorFldPl
namespace Go.Proofs.YtbjoboemhdcalaaDoor
open Go.RowKit
set_option maxRecDepth 100000

/-- ms=120 user=ann -/
def Fld.line : List UInt8 := [109, 115, 61, 49, 50, 48, 32, 117, 115, 101, 114, 61, 97, 110, 110]
/-- its cells -/
def Fld.cells : Array Value := #[.int .u8 109, .int .u8 115, .int .u8 61, .int .u8 49, .int .u8 50, .int .u8 48, .int .u8 32, .int .u8 117, .int .u8 115, .int .u8 101, .int .u8 114, .int .u8 61, .int .u8 97, .int .u8 110, .int .u8 110]
theorem Fld.cells_at : ∀ i (h : i < Fld.line.length), Fld.cells[i]? = some (bval Fld.line[i])
  | 0, _ => rfl
  | 1, _ => rfl
  | 2, _ => rfl
  | 3, _ => rfl
  | 4, _ => rfl
  | 5, _ => rfl
  | 6, _ => rfl
  | 7, _ => rfl
  | 8, _ => rfl
  | 9, _ => rfl
  | 10, _ => rfl
  | 11, _ => rfl
  | 12, _ => rfl
  | 13, _ => rfl
  | 14, _ => rfl
  | k + 15, h => absurd h (by simp [Fld.line])
theorem line_bytes (w : World) : Bytes (w.alloc (.cells Fld.cells 5 (15, 16))) (w.alloc (.cells Fld.cells 5 (15, 16))).heap.size (some ⟨w.heap.size, 0, none⟩) Fld.line := fun _ =>
  ⟨_, rfl, by simp, fun i hi => (show _ = _ from by rw [show (Addr.add ⟨w.heap.size, 0, none⟩ i) = ⟨w.heap.size, i, none⟩ from by rw [Addr.add_lit, Nat.zero_add]]; exact (cell_marked w _ _ _ i).trans (Fld.cells_at i hi))⟩
theorem run_line (w : World) : (convert 31 31 (.slice (some ⟨w.heap.size, 0, none⟩) 15 15)).run Tryd.prog (w.alloc (.cells Fld.cells 5)) = .ok (.slice (some ⟨w.heap.size, 0, none⟩) 15 15) (w.alloc (.cells Fld.cells 5 (15, 16))) :=
  Lib.run_convert_bytes_const (P := Tryd.prog) w 31 5 Fld.cells 15 15 Tryd.underlying31 Tryd.underlying5
theorem Fld.itoa_120 : Lib.itoa 120 = [49, 50, 48] := by
  unfold Lib.itoa
  rw [if_neg (by omega)]
  show Lib.decDigits 120 = _
  rw [Fld.dec_big (by omega), Fld.dec_big (by omega), Fld.dec_small (by omega)]
  rfl
theorem Fld.num_ann : Fld.num [97, 110, 110] = none := by
  cases h : Fld.num [97, 110, 110] with
  | none => rfl
  | some v =>
    exfalso
    obtain ⟨h1, _, _⟩ := Fld.num_iff.1 h
    unfold Lib.itoa at h1
    split at h1
    · injection h1 with h1; cases h1
    · obtain ⟨c, r, hd, hc, hc2⟩ := Fld.dec_first v.toNat
      rw [hd] at h1
      injection h1 with h1 _
      subst h1
      simp at hc2
theorem Fld.read_line : Fld.read Fld.line = [⟨[109, 115], 1, 120, []⟩, ⟨[117, 115, 101, 114], 2, 0, [97, 110, 110]⟩] := by
  have h := (Fld.read_cat [109, 115, 61, 49, 50, 48] [117, 115, 101, 114, 61, 97, 110, 110] 32 rfl).2
  have h1 := Fld.read_one (k := [109, 115]) (v := [49, 50, 48]) (by decide) (by decide) (by decide)
  have h2 := Fld.read_one (k := [117, 115, 101, 114]) (v := [97, 110, 110]) (by decide) (by decide) (by decide)
  have n1 : Fld.num [49, 50, 48] = some 120 := Fld.num_iff.2 ⟨Fld.itoa_120, by omega, by omega⟩
  unfold Fld.mk at h1 h2
  rw [n1] at h1
  rw [Fld.num_ann] at h2
  simp only [List.cons_append, List.nil_append] at h1 h2 h
  rw [h1, h2] at h
  exact (h (by decide)).trans (by decide)

set_option maxHeartbeats 1000000 in
theorem fldAlive_any (w : World) (hv : Vars w) : Calls Tryd.prog 9 #[] w fun e w' => e = .returned (.bool true) ∧ Below w.heap.size w w' := by
  have hb1 : Below w.heap.size w (w.alloc (.cells Fld.cells 5 (15, 16))) := (Below.refl _ _).alloc (Nat.le_refl _) _
  have P1 := read_any _ 15 15 _ _ rfl (by omega) (by omega) (line_bytes w) (hv.below hb1)
  rw [Fld.read_line] at P1
  replace P1 := Lib.hid P1
  have hcv := run_line w
  have he1 : ∀ W, _ := fun W => run_eq_field [109, 115] [109, 115] 1 1 120 120 [] [] W
  rw [decide_eq_true rfl] at he1
  have he2 : ∀ W, _ := fun W => run_eq_field [117, 115, 101, 114] [117, 115, 101, 114] 2 2 0 0 [97, 110, 110] [97, 110, 110] W
  rw [decide_eq_true rfl] at he2
  have hgd := guard_field
  clear hv
  unfold Fld.cells at hcv hb1 P1
  unfold ReadPost at P1
  go_enter Tryd.func9, Tryd.ntmps9
  go_wp2_with fail
  refine P1.out.mono ?_
  rintro e w2 ⟨A2, c2, rfl, ho2, hb2⟩
  have hbel2 := hb1.trans (hb2.mono hb1.size)
  obtain ⟨g, rfl, _, a0, a1, a2, a3⟩ := ho2.flds.get (k := 0) (by simp)
  obtain ⟨g', hg', _, b0, b1, b2, b3⟩ := ho2.flds.get (k := 1) (by simp)
  cases hg'
  simp only [List.getElem_cons_zero, List.getElem_cons_succ, Nat.zero_mul, Nat.one_mul, Nat.zero_add] at a0 a1 a2 a3 b0 b1 b2 b3
  simp only [List.length_cons, List.length_nil, Nat.zero_add, Nat.reduceAdd] at *
  clear P1 hb1 hb2 hcv ho2
  go_wp2
  go_ret
  exact ⟨rfl, hbel2⟩
end Go.Proofs.YtbjoboemhdcalaaDoor
