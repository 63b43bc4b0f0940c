/- crc.frameSize, bytes.Clone and crc.payload. -/
import Derived.Test.YtgjofpjijnbjeaaDoorRead
namespace Go.Proofs.YtgjofpjijnbjeaaDoor
open Go.RowKit

theorem below_drewN {B : Nat} {a w : World} (h : Below B a w) (q : Nat) : Below B a (w.drewN q) := ⟨h.os, h.tape, h.output, h.size, h.block⟩
theorem below_of_drewN {B : Nat} {w w' : World} {q : Nat} (h : Below B (w.drewN q) w') : Below B w w' := ⟨h.os, h.tape, h.output, h.size, h.block⟩
theorem Bytes.drewN {w : World} {B : Nat} {A : Option Addr} {l : List UInt8} (h : Bytes w B A l) (q : Nat) : Bytes (w.drewN q) B A l := h
theorem Table.drewN {w : World} (h : Table w) (q : Nat) : Table (w.drewN q) := h

theorem size8 (W : World) : (sizeOf 5).run Tryd.prog W = .ok 1 W := by
  obtain ⟨i0, hi0, hz0, hz1, hz2⟩ := info_parts byte_info
  simp [sizeOf, typeInfo, hi0, hz1]
theorem elem22 : Tryd.prog.elem 22 = 5 := by kernel_rfl
theorem run_cut (ad : Addr) (n cap lo hi : Nat) (h1 : lo ≤ hi) (h2 : hi ≤ cap) (h3 : 0 < lo) (h4 : lo < cap) (W : World) :
    (Instr.slice 22 (.slice (some ad) n cap) (some (.int .i64 (lo : Int))) (some (.int .i64 (hi : Int))) none).run Tryd.prog W = .ok (.slice (some (ad.add lo)) (hi - lo) (cap - lo)) W := by
  rw [run_slice_lh (P := Tryd.prog) (w := W) (kl := .i64) (kh := .i64) (l := (lo : Int)) (h := (hi : Int)) (h0 := by omega) (h1 := by omega) (h2 := by omega) (ht := by rw [elem22]; exact Tryd.underlying22)]
  rw [elem22, size8]
  simp [Result.andThen, sliced]
  omega
theorem run_cut_to (ad : Addr) (n cap hi : Nat) (h2 : hi ≤ cap) (W : World) :
    (Instr.slice 22 (.slice (some ad) n cap) none (some (.int .i64 (hi : Int))) none).run Tryd.prog W = .ok (.slice (some ad) hi cap) W := by
  rw [run_slice_h (P := Tryd.prog) (w := W) (kh := .i64) (h := (hi : Int)) (h0 := by omega) (h2 := by omega) (ht := by rw [elem22]; exact Tryd.underlying22)]
  rw [elem22, size8]
  by_cases hc : cap = 0 <;> simp [Result.andThen, sliced, Addr.add]

/-- what is wrong with the size of the frame that l begins with; 0: nothing -/
def sizeErr (l : List UInt8) : Nat := if l.length < 8 then 3 else if 16777216 < word l then 5 else if l.length < word l + 8 then 3 else 0

set_option maxHeartbeats 400000 in
theorem frameSize_err (A : Option Addr) (n cap B : Nat) (l : List UInt8) (w : World) (hl : l.length = n) (hm : n ≤ 140737488355328) (hb : Bytes w B A l) (he : sizeErr l ≠ 0) :
    Calls Tryd.prog 27 #[.slice A n cap] w fun e w' => e = .returned (.tuple #[.int .i64 0, .int .i64 ((sizeErr l : Nat) : Int)]) ∧ ∃ q, w' = w.drewN q := by
  by_cases h8 : n < 8
  · have hE : sizeErr l = 3 := by unfold sizeErr; rw [if_pos (by omega)]
    rw [hE]
    clear hE he hb hl
    go_enter Tryd.func27, Tryd.ntmps27
    go_wp2
    go_ret2
    exact ⟨rfl, 0, rfl⟩
  · have H := fun W => Lib.hid (readWord_any A n cap B l W hl (by omega) hm)
    have hlt := word_lt l
    by_cases h24 : 16777216 < word l
    · have hE : sizeErr l = 5 := by unfold sizeErr; rw [if_neg (by omega), if_pos h24]
      rw [hE]
      clear hE he hl
      generalize word l = m at *
      go_enter Tryd.func27, Tryd.ntmps27
      go_wp2_with fail
      refine ((H w).out hb).mono ?_
      rintro e w1 ⟨rfl, q, rfl⟩
      clear H hb
      go_wp2
      go_ret2
      exact ⟨rfl, q, rfl⟩
    · by_cases hs : n < word l + 8
      · have hE : sizeErr l = 3 := by unfold sizeErr; rw [if_neg (by omega), if_neg h24, if_pos (by omega)]
        rw [hE]
        clear hE he hl
        generalize word l = m at *
        go_enter Tryd.func27, Tryd.ntmps27
        go_wp2_with fail
        refine ((H w).out hb).mono ?_
        rintro e w1 ⟨rfl, q, rfl⟩
        clear H hb
        go_wp2
        go_ret2
        exact ⟨rfl, q, rfl⟩
      · exact absurd (by unfold sizeErr; rw [if_neg (by omega), if_neg h24, if_neg (by omega)]) he

theorem sizeErr_zero {l : List UInt8} (h : sizeErr l = 0) : 8 ≤ l.length ∧ word l ≤ 16777216 ∧ word l + 8 ≤ l.length := by
  unfold sizeErr at h
  split at h
  · cases h
  · split at h
    · cases h
    · split at h
      · cases h
      · omega

set_option maxHeartbeats 400000 in
theorem frameSize_ok (A : Option Addr) (n cap B : Nat) (l : List UInt8) (w : World) (hl : l.length = n) (hm : n ≤ 140737488355328) (hb : Bytes w B A l) (he : sizeErr l = 0) :
    Calls Tryd.prog 27 #[.slice A n cap] w fun e w' => e = .returned (.tuple #[.int .i64 ((word l : Nat) + 8 : Int), .int .i64 0]) ∧ ∃ q, w' = w.drewN q := by
  obtain ⟨h1, h2, h3⟩ := sizeErr_zero he
  rw [hl] at h1 h3
  have H := Lib.hid (readWord_any A n cap B l w hl (by omega) hm hb)
  clear he hl hb
  generalize word l = m at *
  go_enter Tryd.func27, Tryd.ntmps27
  go_wp2_with fail
  refine H.out.mono ?_
  rintro e w1 ⟨rfl, q, rfl⟩
  clear H
  go_wp2
  go_ret2
  exact ⟨rfl, q, rfl⟩

set_option maxHeartbeats 400000 in
theorem clone_any (ad : Addr) (n cap B : Nat) (l : List UInt8) (w : World) (hl : l.length = n) (hn : n ≤ 140737488355328) (hb : Bytes w B (some ad) l) (hB : B ≤ w.heap.size) :
    Calls Tryd.prog 32 #[.slice (some ad) n cap] w (MadeAt w.heap.size w n l) := by
  have q22 : ∀ (w : World) (a : Option Addr) (n c n' c' : Nat), (binOp .eql 22 (.slice a n c) (.slice none n' c')).run Tryd.prog w = .ok (.bool a.isNone) w := fun w a n c n' c' => Lib.run_eql_slice_nil w _ _ a n c n' c' Tryd.underlying22
  have Hl := Lib.hid hl; clear hl
  have hb1 : Bytes (w.alloc (.cells #[] 5)) B (some ad) l := hb.below ((Below.refl _ _).alloc hB _)
  have ho1 : Own (w.alloc (.cells #[] 5)) w.heap.size (some ⟨w.heap.size, 0, none⟩) 0 0 [] := own_made w w.heap.size #[] 0 (Nat.le_refl _) (by simp only [maxLen]; omega) rfl
  have hbel : Below w.heap.size w (w.alloc (.cells #[] 5)) := (Below.refl _ _).alloc (Nat.le_refl _) _
  clear hb
  go_enter Tryd.func32, Tryd.ntmps32
  go_wp2_with (at_builtin; refine wpList_append_bytes rfl (.tmp 5) (.tmp 6) rfl w.heap.size _ 0 0 [] rfl ho1 B (some ad) n cap l rfl Hl.out hb1 (by omega) (by simp) ?_; intro A1 c1 w1 ho2 hg2 hat2)
  go_ret
  rw [Nat.zero_add] at ho2
  refine ⟨A1, c1, by simp, ho2, hbel.grown hg2 (by simp) ?_⟩
  intro k hk
  simp [blk] at hk
  omega
end Go.Proofs.YtgjofpjijnbjeaaDoor
