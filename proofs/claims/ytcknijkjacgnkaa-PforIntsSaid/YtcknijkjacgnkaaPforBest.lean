/- pfor.bestWidth. -/
import Derived.Test.YtcknijkjacgnkaaPforEnc
namespace Go.Proofs.Ytcknijkjacgnkaa
open Go.RowKit

set_option maxHeartbeats 400000 in
theorem bestWidth_any (A : Option Addr) (n cap B : Nat) (l : List UInt64) (w : World) (hl : l.length = n) (hn : n ≤ 32) (hb : Nums w B A l) (hB : B ≤ w.heap.size) :
    Calls Try.prog 49 #[.slice A n cap] w fun e w' => e = .returned (.int .i64 (Pfor.best (fun v => Pfor.bodySize v l) (Bits.width l) : Int)) ∧ Below w.heap.size w w' := by
  have hb := hb.wide hB
  have H0 := Lib.hid (fun (wr : World) (hbel : Below w.heap.size w wr) => width_any A n cap _ l wr hl (by omega) (hb.below hbel))
  have H1 := Lib.hid (fun (v : Nat) (hv : v ≤ 64) (wr : World) (hbel : Below w.heap.size w wr) => bodySize_any A n cap _ v l wr hl hn hv (hb.below hbel) hbel.size)
  have hW := Bits.width_le64 l
  have hsz := Lib.hid (fun v (hv : v ≤ 64) => Pfor.bodySize_le hv (show l.length ≤ 32 by omega))
  clear hl hb
  generalize Bits.width l = W at *
  have H2 := Lib.hid (H1.out 0 (by omega) w (Below.refl _ _))
  obtain ⟨f, hf⟩ : ∃ f : Nat → Nat, f = fun v => Pfor.bodySize v l := ⟨_, rfl⟩
  have hf' : ∀ v, Pfor.bodySize v l = f v := fun v => by rw [hf]
  rw [← hf]
  simp only [hf'] at H1 H2 hsz
  clear hf hf'
  go_enter Try.func49, Try.ntmps49
  go_wp2_with fail
  refine H2.out.mono ?_
  rintro e w1 ⟨rfl, hb1⟩
  clear H2
  go_wp2
  go_loopw [3, 4, 5] (fun b s i wr => ∃ (j m F : Nat), 1 ≤ j ∧ j ≤ W + 1 ∧ i = .int .i64 j ∧ b = .int .i64 m ∧ m ≤ 64 ∧ s = .int .i64 F ∧ m = Pfor.best f (j - 1) ∧ F = f m ∧ Below w.heap.size w wr) (fun _ _ i _ => 65 - (intOf i).toNat)
  case atStart => exact ⟨1, 0, f 0, by omega, by omega, rfl, rfl, by omega, rfl, rfl, rfl, hb1⟩
  case round =>
    obtain ⟨j, m, F, hj1, hk, rfl, rfl, hm64, rfl, hm, hF, hbel⟩ := hrel
    have hF5 := hsz.out m hm64
    rw [← hF] at hF5
    have Hm := Lib.hid hm; clear hm
    have HF := Lib.hid hF; clear hF
    have C0 := Lib.hid (H0.out wr hbel)
    by_cases hlt : j ≤ W
    · have C1 := H1.out j (by omega) wr hbel
      have hG5 := hsz.out j (by omega)
      obtain ⟨G, hG⟩ : ∃ G, G = f j := ⟨_, rfl⟩
      rw [← hG] at C1
      rw [← hG] at hG5
      replace C1 := Lib.hid C1
      have HG := Lib.hid hG; clear hG
      have hbst : Pfor.best f j = if f j < f (Pfor.best f (j - 1)) then j else Pfor.best f (j - 1) := by
        obtain ⟨i, rfl⟩ : ∃ i, j = i + 1 := ⟨j - 1, by omega⟩
        rfl
      rw [← Hm.out, ← HF.out, ← HG.out] at hbst
      replace hbst := Lib.hid hbst
      by_cases hless : G < F
      · go_wp2_with fail
        refine C0.out.mono ?_
        rintro e w2 ⟨rfl, rfl⟩
        go_wp2_with fail
        refine C1.out.mono ?_
        rintro e w2 ⟨rfl, hb2⟩
        clear C0 C1
        go_wp2
        go_roundw
        case rel => exact ⟨j + 1, j, G, by omega, by omega, by go_num, rfl, by omega, rfl, by rw [Nat.add_sub_cancel, hbst.out, if_pos hless], HG.out, hbel.trans (hb2.mono hbel.size)⟩
        case measure => simp [intOf]; omega
      · go_wp2_with fail
        refine C0.out.mono ?_
        rintro e w2 ⟨rfl, rfl⟩
        go_wp2_with fail
        refine C1.out.mono ?_
        rintro e w2 ⟨rfl, hb2⟩
        clear C0 C1
        go_wp2
        go_roundw
        case rel => exact ⟨j + 1, m, F, by omega, by omega, by go_num, rfl, hm64, rfl, by rw [Nat.add_sub_cancel, hbst.out, if_neg hless], HF.out, hbel.trans (hb2.mono hbel.size)⟩
        case measure => simp [intOf]; omega
    · obtain rfl : j = W + 1 := by omega
      go_wp2_with fail
      refine C0.out.mono ?_
      rintro e w2 ⟨rfl, rfl⟩
      clear C0
      go_wp2
      go_ret
      exact ⟨by rw [Hm.out]; rfl, hbel⟩
end Go.Proofs.Ytcknijkjacgnkaa
