/- The document's Block. -/
import Derived.Test.YtcknijkjacgnkaaRefBy
namespace Go.Proofs.Ytcknijkjacgnkaa
open Go.RowKit

theorem Pfor.best_step (f : Nat → Nat) {j : Nat} (hj : 1 ≤ j) : Pfor.best f j = if f j < f (Pfor.best f (j - 1)) then j else Pfor.best f (j - 1) := by
  obtain ⟨i, rfl⟩ : ∃ i, j = i + 1 := ⟨j - 1, by omega⟩
  rfl

set_option maxHeartbeats 1000000 in
theorem refBlock_any (A : Option Addr) (n cap B : Nat) (l : List UInt64) (w : World) (hl : l.length = n) (h1 : 1 ≤ n) (hn : n ≤ 32) (hb : Nums w B A l) (hB : B ≤ w.heap.size) :
    Calls Try.prog 15 #[.slice A n cap] w (MadeIn w.heap.size w (Pfor.block l).length (Pfor.block l)) := by
  have hb := hb.wide hB
  have HB := Lib.hid (fun (v : Nat) (hv : v ≤ 64) (wr : World) (hbel : Below w.heap.size w wr) => refBy_any A n cap _ v l wr hl h1 hn hv (hb.below hbel) hbel.size)
  have H0 := Lib.hid (HB.out 0 (by omega) w (Below.refl _ _))
  have hsz := Lib.hid (fun v (hv : v ≤ 64) => Pfor.byW_length_le hv (show l.length ≤ 32 by omega))
  have hstep := Lib.hid (fun j (hj : 1 ≤ j) => Pfor.best_step (fun v => Pfor.bodySize v (Pfor.diffs l)) hj)
  have hcmp := Lib.hid (fun v v' => show (Pfor.byW v l).length < (Pfor.byW v' l).length ↔ Pfor.bodySize v (Pfor.diffs l) < Pfor.bodySize v' (Pfor.diffs l) from by rw [Pfor.byW_length, Pfor.byW_length]; omega)
  have hend : Pfor.block l = Pfor.byW (Pfor.best (fun v => Pfor.bodySize v (Pfor.diffs l)) 64) l := rfl
  have Hend := Lib.hid hend
  rw [hend]
  clear hend hl hb
  generalize hf : (fun v => Pfor.bodySize v (Pfor.diffs l)) = f at *
  have Hf := Lib.hid (fun v => show Pfor.bodySize v (Pfor.diffs l) = f v from by rw [← hf])
  clear hf
  generalize hF : (fun v => Pfor.byW v l) = F at *
  have HF := Lib.hid (fun v => show Pfor.byW v l = F v from by rw [← hF])
  clear hF
  simp only [HF.out, Hf.out] at HB H0 hsz hcmp hstep ⊢
  clear Hf HF Hend
  go_enter Try.func15, Try.ntmps15
  go_wp2_with fail
  refine H0.out.mono ?_
  rintro e w1 ⟨g1, k1, rfl, ho1, hb1⟩
  clear H0
  go_wp2
  go_loopw [3, 4] (fun s i wr => ∃ (j m g c : Nat), 1 ≤ j ∧ j ≤ 65 ∧ i = .int .i64 j ∧ m ≤ 64 ∧ m = Pfor.best f (j - 1) ∧ s = .slice (some ⟨g, 0, none⟩) (F m).length c ∧ Own wr w.heap.size (some ⟨g, 0, none⟩) (F m).length c (F m) ∧ Below w.heap.size w wr) (fun _ i _ => 65 - (intOf i).toNat)
  case atStart => exact ⟨1, 0, g1, k1, by omega, by omega, rfl, by omega, rfl, rfl, ho1, hb1⟩
  case round =>
    clear ho1 hb1
    obtain ⟨j, m, g, c, hj1, hj, rfl, hm64, hm, rfl, ho, hbr⟩ := hrel
    have Hm := Lib.hid hm; clear hm
    have hszr := hbr.size
    have hl1 := hsz.out m hm64
    by_cases hlt : j ≤ 64
    · have C1 := Lib.hid (HB.out j hlt wr hbr)
      have hl2 := hsz.out j hlt
      have hst := hstep.out j hj1
      rw [← Hm.out] at hst
      have hc := hcmp.out j m
      by_cases hless : (F j).length < (F m).length
      · rw [if_pos (hc.1 hless)] at hst
        have Hst := Lib.hid hst
        clear hst hc
        go_wp2_with fail
        refine C1.out.mono ?_
        rintro e w2 ⟨g2, k2, rfl, ho2, hb2⟩
        clear C1
        go_wp2
        go_roundw
        case rel => exact ⟨j + 1, j, g2, k2, by omega, by omega, by go_num, hlt, by rw [Nat.add_sub_cancel]; exact Hst.out.symm, rfl, ho2.low hszr, hbr.trans (hb2.mono hszr)⟩
        case measure => simp [intOf]; omega
      · rw [if_neg (fun h => hless (hc.2 h))] at hst
        have Hst := Lib.hid hst
        clear hst hc
        go_wp2_with fail
        refine C1.out.mono ?_
        rintro e w2 ⟨g2, k2, rfl, ho2, hb2⟩
        clear C1
        go_wp2
        go_roundw
        case rel => exact ⟨j + 1, m, g, c, by omega, by omega, by go_num, hm64, by rw [Nat.add_sub_cancel]; exact Hst.out.symm, rfl, ho.below hb2, hbr.trans (hb2.mono hszr)⟩
        case measure => simp [intOf]; omega
    · obtain rfl : j = 65 := by omega
      have hm := Hm.out
      simp only [Nat.reduceSub] at hm
      go_wp2
      go_ret
      rw [← hm]
      exact ⟨g, c, rfl, ho, hbr⟩
end Go.Proofs.Ytcknijkjacgnkaa
