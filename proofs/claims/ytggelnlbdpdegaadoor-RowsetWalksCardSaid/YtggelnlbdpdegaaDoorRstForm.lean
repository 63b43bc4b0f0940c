/- rowset.Formed, rowset.Has, math/bits.OnesCount64, rowset.Count. -/
import Derived.Test.YtggelnlbdpdegaaDoorRstFns
import Derived.Test.YtggelnlbdpdegaaDoorRstPop
namespace Go.Proofs.YtggelnlbdpdegaaDoor
open Go.RowKit
set_option maxRecDepth 100000

/-- a box for a set -/
def boxed (w : World) (N : Int) (A : Option Addr) (n c : Nat) : World := w.alloc (.cells #[.int .i64 N, .slice A n c] 24)
theorem boxed_below (w : World) (N : Int) (A : Option Addr) (n c : Nat) : Below w.heap.size w (boxed w N A n c) := (Below.refl _ _).alloc (Nat.le_refl _) _

set_option maxHeartbeats 400000 in
theorem formed_any (N : Int) (A : Option Addr) (n c B : Nat) (ws : List UInt64) (w : World) (hl : ws.length = n) (hn : n ≤ 140737488351232) (hb : Nums w B A ws) (hB : B ≤ w.heap.size) :
    Calls Tryd.prog 9 #[rval N A n c] w fun e w' => e = .returned (.bool (Rst.formed N ws)) ∧ Below w.heap.size w w' := by
  have hbox := boxed_below w N A n c
  unfold boxed at hbox
  have H1 := Lib.hid (fun W => isSize_any N W)
  unfold rval
  by_cases h1 : 0 ≤ N ∧ N ≤ 4096
  · rw [decide_eq_true h1] at H1
    obtain ⟨m, rfl⟩ : ∃ m : Nat, N = m := ⟨N.toNat, by omega⟩
    have hm : m ≤ 4096 := by omega
    have H2 := Lib.hid (fun W => wordCount_any m W hm)
    by_cases h2 : n = Rst.need m
    · have hnn : ((Rst.need m : Int) != (Rst.need m : Int)) = false := by simp
      have hk := need_le hm
      by_cases h3 : m % 64 = 0
      · have hf : Rst.formed (m : Int) ws = true := by
          unfold Rst.formed
          rw [Bool.and_eq_true, Bool.or_eq_true]
          exact ⟨decide_eq_true ⟨by omega, by omega, by rw [Int.toNat_natCast, hl, h2]⟩, .inl (by rw [Int.toNat_natCast]; simpa using h3)⟩
        rw [hf]
        have hrem : (m : Int) % 64 = 0 := by omega
        have h2' : (n : Int) = (Rst.need m : Int) := by rw [h2]
        subst h2
        clear hf hl h1 h3
        generalize Rst.need m = k at *
        clear h2'
        go_enter Tryd.func9, Tryd.ntmps9
        go_wp2
        go_quiet ((first | (go_at_call 22; exact quiet_left (H1.out _)) | (go_at_call 23; exact quiet_left (H2.out _))))
        go_wp2
        go_ret
        exact ⟨rfl, below_drewN hbox _⟩
      · obtain ⟨j, hj⟩ : ∃ j, n = j + 1 := ⟨n - 1, by unfold Rst.need at h2; omega⟩
        have hjl : j < ws.length := by omega
        obtain ⟨ad, rfl, _, hcell⟩ := hb.below (hbox.mono hB) |>.get hjl
        have hx : ws[j].toNat < 18446744073709551616 := Rst.u64_lt _
        have hf : Rst.formed (m : Int) ws = (ws[j].toNat / 2 ^ (m % 64) == 0) := by
          unfold Rst.formed
          rw [decide_eq_true ⟨by omega, by omega, by rw [Int.toNat_natCast, hl, h2]⟩, Bool.true_and, Int.toNat_natCast, hl, hj, Nat.add_sub_cancel, List.getD_eq_getElem?_getD, List.getElem?_eq_getElem hjl, Option.getD_some]
          have : (m % 64 == 0) = false := by simpa using h3
          rw [this, Bool.false_or]
        rw [hf]
        have hrem : (m : Int) % 64 = ((m % 64 : Nat) : Int) := by omega
        have hs0 : 0 < m % 64 := by omega
        have hs64 : m % 64 < 64 := by omega
        simp only [uval] at hcell
        generalize ws[j].toNat = x at *
        rw [← h2] at H2
        clear h2 hnn hk
        subst hj
        have hnn : (((j + 1 : Nat) : Int) != ((j + 1 : Nat) : Int)) = false := by simp
        clear hf hl h1 h3 hjl hb
        generalize m % 64 = s at *
        obtain ⟨X, hX, hX0, hX1⟩ : ∃ X : Int, X = (x : Int) ∧ 0 ≤ X ∧ X ≤ 18446744073709551615 := ⟨x, rfl, by omega, by omega⟩
        rw [← hX] at hcell
        have HX := Lib.hid hX
        clear hX hx
        go_enter Tryd.func9, Tryd.ntmps9
        go_wp2
        go_quiet ((first | (go_at_call 22; exact quiet_left (H1.out _)) | (go_at_call 23; exact quiet_left (H2.out _))))
        go_wp2
        go_ret
        refine ⟨congrArg (fun z => Ending.returned (.bool z)) ?_, below_drewN hbox _⟩
        have e : X / 2 ^ s = ((x / 2 ^ s : Nat) : Int) := by rw [HX.out, Int.natCast_ediv, Int.natCast_pow]; rfl
        have h0 : ((s : Int) == 0) = false := by simp; omega
        rw [e, h0, Bool.false_or, Bool.eq_iff_iff]
        generalize x / 2 ^ s = q
        simp
    · have hf : Rst.formed (m : Int) ws = false := Rst.formed_not_range (fun h => h2 (by rw [← hl, h.2.2]; rfl))
      rw [hf]
      have hne : ((n : Int) != (Rst.need m : Int)) = true := by simp; omega
      clear hf h2 hl h1
      generalize Rst.need m = k at *
      go_enter Tryd.func9, Tryd.ntmps9
      go_wp2
      go_quiet ((first | (go_at_call 22; exact quiet_left (H1.out _)) | (go_at_call 23; exact quiet_left (H2.out _))))
      go_wp2
      go_ret
      exact ⟨rfl, below_drewN hbox _⟩
  · rw [decide_eq_false h1] at H1
    have hf : Rst.formed N ws = false := Rst.formed_not_range (fun h => h1 ⟨h.1, h.2.1⟩)
    rw [hf]
    clear hf h1 hb hl
    go_enter Tryd.func9, Tryd.ntmps9
    go_wp2
    go_quiet ((go_at_call 22; exact quiet_left (H1.out _)))
    go_wp2
    go_ret
    exact ⟨rfl, below_drewN hbox _⟩
theorem and_word {a m : Nat} {x : Int} (hx : x = (a : Int)) (ha : a < 18446744073709551616) (hm : m < 18446744073709551616) : bits .and .u64 x (m : Int) = ((a &&& m : Nat) : Int) := by
  rw [hx, u64_and_nat a m ha hm]
theorem and_int {a : Nat} (ha : a < 9223372036854775808) : bits .and .i64 (a : Int) 127 = ((a % 128 : Nat) : Int) := by
  rw [← Rst.and_127]
  exact (bits_nat .i64 63 (by decide) (fun n h0 h1 => by rw [IntKind.wrap_i64]; omega) a 127 (by omega) (by omega)).1
set_option maxHeartbeats 400000 in
theorem onesCount_any (x : Nat) (w : World) (hx : x < 18446744073709551616) : Calls Tryd.prog 25 #[.int .u64 (x : Int)] w fun e w' =>
    e = .returned (.int .i64 (Rst.pops 64 x : Int)) ∧ w = w' := by
  obtain ⟨p1, hp1⟩ : ∃ v, v = x / 2 &&& 6148914691236517205 := ⟨_, rfl⟩
  obtain ⟨p2, hp2⟩ : ∃ v, v = x &&& 6148914691236517205 := ⟨_, rfl⟩
  obtain ⟨a, ha⟩ : ∃ v, v = p1 + p2 := ⟨_, rfl⟩
  obtain ⟨q1, hq1⟩ : ∃ v, v = a / 4 &&& 3689348814741910323 := ⟨_, rfl⟩
  obtain ⟨q2, hq2⟩ : ∃ v, v = a &&& 3689348814741910323 := ⟨_, rfl⟩
  obtain ⟨b, hb⟩ : ∃ v, v = q1 + q2 := ⟨_, rfl⟩
  obtain ⟨c, hc⟩ : ∃ v, v = (b / 16 + b) &&& 1085102592571150095 := ⟨_, rfl⟩
  obtain ⟨z, hz⟩ : ∃ v, v = c + c / 256 := ⟨_, rfl⟩
  obtain ⟨t, ht⟩ : ∃ v, v = z + z / 65536 := ⟨_, rfl⟩
  obtain ⟨u, hu⟩ : ∃ v, v = t + t / 4294967296 := ⟨_, rfl⟩
  obtain ⟨h1, h2, h3⟩ := Rst.swar_lt x a b (by rw [ha, hp1, hp2]) (by rw [hb, hq1, hq2])
  obtain ⟨h4, h5, h6, h7⟩ := Rst.swar x a b c z t u (by rw [ha, hp1, hp2]) (by rw [hb, hq1, hq2]) hc hz ht hu
  have hc64 : c < 18446744073709551616 := by omega
  have hfin := and_int h5
  rw [h4] at hfin
  generalize Rst.pops 64 x = R at *
  have d1 : (x : Int) / 2 = ((x / 2 : Nat) : Int) := by omega
  have d2 : (a : Int) / 4 = ((a / 4 : Nat) : Int) := by omega
  have d3 : (b : Int) / 16 + (b : Int) = ((b / 16 + b : Nat) : Int) := by omega
  have k1 : bits .and .u64 ((x : Int) / 2) 6148914691236517205 = (p1 : Int) := by rw [hp1]; exact and_word (m := 6148914691236517205) d1 (by omega) (by omega)
  have k2 : bits .and .u64 (x : Int) 6148914691236517205 = (p2 : Int) := by rw [hp2]; exact and_word (m := 6148914691236517205) rfl (by omega) (by omega)
  have k3 : bits .and .u64 ((a : Int) / 4) 3689348814741910323 = (q1 : Int) := by rw [hq1]; exact and_word (m := 3689348814741910323) d2 (by omega) (by omega)
  have k4 : bits .and .u64 (a : Int) 3689348814741910323 = (q2 : Int) := by rw [hq2]; exact and_word (m := 3689348814741910323) rfl (by omega) (by omega)
  have k5 : bits .and .u64 ((b : Int) / 16 + (b : Int)) 1085102592571150095 = (c : Int) := by rw [hc]; exact and_word (m := 1085102592571150095) d3 (by omega) (by omega)
  have wr : ∀ v : Int, 0 ≤ v → v ≤ 18446744073709551615 → IntKind.u64.wrap v = v := fun v h0 h1 => by rw [IntKind.wrap_u64]; omega
  obtain ⟨b', hb'⟩ : ∃ v, v = b / 16 + b := ⟨_, rfl⟩
  have k5' : bits .and .u64 (b' : Int) 1085102592571150095 = (c : Int) := by rw [← k5, hb', d3]
  have s1 : IntKind.u64.wrap ((p1 : Int) + (p2 : Int)) = (a : Int) := by rw [wr _ (by omega) (by omega)]; omega
  have s2 : IntKind.u64.wrap ((q1 : Int) + (q2 : Int)) = (b : Int) := by rw [wr _ (by omega) (by omega)]; omega
  have s3 : IntKind.u64.wrap ((b : Int) / 16 + (b : Int)) = (b' : Int) := by rw [wr _ (by omega) (by omega)]; omega
  have s4 : IntKind.u64.wrap ((c : Int) + (c : Int) / 256) = (z : Int) := by rw [wr _ (by omega) (by omega)]; omega
  have s5 : IntKind.u64.wrap ((z : Int) + (z : Int) / 65536) = (t : Int) := by rw [wr _ (by omega) (by omega)]; omega
  have s6 : IntKind.u64.wrap ((t : Int) + (t : Int) / 4294967296) = (u : Int) := by rw [wr _ (by omega) (by omega)]; omega
  have l1 : (0 : Int) ≤ (x : Int) := by omega
  have l2 : (0 : Int) ≤ (a : Int) := by omega
  have l3 : (0 : Int) ≤ (b : Int) := by omega
  have l4 : (0 : Int) ≤ (c : Int) := by omega
  have l5 : (0 : Int) ≤ (z : Int) := by omega
  have l6 : (0 : Int) ≤ (t : Int) := by omega
  have l7 : (0 : Int) ≤ (u : Int) := by omega
  have b7 : (u : Int) ≤ 9223372036854775807 := by omega
  have s7 : IntKind.i64.wrap (u : Int) = (u : Int) := by rw [IntKind.wrap_i64]; omega
  clear k5 hb' wr
  clear d1 d2 d3 hp1 hp2 ha hq1 hq2 hb hc hz ht hu h1 h2 h3 h4 h5 h6 h7 hc64 hx
  generalize (x : Int) = X at *
  generalize (p1 : Int) = P1 at *
  generalize (p2 : Int) = P2 at *
  generalize (a : Int) = A at *
  generalize (q1 : Int) = Q1 at *
  generalize (q2 : Int) = Q2 at *
  generalize (b : Int) = B at *
  generalize (b' : Int) = B' at *
  generalize (c : Int) = C at *
  generalize (z : Int) = Z at *
  generalize (t : Int) = T at *
  generalize (u : Int) = U at *
  go_enter Tryd.func25, Tryd.ntmps25
  go_wp2
  go_ret
  exact ⟨rfl, rfl⟩
end Go.Proofs.YtggelnlbdpdegaaDoor
