/- lz.appendEarlier. -/
import Derived.Test.YtonknkmbkfndcaaLzApp
namespace Go.Proofs.Ytonknkmbkfndcaa
open Go.RowKit

set_option maxHeartbeats 1000000 in
theorem appendEarlier_any (A : Option Addr) (n c base d k : Nat) (out : List UInt8) (w : World) (hown : Own w base A n c out) (hbase : base ≤ w.heap.size) (hd : 1 ≤ d) (hdn : d ≤ n) (hn : n + k ≤ 140737488355328) :
    Calls Try.prog 24 #[.slice A n c, .int .i64 (d : Int), .int .i64 (k : Int)] w (MadeAt base w (n + k) (Lz.back out d k)) := by
  have hl := hown.len
  obtain ⟨F, hF⟩ : ∃ F, F = n - d := ⟨_, rfl⟩
  have hF' : F = out.length - d := by rw [hl]; exact hF
  have hFi : (n : Int) - (d : Int) = (F : Int) := by omega
  have hFn : n = F + d := by omega
  have HF' := Lib.hid hF'
  have HFn := Lib.hid hFn
  have Hl := Lib.hid hl
  clear hF hF' hFn hl
  go_enter Try.func24, Try.ntmps24
  go_wp2
  go_loopw [0, 2] (fun s y wr => ∃ (j r m : Nat) (A' : Option Addr) (c' : Nat), (r = 0 ∨ ∃ q, j = d * q) ∧ j + r = k ∧ y = .int .i64 r ∧ s = .slice A' m c' ∧ Own wr base A' m c' (Lz.back out d j) ∧ m = n + j ∧ base ≤ wr.heap.size ∧ Below base w wr) (fun _ y _ => (intOf y).toNat)
  case atStart => exact ⟨0, k, n, A, c, .inr ⟨0, rfl⟩, by omega, rfl, rfl, hown, rfl, hbase, Below.refl _ _⟩
  case round =>
    clear hown
    obtain ⟨j, r, m, A', c', hrq, hjr, rfl, rfl, ho, hm, hsz, hbel⟩ := hrel
    by_cases hr : r = 0
    · subst hr
      have Hm := Lib.hid hm
      have Hjr := Lib.hid hjr
      clear hm hjr hrq
      go_wp2
      go_ret
      have e : j = k := by have := Hjr.out; omega
      have e2 : m = n + k := by have := Hm.out; omega
      rw [e, e2] at ho
      exact ⟨A', c', congrArg (fun x => Ending.returned (.slice A' x c')) e2, ho, hbel⟩
    · obtain ⟨q, hq⟩ : ∃ q, j = d * q := by
        rcases hrq with h | h
        · exact absurd h hr
        · exact h
      have hr' : (0 : Int) < (r : Int) := by omega
      have hmF : (m : Int) - (F : Int) = ((d + j : Nat) : Int) := by have := HFn.out; omega
      have hF' := HF'.out
      have hFn := HFn.out
      have hl := Hl.out
      by_cases hle : r ≤ d + j
      · have hle' : (r : Int) ≤ ((d + j : Nat) : Int) := by omega
        have hle2 : r ≤ d * q + d := by omega
        generalize hE : d + j = E at *
        have HE := Lib.hid hE; clear hE
        have hX : Lz.back out d (j + r) = Lz.back out d j ++ ((Lz.back out d j).drop F).take r := by
          rw [hq, hF']; exact Lz.back_double d q r out hd (by omega) (by rw [Nat.mul_succ]; omega)
        have hbl := Lz.back_length d j out
        have hcap := ho.cap
        have hsrc := (ho.bytes.cut (k := F) (cap := c') (by rw [hbl]; omega) (by rw [hbl]; omega)).take r
        have hsl : (((Lz.back out d j).drop F).take r).length = r := by rw [List.length_take, List.length_drop, hbl]; omega
        have hrun := run_cut_lh A' m c' F (F + r) (by omega) (by omega)
        rw [show F + r - F = r from by omega, Int.natCast_add] at hrun
        generalize cutAt A' c' F = A2 at *
        generalize ((Lz.back out d j).drop F).take r = Y at *
        have HX := Lib.hid hX
        have Hm := Lib.hid hm
        have Hq := Lib.hid hq
        have Hjr := Lib.hid hjr
        have hmb : m + r ≤ 140737488355328 := by omega
        clear hX hm hq hjr hbl hF' hFn hl
        go_wp2_with (at_builtin; refine wpList_append_bytes rfl (.tmp 21) (.tmp 27) rfl base A' m c' _ rfl ho _ A2 r (c' - F) Y rfl hsl hsrc (by omega) hsz ?_; intro A3 c3 w3 ho3 hg3 hat3)
        go_roundw
        case rel =>
          refine ⟨j + r, r - r, m + r, A3, c3, ?_, by have := Hjr.out; omega, ?_, rfl, by rw [HX.out]; exact ho3, by have := Hm.out; omega, Nat.le_trans hsz hg3.size, hbel.grown hg3 hsz (fun k hk => (ho.lt hk).1)⟩
          · exact .inl (by omega)
          · exact congrArg (Value.int .i64) (by omega)
        case measure => simp [intOf]; omega
      · have hle' : ¬ ((r : Int) ≤ ((d + j : Nat) : Int)) := by omega
        generalize hE : d + j = E at *
        have HE := Lib.hid hE; clear hE
        have hEE := HE.out
        have hX : Lz.back out d (j + E) = Lz.back out d j ++ ((Lz.back out d j).drop F).take E := by
          rw [hq, hF']; exact Lz.back_double d q E out hd (by omega) (by rw [Nat.mul_succ]; omega)
        have hbl := Lz.back_length d j out
        have hcap := ho.cap
        have hsrc := (ho.bytes.cut (k := F) (cap := c') (by rw [hbl]; omega) (by rw [hbl]; omega)).take E
        have hsl : (((Lz.back out d j).drop F).take E).length = E := by rw [List.length_take, List.length_drop, hbl]; omega
        have hrun := run_cut_lh A' m c' F (F + E) (by omega) (by omega)
        rw [show F + E - F = E from by omega, Int.natCast_add] at hrun
        generalize cutAt A' c' F = A2 at *
        generalize ((Lz.back out d j).drop F).take E = Y at *
        have HX := Lib.hid hX
        have Hm := Lib.hid hm
        have Hq := Lib.hid hq
        have Hjr := Lib.hid hjr
        have hmb : m + E ≤ 140737488355328 := by omega
        have hr1 : (r : Int) ≤ 140737488355328 := by omega
        have hr2 : 1 ≤ E ∧ E < r := by omega
        have hr3 : (0 : Int) ≤ (r : Int) - (E : Int) := by omega
        clear hX hm hq hjr hbl hF' hFn hl hEE
        go_wp2_with (at_builtin; refine wpList_append_bytes rfl (.tmp 21) (.tmp 27) rfl base A' m c' _ rfl ho _ A2 E (c' - F) Y rfl hsl hsrc (by omega) hsz ?_; intro A3 c3 w3 ho3 hg3 hat3)
        go_roundw
        case rel =>
          refine ⟨j + E, r - E, m + E, A3, c3, ?_, by have := Hjr.out; omega, ?_, rfl, by rw [HX.out]; exact ho3, by have := Hm.out; omega, Nat.le_trans hsz hg3.size, hbel.grown hg3 hsz (fun k hk => (ho.lt hk).1)⟩
          · exact .inr ⟨2 * q + 1, by have h1 := HE.out; have h2 := Hq.out; rw [Nat.mul_add, Nat.mul_one, ← Nat.mul_assoc, Nat.mul_comm d 2, Nat.mul_assoc]; omega⟩
          · exact congrArg (Value.int .i64) (by omega)
        case measure => simp [intOf]; omega
end Go.Proofs.Ytonknkmbkfndcaa
