/- The document's Formed. -/
import Derived.Test.YtmcioglidgbibaaSymForm
namespace Go.Proofs.Ytmcioglidgbibaa
open Go.RowKit
set_option maxRecDepth 100000

set_option maxHeartbeats 1000000 in
theorem refFormed_any (A : Option Addr) (n cap B : Nat) (t : List (List UInt8)) (w : World) (hl : t.length = n) (hn : n ≤ 140737488355328) (h1 : Strs w B A t) (hs : ∀ s ∈ t, s.length ≤ maxLen) :
    Calls Try.prog 19 #[.slice A n cap] w fun e w' => e = .returned (.bool (Sym.formed t)) ∧ Drawn w w' := by
  by_cases h32 : 32 < n
  · rw [Sym.not_long (by omega)]
    have h32' : (32 : Int) < (n : Int) := by omega
    clear h1 hs hl
    go_enter Try.func19, Try.ntmps19
    go_wp2
    go_ret
    exact ⟨rfl, Drawn.refl _⟩
  · have h32' : ¬ ((32 : Int) < (n : Int)) := by omega
    have Hl := Lib.hid hl; clear hl
    have Hs := Lib.hid hs; clear hs
    go_enter Try.func19, Try.ntmps19
    go_wp2
    go_loopw [3] (fun i wr => ∃ (k : Nat), k ≤ n ∧ i = .int .i64 k ∧ Sym.Ok t k ∧ Strs wr B A t ∧ Drawn w wr) (fun i _ => n - (intOf i).toNat)
    case atStart => exact ⟨0, Nat.zero_le _, rfl, Sym.ok_zero t, h1, Drawn.refl _⟩
    case round =>
      clear h1
      obtain ⟨k, hk, rfl, hok, h1, hdr⟩ := hrel
      by_cases hlt : k < n
      · have hk' : k < t.length := by have := Hl.out; omega
        obtain ⟨ad1, rfl, _, hc1⟩ := h1.get hk'
        have hmax := Hs.out _ (List.getElem_mem hk')
        unfold maxLen at hmax
        have HL := Lib.hid (Sym.not_len hk')
        have HT := Lib.hid (Sym.not_twice hk')
        have HS := Lib.hid (Sym.ok_step hk' hok)
        simp only [sval] at hc1
        obtain ⟨x, hx⟩ : ∃ x, x = t[k] := ⟨_, rfl⟩
        rw [← hx] at hc1 hmax HL HT HS
        have Hx := Lib.hid hx; clear hx
        by_cases hx2 : x.length < 2
        · have hd : decide ((x.length : Int) < 2) = true := by simp; omega
          go_wp2
          go_ret
          exact ⟨by rw [HL.out (.inl hx2)]; rfl, hdr⟩
        · by_cases hx8 : 8 < x.length
          · have hd : decide ((x.length : Int) < 2) = false := by simp; omega
            have hd8 : decide (8 < (x.length : Int)) = true := by simp; omega
            go_wp2
            go_ret
            exact ⟨by rw [HL.out (.inr hx8)]; rfl, hdr⟩
          · have hd : decide ((x.length : Int) < 2) = false := by simp; omega
            have hd8 : decide (8 < (x.length : Int)) = false := by simp; omega
            clear hok
            go_wp2
            go_loopw [4] (fun i wq => ∃ (j : Nat), j ≤ k ∧ i = .int .i64 j ∧ x ∉ t.take j ∧ Strs wq B (some ad1) t ∧ Drawn w wq) (fun i _ => k - (intOf i).toNat)
            case atStart => exact ⟨0, Nat.zero_le _, rfl, by simp, h1, hdr⟩
            case round =>
              clear h1 hc1 hdr
              obtain ⟨j, hj, rfl, hnot, h1, hdr⟩ := hrel
              obtain ⟨_, hh, _, hc1⟩ := h1.get hk'
              cases hh
              by_cases hjk : j < k
              · have hj' : j < t.length := by omega
                obtain ⟨_, hh, _, hc2⟩ := h1.get hj'
                cases hh
                simp only [sval] at hc1 hc2
                rw [← Hx.out] at hc1
                have hts := Lib.hid (List.take_succ_eq_append_getElem hj')
                have hmem : t[j] ∈ t.take k := List.mem_take_iff_getElem.2 ⟨j, by omega, rfl⟩
                generalize t[j] = y at *
                have i1 : (k : Int) < (n : Int) := by omega
                have i2 : (j : Int) < (n : Int) := by omega
                have i3 : (j : Int) < (k : Int) := by omega
                have i0 : (0 : Int) ≤ (k : Int) := by omega
                have i00 : (0 : Int) ≤ (j : Int) := by omega
                by_cases hxy : x = y
                · subst hxy
                  have hxx : (x == x) = true := by simp
                  go_wp2_with fail
                  go_quiet (fail)
                  go_wp2
                  go_ret
                  exact ⟨by rw [HT.out hmem]; rfl, hdr.drewN _⟩
                · have hxx : (x == y) = false := by simpa using hxy
                  go_wp2_with fail
                  go_quiet (fail)
                  go_wp2
                  go_roundw
                  case rel => exact ⟨j + 1, by omega, by go_num, by rw [hts.out]; simp [hnot, hxy], h1, hdr.drewN _⟩
                  case measure => simp [intOf]; omega
              · obtain rfl : j = k := by omega
                have HR := Lib.hid (HS.out (by omega) (by omega) hnot)
                go_wp2
                go_roundw
                case rel => exact ⟨j + 1, by omega, by go_num, HR.out, h1, hdr⟩
                case measure => simp [intOf]; omega
      · have HE : Hid (Sym.formed t = true) := by
          have hkn : k = t.length := by have := Hl.out; omega
          rw [hkn] at hok
          exact Lib.hid (Sym.ok_all hok (by omega))
        clear hok
        go_wp2
        go_ret
        exact ⟨by rw [HE.out]; rfl, hdr⟩
end Go.Proofs.Ytmcioglidgbibaa
