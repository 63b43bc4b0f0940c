/- sym.Formed and the document's: is it a table? -/
import Derived.Test.YtmcioglidgbibaaStrs
import Derived.Test.YtmcioglidgbibaaSym
import Derived.Laws.Slices
namespace Go.Proofs.Ytmcioglidgbibaa
open Go.RowKit
set_option maxRecDepth 100000

theorem sizeStr (W : World) : (sizeOf 9).run Try.prog W = .ok 1 W := by
  obtain ⟨i0, hi0, hz0, hz1, hz2⟩ := info_parts string_info
  simp [sizeOf, typeInfo, hi0, hz1]
theorem elemOfStrs : Try.prog.elem 25 = 9 := by kernel_rfl
/-- the first strings of a slice -/
theorem run_cutStr_h (A : Option Addr) (n cap hi : Nat) (h2 : hi ≤ cap) (W : World) :
    (Instr.slice 25 (.slice A n cap) none (some (.int .i64 (hi : Int))) none).run Try.prog W = .ok (.slice A hi cap) W := by
  rw [run_slice_h (P := Try.prog) (w := W) (kh := .i64) (h := (hi : Int)) (h0 := by omega) (h2 := by omega) (ht := by rw [elemOfStrs]; exact Try.underlying25)]
  rw [elemOfStrs, sizeStr]
  by_cases hc : cap = 0 <;> cases A <;> simp [Result.andThen, sliced, Addr.add]

namespace Sym
/-- the first k symbols are right -/
def Ok (t : List (List UInt8)) (k : Nat) : Prop := (∀ s ∈ t.take k, 2 ≤ s.length ∧ s.length ≤ 8) ∧ (t.take k).Nodup
theorem ok_zero (t : List (List UInt8)) : Ok t 0 := ⟨by simp, by simp⟩
theorem ok_all {t : List (List UInt8)} (h : Ok t t.length) (hl : t.length ≤ 32) : formed t = true := by
  unfold Ok at h
  rw [List.take_length] at h
  exact formed_iff.2 ⟨hl, h.1, h.2⟩
theorem ok_step {t : List (List UInt8)} {k : Nat} (hk : k < t.length) (h : Ok t k) (h2 : 2 ≤ t[k].length) (h8 : t[k].length ≤ 8) (hn : t[k] ∉ t.take k) : Ok t (k + 1) := by
  unfold Ok
  rw [List.take_succ_eq_append_getElem hk]
  refine ⟨fun s hs => ?_, ?_⟩
  · rcases List.mem_append.1 hs with hs | hs
    · exact h.1 s hs
    · rw [List.mem_singleton] at hs
      subst hs
      exact ⟨h2, h8⟩
  · rw [List.nodup_append]
    refine ⟨h.2, by simp, fun a ha b hb => ?_⟩
    rw [List.mem_singleton] at hb
    subst hb
    exact fun e => hn (e ▸ ha)
theorem not_len {t : List (List UInt8)} {k : Nat} (hk : k < t.length) (h : t[k].length < 2 ∨ 8 < t[k].length) : formed t = false :=
  formed_not.2 fun ⟨_, h2, _⟩ => by have := h2 _ (List.getElem_mem hk); omega
theorem not_twice {t : List (List UInt8)} {k : Nat} (hk : k < t.length) (h : t[k] ∈ t.take k) : formed t = false := by
  refine formed_not.2 fun ⟨_, _, h3⟩ => ?_
  obtain ⟨j, hj, e⟩ := List.mem_iff_getElem.1 h
  rw [List.getElem_take] at e
  have hj' : j < k := by simp at hj; omega
  have := nodup_at h3 (by omega) hk e
  omega
theorem not_long {t : List (List UInt8)} (h : 32 < t.length) : formed t = false := formed_not.2 fun ⟨h1, _⟩ => by omega
end Sym

set_option maxHeartbeats 1000000 in
theorem formed_any (A : Option Addr) (n cap B : Nat) (t : List (List UInt8)) (w : World) (hl : t.length = n) (hcap : n ≤ cap) (hn : n ≤ 140737488355328) (h1 : Strs w B A t) (hs : ∀ s ∈ t, s.length ≤ maxLen) :
    Calls Try.prog 13 #[.slice A n cap] w fun e w' => e = .returned (.bool (Sym.formed t)) ∧ w = w' := by
  by_cases h32 : 32 < n
  · rw [Sym.not_long (by omega)]
    have h32' : (32 : Int) < (n : Int) := by omega
    clear h1 hs hl
    go_enter Try.func13, Try.ntmps13
    go_wp2
    go_ret
    exact ⟨rfl, rfl⟩
  · have h32' : ¬ ((32 : Int) < (n : Int)) := by omega
    have Hl := Lib.hid hl; clear hl
    have Hs := Lib.hid hs; clear hs
    go_enter Try.func13, Try.ntmps13
    go_wp2
    go_loop [10] (fun i => ∃ (k : Nat), k ≤ n ∧ i = .int .i64 k ∧ Sym.Ok t k) (fun i => n - (intOf i).toNat)
    case atStart => exact ⟨0, Nat.zero_le _, rfl, Sym.ok_zero t⟩
    case round =>
      obtain ⟨k, hk, rfl, hok⟩ := hrel
      by_cases hlt : k < n
      · have hk' : k < t.length := by have := Hl.out; omega
        obtain ⟨ad1, rfl, _, hc1⟩ := h1.get hk'
        have hmax := Hs.out _ (List.getElem_mem hk')
        unfold maxLen at hmax
        have HC := Lib.hid (contains_any (some ad1) k cap B (t.take k) t[k] w (by simp; omega) (by omega) (h1.take k))
        have HL := Lib.hid (Sym.not_len hk')
        have HT := Lib.hid (Sym.not_twice hk')
        have HS := Lib.hid (Sym.ok_step hk' hok)
        have hsl := run_cutStr_h (some ad1) n cap k (by omega)
        simp only [sval] at hc1
        generalize t[k] = x at *
        by_cases hx2 : x.length < 2
        · have hd : decide ((x.length : Int) < 2) = true := by simp; omega
          go_wp2
          go_ret
          exact ⟨by rw [HL.out (.inl hx2)]; rfl, rfl⟩
        · by_cases hx8 : 8 < x.length
          · have hd : decide ((x.length : Int) < 2) = false := by simp; omega
            have hd8 : decide (8 < (x.length : Int)) = true := by simp; omega
            go_wp2
            go_ret
            exact ⟨by rw [HL.out (.inr hx8)]; rfl, rfl⟩
          · have hd : decide ((x.length : Int) < 2) = false := by simp; omega
            have hd8 : decide (8 < (x.length : Int)) = false := by simp; omega
            by_cases hmem : x ∈ t.take k
            · rw [decide_eq_true hmem] at HC
              go_wp2_with (go_at_call 35; refine HC.out.mono ?_; rintro e w' ⟨rfl, rfl⟩)
              go_ret
              exact ⟨by rw [HT.out hmem]; rfl, rfl⟩
            · rw [decide_eq_false hmem] at HC
              have HR := Lib.hid (HS.out (by omega) (by omega) hmem)
              clear hok
              go_wp2_with (go_at_call 35; refine HC.out.mono ?_; rintro e w' ⟨rfl, rfl⟩)
              go_round
              case rel => exact ⟨k + 1, by omega, by go_num, HR.out⟩
              case measure => simp [intOf]; omega
      · have HE : Hid (Sym.formed t = true) := by
          have hkn : k = t.length := by have := Hl.out; omega
          rw [hkn] at hok
          exact Lib.hid (Sym.ok_all hok (by omega))
        clear hok
        go_wp2
        go_ret
        exact ⟨by rw [HE.out]; rfl, rfl⟩
end Go.Proofs.Ytmcioglidgbibaa
