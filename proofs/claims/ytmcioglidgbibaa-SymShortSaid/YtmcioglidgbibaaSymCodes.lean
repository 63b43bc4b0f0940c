/- sym.codesOf: the codes of a table's symbols. -/
import Derived.Test.YtmcioglidgbibaaStrMap
import Derived.Test.YtmcioglidgbibaaSym
namespace Go.Proofs.Ytmcioglidgbibaa
open Go.RowKit Go.Maps
set_option maxRecDepth 100000

theorem zeroU8 (w : World) : (zeroValue 5).run Try.prog w = .ok (.int .u8 0) w := by kernel_rfl
namespace Sym
/-- the code of a string among the first k symbols -/
def codeIn (t : List (List UInt8)) (k : Nat) (s : List UInt8) : Option Int := if s ∈ t.take k then some (t.idxOf s : Int) else none
theorem codeIn_zero (t : List (List UInt8)) : codeIn t 0 = fun _ => none := by funext s; simp [codeIn]
theorem idxOf_at {t : List (List UInt8)} (hd : t.Nodup) {k : Nat} (hk : k < t.length) : t.idxOf t[k] = k := hd.idxOf_getElem k hk
theorem codeIn_step {t : List (List UInt8)} (hd : t.Nodup) {k : Nat} (hk : k < t.length) : (fun s' => if s' = t[k] then some (k : Int) else codeIn t k s') = codeIn t (k + 1) := by
  funext s
  unfold codeIn
  rw [List.take_succ_eq_append_getElem hk]
  by_cases h : s = t[k]
  · subst h
    rw [if_pos rfl, if_pos (List.mem_append.2 (.inr (List.mem_singleton.2 rfl))), idxOf_at hd hk]
  · rw [if_neg h]
    have : s ∈ t.take k ++ [t[k]] ↔ s ∈ t.take k := ⟨fun hm => (List.mem_append.1 hm).resolve_right (fun e => h (List.mem_singleton.1 e)), fun hm => List.mem_append.2 (.inl hm)⟩
    by_cases hm : s ∈ t.take k
    · rw [if_pos hm, if_pos (this.2 hm)]
    · rw [if_neg hm, if_neg (fun h => hm (this.1 h))]
theorem codeIn_all {t : List (List UInt8)} {s : List UInt8} : codeIn t t.length s = if s ∈ t then some (t.idxOf s : Int) else none := by unfold codeIn; rw [List.take_length]
end Sym

/-- block M knows the codes of the table t -/
def Codes (w : World) (M : Nat) (t : List (List UInt8)) : Prop := StrMap .u8 5 w M t.length (Sym.codeIn t t.length)

set_option maxHeartbeats 1000000 in
theorem codesOf_any (A : Option Addr) (n cap B : Nat) (t : List (List UInt8)) (w : World) (hl : t.length = n) (hf : Sym.Formed t) (h1 : Strs w B A t) (hB : B ≤ w.heap.size) :
    Calls Try.prog 36 #[.slice A n cap] w fun e w' => e = .returned (.map (some w.heap.size)) ∧ Codes w' w.heap.size t ∧ Below w.heap.size w w' := by
  have hn : n ≤ 32 := by rw [← hl]; exact hf.1
  have Hl := Lib.hid hl; clear hl
  have Hf := Lib.hid hf; clear hf
  have hmm := @run_makeMap Try.prog
  go_enter Try.func36, Try.ntmps36
  go_wp2
  go_loopw [9] (fun i wr => ∃ k : Nat, k ≤ n ∧ i = .int .i64 k ∧ StrMap .u8 5 wr w.heap.size k (Sym.codeIn t k) ∧ Below w.heap.size w wr) (fun i _ => n - (intOf i).toNat)
  case atStart => exact ⟨0, Nat.zero_le _, rfl, by rw [Sym.codeIn_zero]; exact StrMap.made _ _ _, (Below.refl _ _).alloc (Nat.le_refl _) _⟩
  case round =>
    obtain ⟨k, hk, rfl, hm, hbel⟩ := hrel
    by_cases hlt : k < n
    · have hk' : k < t.length := by have := Hl.out; omega
      have h1r := h1.below (hbel.mono hB)
      obtain ⟨ad1, rfl, _, hc1⟩ := h1r.get hk'
      have h8 := (Hf.out.2.1 _ (List.getElem_mem hk')).2
      have HS := Lib.hid (Sym.codeIn_step Hf.out.2.2 hk')
      obtain ⟨w1, hrun, hm1, hg1⟩ := run_put_strmap hm Try.underlying57 Try.underlying5 (by unfold maxLen; omega) (s := t[k]) (by unfold maxLen; omega) (v := (k : Int)) (WalkArith.wf_u8 (by omega))
      rw [HS.out] at hm1
      have hbel1 := hbel.grown hg1 hbel.size (fun j hj => by cases hj; exact Nat.le_refl _)
      simp only [sval] at hc1
      generalize t[k] = x at *
      clear hm hg1 h1r HS
      have hkk : ((k : Int) % 256) = (k : Int) := by omega
      have i1 : (k : Int) < (n : Int) := by omega
      go_wp2
      go_roundw
      case rel => exact ⟨k + 1, by omega, by go_num, hm1, hbel1⟩
      case measure => simp [intOf]; omega
    · obtain rfl : k = n := by omega
      have HC : Hid (Codes wr w.heap.size t) := Lib.hid (by unfold Codes; rw [Hl.out]; exact hm)
      clear hm
      go_wp2
      go_ret
      exact ⟨rfl, HC.out, hbel⟩
end Go.Proofs.Ytmcioglidgbibaa
