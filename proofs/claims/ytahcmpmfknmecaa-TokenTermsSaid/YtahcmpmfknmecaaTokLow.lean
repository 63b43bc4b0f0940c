/- token.Lower and the document's Lower; token.termOf. -/
import Derived.Test.YtahcmpmfknmecaaTokFns
import Derived.Test.YtahcmpmfknmecaaStrBytes
import Derived.Test.YtahcmpmfknmecaaBytesEq
import Derived.Deep.RegionHeld3
import Derived.Deep.QuietTactic
import Derived.BigQuiet
import Derived.RegionTactic
namespace Go.Proofs.Ytahcmpmfknmecaa
open Go.RowKit
set_option maxRecDepth 100000

/-- block g begins with the bytes l, which may be stored to -/
def Buf (w : World) (g : Nat) (l : List UInt8) : Prop := g < w.heap.size ∧ ∀ i, (h : i < l.length) → w.cell? ⟨g, i, none⟩ = some (.int .u8 (l[i].toNat : Int)) ∧ w.frozen? ⟨g, i, none⟩ = false
theorem Buf.bytes {w : World} {g : Nat} {l : List UInt8} (h : Buf w g l) : Bytes w w.heap.size (some ⟨g, 0, none⟩) l := fun _ => ⟨_, rfl, h.1, fun i hi => by
  rw [show (⟨g, 0, none⟩ : Addr).add i = ⟨g, i, none⟩ from by by_cases h : i = 0 <;> simp [Addr.add, h]]
  exact (h.2 i hi).1⟩
theorem Buf.store {w : World} {g : Nat} {l : List UInt8} (h : Buf w g l) (k : Nat) (b : UInt8) (hk : k < l.length) : Buf (w.setCell ⟨g, k, none⟩ (.int .u8 (b.toNat : Int))) g (l.set k b) := by
  refine ⟨by simpa using h.1, fun i hi => ?_⟩
  rw [List.length_set] at hi
  refine ⟨?_, by rw [World.frozen?_setCell]; exact (h.2 i hi).2⟩
  by_cases e : k = i
  · subst e
    rw [World.cell?_setCell_same _ _ _ (h.2 k hk).1]
    simp
  · rw [World.cell?_setCell_other _ _ _ _ (by intro e2; injection e2 with _ e3; exact e e3), (h.2 i hi).1]
    simp [List.getElem_set_ne e]
theorem run_buf_of (s : List UInt8) (W : World) : ∃ c W', s.length ≤ c ∧ (convert 9 22 (.string ⟨s.toArray⟩)).run Try.prog W = .ok (.slice (some ⟨W.heap.size, 0, none⟩) s.length c) W' ∧
    Buf W' W.heap.size s ∧ Below W.heap.size W W' := by
  have hsz : (⟨s.toArray⟩ : ByteArray).size = s.length := by rw [ByteArray.size, List.size_toArray]
  have h := run_bytes_of_string (P := Try.prog) W 9 22 5 ⟨s.toArray⟩ Try.underlying9 Try.underlying22 Try.underlying5
  rw [hsz] at h
  refine ⟨_, _, grownCap_ge W _ _ _, h, ⟨by simp, fun i hi => ?_⟩, (Below.refl _ W).drew.alloc (Nat.le_refl _) _⟩
  have hh : ∀ (C : Array Value) (m : Nat × Nat), (W.drew.alloc (.cells C 5 m)).heap[W.heap.size]? = some (.cells C 5 m) := fun C m => by
    show (W.heap.push (.cells C 5 m))[W.heap.size]? = _
    simp
  have hc : ∀ (C : Array Value) (m : Nat × Nat), (W.drew.alloc (.cells C 5 m)).cell? ⟨W.heap.size, i, none⟩ = C[i]? := fun C m => by
    simp only [World.cell?, hh]
    rfl
  refine ⟨?_, ?_⟩
  · rw [hc]
    simp [bytesRow, Array.getElem?_append, hi]
  · simp only [World.frozen?, hh]
    simp [bytesRow]
    omega

/-- k of the letters are made lower -/
def mid (s : List UInt8) (k : Nat) : List UInt8 := (s.take k).map Tok.low ++ s.drop k
theorem mid_zero (s : List UInt8) : mid s 0 = s := by simp [mid]
theorem mid_length (s : List UInt8) (k : Nat) : (mid s k).length = s.length := by simp [mid]; omega
theorem mid_end (s : List UInt8) : mid s s.length = Tok.lower s := by simp [mid, Tok.lower]
theorem mid_get {s : List UInt8} {k : Nat} (h : k < s.length) : (mid s k)[k]'(by rw [mid_length]; exact h) = s[k] := by
  unfold mid
  rw [List.getElem_append_right (by simp; omega), List.getElem_drop]
  congr 1
  simp
  omega
theorem mid_set {s : List UInt8} {k : Nat} (h : k < s.length) : (mid s k).set k (Tok.low s[k]) = mid s (k + 1) := by
  unfold mid
  rw [List.set_append_right _ _ (by simp; omega), List.take_succ_eq_append_getElem h, List.map_append, List.append_assoc]
  congr 1
  rw [List.drop_eq_getElem_cons h, show k - ((s.take k).map Tok.low).length = 0 from by simp; omega]
  rfl
theorem mid_same {s : List UInt8} {k : Nat} (h : k < s.length) (hc : Tok.cap s[k] = false) : mid s (k + 1) = mid s k := by
  rw [← mid_set h, Tok.low_of _ hc]
  conv => lhs; rw [show s[k] = (mid s k)[k]'(by rw [mid_length]; exact h) from (mid_get h).symm]
  exact List.set_getElem_self _
theorem low_cap {c : UInt8} (h : Tok.cap c = true) : ((Tok.low c).toNat : Int) = (c.toNat : Int) + 32 ∧ 65 ≤ (c.toNat : Int) ∧ (c.toNat : Int) ≤ 90 := by
  have h' := h
  simp only [Tok.cap, Bool.and_eq_true, decide_eq_true_eq] at h'
  unfold Tok.low
  rw [if_pos h, UInt8.toNat_add]
  refine ⟨?_, by omega, by omega⟩
  show (((c.toNat + 32) % 256 : Nat) : Int) = _
  omega

set_option maxHeartbeats 2000000 in
theorem lower_any (s : List UInt8) (w : World) (hs : s.length ≤ 140737488355328) :
    Calls Try.prog 20 #[.string ⟨s.toArray⟩] w fun e w' => e = .returned (.string ⟨(Tok.lower s).toArray⟩) ∧ Below w.heap.size w w' := by
  obtain ⟨c, w1, hc, hrun, hbuf, hbel⟩ := run_buf_of s w
  obtain ⟨g, hg⟩ : ∃ g, g = w.heap.size := ⟨_, rfl⟩
  rw [← hg] at hrun hbuf hbel ⊢
  obtain ⟨n, hn⟩ : ∃ n, n = s.length := ⟨_, rfl⟩
  rw [← hn] at hs hc hrun
  have Hn := Lib.hid hn
  clear hg hn
  go_enter Try.func20, Try.ntmps20
  go_wp2
  go_loopw [10] (fun i wr => ∃ (k : Nat), k ≤ n ∧ i = .int .i64 k ∧ Buf wr g (mid s k) ∧ Below g w wr) (fun i _ => n - (intOf i).toNat)
  case atStart => exact ⟨0, by omega, rfl, by rw [mid_zero]; exact hbuf, hbel⟩
  case round =>
    clear hbuf hbel hrun
    obtain ⟨k, hk, rfl, hbuf, hbel⟩ := hrel
    by_cases hlt : k < n
    · have hk' : k < s.length := by have := Hn.out; omega
      have hcell := (hbuf.2 k (by rw [mid_length]; exact hk')).1
      have hfree := (hbuf.2 k (by rw [mid_length]; exact hk')).2
      rw [mid_get hk'] at hcell
      have HC := Lib.hid fun W => capital_any s[k] W
      have HL := Lib.hid (low_cap (c := s[k]))
      have Hst := Lib.hid (hbuf.store k (Tok.low s[k]) (by rw [mid_length]; exact hk'))
      rw [mid_set hk'] at Hst
      have Hsame := Lib.hid (mid_same hk')
      generalize s[k] = x at *
      rcases hx : Tok.cap x with _ | _
      · rw [hx] at HC
        have hbuf2 : Buf wr g (mid s (k + 1)) := by rw [Hsame.out hx]; exact hbuf
        clear Hst hx HL Hsame hbuf
        go_wp2_with fail
        refine (HC.out _).mono ?_
        rintro e w1 ⟨rfl, rfl⟩
        go_wp2
        go_roundw
        case rel => exact ⟨k + 1, by omega, by go_num, hbuf2, hbel⟩
        case measure => simp [intOf]; omega
      · rw [hx] at HC
        obtain ⟨hL1, hL2, hL3⟩ := HL.out hx
        rw [hL1, show (x.toNat : Int) + 32 = (x.toNat : Int) - 65 + 97 from by omega] at Hst
        clear hx HL Hsame hbuf hL1
        generalize (x.toNat : Int) = z at *
        have Hbl := Lib.hid (hbel.setCell (p := ⟨g, k, none⟩) (Nat.le_refl _) (.int .u8 (z - 65 + 97)))
        go_wp2_with fail
        refine (HC.out _).mono ?_
        rintro e w1 ⟨rfl, rfl⟩
        go_wp2
        go_roundw
        case rel => exact ⟨k + 1, by omega, by go_num, Hst.out, Hbl.out⟩
        case measure => simp [intOf]; omega
    · obtain rfl : k = n := by omega
      rw [Hn.out, mid_end] at hbuf
      have hcv := run_string_of hbuf.bytes c
      rw [Tok.lower_length, ← Hn.out] at hcv
      go_wp2
      go_ret
      exact ⟨rfl, hbel⟩

set_option maxHeartbeats 2000000 in
theorem refLower_any (s : List UInt8) (w : World) (hs : s.length ≤ 140737488355328) :
    Calls Try.prog 21 #[.string ⟨s.toArray⟩] w fun e w' => e = .returned (.string ⟨(Tok.lower s).toArray⟩) ∧ Below w.heap.size w w' := by
  obtain ⟨c, w1, hc, hrun, hbuf, hbel⟩ := run_buf_of s w
  obtain ⟨g, hg⟩ : ∃ g, g = w.heap.size := ⟨_, rfl⟩
  rw [← hg] at hrun hbuf hbel ⊢
  obtain ⟨n, hn⟩ : ∃ n, n = s.length := ⟨_, rfl⟩
  rw [← hn] at hs hc hrun
  have Hn := Lib.hid hn
  clear hg hn
  go_enter Try.func21, Try.ntmps21
  go_wp2
  go_loopw [4] (fun i wr => ∃ (k : Nat), k ≤ n ∧ i = .int .i64 k ∧ Buf wr g (mid s k) ∧ Below g w wr) (fun i _ => n - (intOf i).toNat)
  case atStart => exact ⟨0, by omega, rfl, by rw [mid_zero]; exact hbuf, hbel⟩
  case round =>
    clear hbuf hbel hrun
    obtain ⟨k, hk, rfl, hbuf, hbel⟩ := hrel
    by_cases hlt : k < n
    · have hk' : k < s.length := by have := Hn.out; omega
      have hcell := (hbuf.2 k (by rw [mid_length]; exact hk')).1
      have hfree := (hbuf.2 k (by rw [mid_length]; exact hk')).2
      rw [mid_get hk'] at hcell
      have HL := Lib.hid (low_cap (c := s[k]))
      have Hst := Lib.hid (hbuf.store k (Tok.low s[k]) (by rw [mid_length]; exact hk'))
      rw [mid_set hk'] at Hst
      have Hsame := Lib.hid (mid_same hk')
      generalize s[k] = x at *
      rcases hx : Tok.cap x with _ | _
      · have hbuf2 : Buf wr g (mid s (k + 1)) := by rw [Hsame.out hx]; exact hbuf
        have hno : (x.toNat : Int) < 65 ∨ 90 < (x.toNat : Int) := by
          simp only [Tok.cap, Bool.and_eq_false_iff, decide_eq_false_iff_not] at hx
          omega
        have h256 : (x.toNat : Int) ≤ 255 := by have := x.toNat_lt; omega
        have h0 : 0 ≤ (x.toNat : Int) := by omega
        clear Hst hx HL Hsame hbuf
        generalize (x.toNat : Int) = z at *
        by_cases h65 : 65 ≤ z
        · have h90 : ¬ z ≤ 90 := by omega
          clear hno
          go_wp2
          go_roundw
          case rel => exact ⟨k + 1, by omega, by go_num, hbuf2, hbel⟩
          case measure => simp [intOf]; omega
        · clear hno
          go_wp2
          go_roundw
          case rel => exact ⟨k + 1, by omega, by go_num, hbuf2, hbel⟩
          case measure => simp [intOf]; omega
      · obtain ⟨hL1, hL2, hL3⟩ := HL.out hx
        rw [hL1] at Hst
        clear hx HL Hsame hbuf hL1
        generalize (x.toNat : Int) = z at *
        have Hbl := Lib.hid (hbel.setCell (p := ⟨g, k, none⟩) (Nat.le_refl _) (.int .u8 (z + 32)))
        go_wp2
        go_roundw
        case rel => exact ⟨k + 1, by omega, by go_num, Hst.out, Hbl.out⟩
        case measure => simp [intOf]; omega
    · obtain rfl : k = n := by omega
      rw [Hn.out, mid_end] at hbuf
      have hcv := run_string_of hbuf.bytes c
      rw [Tok.lower_length, ← Hn.out] at hcv
      go_wp2
      go_ret
      exact ⟨rfl, hbel⟩

theorem termOf_any (A : Option Addr) (n cap B : Nat) (l : List UInt8) (w : World) (hl : l.length = n) (hn : n ≤ 140737488355328) (hb : Bytes w B A l) :
    Calls Try.prog 23 #[.slice A n cap] w fun e w' => e = .returned (.string ⟨(Tok.term l).toArray⟩) ∧ Below w.heap.size w w' := by
  by_cases h64 : n ≤ 64
  · have hcv := run_string_of hb cap
    rw [hl] at hcv
    have C := Lib.hid (lower_any l w (by omega))
    have HT := Lib.hid (show Tok.term l = Tok.lower l from by unfold Tok.term; rw [if_pos (by omega)])
    clear hl hb
    have h64' : ¬ (64 : Int) < (n : Int) := by omega
    go_enter Try.func23, Try.ntmps23
    go_wp2_with fail
    refine C.out.mono ?_
    rintro e w1 ⟨rfl, hbel⟩
    go_wp2
    go_ret
    exact ⟨by rw [HT.out]; rfl, hbel⟩
  · have HT := Lib.hid (show Tok.term l = [] from by unfold Tok.term; rw [if_neg (by omega)])
    clear hl hb
    have h64' : (64 : Int) < (n : Int) := by omega
    go_enter Try.func23, Try.ntmps23
    go_wp2
    go_ret
    exact ⟨by rw [HT.out]; rfl, Below.refl _ _⟩
end Go.Proofs.Ytahcmpmfknmecaa
