/- The document's Number. -/
import Derived.Test.YtbjoboemhdcalaaDoorFldRefNum
import Derived.Laws.Slices
import Derived.Laws.Strings2
import Derived.Laws.Strings3
namespace Go.Proofs.YtbjoboemhdcalaaDoor
open Go.RowKit
set_option maxRecDepth 100000

/-- the length and the first letter of a number's digits -/
def Fld.Fit (least : Bool) (s : List UInt8) : Prop := ¬ (s.length < 1 ∨ 19 < s.length ∨ (s.head? = some 48 ∧ (1 < s.length ∨ least = true)))
theorem Fld.Fit.open_ {least : Bool} {s : List UInt8} (h : Fld.Fit least s) : ¬ (s.length < 1 ∨ 19 < s.length ∨ (s.head? = some 48 ∧ (1 < s.length ∨ least = true))) := h
theorem run_tail (c : UInt8) (s : List UInt8) (W : World) :
    (Instr.slice 9 (.string ⟨(c :: s).toArray⟩) (some (.int .i64 1)) none none).run Tryd.prog W = .ok (.string ⟨s.toArray⟩) W := by
  have hsz : (⟨(c :: s).toArray⟩ : ByteArray).size = s.length + 1 := by rw [ByteArray.size, List.size_toArray]; rfl
  rw [run_slice_string_from_if (P := Tryd.prog) (w := W) 9 ⟨(c :: s).toArray⟩ .i64 1 Tryd.underlying9]
  rw [if_pos (by rw [hsz]; omega)]
  congr 2
  apply ByteArray.ext
  simp [ByteArray.data_extract, ByteArray.size]
set_option maxHeartbeats 4000000 in
theorem refNumNeg_any (s : List UInt8) (w : World) (hs : s.length ≤ 140737488355328) :
    Calls Tryd.prog 11 #[.string ⟨(45 :: s).toArray⟩] w fun e w' => e = .returned (.tuple #[.int .i64 ((Fld.refNum true s).getD 0), .bool (Fld.refNum true s).isSome]) ∧ w = w' := by
  generalize hR : Fld.refNum true s = R
  have HR := Lib.hid hR; clear hR
  have htl := run_tail 45 s
  rcases s with _ | ⟨c, r⟩
  · have HN := Lib.hid (show R = none from by rw [← HR.out]; rfl)
    clear HR
    go_enter Tryd.func11, Tryd.ntmps11
    go_wp2
    go_ret2
    exact ⟨by rw [HN.out]; rfl, rfl⟩
  · have HU := Lib.hid HR.out.symm; clear HR
    have hidx : ∀ (k : Nat) (h : k < (c :: r).length) (W : World), (Instr.index 9 (.string ⟨(c :: r).toArray⟩) (.int .i64 (k : Int))).run Tryd.prog W = .ok (.int .u8 ((c :: r)[k].toNat : Int)) W := fun k hk W => by
      have hsz := size_of (c :: r)
      rw [run_index_string (P := Tryd.prog) W 9 ⟨(c :: r).toArray⟩ .i64 (k : Int) Tryd.underlying9, dif_pos ⟨by omega, by rw [hsz]; omega⟩]
      rfl
    have hi0 : ∀ W, (Instr.index 9 (.string ⟨(c :: r).toArray⟩) (.int .i64 0)).run Tryd.prog W = .ok (.int .u8 (c.toNat : Int)) W := fun W => hidx 0 (by simp) W
    have HX := Lib.hid hidx; clear hidx
    have hlen : (c :: r).length = r.length + 1 := rfl
    generalize hS : c :: r = S at *
    have HS := Lib.hid hS; clear hS
    obtain ⟨m, hm⟩ : ∃ m, m = S.length := ⟨_, rfl⟩
    have hm1 : 1 ≤ m := by omega
    have Hm := Lib.hid hm
    have hsz : S.length = m := hm.symm; clear hm hlen
    have n1 : ¬ (m : Int) < 1 := by omega
    have h450 : ∀ W, (Instr.index 9 (.string ⟨(45 :: S).toArray⟩) (.int .i64 0)).run Tryd.prog W = .ok (.int .u8 45) W := fun W => by
      have hsz := size_of (45 :: S)
      rw [run_index_string (P := Tryd.prog) W 9 ⟨(45 :: S).toArray⟩ .i64 0 Tryd.underlying9, dif_pos ⟨by omega, by rw [hsz]; simp⟩]
      rfl
    have hp1 : (0 : Int) < (m : Int) + 1 := by omega
    by_cases h19 : m ≤ 19
    · have n2 : ¬ (19 : Int) < (m : Int) := by omega
      by_cases hz : c.toNat = 48
      · have HN := Lib.hid (show R = none from by
          rw [HU.out, Fld.refNum, if_pos]
          refine .inr (.inr ⟨?_, ?_⟩)
          · rw [← HS.out]; simp only [List.head?_cons, Option.some.injEq]; exact UInt8.toNat_inj.1 hz
          · exact .inr rfl)
        have hc : (c.toNat : Int) = 48 := by omega
        rw [hc] at hi0
        clear HU HX hz hc
        go_enter Tryd.func11, Tryd.ntmps11
        go_wp2
        all_goals
          go_ret2
          exact ⟨by rw [HN.out]; rfl, rfl⟩
      · have HF := Lib.hid (show Fld.Fit true S from by
          unfold Fld.Fit
          rintro (h | h | ⟨h, h2⟩)
          · omega
          · omega
          · rw [← HS.out] at h
            simp only [List.head?_cons, Option.some.injEq] at h
            subst h
            exact hz rfl)
        have HG := Lib.hid (show ∀ k (hk : k < S.length), Fld.digit S[k] = false → R = none from fun k hk hd => by
          rw [HU.out, Fld.refNum, if_neg HF.out.open_, if_pos (List.all_eq_false.2 ⟨S[k], List.getElem_mem hk, by rw [hd]; simp⟩)])
        have hc : ((c.toNat : Int) == 48) = false := by simp only [beq_eq_false_iff_ne, ne_eq]; omega
        have hc' : ¬ (c.toNat : Int) = 48 := by omega
        have HZ := Lib.hid hz; clear hz
        go_enter Tryd.func11, Tryd.ntmps11
        go_wp2
        go_loop [6, 7] (fun v i => ∃ (k : Nat) (x : Int), k ≤ m ∧ i = .int .i64 (k : Int) ∧ v = .int .u64 x ∧ x = (Fld.val 0 (S.take k) : Int) ∧ (S.take k).all Fld.digit = true) (fun _ i => m - (intOf i).toNat)
        case atStart => exact ⟨0, 0, by omega, rfl, rfl, rfl, rfl⟩
        case round =>
          obtain ⟨k, x, hk, rfl, rfl, hx, hall⟩ := hrel
          have hlt10 := Fld.val_lt 0 (S.take k) hall
          have htl2 : (S.take k).length = k := by rw [List.length_take]; omega
          rw [htl2] at hlt10
          by_cases hlt : k < m
          · have hkS : k < S.length := by omega
            have hidx := HX.out k hkS
            have Hk := Lib.hid (HG.out k hkS)
            have Hn := Lib.hid (Fld.all_next hkS Fld.digit hall)
            have Hv := Lib.hid (show Fld.val 0 (S.take (k + 1)) = Fld.val 0 (S.take k) * 10 + (S[k].toNat - 48) from by rw [List.take_succ_eq_append_getElem hkS, Fld.val_snoc])
            have hp : 10 ^ k ≤ 10 ^ 18 := Nat.pow_le_pow_right (by omega) (by omega)
            rw [show (10:Nat) ^ 18 = 1000000000000000000 from by decide] at hp
            have hx0 : 0 ≤ x := by omega
            have hx1 : x ≤ 999999999999999999 := by omega
            have h255 := S[k].toNat_lt
            generalize S[k] = d at *
            obtain ⟨y, hy, hy0, hy1⟩ : ∃ y : Int, y = (d.toNat : Int) ∧ 0 ≤ y ∧ y ≤ 255 := ⟨_, rfl, by omega, by omega⟩
            rw [← hy] at hidx
            have Hy := Lib.hid hy
            have Hx := Lib.hid hx
            have HD := Lib.hid (show ∀ b : Bool, (b = true ↔ 48 ≤ y ∧ y ≤ 57) → Fld.digit d = b from fun b hb => by
              rw [Bool.eq_iff_iff, hb]; simp only [Fld.digit, Bool.and_eq_true, decide_eq_true_eq]; omega)
            have i1 : (k : Int) < (m : Int) := by omega
            have i0 : (0 : Int) ≤ (k : Int) := by omega
            clear hy hx hall hlt10 hp h255 HU HF HG
            by_cases h48 : 48 ≤ y
            · have l48 : ¬ y < 48 := by omega
              by_cases h57 : y ≤ 57
              · have g57 : ¬ 57 < y := by omega
                have HT := Lib.hid (HD.out true (by simp; omega))
                go_wp2
                go_round
                case rel => exact ⟨k + 1, x * 10 + (y - 48), by omega, by go_num, rfl, by have := Hv.out; have := Hy.out; have := Hx.out; omega, Hn.out HT.out⟩
                case measure => simp [intOf]; omega
              · have g57 : 57 < y := by omega
                have HT := Lib.hid (Hk.out (HD.out false (by simp; omega)))
                go_wp2
                go_ret2
                exact ⟨by rw [HT.out]; rfl, rfl⟩
            · have l48 : y < 48 := by omega
              have HT := Lib.hid (Hk.out (HD.out false (by simp; omega)))
              go_wp2
              go_ret2
              exact ⟨by rw [HT.out]; rfl, rfl⟩
          · have hkm : k = m := by omega
            have HA := Lib.hid (show S.all Fld.digit = true by rwa [List.take_of_length_le (by omega)] at hall)
            have HV := Lib.hid (show x = (Fld.val 0 S : Int) by rwa [List.take_of_length_le (by omega)] at hx)
            have hp : 10 ^ k ≤ 10 ^ 19 := Nat.pow_le_pow_right (by omega) (by omega)
            rw [show (10:Nat) ^ 19 = 10000000000000000000 from by decide] at hp
            have hx0 : 0 ≤ x := by omega
            have hx1 : x ≤ 9999999999999999999 := by omega
            have i1 : ¬ (k : Int) < (m : Int) := by omega
            clear hx hall hlt10 hp HX HG
            have HP := Lib.hid (show 1 ≤ x from by
              have hcan : Fld.canon S := ⟨by intro e; rw [e] at hsz; simp at hsz; omega, HA.out, fun e => absurd e (fun e => HF.out.open_ (.inr (.inr ⟨e, .inr rfl⟩)))⟩
              have hv := HV.out
              rcases Nat.eq_zero_or_pos (Fld.val 0 S) with h0 | h0
              · have := Fld.dec_of_canon S hcan
                rw [h0, Fld.dec_small (by omega)] at this
                exact absurd (.inr (.inr ⟨by rw [← this]; rfl, .inr rfl⟩)) HF.out.open_
              · omega)
            have hx2 := HP.out
            by_cases hbig : x ≤ 9223372036854775808
            · have nb : ¬ 9223372036854775808 < x := by omega
              have HN := Lib.hid (show R = some (-x) from by rw [HU.out, Fld.refNum, if_neg HF.out.open_, if_neg (by rw [HA.out]; simp), if_pos rfl, if_neg (by have := HV.out; omega), ← HV.out])
              clear HU HF
              go_wp2
              go_ret2
              refine ⟨?_, rfl⟩
              rw [HN.out]
              simp only [Option.getD_some, Option.isSome_some]
              congr 1
              simp
              try omega
            · have nb : 9223372036854775808 < x := by omega
              have HN := Lib.hid (show R = none from by rw [HU.out, Fld.refNum, if_neg HF.out.open_, if_neg (by rw [HA.out]; simp), if_pos rfl, if_pos (by have := HV.out; omega)])
              clear HU HF
              go_wp2
              go_ret2
              exact ⟨by rw [HN.out]; rfl, rfl⟩
    · have n2 : (19 : Int) < (m : Int) := by omega
      have HN := Lib.hid (show R = none from by rw [HU.out, Fld.refNum, if_pos (.inr (.inl (by omega)))])
      clear HU HX
      go_enter Tryd.func11, Tryd.ntmps11
      go_wp2
      go_ret2
      exact ⟨by rw [HN.out]; rfl, rfl⟩
set_option maxHeartbeats 4000000 in
theorem refNumPos_any (s : List UInt8) (w : World) (hs : s.length ≤ 140737488355328) (h45 : s.head? ≠ some 45) :
    Calls Tryd.prog 11 #[.string ⟨s.toArray⟩] w fun e w' => e = .returned (.tuple #[.int .i64 ((Fld.refNum false s).getD 0), .bool (Fld.refNum false s).isSome]) ∧ w = w' := by
  generalize hR : Fld.refNum false s = R
  have HR := Lib.hid hR; clear hR
  rcases s with _ | ⟨c, r⟩
  · have HN := Lib.hid (show R = none from by rw [← HR.out]; rfl)
    clear HR
    go_enter Tryd.func11, Tryd.ntmps11
    go_wp2
    go_ret2
    exact ⟨by rw [HN.out]; rfl, rfl⟩
  · have HU := Lib.hid HR.out.symm; clear HR
    have hidx : ∀ (k : Nat) (h : k < (c :: r).length) (W : World), (Instr.index 9 (.string ⟨(c :: r).toArray⟩) (.int .i64 (k : Int))).run Tryd.prog W = .ok (.int .u8 ((c :: r)[k].toNat : Int)) W := fun k hk W => by
      have hsz := size_of (c :: r)
      rw [run_index_string (P := Tryd.prog) W 9 ⟨(c :: r).toArray⟩ .i64 (k : Int) Tryd.underlying9, dif_pos ⟨by omega, by rw [hsz]; omega⟩]
      rfl
    have hi0 : ∀ W, (Instr.index 9 (.string ⟨(c :: r).toArray⟩) (.int .i64 0)).run Tryd.prog W = .ok (.int .u8 (c.toNat : Int)) W := fun W => hidx 0 (by simp) W
    have HX := Lib.hid hidx; clear hidx
    have hlen : (c :: r).length = r.length + 1 := rfl
    generalize hS : c :: r = S at *
    have HS := Lib.hid hS; clear hS
    obtain ⟨m, hm⟩ : ∃ m, m = S.length := ⟨_, rfl⟩
    have hm1 : 1 ≤ m := by omega
    have Hm := Lib.hid hm
    have hsz : S.length = m := hm.symm; clear hm hlen
    have n1 : ¬ (m : Int) < 1 := by omega
    have hc45 : ((c.toNat : Int) == 45) = false := by
      simp only [beq_eq_false_iff_ne, ne_eq]
      intro e
      have : c.toNat = 45 := by omega
      exact h45 (by rw [← HS.out]; simp only [List.head?_cons, Option.some.injEq]; exact UInt8.toNat_inj.1 this)
    have hc45' : ¬ (c.toNat : Int) = 45 := by simpa using hc45
    clear h45
    have hpos : (0 : Int) < (m : Int) := by omega
    by_cases h19 : m ≤ 19
    · have n2 : ¬ (19 : Int) < (m : Int) := by omega
      by_cases hz : c.toNat = 48 ∧ 1 < m
      · have HN := Lib.hid (show R = none from by
          rw [HU.out, Fld.refNum, if_pos]
          refine .inr (.inr ⟨?_, ?_⟩)
          · rw [← HS.out]; simp only [List.head?_cons, Option.some.injEq]; exact UInt8.toNat_inj.1 hz.1
          · exact .inl (by rw [hsz]; exact hz.2))
        have hc : (c.toNat : Int) = 48 := by omega
        rw [hc] at hi0 hc45 hc45'
        have h1m : (1 : Int) < (m : Int) := by omega
        clear HU HX hz hc
        go_enter Tryd.func11, Tryd.ntmps11
        go_wp2
        all_goals
          go_ret2
          exact ⟨by rw [HN.out]; rfl, rfl⟩
      · have HF := Lib.hid (show Fld.Fit false S from by
          unfold Fld.Fit
          rintro (h | h | ⟨h, h2⟩)
          · omega
          · omega
          · rw [← HS.out] at h
            simp only [List.head?_cons, Option.some.injEq] at h
            subst h
            rcases h2 with h2 | h2
            · exact hz ⟨rfl, by omega⟩
            · cases h2)
        have HG := Lib.hid (show ∀ k (hk : k < S.length), Fld.digit S[k] = false → R = none from fun k hk hd => by
          rw [HU.out, Fld.refNum, if_neg HF.out.open_, if_pos (List.all_eq_false.2 ⟨S[k], List.getElem_mem hk, by rw [hd]; simp⟩)])
        have HZ := Lib.hid hz; clear hz
        rcases (by have := HZ.out; omega : ¬ c.toNat = 48 ∨ (c.toNat = 48 ∧ ¬ 1 < m)) with hc | ⟨hc, h1m⟩
        · have hcb : ((c.toNat : Int) == 48) = false := by simp only [beq_eq_false_iff_ne, ne_eq]; omega
          have hc' : ¬ (c.toNat : Int) = 48 := by omega
          go_enter Tryd.func11, Tryd.ntmps11
          go_wp2
          go_loop [6, 7] (fun v i => ∃ (k : Nat) (x : Int), k ≤ m ∧ i = .int .i64 (k : Int) ∧ v = .int .u64 x ∧ x = (Fld.val 0 (S.take k) : Int) ∧ (S.take k).all Fld.digit = true) (fun _ i => m - (intOf i).toNat)
          case atStart => exact ⟨0, 0, by omega, rfl, rfl, rfl, rfl⟩
          case round =>
            obtain ⟨k, x, hk, rfl, rfl, hx, hall⟩ := hrel
            have hlt10 := Fld.val_lt 0 (S.take k) hall
            have htl2 : (S.take k).length = k := by rw [List.length_take]; omega
            rw [htl2] at hlt10
            by_cases hlt : k < m
            · have hkS : k < S.length := by omega
              have hidx := HX.out k hkS
              have Hk := Lib.hid (HG.out k hkS)
              have Hn := Lib.hid (Fld.all_next hkS Fld.digit hall)
              have Hv := Lib.hid (show Fld.val 0 (S.take (k + 1)) = Fld.val 0 (S.take k) * 10 + (S[k].toNat - 48) from by rw [List.take_succ_eq_append_getElem hkS, Fld.val_snoc])
              have hp : 10 ^ k ≤ 10 ^ 18 := Nat.pow_le_pow_right (by omega) (by omega)
              rw [show (10:Nat) ^ 18 = 1000000000000000000 from by decide] at hp
              have hx0 : 0 ≤ x := by omega
              have hx1 : x ≤ 999999999999999999 := by omega
              have h255 := S[k].toNat_lt
              generalize S[k] = d at *
              obtain ⟨y, hy, hy0, hy1⟩ : ∃ y : Int, y = (d.toNat : Int) ∧ 0 ≤ y ∧ y ≤ 255 := ⟨_, rfl, by omega, by omega⟩
              rw [← hy] at hidx
              have Hy := Lib.hid hy
              have Hx := Lib.hid hx
              have HD := Lib.hid (show ∀ b : Bool, (b = true ↔ 48 ≤ y ∧ y ≤ 57) → Fld.digit d = b from fun b hb => by
                rw [Bool.eq_iff_iff, hb]; simp only [Fld.digit, Bool.and_eq_true, decide_eq_true_eq]; omega)
              have i1 : (k : Int) < (m : Int) := by omega
              have i0 : (0 : Int) ≤ (k : Int) := by omega
              clear hy hx hall hlt10 hp h255 HU HF HG
              by_cases h48 : 48 ≤ y
              · have l48 : ¬ y < 48 := by omega
                by_cases h57 : y ≤ 57
                · have g57 : ¬ 57 < y := by omega
                  have HT := Lib.hid (HD.out true (by simp; omega))
                  go_wp2
                  go_round
                  case rel => exact ⟨k + 1, x * 10 + (y - 48), by omega, by go_num, rfl, by have := Hv.out; have := Hy.out; have := Hx.out; omega, Hn.out HT.out⟩
                  case measure => simp [intOf]; omega
                · have g57 : 57 < y := by omega
                  have HT := Lib.hid (Hk.out (HD.out false (by simp; omega)))
                  go_wp2
                  go_ret2
                  exact ⟨by rw [HT.out]; rfl, rfl⟩
              · have l48 : y < 48 := by omega
                have HT := Lib.hid (Hk.out (HD.out false (by simp; omega)))
                go_wp2
                go_ret2
                exact ⟨by rw [HT.out]; rfl, rfl⟩
            · have hkm : k = m := by omega
              have HA := Lib.hid (show S.all Fld.digit = true by rwa [List.take_of_length_le (by omega)] at hall)
              have HV := Lib.hid (show x = (Fld.val 0 S : Int) by rwa [List.take_of_length_le (by omega)] at hx)
              have hp : 10 ^ k ≤ 10 ^ 19 := Nat.pow_le_pow_right (by omega) (by omega)
              rw [show (10:Nat) ^ 19 = 10000000000000000000 from by decide] at hp
              have hx0 : 0 ≤ x := by omega
              have hx1 : x ≤ 9999999999999999999 := by omega
              have i1 : ¬ (k : Int) < (m : Int) := by omega
              clear hx hall hlt10 hp HX HG
              by_cases hbig : x ≤ 9223372036854775807
              · have nb : ¬ 9223372036854775807 < x := by omega
                have HN := Lib.hid (show R = some x from by rw [HU.out, Fld.refNum, if_neg HF.out.open_, if_neg (by rw [HA.out]; simp), if_neg (by simp), if_neg (by have := HV.out; omega), ← HV.out])
                clear HU HF
                go_wp2
                go_ret2
                exact ⟨by rw [HN.out]; rfl, rfl⟩
              · have nb : 9223372036854775807 < x := by omega
                have HN := Lib.hid (show R = none from by rw [HU.out, Fld.refNum, if_neg HF.out.open_, if_neg (by rw [HA.out]; simp), if_neg (by simp), if_pos (by have := HV.out; omega)])
                clear HU HF
                go_wp2
                go_ret2
                exact ⟨by rw [HN.out]; rfl, rfl⟩
        · have hc2 : (c.toNat : Int) = 48 := by omega
          rw [hc2] at hi0 hc45 hc45'
          have h1m' : ¬ (1 : Int) < (m : Int) := by omega
          go_enter Tryd.func11, Tryd.ntmps11
          go_wp2
          go_loop [6, 7] (fun v i => ∃ (k : Nat) (x : Int), k ≤ m ∧ i = .int .i64 (k : Int) ∧ v = .int .u64 x ∧ x = (Fld.val 0 (S.take k) : Int) ∧ (S.take k).all Fld.digit = true) (fun _ i => m - (intOf i).toNat)
          case atStart => exact ⟨0, 0, by omega, rfl, rfl, rfl, rfl⟩
          case round =>
            obtain ⟨k, x, hk, rfl, rfl, hx, hall⟩ := hrel
            have hlt10 := Fld.val_lt 0 (S.take k) hall
            have htl2 : (S.take k).length = k := by rw [List.length_take]; omega
            rw [htl2] at hlt10
            by_cases hlt : k < m
            · have hkS : k < S.length := by omega
              have hidx := HX.out k hkS
              have Hk := Lib.hid (HG.out k hkS)
              have Hn := Lib.hid (Fld.all_next hkS Fld.digit hall)
              have Hv := Lib.hid (show Fld.val 0 (S.take (k + 1)) = Fld.val 0 (S.take k) * 10 + (S[k].toNat - 48) from by rw [List.take_succ_eq_append_getElem hkS, Fld.val_snoc])
              have hp : 10 ^ k ≤ 10 ^ 18 := Nat.pow_le_pow_right (by omega) (by omega)
              rw [show (10:Nat) ^ 18 = 1000000000000000000 from by decide] at hp
              have hx0 : 0 ≤ x := by omega
              have hx1 : x ≤ 999999999999999999 := by omega
              have h255 := S[k].toNat_lt
              generalize S[k] = d at *
              obtain ⟨y, hy, hy0, hy1⟩ : ∃ y : Int, y = (d.toNat : Int) ∧ 0 ≤ y ∧ y ≤ 255 := ⟨_, rfl, by omega, by omega⟩
              rw [← hy] at hidx
              have Hy := Lib.hid hy
              have Hx := Lib.hid hx
              have HD := Lib.hid (show ∀ b : Bool, (b = true ↔ 48 ≤ y ∧ y ≤ 57) → Fld.digit d = b from fun b hb => by
                rw [Bool.eq_iff_iff, hb]; simp only [Fld.digit, Bool.and_eq_true, decide_eq_true_eq]; omega)
              have i1 : (k : Int) < (m : Int) := by omega
              have i0 : (0 : Int) ≤ (k : Int) := by omega
              clear hy hx hall hlt10 hp h255 HU HF HG
              by_cases h48 : 48 ≤ y
              · have l48 : ¬ y < 48 := by omega
                by_cases h57 : y ≤ 57
                · have g57 : ¬ 57 < y := by omega
                  have HT := Lib.hid (HD.out true (by simp; omega))
                  go_wp2
                  go_round
                  case rel => exact ⟨k + 1, x * 10 + (y - 48), by omega, by go_num, rfl, by have := Hv.out; have := Hy.out; have := Hx.out; omega, Hn.out HT.out⟩
                  case measure => simp [intOf]; omega
                · have g57 : 57 < y := by omega
                  have HT := Lib.hid (Hk.out (HD.out false (by simp; omega)))
                  go_wp2
                  go_ret2
                  exact ⟨by rw [HT.out]; rfl, rfl⟩
              · have l48 : y < 48 := by omega
                have HT := Lib.hid (Hk.out (HD.out false (by simp; omega)))
                go_wp2
                go_ret2
                exact ⟨by rw [HT.out]; rfl, rfl⟩
            · have hkm : k = m := by omega
              have HA := Lib.hid (show S.all Fld.digit = true by rwa [List.take_of_length_le (by omega)] at hall)
              have HV := Lib.hid (show x = (Fld.val 0 S : Int) by rwa [List.take_of_length_le (by omega)] at hx)
              have hp : 10 ^ k ≤ 10 ^ 19 := Nat.pow_le_pow_right (by omega) (by omega)
              rw [show (10:Nat) ^ 19 = 10000000000000000000 from by decide] at hp
              have hx0 : 0 ≤ x := by omega
              have hx1 : x ≤ 9999999999999999999 := by omega
              have i1 : ¬ (k : Int) < (m : Int) := by omega
              clear hx hall hlt10 hp HX HG
              by_cases hbig : x ≤ 9223372036854775807
              · have nb : ¬ 9223372036854775807 < x := by omega
                have HN := Lib.hid (show R = some x from by rw [HU.out, Fld.refNum, if_neg HF.out.open_, if_neg (by rw [HA.out]; simp), if_neg (by simp), if_neg (by have := HV.out; omega), ← HV.out])
                clear HU HF
                go_wp2
                go_ret2
                exact ⟨by rw [HN.out]; rfl, rfl⟩
              · have nb : 9223372036854775807 < x := by omega
                have HN := Lib.hid (show R = none from by rw [HU.out, Fld.refNum, if_neg HF.out.open_, if_neg (by rw [HA.out]; simp), if_neg (by simp), if_pos (by have := HV.out; omega)])
                clear HU HF
                go_wp2
                go_ret2
                exact ⟨by rw [HN.out]; rfl, rfl⟩
    · have n2 : (19 : Int) < (m : Int) := by omega
      have HN := Lib.hid (show R = none from by rw [HU.out, Fld.refNum, if_pos (.inr (.inl (by omega)))])
      clear HU HX
      go_enter Tryd.func11, Tryd.ntmps11
      go_wp2
      go_ret2
      exact ⟨by rw [HN.out]; rfl, rfl⟩
theorem refNumber_any (s : List UInt8) (w : World) (hs : s.length ≤ 140737488355328) :
    Calls Tryd.prog 11 #[.string ⟨s.toArray⟩] w fun e w' => e = .returned (.tuple #[.int .i64 ((Fld.num s).getD 0), .bool (Fld.num s).isSome]) ∧ w = w' := by
  by_cases h : s.head? = some 45
  · cases s with
    | nil => cases h
    | cons c r =>
      simp only [List.head?_cons, Option.some.injEq] at h
      subst h
      rw [← Fld.refNum_neg]
      exact refNumNeg_any r w (by simp at hs; omega)
  · rw [← Fld.refNum_pos s h]
    exact refNumPos_any s w hs h
end Go.Proofs.YtbjoboemhdcalaaDoor
