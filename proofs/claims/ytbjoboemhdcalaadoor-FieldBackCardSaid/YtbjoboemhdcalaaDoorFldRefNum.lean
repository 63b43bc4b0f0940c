/- The document's Digits, Text and Number. -/
import Derived.Test.YtbjoboemhdcalaaDoorFldNum
import Derived.Test.YtbjoboemhdcalaaDoorBytesEq
import Derived.Test.YtbjoboemhdcalaaDoorFits
namespace Go.Proofs.YtbjoboemhdcalaaDoor
open Go.RowKit
set_option maxRecDepth 100000

/-- a byte, made a string -/
theorem run_one_string (W : World) (z : Int) (c : UInt8) (h : (c.toNat : Int) = z) :
    (convert 31 9 (.slice (some ⟨W.heap.size, 0, none⟩) 1 1)).run Tryd.prog (W.alloc (.cells #[.int .u8 z] 5)) = .ok (.string ⟨#[c]⟩) (W.alloc (.cells #[.int .u8 z] 5)) := by
  have ho := own_one W c z (by rw [bval, h])
  exact run_string_of ho.bytes 1

theorem str_append (a b : List UInt8) : ((⟨a.toArray⟩ : ByteArray) ++ (⟨b.toArray⟩ : ByteArray)) = ⟨(a ++ b).toArray⟩ := by
  apply ByteArray.ext
  simp [ByteArray.data_append]
/-- the last digit -/
def Fld.dig (v : Nat) : UInt8 := UInt8.ofNat (48 + v % 10)
theorem Fld.dig_toNat (v : Nat) : (Fld.dig v).toNat = 48 + v % 10 := Fld.toNat_digit (by omega)
theorem Fld.dig_small {v : Nat} (h : v < 10) : Lib.decDigits v = [Fld.dig v] := by unfold Fld.dig; rw [Fld.dec_small h, Nat.mod_eq_of_lt h]
theorem Fld.dig_big {v : Nat} (h : ¬ v < 10) : Lib.decDigits v = Lib.decDigits (v / 10) ++ [Fld.dig v] := Fld.dec_big h
set_option maxHeartbeats 1000000 in
theorem digits_any (u : Nat) (w : World) (hu : u < 18446744073709551616) :
    Calls Tryd.prog 27 #[.int .u64 (u : Int)] w fun e w' => e = .returned (.string ⟨(Lib.decDigits u).toArray⟩) ∧ Below w.heap.size w w' := by
  have H1 := Lib.hid (run_one_string w (48 + (u : Int) % 10) (Fld.dig u) (by rw [Fld.dig_toNat]; omega))
  have hb0 : ∀ o, Below w.heap.size w (w.alloc o) := fun o => (Below.refl _ w).alloc (Nat.le_refl _) o
  generalize hD : Lib.decDigits u = D
  have HD := Lib.hid hD; clear hD
  obtain ⟨x, hx, h0, h1⟩ : ∃ x : Int, x = (u : Int) ∧ 0 ≤ x ∧ x ≤ 18446744073709551615 := ⟨_, rfl, by omega, by omega⟩
  rw [← hx] at H1 ⊢
  have Hx := Lib.hid hx; clear hx
  have h8 : 0 ≤ x % 10 ∧ x % 10 < 10 := by omega
  have HB := Lib.hid hb0; clear hb0
  have hrun := H1.out
  go_enter Tryd.func27, Tryd.ntmps27
  go_wp2
  go_loopw [0, 3] (fun a s wr => ∃ (v : Nat) (r : List UInt8), a = .int .u64 (v : Int) ∧ v < 18446744073709551616 ∧ s = .string ⟨(Fld.dig v :: r).toArray⟩ ∧ Lib.decDigits v ++ r = D ∧ Below w.heap.size w wr) (fun a _ _ => (intOf a).toNat)
  case atStart => exact ⟨u, [], by rw [Hx.out], hu, rfl, by rw [List.append_nil]; exact HD.out, HB.out _⟩
  case round =>
    obtain ⟨v, r, rfl, hv, rfl, hr, hbel⟩ := hrel
    clear hrun H1 h8
    by_cases h10 : v < 10
    · have HR := Lib.hid (show (Fld.dig v :: r) = D by rw [← hr, Fld.dig_small h10]; rfl)
      have Hv := Lib.hid hv
      obtain ⟨y, hy, hy1⟩ : ∃ y : Int, y = (v : Int) ∧ ¬ 10 ≤ y := ⟨_, rfl, by omega⟩
      rw [← hy]
      have Hy := Lib.hid hy; clear hy hr h10 hv
      go_wp2
      go_ret
      exact ⟨by rw [← HR.out]; rfl, hbel⟩
    · have HR := Lib.hid (show Lib.decDigits (v / 10) ++ (Fld.dig v :: r) = D by rw [← hr, Fld.dig_big h10]; simp)
      have H1 := run_one_string wr (48 + (v : Int) / 10 % 10) (Fld.dig (v / 10)) (by rw [Fld.dig_toNat]; omega)
      have hlt : v / 10 < 18446744073709551616 := by omega
      have Hm := Lib.hid (show v / 10 < v by omega)
      have HB2 := Lib.hid (show ∀ o, Below w.heap.size w (wr.alloc o) from fun o => hbel.alloc hbel.size o)
      have Hlt := Lib.hid hlt
      have hcat : ¬ 9223372036854775807 < 1 + (r.length + 1) := by
        have h1 := congrArg List.length hr
        have h2 := Fld.dec_length (u := u) (k := 20) (by have : (10:Nat) ^ 20 = 100000000000000000000 := by decide
                                                         omega) (by omega)
        rw [HD.out] at h2
        rw [List.length_append] at h1
        omega
      obtain ⟨y, hy, hy0, hy1, hy2⟩ : ∃ y : Int, y = (v : Int) ∧ 10 ≤ y ∧ y ≤ 18446744073709551615 ∧ 0 ≤ y := ⟨_, rfl, by omega, by omega, by omega⟩
      rw [← hy] at H1 ⊢
      have h8 : 0 ≤ y / 10 % 10 ∧ y / 10 % 10 < 10 := by omega
      have h9 : 0 ≤ y / 10 ∧ y / 10 ≤ 18446744073709551615 := by omega
      have Hy := Lib.hid hy; clear hy hr h10 hv hlt
      go_wp2
      go_roundw
      case rel => exact ⟨v / 10, Fld.dig v :: r, by rw [Hy.out]; rfl, Hlt.out, by rw [show (#[Fld.dig (v / 10)] : Array UInt8) = [Fld.dig (v / 10)].toArray from rfl, str_append]; rfl, HR.out, HB2.out _⟩
      case measure => have := Hm.out; have := Hy.out; simp [intOf]; omega
set_option maxHeartbeats 1000000 in
theorem text_any (n : Int) (w : World) (h0 : -9223372036854775808 ≤ n) (h1 : n ≤ 9223372036854775807) :
    Calls Tryd.prog 13 #[.int .i64 n] w fun e w' => e = .returned (.string ⟨(Lib.itoa n).toArray⟩) ∧ Below w.heap.size w w' := by
  by_cases hn : 0 ≤ n
  · have HD := digits_any n.toNat w (by omega)
    rw [show ((n.toNat : Nat) : Int) = n from by omega] at HD
    have HI := Lib.hid (show Lib.itoa n = Lib.decDigits n.toNat by unfold Lib.itoa; rw [if_neg (by omega)])
    replace HD := Lib.hid HD
    go_enter Tryd.func13, Tryd.ntmps13
    go_wp2_with fail
    refine HD.out.mono ?_
    rintro e w1 ⟨rfl, hb⟩
    go_wp2
    go_ret
    exact ⟨by rw [HI.out]; rfl, hb⟩
  · have HD := digits_any n.natAbs w (by omega)
    obtain ⟨y, hy, hy0, hy1⟩ : ∃ y : Int, y = -(n + 1) ∧ 0 ≤ y ∧ y ≤ 9223372036854775807 := ⟨_, rfl, by omega, by omega⟩
    rw [show ((n.natAbs : Nat) : Int) = y + 1 from by omega] at HD
    have HI := Lib.hid (show Lib.itoa n = 45 :: Lib.decDigits n.natAbs by unfold Lib.itoa; rw [if_pos (by omega)])
    have hlen := Fld.dec_length (u := n.natAbs) (k := 20) (by have : (10:Nat) ^ 20 = 100000000000000000000 := by decide
                                                              omega) (by omega)
    have hcat : ¬ 9223372036854775807 < 1 + (Lib.decDigits n.natAbs).length := by omega
    generalize Lib.decDigits n.natAbs = D at *
    replace HD := Lib.hid HD
    have hneg : -(n + 1) = y := hy.symm
    have Hy := Lib.hid hy; clear hy hlen
    go_enter Tryd.func13, Tryd.ntmps13
    go_wp2_with fail
    refine HD.out.mono ?_
    rintro e w1 ⟨rfl, hb⟩
    go_wp2
    go_ret
    exact ⟨by rw [HI.out, show (45 :: D).toArray = ([45] ++ D).toArray from rfl, ← str_append]; rfl, hb⟩
end Go.Proofs.YtbjoboemhdcalaaDoor
