/- crc.Split and dragnetref01.Split. -/
import Derived.Test.YtgjofpjijnbjeaaDoorListOwn
namespace Go.Proofs.YtgjofpjijnbjeaaDoor
open Go.RowKit

theorem run_cut_from (ad : Addr) (n cap lo : Nat) (h1 : lo < n) (h2 : n ≤ cap) (W : World) :
    (Instr.slice 22 (.slice (some ad) n cap) (some (.int .i64 (lo : Int))) none none).run Tryd.prog W = .ok (.slice (some (ad.add lo)) (n - lo) (cap - lo)) W := by
  rw [run_slice_l (P := Tryd.prog) (w := W) (kl := .i64) (l := (lo : Int)) (h0 := by omega) (h1 := by omega) (ht := by rw [elem22]; exact Tryd.underlying22)]
  rw [elem22, size8]
  simp [Result.andThen, sliced]
  omega

def SplitPost (w : World) (l : List UInt8) (e : Ending) (w' : World) : Prop :=
  ∃ A c, e = .returned (.tuple #[.slice A (split l.length l).1.length c, .int .i64 (((split l.length l).2.1 : Nat) : Int), .int .i64 (((split l.length l).2.2 : Nat) : Int)]) ∧
    ListOwn w' w.heap.size A (split l.length l).1.length c (split l.length l).1 ∧ Below w.heap.size w w'

set_option maxHeartbeats 1000000 in
theorem split_any (A : Option Addr) (n cap B : Nat) (l : List UInt8) (w : World) (hl : l.length = n) (hm : n ≤ 4194304) (hcap : n ≤ cap) (hb : Bytes w B A l) (hB : B ≤ w.heap.size) (ht : Table w) :
    Calls Tryd.prog 22 #[.slice A n cap] w (SplitPost w l) := by
  have Hl := Lib.hid hl; clear hl
  have hsz := ht.size
  go_enter Tryd.func22, Tryd.ntmps22
  go_wp2
  go_loopw [2, 3] (fun v i wr => ∃ (s m c : Nat) (A' : Option Addr) (ls : List (List UInt8)), s ≤ n ∧ m * 8 ≤ s ∧ i = .int .i64 s ∧ v = .slice A' m c ∧ ListOwn wr w.heap.size A' m c ls ∧ Below w.heap.size w wr ∧ Stand l s ls) (fun _ i _ => n - (intOf i).toNat)
  case atStart => exact ⟨0, 0, 0, none, [], Nat.zero_le _, Nat.zero_le _, rfl, rfl, ListOwn.nil _ _, Below.refl _ _, Stand.start l⟩
  case round =>
    obtain ⟨s, m, c, A', ls, hs, hms, rfl, rfl, hlo, hbel, hst⟩ := hrel
    have Hst := Lib.hid hst; clear hst
    by_cases hlt : s < n
    · have hs' : s < l.length := by have := Hl.out; omega
      obtain ⟨ad, rfl⟩ := hb.some_ (by omega)
      have hx := ((hb.wide hB).below hbel).drop (k := s) (cap := cap) (by omega) (by have := Hl.out; omega)
      rw [if_neg (by omega)] at hx
      have hsl := run_cut_from ad n cap s hlt hcap
      have hF := Lib.hid (first_any (some (ad.add s)) (n - s) (cap - s) w.heap.size (l.drop s) wr (by have := Hl.out; simp; omega) (by omega) (by omega) hx hbel.size (ht.below hbel hsz))
      clear hx
      by_cases hE : frameErr (l.drop s) = 0
      · have HE := Lib.hid hE; clear hE
        go_wp2_with fail
        refine hF.out.mono ?_
        rintro e w2 ⟨hbel2, ⟨hne, _⟩ | ⟨h0, Ap, cp, rfl, hop⟩⟩
        · exact absurd HE.out hne
        clear hF hsl h0
        have hpl := pay_length (frameErr_zero HE.out).1
        have hfit := (sizeErr_zero (frameErr_zero HE.out).1).2.2
        rw [← hpl] at hop
        have hnx := Lib.hid (Hst.out.next hs' HE.out)
        have hwb : s + (word (l.drop s) + 8) ≤ n := by have := Hl.out; simp at hfit; omega
        have hop' := hop.low hbel.size
        have hlo' := hlo.below hbel2
        have hbel' := hbel.trans (hbel2.mono hbel.size)
        rw [← hpl]
        rw [← hpl] at hnx hwb
        clear hop hlo hbel hbel2 hfit hpl
        generalize pay (l.drop s) = p at *
        go_wp2_with (at_builtin; refine wpList_append_list rfl (.tmp 25) (.tmp 27) rfl w.heap.size A' m c ls rfl hlo' Ap cp p rfl hop' (by omega) hbel'.size ?_; intro A3 c3 w3 hlo3 hbel3)
        go_roundw
        case rel => exact ⟨s + (p.length + 8), m + 1, c3, A3, ls ++ [p], by omega, by omega, by go_num, rfl, hlo3, hbel'.trans hbel3, hnx.out⟩
        case measure => simp [intOf]; omega
      · have HE := Lib.hid hE
        have hnz := nonzero hE
        have hfl := frameErr_lt (l.drop s)
        have hfin := Lib.hid (Hst.out.fail hs' hE)
        go_wp2_with fail
        refine hF.out.mono ?_
        rintro e w2 ⟨hbel2, ⟨_, rfl⟩ | ⟨h0, _⟩⟩
        rotate_left
        · exact absurd h0 HE.out
        clear hF hsl hE
        have hlo' := hlo.below hbel2
        have hbel' := hbel.trans (hbel2.mono hbel.size)
        generalize frameErr (l.drop s) = fe at *
        go_wp2
        go_ret3
        refine ⟨A', c, ?_, ?_, hbel'⟩
        · rw [hfin.out]
          exact congrArg (fun x => Ending.returned (.tuple #[.slice A' x c, .int .i64 (s : Int), .int .i64 (fe : Int)])) hlo.len.symm
        · rw [hfin.out, hlo.len]
          exact hlo'
    · obtain rfl : s = n := by omega
      have hfin := Lib.hid (Hst.out.done Hl.out.symm)
      go_wp2
      go_ret3
      refine ⟨A', c, ?_, ?_, hbel⟩
      · rw [hfin.out]
        exact congrArg (fun x => Ending.returned (.tuple #[.slice A' x c, .int .i64 (s : Int), .int .i64 0])) hlo.len.symm
      · rw [hfin.out, hlo.len]
        exact hlo

set_option maxHeartbeats 1000000 in
theorem refSplit_any (A : Option Addr) (n cap B : Nat) (l : List UInt8) (w : World) (hl : l.length = n) (hm : n ≤ 4194304) (hcap : n ≤ cap) (hb : Bytes w B A l) (hB : B ≤ w.heap.size) :
    Calls Tryd.prog 23 #[.slice A n cap] w (SplitPost w l) := by
  have Hl := Lib.hid hl; clear hl
  go_enter Tryd.func23, Tryd.ntmps23
  go_wp2
  go_loopw [5, 6] (fun v i wr => ∃ (s m c : Nat) (A' : Option Addr) (ls : List (List UInt8)), s ≤ n ∧ m * 8 ≤ s ∧ i = .int .i64 s ∧ v = .slice A' m c ∧ ListOwn wr w.heap.size A' m c ls ∧ Below w.heap.size w wr ∧ Stand l s ls) (fun _ i _ => n - (intOf i).toNat)
  case atStart => exact ⟨0, 0, 0, none, [], Nat.zero_le _, Nat.zero_le _, rfl, rfl, ListOwn.nil _ _, Below.refl _ _, Stand.start l⟩
  case round =>
    obtain ⟨s, m, c, A', ls, hs, hms, rfl, rfl, hlo, hbel, hst⟩ := hrel
    have Hst := Lib.hid hst; clear hst
    by_cases hlt : s < n
    · have hs' : s < l.length := by have := Hl.out; omega
      obtain ⟨ad, rfl⟩ := hb.some_ (by omega)
      have hx := ((hb.wide hB).below hbel).drop (k := s) (cap := cap) (by omega) (by have := Hl.out; omega)
      rw [if_neg (by omega)] at hx
      have hsl := run_cut_from ad n cap s hlt hcap
      have hF := Lib.hid (refFirst_any (some (ad.add s)) (n - s) (cap - s) w.heap.size (l.drop s) wr (by have := Hl.out; simp; omega) (by omega) (by omega) hx hbel.size)
      clear hx
      by_cases hE : frameErr (l.drop s) = 0
      · have HE := Lib.hid hE; clear hE
        go_wp2_with fail
        refine hF.out.mono ?_
        rintro e w2 ⟨hbel2, ⟨hne, _⟩ | ⟨h0, Ap, cp, rfl, hop⟩⟩
        · exact absurd HE.out hne
        clear hF hsl h0
        have hpl := pay_length (frameErr_zero HE.out).1
        have hfit := (sizeErr_zero (frameErr_zero HE.out).1).2.2
        rw [← hpl] at hop
        have hnx := Lib.hid (Hst.out.next hs' HE.out)
        have hwb : s + (word (l.drop s) + 8) ≤ n := by have := Hl.out; simp at hfit; omega
        have hop' := hop.low hbel.size
        have hlo' := hlo.below hbel2
        have hbel' := hbel.trans (hbel2.mono hbel.size)
        rw [← hpl]
        rw [← hpl] at hnx hwb
        clear hop hlo hbel hbel2 hfit hpl
        generalize pay (l.drop s) = p at *
        go_wp2_with (at_builtin; refine wpList_append_list rfl (.tmp 27) (.tmp 29) rfl w.heap.size A' m c ls rfl hlo' Ap cp p rfl hop' (by omega) hbel'.size ?_; intro A3 c3 w3 hlo3 hbel3)
        go_roundw
        case rel => exact ⟨s + (p.length + 8), m + 1, c3, A3, ls ++ [p], by omega, by omega, by go_num, rfl, hlo3, hbel'.trans hbel3, hnx.out⟩
        case measure => simp [intOf]; omega
      · have HE := Lib.hid hE
        have hnz := nonzero hE
        have hfl := frameErr_lt (l.drop s)
        have hfin := Lib.hid (Hst.out.fail hs' hE)
        go_wp2_with fail
        refine hF.out.mono ?_
        rintro e w2 ⟨hbel2, ⟨_, rfl⟩ | ⟨h0, _⟩⟩
        rotate_left
        · exact absurd h0 HE.out
        clear hF hsl hE
        have hlo' := hlo.below hbel2
        have hbel' := hbel.trans (hbel2.mono hbel.size)
        generalize frameErr (l.drop s) = fe at *
        go_wp2
        go_ret3
        refine ⟨A', c, ?_, ?_, hbel'⟩
        · rw [hfin.out]
          exact congrArg (fun x => Ending.returned (.tuple #[.slice A' x c, .int .i64 (s : Int), .int .i64 (fe : Int)])) hlo.len.symm
        · rw [hfin.out, hlo.len]
          exact hlo'
    · obtain rfl : s = n := by omega
      have hfin := Lib.hid (Hst.out.done Hl.out.symm)
      go_wp2
      go_ret3
      refine ⟨A', c, ?_, ?_, hbel⟩
      · rw [hfin.out]
        exact congrArg (fun x => Ending.returned (.tuple #[.slice A' x c, .int .i64 (s : Int), .int .i64 0])) hlo.len.symm
      · rw [hfin.out, hlo.len]
        exact hlo
end Go.Proofs.YtgjofpjijnbjeaaDoor
