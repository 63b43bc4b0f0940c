/- The document's TakeBlock. -/
import Derived.Test.YtcknijkjacgnkaaPforRef
import Derived.Test.YtcknijkjacgnkaaRefBlock
import Derived.Test.YtcknijkjacgnkaaRefUnpack
import Derived.Test.YtcknijkjacgnkaaTakeBlock
namespace Go.Proofs.Ytcknijkjacgnkaa
open Go.RowKit

theorem Rd.far {w : World} {g g' i : Nat} {A : Option Addr} {n cap at_ : Nat} {bad : Bool} (h : Rd w g A n cap at_ bad) (hne : g' ≠ g) (v : Value) : Rd (w.setCell ⟨g', i, none⟩ v) g A n cap at_ bad := by
  refine ⟨?_, ?_, ?_, ?_, ?_, by rw [heap_size_setCell]; exact h.lt⟩
  · rw [World.cell?_setCell_far _ _ _ _ hne]; exact h.b
  · rw [World.cell?_setCell_far _ _ _ _ hne]; exact h.at'
  · rw [World.cell?_setCell_far _ _ _ _ hne]; exact h.bad'
  · rw [World.frozen?_setCell]; exact h.f1
  · rw [World.frozen?_setCell]; exact h.f2
theorem Rd.drew {w : World} {g : Nat} {A : Option Addr} {n cap at_ : Nat} {bad : Bool} (h : Rd w g A n cap at_ bad) : Rd w.drew g A n cap at_ bad := ⟨h.b, h.at', h.bad', h.f1, h.f2, h.lt⟩
theorem rd_new (w : World) (A : Option Addr) (n cap : Nat) : Rd (w.alloc (.cells #[.slice A n cap, .int .i64 0, .bool false] 57)) w.heap.size A n cap 0 false := by
  refine ⟨?_, ?_, ?_, ?_, ?_, by simp⟩
  · rw [World.cell?_alloc_at _ _ _ _ rfl]; rfl
  · rw [World.cell?_alloc_at _ _ _ _ rfl]; rfl
  · rw [World.cell?_alloc_at _ _ _ _ rfl]; rfl
  · exact World.frozen?_alloc_at _ _ _ _ rfl
  · exact World.frozen?_alloc_at _ _ _ _ rfl

set_option maxHeartbeats 8000000 in
theorem refTakeBlock_any (A : Option Addr) (n cap B : Nat) (b : List UInt8) (w : World) (hl : b.length = n) (hcap : n ≤ cap) (hm : n ≤ 140737488355328) (hb : Bytes w B A b) (hB : B ≤ w.heap.size) :
    Calls Try.prog 17 #[.slice A n cap] w (TakesPost w (Pfor.takeBlock b)) := by
  have hb := hb.wide hB
  have hr0 := rd_new w A n cap
  have hbel0 : Below w.heap.size w (w.alloc (.cells #[.slice A n cap, .int .i64 0, .bool false] 57)) := (Below.refl _ _).alloc (Nat.le_refl _) _
  obtain ⟨g, hg⟩ : ∃ g, g = w.heap.size := ⟨_, rfl⟩
  have HC := Lib.hid (fun (most at_ : Nat) (hmost : most ≤ 64) (hat : at_ ≤ n) (wr : World) (hr : Rd wr g A n cap at_ false) (hbel : Below g w wr) => count_any g n cap at_ g most A b wr hr hl hcap hm hat (by rw [← hg] at hb; exact hb.below hbel) hmost)
  have HN := Lib.hid (fun (at_ : Nat) (hat : at_ ≤ n) (wr : World) (hr : Rd wr g A n cap at_ false) (hbel : Below g w wr) => number_any g n cap at_ g 18446744073709551615 A b wr hr hl hcap hm hat (by rw [← hg] at hb; exact hb.below hbel) (by omega))
  have HCb := Lib.hid (fun (most at_ : Nat) (hmost : most ≤ 64) (wr : World) (hr : Rd wr g A n cap at_ true) => count_bad g n cap at_ A most wr hmost hr)
  have HNb := Lib.hid (fun (at_ : Nat) (wr : World) (hr : Rd wr g A n cap at_ true) => number_bad g n cap at_ A 18446744073709551615 wr hr)
  have Hat := Lib.hid (fun (most at_ : Nat) (h : at_ ≤ n) => Pfor.rd_at most b at_ (by omega))
  have Hle := Lib.hid (fun (most at_ : Nat) => Pfor.rd_le most b at_)
  obtain ⟨R0, hR0⟩ : ∃ R0, Pfor.refRead b = R0 := ⟨_, rfl⟩
  have Hn := Lib.hid (fun (h : R0 = none) => Pfor.takeBlock_ref_none (hR0.trans h))
  have Hs := Lib.hid (fun (m : List UInt64) (at_ : Nat) (h : R0 = some (m, at_)) (hat : at_ ≤ b.length) (hm : Pfor.Good m) => Pfor.takeBlock_ref_some (hR0.trans h) hat hm)
  unfold Pfor.refRead at hR0
  have Hbad := Lib.hid hR0
  clear hR0
  have C0 := Lib.hid (HC.out 32 0 (by omega) (by omega) _ (by rw [hg]; exact hr0) (by rw [hg]; exact hbel0))
  rw [hg] at C0
  go_enter Try.func17, Try.ntmps17
  go_wp2_with fail
  refine C0.out.mono ?_
  clear C0
  rintro e w1 ⟨rfl, hr, hg1⟩
  rw [← hg] at hr hg1 hbel0
  have hbel1 : Below g w w1 := hbel0.grown hg1 (by simp [hg]) (fun k hk => by cases hk; exact Nat.le_refl _)
  have ha1 := (Hat.out 32 0 (by omega)).2
  have hv1 := Hle.out 32 0
  rw [hl] at ha1
  have hgw : g ≤ w.heap.size := by omega
  rw [← hg]
  have Hg := Lib.hid hg
  clear hg1 hbel0 hr0 hg
  obtain ⟨⟨x1, a1, bad1⟩, hR1⟩ : ∃ R, R = Pfor.rd 32 b 0 := ⟨_, rfl⟩
  rw [← hR1] at hr ha1 hv1 Hbad ⊢
  simp only at hr ha1 hv1 Hbad ⊢
  have HR1 := Lib.hid hR1; clear hR1
  cases bad1 with
  | true =>
    have Ht := Lib.hid (Hn.out (by rw [← Hbad.out]; simp))
    have D0 := Lib.hid (HNb.out a1 w1 hr)
    have D1 := Lib.hid (HCb.out 64 a1 (by omega) w1 hr)
    have D2 := Lib.hid (HCb.out 32 a1 (by omega) w1 hr)
    have hcb := hr.bad'
    clear HC HN HCb HNb Hat Hle Hbad Hn Hs
    go_wp2_with fail
    refine D0.out.mono ?_
    rintro e wx ⟨rfl, rfl⟩
    clear D0
    go_wp2_with fail
    refine D1.out.mono ?_
    rintro e wx ⟨rfl, rfl⟩
    clear D1
    go_wp2_with fail
    refine D2.out.mono ?_
    rintro e wx ⟨rfl, rfl⟩
    clear D2
    go_wp2_with fail
    go_quiet (fail)
    go_wp2
    go_ret3
    rw [Ht.out]
    exact ⟨none, 0, rfl, nown_none _ _, below_drewN (by have h := hbel1; rw [Hg.out] at h; exact h) nq⟩
  | false =>
  have C1 := Lib.hid (HN.out a1 ha1 w1 hr hbel1)
  go_wp2_with fail
  refine C1.out.mono ?_
  clear C1 hr
  rintro e w2 ⟨rfl, hr, hg2⟩
  have hbel2 : Below g w w2 := hbel1.grown hg2 (Nat.le_trans hgw hbel1.size) (fun k hk => by cases hk; exact Nat.le_refl _)
  have ha2 := (Hat.out 18446744073709551615 a1 (by omega)).2
  have hv2 := Hle.out 18446744073709551615 a1
  rw [hl] at ha2
  clear hg2
  obtain ⟨⟨x2, a2, bad2⟩, hR2⟩ : ∃ R, R = Pfor.rd 18446744073709551615 b a1 := ⟨_, rfl⟩
  rw [← hR2] at hr ha2 hv2 Hbad ⊢
  simp only [Bool.false_eq_true, if_false] at hr ha2 hv2 Hbad ⊢
  have HR2 := Lib.hid hR2; clear hR2
  cases bad2 with
  | true =>
    have Ht := Lib.hid (Hn.out (by rw [← Hbad.out]; simp))
    have D0 := Lib.hid (HCb.out 64 a2 (by omega) w2 hr)
    have D1 := Lib.hid (HCb.out 32 a2 (by omega) w2 hr)
    have hcb := hr.bad'
    clear HC HN HCb HNb Hat Hle Hbad Hn Hs
    go_wp2_with fail
    refine D0.out.mono ?_
    rintro e wx ⟨rfl, rfl⟩
    clear D0
    go_wp2_with fail
    refine D1.out.mono ?_
    rintro e wx ⟨rfl, rfl⟩
    clear D1
    go_wp2_with fail
    go_quiet (fail)
    go_wp2
    go_ret3
    rw [Ht.out]
    exact ⟨none, 0, rfl, nown_none _ _, below_drewN (by have h := hbel2; rw [Hg.out] at h; exact h) nq⟩
  | false =>
  have C2 := Lib.hid (HC.out 64 a2 (by omega) ha2 w2 hr hbel2)
  go_wp2_with fail
  refine C2.out.mono ?_
  clear C2 hr
  rintro e w3 ⟨rfl, hr, hg3⟩
  have hbel3 : Below g w w3 := hbel2.grown hg3 (Nat.le_trans hgw hbel2.size) (fun k hk => by cases hk; exact Nat.le_refl _)
  have ha3 := (Hat.out 64 a2 (by omega)).2
  have hv3 := Hle.out 64 a2
  rw [hl] at ha3
  clear hg3
  obtain ⟨⟨x3, a3, bad3⟩, hR3⟩ : ∃ R, R = Pfor.rd 64 b a2 := ⟨_, rfl⟩
  rw [← hR3] at hr ha3 hv3 Hbad ⊢
  simp only [Bool.false_eq_true, if_false] at hr ha3 hv3 Hbad ⊢
  have HR3 := Lib.hid hR3; clear hR3
  cases bad3 with
  | true =>
    have Ht := Lib.hid (Hn.out (by rw [← Hbad.out]; simp))
    have D0 := Lib.hid (HCb.out 32 a3 (by omega) w3 hr)
    have hcb := hr.bad'
    clear HC HN HCb HNb Hat Hle Hbad Hn Hs
    go_wp2_with fail
    refine D0.out.mono ?_
    rintro e wx ⟨rfl, rfl⟩
    clear D0
    go_wp2_with fail
    go_quiet (fail)
    go_wp2
    go_ret3
    rw [Ht.out]
    exact ⟨none, 0, rfl, nown_none _ _, below_drewN (by have h := hbel3; rw [Hg.out] at h; exact h) nq⟩
  | false =>
  have C3 := Lib.hid (HC.out 32 a3 (by omega) ha3 w3 hr hbel3)
  go_wp2_with fail
  refine C3.out.mono ?_
  clear C3 hr
  rintro e w4 ⟨rfl, hr, hg4⟩
  have hbel4 : Below g w w4 := hbel3.grown hg4 (Nat.le_trans hgw hbel3.size) (fun k hk => by cases hk; exact Nat.le_refl _)
  have ha4 := (Hat.out 32 a3 (by omega)).2
  have hv4 := Hle.out 32 a3
  rw [hl] at ha4
  clear hg4
  obtain ⟨⟨x4, a4, bad4⟩, hR4⟩ : ∃ R, R = Pfor.rd 32 b a3 := ⟨_, rfl⟩
  rw [← hR4] at hr ha4 hv4 Hbad ⊢
  simp only [Bool.false_eq_true, if_false] at hr ha4 hv4 Hbad ⊢
  have HR4 := Lib.hid hR4; clear hR4
  cases bad4 with
  | true =>
    have Ht := Lib.hid (Hn.out (by rw [← Hbad.out]; simp))
    have hcb := hr.bad'
    clear HC HN HCb HNb Hat Hle Hbad Hn Hs
    go_wp2_with fail
    go_quiet (fail)
    go_wp2
    go_ret3
    rw [Ht.out]
    exact ⟨none, 0, rfl, nown_none _ _, below_drewN (by have h := hbel4; rw [Hg.out] at h; exact h) nq⟩
  | false =>
  simp only [Bool.false_eq_true, if_false] at Hbad
  have hcb := hr.bad'
  have hca := hr.at'
  have hpv : x1 * x3 ≤ 32 * 64 := Nat.mul_le_mul hv1 hv3
  have HS := Lib.hid (fun w' => refSize_any x1 x3 w' (by omega))
  have hS : Bits.size x1 x3 ≤ 256 := by unfold Bits.size; omega
  unfold Pfor.refBody at Hbad
  by_cases hz : x1 = 0
  · have Ht := Lib.hid (Hn.out (by rw [← Hbad.out, if_pos (.inl hz)]))
    subst hz
    clear HC HN HCb HNb Hat Hle Hbad HS Hn Hs
    go_wp2_with fail
    go_quiet (fail)
    go_wp2
    go_ret3
    rw [Ht.out]
    exact ⟨none, 0, rfl, nown_none _ _, below_drewN (by have h := hbel4; rw [Hg.out] at h; exact h) nq⟩
  have hz' : ¬ ((x1 : Int) = 0) := by omega
  have hsub : IntKind.i64.wrap ((n : Int) - (a4 : Int)) = (n : Int) - (a4 : Int) := by rw [IntKind.wrap_i64]; omega
  by_cases hfit : n < a4 + Bits.size x1 x3
  · have Ht := Lib.hid (Hn.out (by rw [← Hbad.out, if_pos (.inr (by rw [hl]; exact hfit))]))
    have hf' : (n : Int) - (a4 : Int) < (Bits.size x1 x3 : Int) := by omega
    clear HC HN HCb HNb Hat Hle Hbad hfit Hn Hs
    generalize Bits.size x1 x3 = S at *
    go_wp2_with fail
    go_quiet ((go_at_call 35; exact quiet_left (HS.out _)))
    go_wp2
    go_ret3
    rw [Ht.out]
    exact ⟨none, 0, rfl, nown_none _ _, below_drewN (by have h := hbel4; rw [Hg.out] at h; exact h) nq⟩
  generalize Bits.size x1 x3 = S at *
  rw [if_neg (by rw [hl]; omega)] at Hbad
  have hf' : ¬ ((n : Int) - (a4 : Int) < (S : Int)) := by omega
  have hzb : ((x1 : Int) == 0) = false := by rw [beq_eq_false_iff_ne]; exact hz'
  have Hx1 : Hid (1 ≤ x1) := Lib.hid (by omega)
  have hsl := run_cut_lh A n cap a4 (a4 + S) (by omega) (by omega)
  rw [show a4 + S - a4 = S from by omega, show ((a4 + S : Nat) : Int) = (a4 : Int) + (S : Int) from by omega] at hsl
  have htl : ((b.drop a4).take (S)).length = S := by rw [List.length_take, List.length_drop, hl]; omega
  have HU := Lib.hid (fun (w' : World) (hbel : Below g w w') => refUnpack_any (cutAt A cap a4) (S) (cap - a4) g (x1 : Int) (x3 : Int) ((b.drop a4).take (S)) w' htl
    ((((by rw [← Hg.out] at hb; exact hb.below hbel : Bytes w' g A b)).cut (k := a4) (cap := cap) (by omega) (by omega)).take _) (Nat.le_trans hgw hbel.size) (by omega))
  have hgS : a4 + S ≤ n := by omega
  have hbb : Hid (Bytes w g A b) := Lib.hid (by rw [← Hg.out] at hb; exact hb)
  clear hpv hfit hz hb htl
  go_wp2_with fail
  go_quiet ((go_at_call 35; exact quiet_left (HS.out _)))
  obtain ⟨w5, hw5, hr5, hbel5⟩ : ∃ w5, w5 = w4.drewN nq ∧ Rd w5 g A n cap a4 false ∧ Below g w w5 := ⟨_, rfl, ⟨hr.b, hr.at', hr.bad', hr.f1, hr.f2, hr.lt⟩, below_drewN hbel4 nq⟩
  rw [← hw5]
  clear hw5 hcb hca hr hbel4 hsub
  have hca := hr5.at'
  have hsum : IntKind.i64.wrap ((a4 : Int) + (S : Int)) = (a4 : Int) + (S : Int) := by rw [IntKind.wrap_i64]; omega
  go_wp2_with fail
  go_quiet ((go_at_call 35; exact quiet_left (HS.out _)))
  obtain ⟨w6, hw6, hr6, hbel6⟩ : ∃ w6, w6 = w5.drewN nq ∧ Rd w6 g A n cap a4 false ∧ Below g w w6 := ⟨_, rfl, ⟨hr5.b, hr5.at', hr5.bad', hr5.f1, hr5.f2, hr5.lt⟩, below_drewN hbel5 nq⟩
  rw [← hw6]
  clear hw6 hca hr5 hbel5 hsum HS
  have hca := hr6.at'
  have CU := HU.out w6 hbel6
  unfold UnpackPost at CU
  rcases Bits.unpack_cases ((b.drop a4).take (S)) (x1 : Int) (x3 : Int) with ⟨L0, hu⟩ | ⟨e, hu, he⟩
  · obtain ⟨hV64, hL0⟩ := Bits.unpack_le64 hu
    rw [Int.toNat_natCast] at hL0
    rw [hu] at CU Hbad
    simp only [ne_eq, not_true, if_false, hL0] at CU Hbad
    replace CU := Lib.hid CU
    clear HU hu hV64 hL0
    generalize cutAt A cap a4 = A5 at *
    go_wp2_with fail
    refine CU.out.mono ?_
    rintro e w7 ⟨A7, c7, rfl, ho7, hb7⟩
    clear CU hca
    have hx1 := Hx1.out
    obtain ⟨g7, rfl, _⟩ := ho7.at_ (by omega)
    have hr7 := hr6.below hb7
    have hbel7 := hbel6.trans (hb7.mono (Nat.le_trans hgw hbel6.size))
    have ho7' := ho7.low (b' := g + 1) hr6.lt
    have hr8 := hr7.setAt (a4 + S)
    rw [show ((a4 + S : Nat) : Int) = (a4 : Int) + (S : Int) from by omega] at hr8
    have hgr8 := Lib.grownBy_setCell w7 g 1 (.int .i64 ((a4 : Int) + (S : Int)))
    have hg7 : g7 ≠ g := by have := ho7'.block.1; omega
    have ho8 := ho7'.kept hgr8 (.inr (fun h => hg7 (by simpa [blk] using h)))
    have hbel8 : Below g w (w7.setCell ⟨g, 1, none⟩ (.int .i64 ((a4 : Int) + (S : Int)))) := hbel7.setCell (p := ⟨g, 1, none⟩) (Nat.le_refl _) _
    have d1 := hr7.at'
    have d2 := hr7.f1
    have Hr8 := Lib.hid hr8
    have Ho8 := Lib.hid ho8
    have Hb8 := Lib.hid hbel8
    clear hr8 ho8 hbel8 hgr8 ho7 ho7' hr7 hr6 hbel6 hb7 hbel7
    obtain ⟨R, hR⟩ : ∃ R, Pfor.refAdd b x1 x3 x4 L0 (a4 + S) = R := ⟨_, rfl⟩
    rw [hR] at Hbad
    have HR := Lib.hid hR; clear hR
    go_wp2
    go_loopw [9] (fun k wr => ∃ (j at_ : Nat) (ds : List UInt64), k = .int .i64 j ∧ j ≤ 32 ∧ at_ ≤ n ∧ Pfor.refAdd b x1 x3 j ds at_ = R ∧ NOwn wr (g + 1) (some ⟨g7, 0, none⟩) x1 c7 ds ∧ Rd wr g A n cap at_ false ∧ Below g w wr) (fun k _ => (intOf k).toNat)
    case atStart => exact ⟨x4, a4 + S, L0, rfl, hv4, hgS, HR.out, Ho8.out, Hr8.out, Hb8.out⟩
    case round =>
      clear d1 d2 Hr8 Ho8 Hb8 HR hsl
      obtain ⟨j, at_, ds, rfl, hj, hat, hRj, ho, hr, hbel⟩ := hrel
      have hdl := ho.len
      have hgwr : g ≤ wr.heap.size := Nat.le_trans hgw hbel.size
      by_cases hj0 : j = 0
      · subst hj0
        rw [Pfor.refAdd] at hRj
        have hR0 := Hbad.out
        rw [← hRj, Option.map_some] at hR0
        simp only at hR0
        have hpl : (Pfor.plus x2 ds).length = x1 := by rw [Pfor.plus_length, hdl]
        have hgood : Pfor.Good (Pfor.plus x2 ds) := by unfold Pfor.Good; rw [hpl]; exact ⟨hx1, hv1⟩
        have hT := Hs.out _ _ hR0.symm (by rw [hl]; exact hat) hgood
        have HT := Lib.hid hT
        have Hdl := Lib.hid hdl
        have Hpl := Lib.hid hpl
        have Hgood := Lib.hid hgood
        clear hT hR0 hRj hgood hdl hpl HC HN HCb HNb Hat Hle Hbad Hn Hs
        go_wp2
        go_loopw [15] (fun i wr => ∃ (k : Nat), k ≤ x1 ∧ i = .int .i64 k ∧ NOwn wr (g + 1) (some ⟨g7, 0, none⟩) x1 c7 ((Pfor.plus x2 ds).take k ++ ds.drop k) ∧ Rd wr g A n cap at_ false ∧ Below g w wr) (fun i _ => x1 - (intOf i).toNat)
        case atStart => exact ⟨0, by omega, rfl, by simpa using ho, hr, hbel⟩
        case round =>
          clear ho hr hbel hgwr
          obtain ⟨k, hk, rfl, ho, hr, hbel⟩ := hrel
          have hgwr : g ≤ wr.heap.size := Nat.le_trans hgw hbel.size
          by_cases hlt : k < x1
          · have hk' : k < ds.length := by have := Hdl.out; omega
            obtain ⟨hg1, hg2⟩ := turn_get Hdl.out Hpl.out hlt
            have hold := ho.cell hg1
            rw [hg2] at hold
            simp only [uval] at hold
            have hfree := ho.free k
            have hst := ho.store k ((Pfor.plus x2 ds)[k]'(by rw [Hpl.out]; exact hlt))
            rw [turn_set Hdl.out Hpl.out hlt, plus_get hk'] at hst
            obtain ⟨q, hq, hq0, hq1⟩ : ∃ q : Int, q = (ds[k].toNat : Int) ∧ 0 ≤ q ∧ q ≤ 18446744073709551615 := ⟨_, rfl, by omega, by have := Bits.u64_lt ds[k]; omega⟩
            rw [wrap_add hq rfl] at hst
            rw [← hq] at hold
            have Hst := Lib.hid hst
            have Hbl := Lib.hid (hbel.setCell (p := ⟨g7, k, none⟩) (show g ≤ g7 by have := ho.block.1; omega) (.int .u64 (IntKind.u64.wrap (q + (x2 : Int)))))
            have Hrl := Lib.hid (hr.far (i := k) hg7 (.int .u64 (IntKind.u64.wrap (q + (x2 : Int)))))
            clear hst hq hg1 hg2 ho hr hbel
            go_wp2
            go_roundw
            case rel => exact ⟨k + 1, by omega, by go_num, Hst.out, Hrl.out, Hbl.out⟩
            case measure => simp [intOf]; omega
          · obtain rfl : k = x1 := by omega
            rw [List.take_of_length_le (by rw [Hpl.out]; exact Nat.le_refl _), List.drop_of_length_le (by rw [Hdl.out]; exact Nat.le_refl _), List.append_nil] at ho
            generalize Pfor.plus x2 ds = M at *
            have hca := hr.at'
            have HBk := Lib.hid (fun (w' : World) (hrow : Nums w' w'.heap.size (some ⟨g7, 0, none⟩) M) => refBlock_any (some ⟨g7, 0, none⟩) k c7 _ M w' Hpl.out hx1 hv1 hrow (Nat.le_refl _))
            have hslh := run_cut_h A n cap at_ (by omega)
            have hab := hbb.out.below hbel
            have hats : (b.take at_).length = at_ := by rw [List.length_take, hl]; omega
            have HSm := Lib.hid (fun (g9 c9 : Nat) (w' : World) (h1 : Bytes w' w'.heap.size (some ⟨g9, 0, none⟩) (Pfor.block M)) (h2 : Bytes w' g A b) => same_any (some ⟨g9, 0, none⟩) A (Pfor.block M).length at_ c9 cap _ _ (Pfor.block M) (b.take at_) w' rfl hats h1 (h2.take at_))
            have hrow := ho.row
            clear hats
            go_wp2_with fail
            go_region_held3 (fun w' => w'.cell? ⟨g, 1, none⟩ = some (.int .i64 (at_ : Int))) (first | exact hca | exact (hr.below (below_of_drew hb9)).at') (first | (go_at_call 15; refine (HBk.out _ (by exact hrow)).mono ?_; rintro e w9 ⟨g9, c9, rfl, ho9, hb9⟩) | (go_at_call 13; refine (HSm.out g9 c9 _ (by exact ho9.bytes) (by exact hab.below ((below_of_drew hb9).mono hgwr))).mono ?_; rintro e w10 ⟨rfl, rfl⟩))
            have hbel9 := below_of_drew hb9
            have hr9 := hr.below hbel9
            have ho10 := ho.below hbel9
            have hb10 := hbel.trans (hbel9.mono hgwr)
            clear hca hslh hab hrow HBk HSm ho9 hb9 hr ho hbel
            by_cases he : Pfor.block M = b.take at_
            · have hbeq : (Pfor.block M == b.take at_) = true := by rw [he]; exact beq_self_eq_true _
              have hT := HT.out
              rw [if_pos he] at hT
              have Ht := Lib.hid hT
              rw [hbeq]
              have hca := hr9.at'
              clear hT HT he hbeq
              go_wp2_with fail
              go_quiet (fail)
              go_wp2
              go_ret3
              rw [Ht.out]
              refine ⟨some ⟨g7, 0, none⟩, c7, ?_, ?_, ?_⟩
              · rw [Hpl.out]; rfl
              · rw [Hpl.out, ← Hg.out]; exact ho10.low (b' := g) (by omega)
              · rw [← Hg.out]; exact below_drewN hb10 nq
            · have hbeq : (Pfor.block M == b.take at_) = false := by rw [beq_eq_false_iff_ne]; exact he
              have hT := HT.out
              rw [if_neg he] at hT
              have Ht := Lib.hid hT
              rw [hbeq]
              clear hT HT he hbeq
              go_wp2
              go_ret3
              rw [Ht.out]
              exact ⟨none, 0, rfl, nown_none _ _, by rw [← Hg.out]; exact hb10⟩
      · obtain ⟨i, rfl⟩ : ∃ i, j = i + 1 := ⟨j - 1, by omega⟩
        rw [Pfor.refAdd] at hRj
        have hne : ∀ c : Nat, blk (some (⟨g7, 0, none⟩ : Addr)) ≠ some g := fun _ h => hg7 (by simpa [blk] using h)
        have C1 := Lib.hid (HC.out 31 at_ (by omega) hat wr hr hbel)
        clear hr
        go_wp2_with fail
        refine C1.out.mono ?_
        clear C1
        rintro e w1' ⟨rfl, hr, hg1⟩
        have ho1 := ho.kept hg1 (.inr (hne 0))
        have hbel1' : Below g w w1' := hbel.grown hg1 hgwr (fun k hk => by cases hk; exact Nat.le_refl _)
        have hai := (Hat.out 31 at_ hat).2
        rw [hl] at hai
        have hvi := Hle.out 31 at_
        clear hg1 ho
        obtain ⟨⟨i0, ai, badi⟩, hRi⟩ : ∃ R, R = Pfor.rd 31 b at_ := ⟨_, rfl⟩
        rw [← hRi] at hr hai hvi hRj ⊢
        simp only at hr hai hvi hRj ⊢
        clear hRi
        cases badi with
        | true =>
          have Ht := Lib.hid (Hn.out (by rw [← Hbad.out, ← hRj]; simp))
          have D1 := Lib.hid (HNb.out ai w1' hr)
          have hcb := hr.bad'
          clear HC HN HCb HNb Hat Hle Hbad Hn Hs hRj
          go_wp2_with fail
          refine D1.out.mono ?_
          rintro e wx ⟨rfl, rfl⟩
          clear D1
          rw [Hg.out] at hbel1'
          go_wp2
          go_ret3
          rw [Ht.out]
          exact ⟨none, 0, rfl, nown_none _ _, hbel1'⟩
        | false =>
          simp only [Bool.false_eq_true, if_false] at hRj
          have C2 := Lib.hid (HN.out ai hai w1' hr hbel1')
          clear hr
          go_wp2_with fail
          refine C2.out.mono ?_
          clear C2
          rintro e w2' ⟨rfl, hr, hg2⟩
          have ho2 := ho1.kept hg2 (.inr (hne 0))
          have hbel2' : Below g w w2' := hbel1'.grown hg2 (Nat.le_trans hgw hbel1'.size) (fun k hk => by cases hk; exact Nat.le_refl _)
          have hay := (Hat.out 18446744073709551615 ai hai).2
          rw [hl] at hay
          have hvy := Hle.out 18446744073709551615 ai
          clear hg2 ho1
          obtain ⟨⟨y, ay, bady⟩, hRy⟩ : ∃ R, R = Pfor.rd 18446744073709551615 b ai := ⟨_, rfl⟩
          rw [← hRy] at hr hay hvy hRj ⊢
          simp only at hr hay hvy hRj ⊢
          clear hRy
          have hcb := hr.bad'
          cases bady with
          | true =>
            have Ht := Lib.hid (Hn.out (by rw [← Hbad.out, ← hRj]; simp))
            clear HC HN HCb HNb Hat Hle Hbad Hn Hs hRj
            rw [Hg.out] at hbel2'
            go_wp2
            go_ret3
            rw [Ht.out]
            exact ⟨none, 0, rfl, nown_none _ _, hbel2'⟩
          | false =>
            simp only [Bool.false_eq_true, false_or] at hRj
            by_cases hi : x1 ≤ i0
            · rw [if_pos (.inl hi)] at hRj
              have Ht := Lib.hid (Hn.out (by rw [← Hbad.out, ← hRj]; simp))
              have hi' : (x1 : Int) ≤ (i0 : Int) := by omega
              clear HC HN HCb HNb Hat Hle Hbad Hn Hs hRj
              rw [Hg.out] at hbel2'
              go_wp2
              go_ret3
              rw [Ht.out]
              exact ⟨none, 0, rfl, nown_none _ _, hbel2'⟩
            · have hi' : ¬ ((x1 : Int) ≤ (i0 : Int)) := by omega
              by_cases h64 : x3 = 64
              · rw [if_pos (.inr h64)] at hRj
                have Ht := Lib.hid (Hn.out (by rw [← Hbad.out, ← hRj]; simp))
                have h64' : (x3 : Int) = 64 := by omega
                clear HC HN HCb HNb Hat Hle Hbad Hn Hs hRj h64
                rw [Hg.out] at hbel2'
                go_wp2
                go_ret3
                rw [Ht.out]
                exact ⟨none, 0, rfl, nown_none _ _, hbel2'⟩
              · rw [if_neg (by omega)] at hRj
                have h64' : ¬ ((x3 : Int) = 64) := by omega
                have hi0 : i0 < ds.length := by omega
                have hcd := ho2.cell hi0
                simp only [uval] at hcd
                have hfree := ho2.free i0
                have hgd : (ds.getD i0 0).toNat = ds[i0].toNat := by simp [List.getD_eq_getElem?_getD, List.getElem?_eq_getElem hi0]
                rw [hgd] at hRj
                have hd64 := Bits.u64_lt ds[i0]
                generalize ds[i0].toNat = dn at *
                have hst := ho2.store i0 (UInt64.ofNat (dn + y * 2 ^ x3 % 18446744073709551616))
                obtain ⟨p, hp⟩ : ∃ p : Int, p = (dn : Int) := ⟨_, rfl⟩
                obtain ⟨z, hz, hz0, hz1⟩ : ∃ z : Int, z = (y : Int) ∧ 0 ≤ z ∧ z ≤ 18446744073709551615 := ⟨_, rfl, by omega, by omega⟩
                rw [wrap_add hp (show IntKind.u64.wrap (z * 2 ^ x3) = _ from by rw [hz]; exact wrap_shl y x3)] at hst
                rw [← hp] at hcd
                rw [← hz]
                have Hst := Lib.hid hst
                have HRj := Lib.hid hRj
                have Hbl := Lib.hid (hbel2'.setCell (p := ⟨g7, i0, none⟩) (show g ≤ g7 by have := ho2.block.1; omega) (.int .u64 (IntKind.u64.wrap (p + IntKind.u64.wrap (z * 2 ^ x3)))))
                have Hrl := Lib.hid (hr.far (i := i0) hg7 (.int .u64 (IntKind.u64.wrap (p + IntKind.u64.wrap (z * 2 ^ x3)))))
                have hi1 : i0 < x1 := by omega
                clear hst hRj hp hz hgd ho2 hi hi0 hd64 h64
                go_wp2_with fail
                go_region
                go_wp2
                go_roundw
                case rel => exact ⟨i, ay, _, by go_num, by omega, hay, HRj.out, Hst.out, Hrl.out.drew, Hbl.out.drew⟩
                case measure => simp [intOf]
  · have Ht := Lib.hid (Hn.out (by rw [← Hbad.out, hu, if_pos (by simpa using he)]))
    rw [hu] at CU
    simp only [List.length_nil] at CU
    have he' : ¬ ((e : Int) = 0) := by omega
    replace CU := Lib.hid CU
    clear HC HN HCb HNb Hat Hle Hbad Hn Hs HU hu he
    generalize cutAt A cap a4 = A5 at *
    go_wp2_with fail
    refine CU.out.mono ?_
    rintro e' w7 ⟨A7, c7, rfl, ho7, hb7⟩
    clear CU
    have hbel7 := hbel6.trans (hb7.mono (Nat.le_trans hgw hbel6.size))
    rw [Hg.out] at hbel7
    go_wp2
    go_ret3
    rw [Ht.out]
    exact ⟨none, 0, rfl, nown_none _ _, hbel7⟩
end Go.Proofs.Ytcknijkjacgnkaa
