/- PROVED: the law NumOne (what is taken, put again, are the same bytes) returns true and leaves its argument as it was, for every byte slice.
   Conditions: none but the form's own reach (a slice has fewer than 2^47 bytes). -/
import Derived.Test.YtpcmedaaggeliaaLawIn
import Derived.Test.YtpcmedaaggeliaaNumLaw
import Derived.Test.YtpcmedaaggeliaaTakeRow
import Derived.Deep.RegionWith
import Derived.BigQuiet
import Derived.Deep.RegionHeld3
namespace Go.Proofs.Ytpcmedaaggeliaa.numOne
open Go.ChangeShapes Go.WideShapes Go.ChangeAt Go.RowKit

theorem below_of_drew {B : Nat} {w w' : World} (h : Below B w.drew w') : Below B w w' := ⟨h.os, h.tape, h.output, h.size, h.block⟩

theorem takeRow_cases (l : List UInt8) (most : Int) : (∃ P j, Num.takeRow l most = (P, j, 0) ∧ j ≤ l.length ∧ Num.row P = l.take j ∧ P.length ≤ l.length) ∨ ∃ e, Num.takeRow l most = ([], 0, e) ∧ e ≠ 0 := by
  unfold Num.takeRow
  split
  · exact .inr ⟨1, rfl, by decide⟩
  · rcases Num.take_cases l with ⟨v, s, ht⟩ | ⟨e, ht, he⟩
    · rw [ht, if_pos rfl]
      simp only
      split
      · exact .inr ⟨5, rfl, by decide⟩
      · split
        · exact .inr ⟨3, rfl, by decide⟩
        · rename_i h3
          obtain ⟨h1, _, h2, _⟩ := Num.num_take ht
          have hlen : ((l.drop s).take v).length = v := by simp; omega
          refine .inl ⟨_, _, rfl, by omega, ?_, by omega⟩
          rw [Num.row, hlen, h1, List.take_add]
    · rw [ht, if_neg (by simp only; omega)]
      exact .inr ⟨e, rfl, by omega⟩

/-- the end, where no row is taken, and where one is -/
theorem size_row {P t : List UInt8} {j : Nat} (h : Num.row P = t) (ht : t.length = j) : Num.size P.length + P.length = j := by rw [← Num.row_length, h, ht]

set_option maxHeartbeats 4000000 in
theorem walk (A : Option Addr) (n cap : Nat) (l : List UInt8) (w : World)
    (hl : l.length = n) (hcap : n ≤ cap) (hn : n ≤ 140737488351232) (hb : Bytes w w.heap.size A l) :
    Calls Try.prog 8 #[.slice A n cap] w fun e w' => e = .returned (.bool true) ∧ Below w.heap.size w w' := by
  have C1 := fun w' B hb => take_any A n cap B l w' hl hcap (by omega) hb
  have C2 := fun w' B hb hB => takeRow_any A n cap B l (n : Int) w' hl hcap (by omega) hb hB (by omega) (by omega)
  unfold TakePost at C1
  unfold RowPost at C2
  rcases Num.take_cases l with ⟨v, s, ht⟩ | ⟨e, ht, he⟩
  · obtain ⟨hnum, hsz, hsl, hv⟩ := Num.num_take ht
    have hs9 := Num.size_le9 hv
    have hs1 := Num.size_pos v
    rw [← hsz] at hs9 hs1
    rw [hl] at hsl
    have P1 := fun w' => put_any none 0 0 0 v [] w' rfl hv (by omega) (Bytes.nil _ _ _) (Nat.zero_le _)
    rw [← hsz, hnum] at P1
    simp only [Nat.zero_add, List.nil_append] at P1
    replace P1 := Lib.hid P1
    have Hts := Lib.hid (show (l.take s).length = s by rw [List.length_take, hl]; omega)
    have Hbs := Lib.hid fun (w' : World) (B : Nat) (h : Bytes w' B A l) => h.take s
    generalize l.take s = t at *
    have hcut := run_cut_h A n cap s (by omega)
    simp only [ht] at C1
    replace C1 := Lib.hid C1
    clear ht hv hnum hsz
    have hd1 : decide ((s : Int) < 1) = false := decide_eq_false (by omega)
    have hd2 : decide ((9 : Int) < (s : Int)) = false := decide_eq_false (by omega)
    have hd3 : decide ((n : Int) < (s : Int)) = false := decide_eq_false (by omega)
    have hg1 : (1 : Int) ≤ (s : Int) := by omega
    have hg2 : (s : Int) ≤ 9 := by omega
    have hg3 : (s : Int) ≤ (n : Int) := by omega
    generalize (v : Int) = x at *
    generalize (s : Int) = σ at *
    rcases takeRow_cases l (n : Int) with ⟨P, j, hr, hj, hrow, hPl⟩ | ⟨e, hr, he⟩
    · have hPz : P.length ≤ 140737488351232 := by omega
      have hjz : (l.take j).length = j := by rw [List.length_take]; omega
      have hsum := size_row hrow hjz
      have P2 := fun (A3 : Option Addr) (c3 : Nat) (w' : World) (B : Nat) hb hB => putRow_any none A3 0 P.length 0 c3 0 B [] P w' rfl rfl (by omega) (by omega) (Bytes.nil _ _ _) hb (Nat.zero_le _) hB
      simp only [hsum, hrow, Nat.zero_add, List.nil_append] at P2
      replace P2 := Lib.hid P2
      simp only [hr] at C2
      have Htj := Lib.hid hjz
      have Hbj := Lib.hid fun (w' : World) (B : Nat) (h : Bytes w' B A l) => h.take j
      rw [hl] at hj
      have hcut2 := run_cut_h A n cap j (by omega)
      have hd4 : decide ((j : Int) ≤ (n : Int)) = true := decide_eq_true (by omega)
      have hg4 : (j : Int) ≤ (n : Int) := by omega
      generalize (j : Int) = J at *
      generalize l.take j = t2 at *
      generalize P.length = pl at *
      replace C2 := Lib.hid C2
      clear hr hl hcap hrow hPl hsum hjz
      go_enter Try.func8, Try.ntmps8
      go_wp2_with fail
      refine (alive_any w).mono ?_
      rintro e w1 ⟨rfl, hbel1⟩
      have hx1 := hb.below hbel1
      go_wp2_with fail
      refine (C1.out w1 _ hx1).mono ?_
      rintro e w2 ⟨rfl, rfl⟩
      clear C1
      go_wp2_with fail
      go_region_held3 (fun _ => True) (trivial) (first | (go_at_call 11; refine (P1.out _).mono ?_; rintro e w2 ⟨g2, c2, rfl, ho2, hb2⟩) | (go_at_call 27; refine (same_any _ A s s c2 cap _ _ t t _ Hts.out Hts.out (by exact ho2.bytes) (by exact Hbs.out _ _ ((hx1.wide hbel1.size).below (below_of_drew hb2)))).mono ?_; rintro e w3 ⟨rfl, rfl⟩; rw [beq_self_eq_true]))
      have hb2' := below_of_drew hb2
      have hx2 := (hx1.wide hbel1.size).below hb2'
      clear ho2 hb2 hd1 hd2 hd3 hcut
      go_wp2_with fail
      refine (C2.out w2 _ hx2 hb2'.size).mono ?_
      rintro e w3 ⟨A3, c3, rfl, ho3, hb3⟩
      have hx3 := (hx2.wide hb2'.size).below hb3
      clear C2
      go_wp2_with fail
      go_region_held3 (fun _ => True) (trivial) (first | (go_at_call 24; refine (P2.out A3 c3 _ w3.heap.size (by exact ho3.bytes) (by exact Nat.le_refl _)).mono ?_; rintro e w4 ⟨g4, c4, rfl, ho4, hb4⟩) | (go_at_call 27; refine (same_any _ A j j c4 cap _ _ t2 t2 _ Htj.out Htj.out (by exact ho4.bytes) (by exact Hbj.out _ _ ((hx3.wide hb3.size).below (below_of_drew hb4)))).mono ?_; rintro e w5 ⟨rfl, rfl⟩; rw [beq_self_eq_true]))
      have hb4' := below_of_drew hb4
      go_wp2
      go_ret
      exact ⟨rfl, hbel1.trans ((hb2'.trans ((hb3.trans (hb4'.mono hb3.size)).mono hb2'.size)).mono hbel1.size)⟩
    · simp only [hr, List.length_nil] at C2
      replace C2 := Lib.hid C2
      have he1 : ¬ ((e : Int) = 0) := by omega
      clear he hr hl hcap
      go_enter Try.func8, Try.ntmps8
      go_wp2_with fail
      refine (alive_any w).mono ?_
      rintro e w1 ⟨rfl, hbel1⟩
      have hx1 := hb.below hbel1
      go_wp2_with fail
      refine (C1.out w1 _ hx1).mono ?_
      rintro e w2 ⟨rfl, rfl⟩
      clear C1
      go_wp2_with fail
      go_region_held3 (fun _ => True) (trivial) (first | (go_at_call 11; refine (P1.out _).mono ?_; rintro e w2 ⟨g2, c2, rfl, ho2, hb2⟩) | (go_at_call 27; refine (same_any _ A s s c2 cap _ _ t t _ Hts.out Hts.out (by exact ho2.bytes) (by exact Hbs.out _ _ ((hx1.wide hbel1.size).below (below_of_drew hb2)))).mono ?_; rintro e w3 ⟨rfl, rfl⟩; rw [beq_self_eq_true]))
      have hb2' := below_of_drew hb2
      have hx2 := (hx1.wide hbel1.size).below hb2'
      clear ho2 hb2 hd1 hd2 hd3 hcut
      go_wp2_with fail
      refine (C2.out w2 _ hx2 hb2'.size).mono ?_
      rintro e w3 ⟨A3, c3, rfl, ho3, hb3⟩
      clear C2
      go_wp2
      go_ret
      exact ⟨rfl, hbel1.trans ((hb2'.trans (hb3.mono hb2'.size)).mono hbel1.size)⟩
  · have hR : Num.takeRow l (n : Int) = ([], 0, e) := by unfold Num.takeRow; rw [if_neg (by omega), ht, if_neg (by simp only; omega)]
    simp only [ht] at C1
    simp only [hR, List.length_nil] at C2
    replace C1 := Lib.hid C1
    replace C2 := Lib.hid C2
    have hd0 : decide ((e : Int) = 0) = false := decide_eq_false (by omega)
    have hd1 : ((e : Int) == 0) = false := by rw [beq_eq_false_iff_ne]; omega
    have he1 : ¬ ((e : Int) = 0) := by omega
    clear he hR hl hcap ht
    generalize (e : Int) = ε at *
    go_enter Try.func8, Try.ntmps8
    go_wp2_with fail
    refine (alive_any w).mono ?_
    rintro e w1 ⟨rfl, hbel1⟩
    have hx1 := hb.below hbel1
    go_wp2_with fail
    refine (C1.out w1 _ hx1).mono ?_
    rintro e w2 ⟨rfl, rfl⟩
    clear C1
    go_wp2_with fail
    go_quiet (fail)
    go_wp2_with fail
    have hx2 : Bytes (w1.drewN nq) w.heap.size A l := hx1
    refine (C2.out (w1.drewN nq) _ hx2 (by exact hbel1.size)).mono ?_
    rintro e w3 ⟨A3, c3, rfl, ho3, hb3⟩
    have hb3' : Below w1.heap.size w1 w3 := ⟨hb3.os, hb3.tape, hb3.output, hb3.size, hb3.block⟩
    clear C2
    go_wp2
    go_ret
    exact ⟨rfl, hbel1.trans (hb3'.mono hbel1.size)⟩


/-- from the walk to the post of the row -/
theorem contract (H : Type) (enc : TypeId × Value → H) (W : World) (base : Nat) (args : Array Value) (ds gs : List (DataW H)) (before : List MemPlace)
    (hval : ∀ (j : Nat) t v, Try.f8.params[j]? = some t → args[j]? = some v → Value.okWide Try.prog W .any base t v)
    (hW : DataW.Whole enc Try.prog Try.f8.params.toList Rows.numOneSpec.vars false W args.toList ds gs before) (_ : laidMetH Try.prog Rows.numOneRow.laid W)
    (hsz0 : (DataW.weightsEach Try.prog (Try.f8.params.toList ++ Rows.numOneSpec.plain.varTypes Try.prog) (ds ++ gs)).all (· ≤ reachBytes) = true) :
    Calls Try.prog 8 args W fun e W' => ∃ v, e = .returned v ∧ Rows.numOneSpec.post enc Try.prog Try.f8 false true false false W args v W' := by
  have hW' := hW
  obtain ⟨p, q, hA0, hV, rfl, hfz, hnd⟩ := hW
  have hA : DataW.TrodAll enc Try.prog W 0 (fun _ => true) true Try.f8.params.toList args.toList ds p := hA0
  rw [Try.params8] at hA hval hsz0
  obtain ⟨v0, vs0, d0, ds0, p0, q0, hargs, rfl, rfl, h0, r0⟩ := trodAll_cons hA
  obtain ⟨rfl, rfl, rfl⟩ := trodAll_nil r0
  obtain rfl : args = #[v0] := by cases args; simp_all
  obtain ⟨rfl, rfl⟩ := trodVars_none hV
  obtain ⟨a0, len0, cap0, rfl⟩ := okWide_slice Try.underlying22 (hval 0 22 v0 rfl rfl)
  have lt0 : ∀ x ∈ p0, x.block < W.heap.size := by obtain ⟨m, hm⟩ := h0; exact DataW.trod_lt m _ _ _ hm
  obtain ⟨l0, e0, ec0, b0, k0⟩ := open_bytes h0
  have reach0 := reach_bytes hsz0 (j := 0) rfl rfl k0
  clear hA0
  refine (walk a0 len0 cap0 l0 W e0 ec0 reach0 b0).mono fun e W' ⟨he, bel⟩ => ?_
  subst he
  exact ⟨_, rfl, _, _, _, [], _, [], hW', trodAll_mk1 (shut_bool Try.underlying4 _), (trodAll_cons_mk (Below.trod laidOut (by kernel_rfl) (of_decide_eq_true (by kernel_rfl)) h0 bel lt0) trodAll_mk0), rfl, bel.frame _, fun h => by cases h⟩

theorem laid_met (os : Os) : laidMet Try.prog Rows.numOneRow.laid ((World.holding Try.prog os ⟨#[], #[], []⟩).forCall (fun _ _ => 0) ⟨#[], #[.slice none 0 0], []⟩).memory :=
  laidMet_of_run' 8 (by kernel_rfl) (by kernel_rfl)
theorem reads (os : Os) {H : Type} (enc : TypeId × Value → H) : ∃ places, DataW.whole enc Try.prog ((World.holding Try.prog os ⟨#[], #[], []⟩).forCall (fun _ _ => 0) ⟨#[], #[.slice none 0 0], []⟩).memory Try.f8.params.toList Rows.numOneSpec.vars false #[Value.slice none 0 0].toList 8 = some ([.nil], [], places) :=
  ⟨[], by kernel_rfl⟩

set_option maxRecDepth 100000 in
theorem lifted (os : Os) (started : os.Started) (H : Type) (enc : TypeId × Value → H) (F : Stop.Interp) :
    ReturnsInHanded {} Try.checked os 8 .any ((OpenSpec.ofChange Rows.numOneSpec).preRow enc Try.prog Try.f8 Rows.numOneRow.domain false Rows.numOneRow.laid) (((OpenSpec.ofChange Rows.numOneSpec).at F).post enc Try.prog Try.f8 false true false false) := by
  obtain ⟨places, hx⟩ := reads os enc
  refine returnsInHanded_of_row (C := Try.checked) (s := OpenSpec.ofChange Rows.numOneSpec) own started (by kernel_rfl) Try.func8
    (witness_row_at (enc := enc) (C := Try.checked) false (World.holding Try.prog os ⟨#[], #[], []⟩) #[.slice none 0 0] rfl (by kernel_rfl) (by kernel_rfl) (by kernel_rfl)
      (OpenSpec.preRow_of_cond 8 hx (by kernel_rfl) (fun k hk => by cases hk) (by kernel_rfl) (laid_met os))) ?_
  intro W base args ds gs before hval hW _ _ hsz hL _ _
  exact contract H enc W base args ds gs before hval hW hL hsz

theorem said : Rows.NumOneSaid :=
  OpenClaim.holds_of_cond 8 Try.f8 rfl rfl rfl rfl rfl rfl rfl ⟨rfl, rfl, rfl, rfl, rfl⟩ rfl rfl rfl rfl rfl (by kernel_rfl) Try.func8 (by kernel_rfl)
    (of_decide_eq_true (by kernel_rfl)) (by unfold Func.isWrapper; first | (rw [if_pos (by decide +kernel)]; kernel_rfl) | (rw [if_neg (by decide +kernel)]; exact ⟨rfl, rfl⟩))
    (fun os started H enc _ F => by rw [OpenClaim.pre_eq_preRow]; exact lifted os started H enc F)

end Go.Proofs.Ytpcmedaaggeliaa.numOne
