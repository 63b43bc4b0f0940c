/- PROVED: the law TextsBack (what is put is taken as it was, whatever stands behind; of up to 65,536 bytes in all) returns true and leaves its arguments as they were, for every list of byte slices and every byte slice.
   Conditions: none but the form's own reach (a slice has fewer than 2^47 bytes). -/
import Derived.Test.YtoebeibmmclhpaaGreatGTM
import Derived.Test.YtoebeibmmclhpaaGreatGTN
namespace Go.Proofs.YtoebeibmmclhpaaGreat.textsBack
open Go.ChangeShapes Go.WideShapes Go.ChangeAt Go.RowKit
set_option maxRecDepth 100000

theorem samples_lists {w : World} {B : Nat} {A : Option Addr} {ls : List (List UInt8)} (h : Samples w B A ls) : Lists w B A ls := fun hn => by
  obtain ⟨ad, h1, h2, h3⟩ := h hn
  refine ⟨ad, h1, h2, fun i hi => ?_⟩
  obtain ⟨Ai, ci, _, h4, h5⟩ := h3 i hi
  exact ⟨Ai, ci, h4, h5⟩

set_option maxHeartbeats 4000000 in
theorem walk (A : Option Addr) (n cap : Nat) (ls : List (List UInt8)) (Am : Option Addr) (k capm : Nat) (more : List UInt8) (w : World)
    (hl : ls.length = n) (hcap : n ≤ cap) (hn : 24 * n ≤ 140737488351232) (hx : Samples w w.heap.size A ls) (_ : ∀ s ∈ ls, s.length ≤ 140737488351232)
    (hlm : more.length = k) (_ : k ≤ capm) (hm : k ≤ 140737488351232) (hmo : Bytes w w.heap.size Am more) :
    Calls Tryz.prog 5 #[.slice A n cap, .slice Am k capm] w fun e w' => e = .returned (.bool true) ∧ Below w.heap.size w w' := by
  have G1 := fun w' (h1 : Samples w' w'.heap.size A ls) => great_any A n cap _ ls 65536 w' hl (by omega) h1
  by_cases hg : 65536 < Texts.gsum ls (min n 20)
  · rw [decide_eq_true hg] at G1
    replace G1 := Lib.hid G1
    clear hmo hlm hg hl
    go_enter Tryz.func5, Tryz.ntmps5
    go_wp2_with fail
    refine (txAlive_any w).mono ?_
    rintro e w1 ⟨rfl, hbel1⟩
    have hx1 := (hx.below hbel1).wide hbel1.size
    have C2 := Lib.hid (G1.out w1 hx1)
    clear G1 hx1
    go_wp2_with fail
    refine C2.out.mono ?_
    rintro e w2 ⟨rfl, rfl⟩
    clear C2
    go_wp2
    go_ret
    exact ⟨rfl, hbel1⟩
  · rw [decide_eq_false hg] at G1
    replace G1 := Lib.hid G1
    by_cases hr : Texts.right ls = 0
    · have hga := Texts.gsum_all hr
      rw [hl] at hga
      have hF : ls.flatten.length ≤ 65536 := by omega
      have hok := Texts.right_lines hr
      have hpl := Texts.payload_length ls
      have hll := Texts.list_short (Texts.lens ls) (by rw [Texts.lens_length, hl]; omega)
      have hbl := Texts.bytes_length ls
      have h9 := Num.size_le9 (v := (Texts.payload ls).length) (by omega)
      have hbs : (Texts.bytes ls).length ≤ 100000 := by omega
      have P1 := fun w' (h1 : Samples w' w'.heap.size A ls) => putTexts_any none A 0 n 0 cap [] ls w' rfl (by omega) hl hcap (by omega) (fun _ => .inr ⟨by omega, by omega⟩) (Bytes.nil _ _ _) h1
      have hp : Texts.put [] ls = (Texts.bytes ls, 0) := by unfold Texts.put; rw [if_pos hr, List.nil_append]
      rw [hp] at P1
      unfold PairPost at P1
      simp only [Int.natCast_zero] at P1
      have K1 := fun A1 c1 w' (h1 : Bytes w' w'.heap.size A1 (Texts.bytes ls)) => copy_any A1 (Texts.bytes ls).length c1 _ (Texts.bytes ls) w' rfl (by omega) h1 (Nat.le_refl _)
      unfold MadeAt at K1
      have hy : (Texts.bytes ls ++ more).length = (Texts.bytes ls).length + k := by rw [List.length_append, hlm]
      have T1 := fun A1 c1 w' (hc : (Texts.bytes ls).length + k ≤ c1) (h1 : Bytes w' w'.heap.size A1 (Texts.bytes ls ++ more)) => txTake_any A1 ((Texts.bytes ls).length + k) c1 (Texts.bytes ls ++ more) w' hy hc (by omega) h1 (fun k' r' e => by
        have e2 : r' = Pfor.list (Texts.lens ls) ++ Num.row (Texts.payload ls) ++ more := by
          unfold Texts.bytes at e
          rw [List.cons_append] at e
          injection e with _ e
          exact e.symm
        have hpb := Texts.payload_back ls more hr
        rw [hy, ← e2] at hpb
        rw [hpb]
        simp only
        omega)
      rw [Texts.take_back ls more hr] at T1
      unfold TxTakePost at T1
      simp only [hl, Int.natCast_zero] at T1
      have L1 := Lib.hid fun A1 c1 B1 B2 w' (h1 : Lists w' B1 A1 ls) (h2 : Lists w' B2 A ls) => lists_same A1 A n c1 cap B1 B2 ls w' hl (by omega) h1 h2
      have Hlm := Lib.hid hlm
      replace P1 := Lib.hid P1
      replace K1 := Lib.hid K1
      replace T1 := Lib.hid T1
      clear hg hga hr hF hok hpl hll hbl h9 hp hy hl hlm
      generalize Texts.bytes ls = Y at *
      obtain ⟨y, hy⟩ : ∃ y, Y.length = y := ⟨_, rfl⟩
      rw [hy] at P1 K1 T1 hbs
      clear hy
      have hyy : ((y : Int) == (y : Int)) = true := by simp
      go_enter Tryz.func5, Tryz.ntmps5
      go_wp2_with fail
      refine (txAlive_any w).mono ?_
      rintro e w1 ⟨rfl, hbel1⟩
      have hx1 := (hx.below hbel1).wide hbel1.size
      have C2 := Lib.hid (G1.out w1 hx1)
      have C3 := Lib.hid (P1.out w1 hx1)
      clear G1 P1 hx1
      go_wp2_with fail
      refine C2.out.mono ?_
      rintro e w2 ⟨rfl, rfl⟩
      clear C2
      go_wp2_with fail
      refine C3.out.mono ?_
      rintro e w2 ⟨A2, c2, rfl, ho2, hb2⟩
      have bel2 := hbel1.trans (hb2.mono hbel1.size)
      have C4 := Lib.hid (K1.out A2 c2 w2 ho2.bytes)
      clear C3 K1 ho2
      go_wp2_with fail
      refine C4.out.mono ?_
      rintro e w3 ⟨A3, c3, rfl, ho3, hb3⟩
      have bel3 := bel2.trans (hb3.mono bel2.size)
      have hmo3 := hmo.below bel3
      have q3 := hb3.size
      have q2 := bel2.size
      clear C4
      go_wp2_with (at_builtin; refine wpList_append_wide rfl (.tmp 27) (.tmp 28) rfl w2.heap.size A3 y c3 Y rfl ho3 _ Am k capm more rfl Hlm.out hmo3 (by omega) q3 ?_; intro A4 c4 w4 ho4 hg4)
      have bel4 := bel3.grown hg4 bel3.size (fun q hq => Nat.le_trans q2 (ho3.lt hq).1)
      have C5 := Lib.hid (T1.out A4 c4 w4 ho4.cap ho4.bytes)
      clear T1 ho4 ho3 hmo3 hg4
      refine C5.out.mono ?_
      rintro e w5 ⟨A5, c5, rfl, ho5, hb5⟩
      have bel5 := bel4.trans (hb5.mono bel4.size)
      have C6 := Lib.hid (L1.out A5 c5 _ _ w5 ho5.lists (samples_lists (hx.below bel5)))
      clear C5 L1 ho5
      go_wp2_with fail
      refine C6.out.mono ?_
      rintro e w6 ⟨rfl, hd6⟩
      have bel6 := bel5.trans (hd6.below _)
      clear C6
      go_wp2
      go_ret
      exact ⟨rfl, bel6⟩
    · have P1 := fun w' (h1 : Samples w' w'.heap.size A ls) => putTexts_any none A 0 n 0 cap [] ls w' rfl (by omega) hl hcap (by omega) (fun h => absurd h hr) (Bytes.nil _ _ _) h1
      have R1 := fun w' (h1 : Samples w' w'.heap.size A ls) => txRight_any A n cap _ ls w' hl (by omega) h1
      have hp : Texts.put [] ls = ([], Texts.right ls) := by unfold Texts.put; rw [if_neg hr]
      rw [hp] at P1
      unfold PairPost at P1
      simp only [List.length_nil] at P1
      generalize Texts.right ls = r at *
      have hr2 : ((r : Int) != 0) = true := bne_iff_ne.2 (by omega)
      have hr3 : ((r : Int) == (r : Int)) = true := by simp
      replace R1 := Lib.hid R1
      replace P1 := Lib.hid P1
      clear hl hp hr hg hmo hlm
      go_enter Tryz.func5, Tryz.ntmps5
      go_wp2_with fail
      refine (txAlive_any w).mono ?_
      rintro e w1 ⟨rfl, hbel1⟩
      have hx1 := (hx.below hbel1).wide hbel1.size
      have C2 := Lib.hid (G1.out w1 hx1)
      have C3 := Lib.hid (P1.out w1 hx1)
      clear G1 P1 hx1
      go_wp2_with fail
      refine C2.out.mono ?_
      rintro e w2 ⟨rfl, rfl⟩
      clear C2
      go_wp2_with fail
      refine C3.out.mono ?_
      rintro e w2 ⟨A2, c2, rfl, ho2, hb2⟩
      have bel2 := hbel1.trans (hb2.mono hbel1.size)
      have C4 := Lib.hid (R1.out w2 ((hx.below bel2).wide bel2.size))
      clear C3 R1 ho2
      go_wp2_with fail
      refine C4.out.mono ?_
      rintro e w3 ⟨rfl, rfl⟩
      clear C4
      go_wp2
      go_ret
      exact ⟨rfl, bel2⟩
set_option maxRecDepth 100000 in
/-- from the walk to the post of the row -/
theorem contract (H : Type) (enc : TypeId × Value → H) (W : World) (base : Nat) (args : Array Value) (ds gs : List (DataW H)) (before : List MemPlace)
    (hval : ∀ (j : Nat) t v, Tryz.f5.params[j]? = some t → args[j]? = some v → Value.okWide Tryz.prog W .any base t v)
    (hW : DataW.Whole enc Tryz.prog Tryz.f5.params.toList Rows.textsBackSpec.vars false W args.toList ds gs before) (_ : laidMetH Tryz.prog Rows.textsBackRow.laid W)
    (hsz0 : (DataW.weightsEach Tryz.prog (Tryz.f5.params.toList ++ Rows.textsBackSpec.plain.varTypes Tryz.prog) (ds ++ gs)).all (· ≤ reachBytes) = true) :
    Calls Tryz.prog 5 args W fun e W' => ∃ v, e = .returned v ∧ Rows.textsBackSpec.post enc Tryz.prog Tryz.f5 false true false false W args v W' := by
  have hW' := hW
  obtain ⟨p, q, hA0, hV, rfl, hfz, hnd⟩ := hW
  have hA : DataW.TrodAll enc Tryz.prog W 0 (fun _ => true) true Tryz.f5.params.toList args.toList ds p := hA0
  rw [Tryz.params5] at hA hval hsz0
  obtain ⟨v0, vs0, d0, ds0, p0, q0, hargs, rfl, rfl, h0, r0⟩ := trodAll_cons hA
  obtain ⟨v1, vs1, d1, ds1, p1, q1, rfl, rfl, rfl, h1, r1⟩ := trodAll_cons r0
  obtain ⟨rfl, rfl, rfl⟩ := trodAll_nil r1
  obtain rfl : args = #[v0, v1] := by cases args; simp_all
  obtain ⟨rfl, rfl⟩ := trodVars_none hV
  obtain ⟨a0, len0, cap0, rfl⟩ := okWide_slice Tryz.underlying23 (hval 0 23 v0 rfl rfl)
  have lt0 : ∀ x ∈ p0, x.block < W.heap.size := by obtain ⟨m, hm⟩ := h0; exact DataW.trod_lt m _ _ _ hm
  obtain ⟨l0, e0, ec0, reach0, b0, em0⟩ := open_samples h0 (reach_all hsz0 (j := 0) rfl rfl)
  obtain ⟨a1, len1, cap1, rfl⟩ := okWide_slice Tryz.underlying22 (hval 1 22 v1 rfl rfl)
  have lt1 : ∀ x ∈ p1, x.block < W.heap.size := by obtain ⟨m, hm⟩ := h1; exact DataW.trod_lt m _ _ _ hm
  obtain ⟨l1, e1, ec1, b1, k1⟩ := open_bytes h1
  have reach1 := reach_bytes hsz0 (j := 1) rfl rfl k1
  clear hA0
  refine (walk a0 len0 cap0 l0 a1 len1 cap1 l1 W e0 ec0 reach0 b0 em0 e1 ec1 reach1 b1).mono fun e W' ⟨he, bel⟩ => ?_
  subst he
  exact ⟨_, rfl, _, _, _, [], _, [], hW', trodAll_mk1 (shut_bool Tryz.underlying4 _), (trodAll_cons_mk (Below.trod laidOut (by kernel_rfl) (of_decide_eq_true (by kernel_rfl)) h0 bel lt0) (trodAll_cons_mk (Below.trod laidOut (by kernel_rfl) (of_decide_eq_true (by kernel_rfl)) h1 bel lt1) trodAll_mk0)), rfl, bel.frame _, fun h => by cases h⟩

theorem laid_met (os : Os) : laidMet Tryz.prog Rows.textsBackRow.laid ((World.holding Tryz.prog os ⟨#[], #[], []⟩).forCall (fun _ _ => 0) ⟨#[], #[.slice none 0 0, .slice none 0 0], []⟩).memory :=
  laidMet_of_run' 8 (by kernel_rfl) (by kernel_rfl)
theorem reads (os : Os) {H : Type} (enc : TypeId × Value → H) : ∃ places, DataW.whole enc Tryz.prog ((World.holding Tryz.prog os ⟨#[], #[], []⟩).forCall (fun _ _ => 0) ⟨#[], #[.slice none 0 0, .slice none 0 0], []⟩).memory Tryz.f5.params.toList Rows.textsBackSpec.vars false #[Value.slice none 0 0, .slice none 0 0].toList 8 = some ([.nil, .nil], [], places) :=
  ⟨[], by kernel_rfl⟩

set_option maxRecDepth 100000 in
theorem lifted (os : Os) (started : os.Started) (H : Type) (enc : TypeId × Value → H) (F : Stop.Interp) :
    ReturnsInHanded {} Tryz.checked os 5 .any ((OpenSpec.ofChange Rows.textsBackSpec).preRow enc Tryz.prog Tryz.f5 Rows.textsBackRow.domain false Rows.textsBackRow.laid) (((OpenSpec.ofChange Rows.textsBackSpec).at F).post enc Tryz.prog Tryz.f5 false true false false) := by
  obtain ⟨places, hx⟩ := reads os enc
  refine returnsInHanded_of_row (C := Tryz.checked) (s := OpenSpec.ofChange Rows.textsBackSpec) own started (by kernel_rfl) Tryz.func5
    (witness_row_at (enc := enc) (C := Tryz.checked) false (World.holding Tryz.prog os ⟨#[], #[], []⟩) #[.slice none 0 0, .slice none 0 0] rfl (by kernel_rfl) (by kernel_rfl) (by kernel_rfl)
      (OpenSpec.preRow_of_cond 8 hx (by kernel_rfl) (fun k hk => by cases hk) (by kernel_rfl) (laid_met os))) ?_
  intro W base args ds gs before hval hW _ _ hsz hL _ _
  exact contract H enc W base args ds gs before hval hW hL hsz

theorem said : Rows.TextsBackSaid :=
  OpenClaim.holds_of_cond 5 Tryz.f5 rfl rfl rfl rfl rfl rfl rfl ⟨rfl, rfl, rfl, rfl, rfl⟩ rfl rfl rfl rfl rfl (by kernel_rfl) Tryz.func5 (by kernel_rfl)
    (of_decide_eq_true (by kernel_rfl)) (by unfold Func.isWrapper; first | (rw [if_pos (by decide +kernel)]; kernel_rfl) | (rw [if_neg (by decide +kernel)]; exact ⟨rfl, rfl⟩))
    (fun os started H enc _ F => by rw [OpenClaim.pre_eq_preRow]; exact lifted os started H enc F)

end Go.Proofs.YtoebeibmmclhpaaGreat.textsBack
