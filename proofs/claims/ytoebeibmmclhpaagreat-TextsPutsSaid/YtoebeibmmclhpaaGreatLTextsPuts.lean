/- PROVED: the law TextsPuts (any lines are laid as a granule behind any bytes as the document says, or refused; of up to 300 bytes in all, where they aren't refused) returns true and leaves its arguments as they were, for every byte slice and every list of byte slices.
   Conditions: none but the form's own reach (a slice has fewer than 2^47 bytes). -/
import Derived.Test.YtoebeibmmclhpaaGreatGTM
namespace Go.Proofs.YtoebeibmmclhpaaGreat.textsPuts
open Go.ChangeShapes Go.WideShapes Go.ChangeAt Go.RowKit
set_option maxRecDepth 100000

set_option maxHeartbeats 4000000 in
theorem walk (Ab : Option Addr) (m capb : Nat) (b : List UInt8) (A : Option Addr) (n cap : Nat) (ls : List (List UInt8)) (w : World)
    (hlb : b.length = m) (_ : m ≤ capb) (hm : m ≤ 140737488351232) (hbb : Bytes w w.heap.size Ab b)
    (hl : ls.length = n) (hcap : n ≤ cap) (hn : 24 * n ≤ 140737488351232) (hx : Samples w w.heap.size A ls) (_ : ∀ s ∈ ls, s.length ≤ 140737488351232) :
    Calls Tryz.prog 3 #[.slice Ab m capb, .slice A n cap] w fun e w' => e = .returned (.bool true) ∧ Below w.heap.size w w' := by
  have R1 := fun w' (h1 : Samples w' w'.heap.size A ls) => txRight_any A n cap _ ls w' hl (by omega) h1
  have G1 := fun w' (h1 : Samples w' w'.heap.size A ls) => great_any A n cap _ ls 300 w' hl (by omega) h1
  have K1 := Lib.hid fun w' (h1 : Bytes w' w'.heap.size Ab b) => copy_any Ab m capb _ b w' hlb (by omega) h1 (Nat.le_refl _)
  have S1 := Lib.hid fun A1 A2 c1 c2 B1 B2 w' (h1 : Bytes w' B1 A1 b) (h2 : Bytes w' B2 A2 b) => same_any A1 A2 m m c1 c2 B1 B2 b b w' hlb hlb h1 h2
  by_cases hr : Texts.right ls = 0
  · have hga := Texts.gsum_all hr
    rw [hl] at hga
    rw [hga] at G1
    rw [hr] at R1
    by_cases hg : 300 < ls.flatten.length
    · rw [decide_eq_true hg] at G1
      replace R1 := Lib.hid R1
      replace G1 := Lib.hid G1
      clear K1 S1 hga hr hg hl hlb
      go_enter Tryz.func3, Tryz.ntmps3
      go_wp2_with fail
      refine (txAlive_any w).mono ?_
      rintro e w1 ⟨rfl, hbel1⟩
      have hx1 := (hx.below hbel1).wide hbel1.size
      have C1 := Lib.hid (R1.out w1 hx1)
      have C2 := Lib.hid (G1.out w1 hx1)
      clear R1 G1 hx1
      go_wp2_with fail
      refine C1.out.mono ?_
      rintro e w2 ⟨rfl, rfl⟩
      clear C1
      go_wp2_with fail
      refine C2.out.mono ?_
      rintro e w2 ⟨rfl, rfl⟩
      clear C2
      go_wp2
      go_ret
      exact ⟨rfl, hbel1⟩
    · rw [decide_eq_false hg] at G1
      have hok := Texts.right_lines hr
      have hpl := Texts.payload_length ls
      have hll := Texts.list_short (Texts.lens ls) (by rw [Texts.lens_length, hl]; omega)
      have hbl := Texts.bytes_length ls
      have h9 := Num.size_le9 (v := (Texts.payload ls).length) (by omega)
      have hbs : (Texts.bytes ls).length ≤ 1000 := by omega
      have P1 := fun A2 c2 w' (h0 : Bytes w' w'.heap.size A2 b) (h1 : Samples w' w'.heap.size A ls) => putTexts_any A2 A m n c2 cap b ls w' hlb hm hl hcap (by omega) (fun _ => .inl (by omega)) h0 h1
      have B1 := fun w' (h1 : Samples w' w'.heap.size A ls) => txBytes_any A n cap _ ls w' hl (by omega) (by omega) h1 (Nat.le_refl _)
      have hp : Texts.put b ls = (b ++ Texts.bytes ls, 0) := by unfold Texts.put; rw [if_pos hr]
      rw [hp] at P1
      unfold PairPost at P1
      unfold MadeAt at B1 K1
      have hq : (b ++ Texts.bytes ls).length = m + (Texts.bytes ls).length := by rw [List.length_append, hlb]
      simp only [hq, Int.natCast_zero] at P1
      have Hq := Lib.hid hq
      replace R1 := Lib.hid R1
      replace G1 := Lib.hid G1
      replace P1 := Lib.hid P1
      replace B1 := Lib.hid B1
      clear hga hr hg hl hlb hok hpl hll hbl h9 hp hq
      generalize Texts.bytes ls = Z at *
      generalize Z.length = z at *
      go_enter Tryz.func3, Tryz.ntmps3
      go_wp2_with fail
      refine (txAlive_any w).mono ?_
      rintro e w1 ⟨rfl, hbel1⟩
      have hx1 := (hx.below hbel1).wide hbel1.size
      have hy1 := (hbb.below hbel1).wide hbel1.size
      have C1 := Lib.hid (R1.out w1 hx1)
      have C2 := Lib.hid (G1.out w1 hx1)
      have C3 := Lib.hid (K1.out w1 hy1)
      clear R1 G1 K1
      go_wp2_with fail
      refine C1.out.mono ?_
      rintro e w2 ⟨rfl, rfl⟩
      clear C1
      go_wp2_with fail
      refine C2.out.mono ?_
      rintro e w2 ⟨rfl, rfl⟩
      clear C2
      go_wp2_with fail
      refine C3.out.mono ?_
      rintro e w2 ⟨A2, c2, rfl, ho2, hb2⟩
      have hx2 := (hx1.below hb2).wide hb2.size
      have hy2 := (hy1.below hb2).wide hb2.size
      have bel2 := hbel1.trans (hb2.mono hbel1.size)
      have C4 := Lib.hid (P1.out A2 c2 w2 ho2.bytes hx2)
      clear C3 P1 hx1 hy1
      go_wp2_with fail
      refine C4.out.mono ?_
      rintro e w3 ⟨A3, c3, rfl, ho3, hb3⟩
      have hx3 := (hx2.below hb3).wide hb3.size
      have hy3 := hy2.below hb3
      have o3 := ho2.below hb3
      have bel3 := bel2.trans (hb3.mono bel2.size)
      have C5 := S1.out A2 Ab c2 capb _ _ w3 o3.bytes hy3
      rw [beq_self_eq_true] at C5
      replace C5 := Lib.hid C5
      have C6 := Lib.hid (B1.out w3 hx3)
      have hflt := Lib.hid (fun g (h : blk A2 = some g) => (ho2.lt h).2)
      clear C4 B1 hx2 hy2 hy3 hx3 ho2
      go_wp2_with fail
      refine C5.out.mono ?_
      rintro e w4 ⟨rfl, rfl⟩
      clear C5 S1
      go_wp2_with fail
      refine C6.out.mono ?_
      rintro e w5 ⟨A5, c5, rfl, ho5, hb5⟩
      have o5 := o3.below hb5
      have x5 := ho3.below hb5
      have bel5 := bel3.trans (hb5.mono bel3.size)
      have q5 : w1.heap.size ≤ w5.heap.size := Nat.le_trans hb2.size (Nat.le_trans hb3.size hb5.size)
      have HZ := Lib.hid ho5.len
      clear C6 o3 ho3
      go_wp2_with (at_builtin; refine wpList_append_bytes rfl (.tmp 42) (.tmp 44) rfl w1.heap.size A2 m c2 b rfl o5 _ A5 z c5 Z rfl HZ.out ho5.bytes (by omega) q5 ?_; intro A6 c6 w6 ho6 hg6 hat6)
      have x6 := x5.kept hg6 (by
        rcases hA : blk A3 with _ | g
        · exact .inl rfl
        · refine .inr fun e => ?_
          have h1 := (x5.lt hA).1
          have h2 := hflt.out g e.symm
          omega)
      have bel6 := bel5.grown hg6 bel5.size (fun q hq => Nat.le_trans hbel1.size (o5.lt hq).1)
      have C7 := same_any A3 A6 (m + z) (m + z) c3 c6 _ _ (b ++ Z) (b ++ Z) w6 Hq.out Hq.out x6.bytes ho6.bytes
      rw [beq_self_eq_true] at C7
      refine C7.mono ?_
      rintro e w7 ⟨rfl, rfl⟩
      go_wp2
      go_ret
      exact ⟨rfl, bel6⟩
  · have hp : Texts.put b ls = ([], Texts.right ls) := by unfold Texts.put; rw [if_neg hr]
    have P1 := fun A2 c2 w' (h0 : Bytes w' w'.heap.size A2 b) (h1 : Samples w' w'.heap.size A ls) => putTexts_any A2 A m n c2 cap b ls w' hlb hm hl hcap (by omega) (fun h => absurd h hr) h0 h1
    rw [hp] at P1
    unfold PairPost at P1
    unfold MadeAt at K1
    simp only [List.length_nil] at P1
    generalize Texts.right ls = r at *
    have hr1 : ((r : Int) == 0) = false := beq_eq_false_iff_ne.2 (by omega)
    have hr2 : ((r : Int) != 0) = true := bne_iff_ne.2 (by omega)
    have hr3 : ((r : Int) != (r : Int)) = false := by simp
    replace R1 := Lib.hid R1
    replace P1 := Lib.hid P1
    clear hl hlb hp G1 hr
    go_enter Tryz.func3, Tryz.ntmps3
    go_wp2_with fail
    refine (txAlive_any w).mono ?_
    rintro e w1 ⟨rfl, hbel1⟩
    have hx1 := (hx.below hbel1).wide hbel1.size
    have hy1 := (hbb.below hbel1).wide hbel1.size
    have C1 := Lib.hid (R1.out w1 hx1)
    have C3 := Lib.hid (K1.out w1 hy1)
    clear R1 K1
    go_wp2_with fail
    refine C1.out.mono ?_
    rintro e w2 ⟨rfl, rfl⟩
    clear C1
    go_wp2_with fail
    refine C3.out.mono ?_
    rintro e w2 ⟨A2, c2, rfl, ho2, hb2⟩
    have hx2 := (hx1.below hb2).wide hb2.size
    have hy2 := (hy1.below hb2).wide hb2.size
    have bel2 := hbel1.trans (hb2.mono hbel1.size)
    have C4 := Lib.hid (P1.out A2 c2 w2 ho2.bytes hx2)
    clear C3 P1 hx1 hy1
    go_wp2_with fail
    refine C4.out.mono ?_
    rintro e w3 ⟨A3, c3, rfl, ho3, hb3⟩
    have hy3 := hy2.below hb3
    have o3 := ho2.below hb3
    have bel3 := bel2.trans (hb3.mono bel2.size)
    have C5 := S1.out A2 Ab c2 capb _ _ w3 o3.bytes hy3
    rw [beq_self_eq_true] at C5
    replace C5 := Lib.hid C5
    clear C4 hx2 hy2 hy3 ho2
    go_wp2_with fail
    refine C5.out.mono ?_
    rintro e w4 ⟨rfl, rfl⟩
    clear C5 S1
    go_wp2
    go_ret
    exact ⟨rfl, bel3⟩
set_option maxRecDepth 100000 in
/-- from the walk to the post of the row -/
theorem contract (H : Type) (enc : TypeId × Value → H) (W : World) (base : Nat) (args : Array Value) (ds gs : List (DataW H)) (before : List MemPlace)
    (hval : ∀ (j : Nat) t v, Tryz.f3.params[j]? = some t → args[j]? = some v → Value.okWide Tryz.prog W .any base t v)
    (hW : DataW.Whole enc Tryz.prog Tryz.f3.params.toList Rows.textsPutsSpec.vars false W args.toList ds gs before) (_ : laidMetH Tryz.prog Rows.textsPutsRow.laid W)
    (hsz0 : (DataW.weightsEach Tryz.prog (Tryz.f3.params.toList ++ Rows.textsPutsSpec.plain.varTypes Tryz.prog) (ds ++ gs)).all (· ≤ reachBytes) = true) :
    Calls Tryz.prog 3 args W fun e W' => ∃ v, e = .returned v ∧ Rows.textsPutsSpec.post enc Tryz.prog Tryz.f3 false true false false W args v W' := by
  have hW' := hW
  obtain ⟨p, q, hA0, hV, rfl, hfz, hnd⟩ := hW
  have hA : DataW.TrodAll enc Tryz.prog W 0 (fun _ => true) true Tryz.f3.params.toList args.toList ds p := hA0
  rw [Tryz.params3] at hA hval hsz0
  obtain ⟨v0, vs0, d0, ds0, p0, q0, hargs, rfl, rfl, h0, r0⟩ := trodAll_cons hA
  obtain ⟨v1, vs1, d1, ds1, p1, q1, rfl, rfl, rfl, h1, r1⟩ := trodAll_cons r0
  obtain ⟨rfl, rfl, rfl⟩ := trodAll_nil r1
  obtain rfl : args = #[v0, v1] := by cases args; simp_all
  obtain ⟨rfl, rfl⟩ := trodVars_none hV
  obtain ⟨a0, len0, cap0, rfl⟩ := okWide_slice Tryz.underlying22 (hval 0 22 v0 rfl rfl)
  have lt0 : ∀ x ∈ p0, x.block < W.heap.size := by obtain ⟨m, hm⟩ := h0; exact DataW.trod_lt m _ _ _ hm
  obtain ⟨l0, e0, ec0, b0, k0⟩ := open_bytes h0
  have reach0 := reach_bytes hsz0 (j := 0) rfl rfl k0
  obtain ⟨a1, len1, cap1, rfl⟩ := okWide_slice Tryz.underlying23 (hval 1 23 v1 rfl rfl)
  have lt1 : ∀ x ∈ p1, x.block < W.heap.size := by obtain ⟨m, hm⟩ := h1; exact DataW.trod_lt m _ _ _ hm
  obtain ⟨l1, e1, ec1, reach1, b1, em1⟩ := open_samples h1 (reach_all hsz0 (j := 1) rfl rfl)
  clear hA0
  refine (walk a0 len0 cap0 l0 a1 len1 cap1 l1 W e0 ec0 reach0 b0 e1 ec1 reach1 b1 em1).mono fun e W' ⟨he, bel⟩ => ?_
  subst he
  exact ⟨_, rfl, _, _, _, [], _, [], hW', trodAll_mk1 (shut_bool Tryz.underlying4 _), (trodAll_cons_mk (Below.trod laidOut (by kernel_rfl) (of_decide_eq_true (by kernel_rfl)) h0 bel lt0) (trodAll_cons_mk (Below.trod laidOut (by kernel_rfl) (of_decide_eq_true (by kernel_rfl)) h1 bel lt1) trodAll_mk0)), rfl, bel.frame _, fun h => by cases h⟩

theorem laid_met (os : Os) : laidMet Tryz.prog Rows.textsPutsRow.laid ((World.holding Tryz.prog os ⟨#[], #[], []⟩).forCall (fun _ _ => 0) ⟨#[], #[.slice none 0 0, .slice none 0 0], []⟩).memory :=
  laidMet_of_run' 8 (by kernel_rfl) (by kernel_rfl)
theorem reads (os : Os) {H : Type} (enc : TypeId × Value → H) : ∃ places, DataW.whole enc Tryz.prog ((World.holding Tryz.prog os ⟨#[], #[], []⟩).forCall (fun _ _ => 0) ⟨#[], #[.slice none 0 0, .slice none 0 0], []⟩).memory Tryz.f3.params.toList Rows.textsPutsSpec.vars false #[Value.slice none 0 0, .slice none 0 0].toList 8 = some ([.nil, .nil], [], places) :=
  ⟨[], by kernel_rfl⟩

set_option maxRecDepth 100000 in
theorem lifted (os : Os) (started : os.Started) (H : Type) (enc : TypeId × Value → H) (F : Stop.Interp) :
    ReturnsInHanded {} Tryz.checked os 3 .any ((OpenSpec.ofChange Rows.textsPutsSpec).preRow enc Tryz.prog Tryz.f3 Rows.textsPutsRow.domain false Rows.textsPutsRow.laid) (((OpenSpec.ofChange Rows.textsPutsSpec).at F).post enc Tryz.prog Tryz.f3 false true false false) := by
  obtain ⟨places, hx⟩ := reads os enc
  refine returnsInHanded_of_row (C := Tryz.checked) (s := OpenSpec.ofChange Rows.textsPutsSpec) own started (by kernel_rfl) Tryz.func3
    (witness_row_at (enc := enc) (C := Tryz.checked) false (World.holding Tryz.prog os ⟨#[], #[], []⟩) #[.slice none 0 0, .slice none 0 0] rfl (by kernel_rfl) (by kernel_rfl) (by kernel_rfl)
      (OpenSpec.preRow_of_cond 8 hx (by kernel_rfl) (fun k hk => by cases hk) (by kernel_rfl) (laid_met os))) ?_
  intro W base args ds gs before hval hW _ _ hsz hL _ _
  exact contract H enc W base args ds gs before hval hW hL hsz

theorem said : Rows.TextsPutsSaid :=
  OpenClaim.holds_of_cond 3 Tryz.f3 rfl rfl rfl rfl rfl rfl rfl ⟨rfl, rfl, rfl, rfl, rfl⟩ rfl rfl rfl rfl rfl (by kernel_rfl) Tryz.func3 (by kernel_rfl)
    (of_decide_eq_true (by kernel_rfl)) (by unfold Func.isWrapper; first | (rw [if_pos (by decide +kernel)]; kernel_rfl) | (rw [if_neg (by decide +kernel)]; exact ⟨rfl, rfl⟩))
    (fun os started H enc _ F => by rw [OpenClaim.pre_eq_preRow]; exact lifted os started H enc F)

end Go.Proofs.YtoebeibmmclhpaaGreat.textsPuts
