/- PROVED: the law SymTrains (the table of any samples of up to 400 bytes is the document's, and a table) returns true and leaves its argument as it was, for every list of byte slices.
   Conditions: none but the form's own reach (a slice has fewer than 2^47 bytes). -/
import Derived.Test.YtmcioglidgbibaaSymLaw
import Derived.Test.YtmcioglidgbibaaSymTrain
import Derived.Test.YtmcioglidgbibaaSymRefTrain
namespace Go.Proofs.Ytmcioglidgbibaa.symTrains
open Go.ChangeShapes Go.WideShapes Go.ChangeAt Go.RowKit
set_option maxRecDepth 100000

set_option maxHeartbeats 4000000 in
theorem walk (A : Option Addr) (n cap : Nat) (ss : List (List UInt8)) (w : World)
    (hl : ss.length = n) (_ : n ≤ cap) (hn : 24 * n ≤ 140737488351232) (hx : Samples w w.heap.size A ss) (hs : ∀ s ∈ ss, s.length ≤ 140737488351232) :
    Calls Try.prog 3 #[.slice A n cap] w fun e w' => e = .returned (.bool true) ∧ Below w.heap.size w w' := by
  have C1 := fun w' (h1 : Samples w' w'.heap.size A ss) => train_any A n cap _ ss w' hl (by omega) hs h1 (Nat.le_refl _)
  have C2 := fun w' (h1 : Samples w' w'.heap.size A ss) => refTrain_any A n cap _ ss w' hl (by omega) hs h1 (Nat.le_refl _)
  have hf := Sym.train_formed (Sym.pieces_len ss 1024)
  generalize Sym.train (Sym.pieces ss 1024) = T at *
  have h32 := hf.1
  have hm : ∀ s ∈ T, s.length ≤ maxLen := fun s hs => by have := (hf.2.1 s hs).2; simp only [maxLen]; omega
  have S2 := Lib.hid fun A1 A2 c1 c2 B1 B2 w' (h1 : Strs w' B1 A1 T) (h2 : Strs w' B2 A2 T) => sameStr_any A1 A2 T.length c1 c2 B1 B2 T w' rfl (by omega) h1 h2
  have F1 := fun A1 c1 B w' (hc : T.length ≤ c1) (h1 : Strs w' B A1 T) => formed_any A1 T.length c1 B T w' rfl hc (by omega) h1 hm
  rw [Sym.formed_iff.2 hf] at F1
  have Hl := Lib.hid hl
  have Hs := Lib.hid hs
  replace F1 := Lib.hid F1
  replace C1 := Lib.hid C1
  replace C2 := Lib.hid C2
  clear hl hs hf hm
  go_enter Try.func3, Try.ntmps3
  go_wp2_with fail
  refine (symAlive_any w).mono ?_
  rintro e w1 ⟨rfl, hbel1⟩
  have hx1 := (hx.below hbel1).wide hbel1.size
  clear hx
  go_wp2
  go_loopg [3, 4] n (fun g sv i wx => ∃ k s : Nat, k + g = n ∧ sv = .int .i64 (s : Int) ∧ i = .int .i64 (k : Int) ∧ s ≤ 140737488351700 ∧ w1 = wx)
  case atStart => exact ⟨0, 0, by omega, rfl, rfl, by omega, rfl⟩
  case round =>
    obtain ⟨k, s, hkg, rfl, rfl, hs1, rfl⟩ := hrel
    by_cases hgo : k < n ∧ k < 100 ∧ s < 400
    · obtain ⟨h1, h2, h3⟩ := hgo
      have hk' : k < ss.length := by rw [Hl.out]; exact h1
      obtain ⟨ad, Ai, ci, rfl, hadb, hci, hcell, hbi⟩ := hx1.at_ hk'
      have hsl := Hs.out _ (List.getElem_mem hk')
      have h1' : (k : Int) < (n : Int) := by omega
      have h2' : (k : Int) < 100 := by omega
      have h3' : (s : Int) < 400 := by omega
      have h0 : (0 : Int) ≤ (k : Int) := by omega
      generalize ss[k].length = m at *
      go_wp2
      go_roundg (n - (k + 1))
      case measure => omega
      case rel => exact ⟨k + 1, s + m, by omega, by go_num, by go_num, by omega, rfl⟩
    · have hE : ¬ k < n ∨ (k < n ∧ ¬ k < 100) ∨ (k < n ∧ k < 100 ∧ ¬ s < 400) := by omega
      have hT : 100 < n ∨ (¬ 100 < n ∧ 400 < s) ∨ (¬ 100 < n ∧ ¬ 400 < s) := by omega
      rcases hT with t1 | ⟨t1, t2⟩ | ⟨t1, t2⟩
      · have t1' : (100 : Int) < (n : Int) := by omega
        rcases hE with h1 | ⟨h1, h2⟩ | ⟨h1, h2, h3⟩
        · have h1' : ¬ ((k : Int) < (n : Int)) := by omega
          go_wp2
          go_ret
          exact ⟨rfl, hbel1⟩
        · have h1' : (k : Int) < (n : Int) := by omega
          have h2' : ¬ ((k : Int) < 100) := by omega
          go_wp2
          go_ret
          exact ⟨rfl, hbel1⟩
        · have h1' : (k : Int) < (n : Int) := by omega
          have h2' : (k : Int) < 100 := by omega
          have h3' : ¬ ((s : Int) < 400) := by omega
          go_wp2
          go_ret
          exact ⟨rfl, hbel1⟩
      · have t1' : ¬ ((100 : Int) < (n : Int)) := by omega
        have t2' : (400 : Int) < (s : Int) := by omega
        rcases hE with h1 | ⟨h1, h2⟩ | ⟨h1, h2, h3⟩
        · have h1' : ¬ ((k : Int) < (n : Int)) := by omega
          go_wp2
          go_ret
          exact ⟨rfl, hbel1⟩
        · omega
        · have h1' : (k : Int) < (n : Int) := by omega
          have h2' : (k : Int) < 100 := by omega
          have h3' : ¬ ((s : Int) < 400) := by omega
          go_wp2
          go_ret
          exact ⟨rfl, hbel1⟩
      · have t1' : ¬ ((100 : Int) < (n : Int)) := by omega
        have t2' : ¬ ((400 : Int) < (s : Int)) := by omega
        rcases hE with h1 | ⟨h1, h2⟩ | ⟨h1, h2, h3⟩
        rotate_left
        · omega
        rotate_left
        all_goals
          first | (have h1' : ¬ ((k : Int) < (n : Int)) := (by omega)) | (have h1' : (k : Int) < (n : Int) := (by omega); have h2' : (k : Int) < 100 := (by omega); have h3' : ¬ ((s : Int) < 400) := (by omega))
          go_wp2_with fail
          refine (C1.out w1 hx1).mono ?_
          rintro e w2 ⟨A2, c2, rfl, ho2, hb2⟩
          have hx2 := (hx1.below hb2).wide hb2.size
          have hbel2 := hbel1.trans (hb2.mono hbel1.size)
          go_wp2_with fail
          refine (C2.out w2 hx2).mono ?_
          rintro e w3 ⟨A3, c3, rfl, ho3, hb3⟩
          have ho23 := ho2.below hb3
          have hbel3 := hbel2.trans (hb3.mono hbel2.size)
          go_wp2_with fail
          refine (S2.out A2 A3 c2 c3 _ _ w3 ho23.row ho3.row).mono ?_
          rintro e w4 ⟨rfl, hd4⟩
          have ho4 : Strs w4 w3.heap.size A2 T := by obtain ⟨q, rfl⟩ := hd4; exact ho23.row.drewN q
          have hbel4 := hbel3.trans (hd4.below w.heap.size)
          go_wp2_with fail
          refine (F1.out A2 c2 _ w4 ho2.cap ho4).mono ?_
          rintro e w5 ⟨rfl, rfl⟩
          go_wp2
          go_ret
          exact ⟨rfl, hbel4⟩

/-- from the walk to the post of the row -/
theorem contract (H : Type) (enc : TypeId × Value → H) (W : World) (base : Nat) (args : Array Value) (ds gs : List (DataW H)) (before : List MemPlace)
    (hval : ∀ (j : Nat) t v, Try.f3.params[j]? = some t → args[j]? = some v → Value.okWide Try.prog W .any base t v)
    (hW : DataW.Whole enc Try.prog Try.f3.params.toList Rows.symTrainsSpec.vars false W args.toList ds gs before) (_ : laidMetH Try.prog Rows.symTrainsRow.laid W)
    (hsz0 : (DataW.weightsEach Try.prog (Try.f3.params.toList ++ Rows.symTrainsSpec.plain.varTypes Try.prog) (ds ++ gs)).all (· ≤ reachBytes) = true) :
    Calls Try.prog 3 args W fun e W' => ∃ v, e = .returned v ∧ Rows.symTrainsSpec.post enc Try.prog Try.f3 false true false false W args v W' := by
  have hW' := hW
  obtain ⟨p, q, hA0, hV, rfl, hfz, hnd⟩ := hW
  have hA : DataW.TrodAll enc Try.prog W 0 (fun _ => true) true Try.f3.params.toList args.toList ds p := hA0
  rw [Try.params3] at hA hval hsz0
  obtain ⟨v0, vs0, d0, ds0, p0, q0, hargs, rfl, rfl, h0, r0⟩ := trodAll_cons hA
  obtain ⟨rfl, rfl, rfl⟩ := trodAll_nil r0
  obtain rfl : args = #[v0] := by cases args; simp_all
  obtain ⟨rfl, rfl⟩ := trodVars_none hV
  obtain ⟨a0, len0, cap0, rfl⟩ := okWide_slice Try.underlying22 (hval 0 22 v0 rfl rfl)
  have lt0 : ∀ x ∈ p0, x.block < W.heap.size := by obtain ⟨m, hm⟩ := h0; exact DataW.trod_lt m _ _ _ hm
  obtain ⟨l0, e0, ec0, reach0, b0, em0⟩ := open_samples h0 (reach_all hsz0 (j := 0) rfl rfl)
  clear hA0
  refine (walk a0 len0 cap0 l0 W e0 ec0 reach0 b0 em0).mono fun e W' ⟨he, bel⟩ => ?_
  subst he
  exact ⟨_, rfl, _, _, _, [], _, [], hW', trodAll_mk1 (shut_bool Try.underlying4 _), (trodAll_cons_mk (Below.trod laidOut (by kernel_rfl) (of_decide_eq_true (by kernel_rfl)) h0 bel lt0) trodAll_mk0), rfl, bel.frame _, fun h => by cases h⟩

theorem laid_met (os : Os) : laidMet Try.prog Rows.symTrainsRow.laid ((World.holding Try.prog os ⟨#[], #[], []⟩).forCall (fun _ _ => 0) ⟨#[], #[.slice none 0 0], []⟩).memory :=
  laidMet_of_run' 8 (by kernel_rfl) (by kernel_rfl)
theorem reads (os : Os) {H : Type} (enc : TypeId × Value → H) : ∃ places, DataW.whole enc Try.prog ((World.holding Try.prog os ⟨#[], #[], []⟩).forCall (fun _ _ => 0) ⟨#[], #[.slice none 0 0], []⟩).memory Try.f3.params.toList Rows.symTrainsSpec.vars false #[Value.slice none 0 0].toList 8 = some ([.nil], [], places) :=
  ⟨[], by kernel_rfl⟩

set_option maxRecDepth 100000 in
theorem lifted (os : Os) (started : os.Started) (H : Type) (enc : TypeId × Value → H) (F : Stop.Interp) :
    ReturnsInHanded {} Try.checked os 3 .any ((OpenSpec.ofChange Rows.symTrainsSpec).preRow enc Try.prog Try.f3 Rows.symTrainsRow.domain false Rows.symTrainsRow.laid) (((OpenSpec.ofChange Rows.symTrainsSpec).at F).post enc Try.prog Try.f3 false true false false) := by
  obtain ⟨places, hx⟩ := reads os enc
  refine returnsInHanded_of_row (C := Try.checked) (s := OpenSpec.ofChange Rows.symTrainsSpec) own started (by kernel_rfl) Try.func3
    (witness_row_at (enc := enc) (C := Try.checked) false (World.holding Try.prog os ⟨#[], #[], []⟩) #[.slice none 0 0] rfl (by kernel_rfl) (by kernel_rfl) (by kernel_rfl)
      (OpenSpec.preRow_of_cond 8 hx (by kernel_rfl) (fun k hk => by cases hk) (by kernel_rfl) (laid_met os))) ?_
  intro W base args ds gs before hval hW _ _ hsz hL _ _
  exact contract H enc W base args ds gs before hval hW hL hsz

theorem said : Rows.SymTrainsSaid :=
  OpenClaim.holds_of_cond 3 Try.f3 rfl rfl rfl rfl rfl rfl rfl ⟨rfl, rfl, rfl, rfl, rfl⟩ rfl rfl rfl rfl rfl (by kernel_rfl) Try.func3 (by kernel_rfl)
    (of_decide_eq_true (by kernel_rfl)) (by unfold Func.isWrapper; first | (rw [if_pos (by decide +kernel)]; kernel_rfl) | (rw [if_neg (by decide +kernel)]; exact ⟨rfl, rfl⟩))
    (fun os started H enc _ F => by rw [OpenClaim.pre_eq_preRow]; exact lifted os started H enc F)

end Go.Proofs.Ytmcioglidgbibaa.symTrains
