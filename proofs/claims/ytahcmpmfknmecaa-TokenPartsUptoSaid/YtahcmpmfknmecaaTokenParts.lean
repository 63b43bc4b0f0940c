/- PROVED: the law TokenParts (the tokens of two lines with a blank between are those of the first, and then those of the second, their places that many higher) returns true and leaves its arguments as they were.
   Conditions: the second form: the arguments hold at most 1048576 values and letters (the first form is false by size alone). -/
import Derived.Test.YtahcmpmfknmecaaTokLaw
import Derived.Test.YtahcmpmfknmecaaTokSame
import Derived.Test.YtahcmpmfknmecaaCuts
namespace Go.Proofs.Ytahcmpmfknmecaa.tokenParts
open Go.ChangeShapes Go.WideShapes Go.ChangeAt Go.RowKit
set_option maxRecDepth 100000

theorem sizeTok (W : World) : (sizeOf 36).run Try.prog W = .ok 2 W := by
  obtain ⟨i0, hi0, hz0, hz1, hz2⟩ := info_parts token_info
  simp [sizeOf, typeInfo, hi0, hz1]
theorem elemTok : Try.prog.elem 26 = 36 := by kernel_rfl
theorem run_cut_tok (A : Option Addr) (n cap hi : Nat) (h2 : hi ≤ cap) (W : World) :
    (Instr.slice 26 (.slice A n cap) none (some (.int .i64 (hi : Int))) none).run Try.prog W = .ok (.slice A hi cap) W := by
  rw [run_slice_h (P := Try.prog) (w := W) (kh := .i64) (h := (hi : Int)) (h0 := by omega) (h2 := by omega) (ht := by rw [elemTok]; exact Try.underlying26)]
  rw [elemTok, sizeTok]
  by_cases hc : cap = 0 <;> cases A <;> simp [Result.andThen, sliced, Addr.add]

set_option maxHeartbeats 1000000 in
theorem walk (A1 : Option Addr) (n1 cap1 : Nat) (l1 : List UInt8) (A2 : Option Addr) (n2 cap2 : Nat) (l2 : List UInt8) (w : World)
    (hl1 : l1.length = n1) (hcap1 : n1 ≤ cap1) (_hn1 : n1 ≤ 140737488351232) (hb1 : Bytes w w.heap.size A1 l1)
    (hl2 : l2.length = n2) (hcap2 : n2 ≤ cap2) (_hn2 : n2 ≤ 140737488351232) (hb2 : Bytes w w.heap.size A2 l2) (hsm : n1 + n2 ≤ 1048576) :
    Calls Try.prog 7 #[.slice A1 n1 cap1, .slice A2 n2 cap2] w fun e w' => e = .returned (.bool true) ∧ Below w.heap.size w w' := by
  have C1 := Lib.hid fun w' B hb hB => cut_any A1 n1 cap1 B l1 w' hl1 hcap1 (by omega) hb hB
  have C2 := Lib.hid fun w' B hb hB => cut_any A2 n2 cap2 B l2 w' hl2 hcap2 (by omega) hb hB
  have C3 := Lib.hid fun w' B hb hB => copy_any A1 n1 cap1 B l1 w' hl1 (by omega) hb hB
  have C4 := fun A c B w' (hc : n1 + 1 + n2 ≤ c) hb hB => cut_any A (n1 + 1 + n2) c B (l1 ++ [32] ++ l2) w' (by simp [hl1, hl2]; omega) hc (by omega) hb hB
  rw [show l1 ++ [32] ++ l2 = l1 ++ 32 :: l2 from by simp, Tok.cuts_parts] at C4
  rw [show l1 ++ 32 :: l2 = l1 ++ [32] ++ l2 from by simp] at C4
  replace C4 := Lib.hid C4
  have hk1 := Tok.cuts_len l1
  have hk2 := Tok.cuts_len l2
  rw [hl1] at hk1
  rw [hl2] at hk2
  have Hl2 := Lib.hid hl2
  generalize Tok.cuts l1 = X at *
  generalize Tok.cuts l2 = Y at *
  obtain ⟨p, hp⟩ : ∃ p, p = X.length := ⟨_, rfl⟩
  obtain ⟨q, hq⟩ : ∃ q, q = Y.length := ⟨_, rfl⟩
  obtain ⟨N, hN⟩ : ∃ N, N = p + q := ⟨_, rfl⟩
  have hXY : (X ++ Y).length = N := by rw [List.length_append]; omega
  have C5 := Lib.hid fun A1 A2 c1 c2 w' h1 h2 => sameTok_any A1 A2 p c1 c2 X w' hp.symm (by omega) h1 h2
  have D1 : ∀ w' B hb hB, Calls Try.prog 12 #[.slice A1 n1 cap1] w' fun e W => ∃ A c, e = .returned (.slice A p c) ∧ TOwn W w'.heap.size A p c X ∧ Below w'.heap.size w' W := fun w' B hb hB => by
    refine (C1.out w' B hb hB).mono ?_
    rintro e W ⟨A, c, rfl, h1, h2⟩
    rw [← hp] at h1 ⊢
    exact ⟨A, c, rfl, h1, h2⟩
  have D2 : ∀ w' B hb hB, Calls Try.prog 12 #[.slice A2 n2 cap2] w' fun e W => ∃ A c, e = .returned (.slice A q c) ∧ TOwn W w'.heap.size A q c Y ∧ Below w'.heap.size w' W := fun w' B hb hB => by
    refine (C2.out w' B hb hB).mono ?_
    rintro e W ⟨A, c, rfl, h1, h2⟩
    rw [← hq] at h1 ⊢
    exact ⟨A, c, rfl, h1, h2⟩
  have D4 : ∀ A c B w' hc hb hB, Calls Try.prog 12 #[.slice A (n1 + 1 + n2) c] w' fun e W => ∃ A c, e = .returned (.slice A N c) ∧ TOwn W w'.heap.size A N c (X ++ Y) ∧ Below w'.heap.size w' W := fun A c B w' hc hb hB => by
    refine (C4.out A c B w' hc hb hB).mono ?_
    rintro e W ⟨A, c, rfl, h1, h2⟩
    rw [hXY] at h1 ⊢
    exact ⟨A, c, rfl, h1, h2⟩
  replace D1 := Lib.hid D1
  replace D2 := Lib.hid D2
  replace D4 := Lib.hid D4
  have HTK := Lib.hid (show (X ++ Y).take p = X from by rw [hp]; simp)
  have Hp := Lib.hid hp
  have Hq := Lib.hid hq
  have HN := Lib.hid hN
  have hpb : p ≤ 1048577 := by omega
  have hNb : N ≤ 3000000 := by omega
  have hqb : q ≤ 1048577 := by omega
  have hpN : p ≤ N := by omega
  have hw1 : IntKind.i64.wrap ((p : Int) + (q : Int)) = (N : Int) := by rw [IntWalk.i64_in _ (by omega)]; omega
  have hNN : ((N : Int) != (N : Int)) = false := by simp
  clear C1 C2 C4 hp hq hN hXY hk1 hk2 hl1 hl2
  go_enter Try.func7, Try.ntmps7
  go_wp2_with fail
  refine (tokAlive_any w).mono ?_
  rintro e w1 ⟨rfl, hbel1⟩
  have hx1 := (hb1.below hbel1).wide hbel1.size
  have hy1 := (hb2.below hbel1).wide hbel1.size
  clear hb1 hb2
  go_wp2_with fail
  refine (D1.out w1 _ hx1 (Nat.le_refl _)).mono ?_
  rintro e w2 ⟨Ax, cx, rfl, hox, hb2⟩
  have hx2 := (hx1.below hb2).wide hb2.size
  have hy2 := (hy1.below hb2).wide hb2.size
  have hbel2 := hbel1.trans (hb2.mono hbel1.size)
  clear hx1 hy1 D1
  go_wp2_with fail
  refine (D2.out w2 _ hy2 (Nat.le_refl _)).mono ?_
  rintro e w3 ⟨Ay, cy, rfl, hoy, hb3⟩
  have hx3 := (hx2.below hb3).wide hb3.size
  have hy3 := (hy2.below hb3).wide hb3.size
  have hbel3 := hbel2.trans (hb3.mono hbel2.size)
  have htx3 := hox.toks.below hb3
  have hty3 := hoy.toks
  clear hx2 hy2 D2 hox hoy
  go_wp2_with fail
  refine (C3.out w3 _ hx3 (Nat.le_refl _)).mono ?_
  rintro e w4 ⟨A4, c4, rfl, ho4, hb4⟩
  have hy4 := hy3.below hb4
  have hbel4 := hbel3.trans (hb4.mono hbel3.size)
  have hs34 := hb4.size
  clear hx3 hy3 C3
  have ho5 := ho4.alloc (.cells #[.int .u8 32] 5)
  have h32 := (own_one w4 32 32 rfl).bytes
  have hb45 : Below w3.heap.size w4 (w4.alloc (.cells #[.int .u8 32] 5)) := (Below.refl _ _).alloc hs34 _
  have hsz5 : w3.heap.size ≤ (w4.alloc (.cells #[.int .u8 32] 5)).heap.size := Nat.le_trans hs34 hb45.size
  have hy5 := (hy4.below hb45)
  clear ho4
  go_wp2_with (at_builtin; first
    | (refine wpList_append_bytes (by rfl) _ _ (by rfl) w3.heap.size A4 n1 c4 l1 (by rfl) (by exact ho5) _ _ 1 1 [32] (by rfl) rfl (by exact h32) (by omega) (by exact hsz5) ?_
       intro A6 c6 w6 ho6 hg6 hat6
       have hb6 : Below w3.heap.size w4 w6 := hb45.grown hg6 hsz5 (fun k hk => (ho5.lt hk).1)
       have hy6 := hy4.below hb6
       have hsz6 : w3.heap.size ≤ w6.heap.size := Nat.le_trans hs34 hb6.size)
    | (refine wpList_append_bytes (by rfl) _ _ (by rfl) w3.heap.size A6 (n1 + 1) c6 (l1 ++ [32]) (by rfl) (by exact ho6) w3.heap.size A2 n2 cap2 l2 (by rfl) Hl2.out (by exact hy6) (by omega) (by exact hsz6) ?_
       intro A7 c7 w7 ho7 hg7 hat7
       have hb7 : Below w3.heap.size w4 w7 := hb6.grown hg7 hsz6 (fun k hk => (ho6.lt hk).1)
       have hsz7 : w3.heap.size ≤ w7.heap.size := Nat.le_trans hs34 hb7.size))
  refine (D4.out A7 c7 _ w7 (by exact ho7.cap) ho7.bytes (Nat.le_refl _)).mono ?_
  rintro e w8 ⟨Az, cz, rfl, hoz, hb8⟩
  have hb38 := (hb4.trans hb7).trans (hb8.mono hsz7)
  have hbel8 := hbel3.trans (hb38.mono hbel3.size)
  have htx8 := htx3.below hb38
  have hty8 := hty3.below hb38
  have htz8 := hoz.toks
  have htk8 := htz8.take p
  rw [HTK.out] at htk8
  have hpc : p ≤ cz := Nat.le_trans hpN hoz.cap
  have hcut := fun W => run_cut_tok Az N cz p hpc W
  have S1 := Lib.hid (C5.out Az Ax cz cx w8 htk8 htx8)
  clear D4 C5 ho5 ho6 ho7 hb4 hb45 hb6 hb7 hb8 hb38 hoz h32 hy4 hy5 hy6 hg6 hg7 hat6 hat7 hbel3 hbel2 hbel1 hbel4
  go_wp2_with fail
  refine S1.out.mono ?_
  rintro e w9 ⟨rfl, hd9⟩
  have hbel9 := hbel8.trans (hd9.below _)
  have hty9 := hty8.drawn hd9
  have htz9 := htz8.drawn hd9
  clear S1 hcut htk8 htx8 hty8 htz8 hbel8
  go_wp2
  go_loopw [8] (fun i wr => ∃ (j : Nat), j ≤ q ∧ i = .int .i64 j ∧ Toks wr Az (X ++ Y) ∧ Toks wr Ay Y ∧ Below w.heap.size w wr) (fun i _ => q - (intOf i).toNat)
  case atStart => exact ⟨0, Nat.zero_le _, rfl, htz9, hty9, hbel9⟩
  case round =>
    clear htz9 hty9 hbel9
    obtain ⟨j, hj, rfl, hz, hy, hbel⟩ := hrel
    by_cases hlt : j < q
    · have hj' : j < Y.length := by have := Hq.out; omega
      have hr' : p + j < (X ++ Y).length := by rw [List.length_append]; have := Hp.out; omega
      obtain ⟨g, rfl, _, ha, hb⟩ := hz.get hr'
      obtain ⟨g', rfl, _, ha', hb'⟩ := hy.get hj'
      have hat : (X ++ Y)[p + j] = Y[j] := by
        rw [List.getElem_append_right (by have := Hp.out; omega)]
        congr 1
        have := Hp.out
        omega
      rw [hat] at hb
      clear hat hr'
      generalize Y[j] = x at hb hb'
      clear hj'
      obtain ⟨r, hr⟩ : ∃ r, r = p + j := ⟨_, rfl⟩
      rw [← hr] at ha hb
      have hw2 : IntKind.i64.wrap ((p : Int) + (j : Int)) = (r : Int) := by clear hw1; rw [IntWalk.i64_in _ (by omega)]; omega
      have hxx : (x != x) = false := by simp
      have hrr : ((r : Int) != (r : Int)) = false := by simp
      have i1 : (j : Int) < (q : Int) := by omega
      have i0 : (0 : Int) ≤ (j : Int) := by omega
      have i2 : (r : Int) < (N : Int) := by have := HN.out; omega
      have i3 : (0 : Int) ≤ (r : Int) := by omega
      clear hr
      go_wp2_with fail
      go_quiet (fail)
      go_wp2
      go_roundw
      case rel => exact ⟨j + 1, by omega, by go_num, hz, hy, hbel.trans (((Drawn.refl wr).drewN _).below _)⟩
      case measure => simp [intOf]; omega
    · go_wp2
      go_ret
      exact ⟨rfl, hbel⟩

theorem short {H : Type} {d0 d1 : DataW H} {n0 n1 : Nat} (hk : Rows.uptoSmall H [d0, d1] = true)
    (h0 : d0 = .nil ∧ n0 = 0 ∨ ∃ elems spare, d0 = .slice elems spare ∧ elems.length = n0) (h1 : d1 = .nil ∧ n1 = 0 ∨ ∃ elems spare, d1 = .slice elems spare ∧ elems.length = n1) : n0 + n1 ≤ 1048576 := by
  have h : Rows.uptoBulkAll [d0, d1] ≤ 1048576 := of_decide_eq_true hk
  simp only [Rows.uptoBulkAll] at h
  have g0 := bulk_le h0
  have g1 := bulk_le h1
  omega

/-- from the walk to the post of the row -/
theorem contract (H : Type) (enc : TypeId × Value → H) (W : World) (base : Nat) (args : Array Value) (ds gs : List (DataW H)) (before : List MemPlace)
    (hval : ∀ (j : Nat) t v, Try.f7.params[j]? = some t → args[j]? = some v → Value.okWide Try.prog W .any base t v)
    (hW : DataW.Whole enc Try.prog Try.f7.params.toList Rows.tokenPartsSpec.vars false W args.toList ds gs before) (_ : laidMetH Try.prog Rows.tokenPartsUptoRow.laid W)
    (hsz0 : (DataW.weightsEach Try.prog (Try.f7.params.toList ++ Rows.tokenPartsSpec.plain.varTypes Try.prog) (ds ++ gs)).all (· ≤ reachBytes) = true) (hk : Rows.uptoSmall H (ds ++ gs) = true) :
    Calls Try.prog 7 args W fun e W' => ∃ v, e = .returned v ∧ Rows.tokenPartsSpec.post enc Try.prog Try.f7 false true false false W args v W' := by
  have hW' := hW
  obtain ⟨p, q, hA0, hV, rfl, hfz, hnd⟩ := hW
  have hA : DataW.TrodAll enc Try.prog W 0 (fun _ => true) true Try.f7.params.toList args.toList ds p := hA0
  rw [Try.params7] at hA hval hsz0
  obtain ⟨v0, vs0, d0, ds0, p0, q0, hargs, rfl, rfl, h0, r0⟩ := trodAll_cons hA
  obtain ⟨v1, vs1, d1, ds1, p1, q1, rfl, rfl, rfl, h1, r1⟩ := trodAll_cons r0
  obtain ⟨rfl, rfl, rfl⟩ := trodAll_nil r1
  obtain rfl : args = #[v0, v1] := by cases args; simp_all
  obtain ⟨rfl, rfl⟩ := trodVars_none hV
  obtain ⟨a0, len0, cap0, rfl⟩ := okWide_slice Try.underlying22 (hval 0 22 v0 rfl rfl)
  have lt0 : ∀ x ∈ p0, x.block < W.heap.size := by obtain ⟨m, hm⟩ := h0; exact DataW.trod_lt m _ _ _ hm
  obtain ⟨l0, e0, ec0, b0, k0⟩ := open_bytes h0
  have reach0 := reach_bytes hsz0 (j := 0) rfl rfl k0
  obtain ⟨a1, len1, cap1, rfl⟩ := okWide_slice Try.underlying22 (hval 1 22 v1 rfl rfl)
  have lt1 : ∀ x ∈ p1, x.block < W.heap.size := by obtain ⟨m, hm⟩ := h1; exact DataW.trod_lt m _ _ _ hm
  obtain ⟨l1, e1, ec1, b1, k1⟩ := open_bytes h1
  have reach1 := reach_bytes hsz0 (j := 1) rfl rfl k1
  clear hA0
  have hs := short (by simpa using hk) k0 k1
  refine (walk a0 len0 cap0 l0 a1 len1 cap1 l1 W e0 ec0 reach0 b0 e1 ec1 reach1 b1 hs).mono fun e W' ⟨he, bel⟩ => ?_
  subst he
  exact ⟨_, rfl, _, _, _, [], _, [], hW', trodAll_mk1 (shut_bool Try.underlying4 _), (trodAll_cons_mk (Below.trod laidOut (by kernel_rfl) (of_decide_eq_true (by kernel_rfl)) h0 bel lt0) (trodAll_cons_mk (Below.trod laidOut (by kernel_rfl) (of_decide_eq_true (by kernel_rfl)) h1 bel lt1) trodAll_mk0)), rfl, bel.frame _, fun h => by cases h⟩

theorem laid_met (os : Os) : laidMet Try.prog Rows.tokenPartsUptoRow.laid ((World.holding Try.prog os ⟨#[], #[], []⟩).forCall (fun _ _ => 0) ⟨#[], #[.slice none 0 0, .slice none 0 0], []⟩).memory :=
  laidMet_of_run' 8 (by kernel_rfl) (by kernel_rfl)
theorem reads (os : Os) {H : Type} (enc : TypeId × Value → H) : ∃ places, DataW.whole enc Try.prog ((World.holding Try.prog os ⟨#[], #[], []⟩).forCall (fun _ _ => 0) ⟨#[], #[.slice none 0 0, .slice none 0 0], []⟩).memory Try.f7.params.toList Rows.tokenPartsSpec.vars false #[Value.slice none 0 0, .slice none 0 0].toList 8 = some ([.nil, .nil], [], places) :=
  ⟨[], by kernel_rfl⟩

set_option maxRecDepth 100000 in
theorem lifted (os : Os) (started : os.Started) (H : Type) (enc : TypeId × Value → H) (F : Stop.Interp) :
    ReturnsInHanded {} Try.checked os 7 .any ((Rows.OpenSpec.upto Rows.tokenPartsSpec).preRow enc Try.prog Try.f7 Rows.tokenPartsUptoRow.domain false Rows.tokenPartsUptoRow.laid) (((Rows.OpenSpec.upto Rows.tokenPartsSpec).at F).post enc Try.prog Try.f7 false true false false) := by
  obtain ⟨places, hx⟩ := reads os enc
  refine returnsInHanded_of_row (C := Try.checked) (s := Rows.OpenSpec.upto Rows.tokenPartsSpec) own started (by kernel_rfl) Try.func7
    (witness_row_at (enc := enc) (C := Try.checked) false (World.holding Try.prog os ⟨#[], #[], []⟩) #[.slice none 0 0, .slice none 0 0] rfl (by kernel_rfl) (by kernel_rfl) (by kernel_rfl)
      (OpenSpec.preRow_of_cond 8 hx (by kernel_rfl) (fun k hk => by cases hk; kernel_rfl) (by kernel_rfl) (laid_met os))) ?_
  intro W base args ds gs before hval hW _ hcond hsz hL _ _
  exact contract H enc W base args ds gs before hval hW hL hsz (hcond _ rfl)

theorem said : Rows.TokenPartsUptoSaid :=
  OpenClaim.holds_of_cond 7 Try.f7 rfl rfl rfl rfl rfl rfl rfl ⟨rfl, rfl, rfl, rfl, rfl⟩ rfl rfl rfl rfl rfl (by kernel_rfl) Try.func7 (by kernel_rfl)
    (of_decide_eq_true (by kernel_rfl)) (by unfold Func.isWrapper; first | (rw [if_pos (by decide +kernel)]; kernel_rfl) | (rw [if_neg (by decide +kernel)]; exact ⟨rfl, rfl⟩))
    (fun os started H enc _ F => by rw [OpenClaim.pre_eq_preRow]; exact lifted os started H enc F)

end Go.Proofs.Ytahcmpmfknmecaa.tokenParts
