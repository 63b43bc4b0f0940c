/- PROVED: the law CrcUnwraps (any bytes are unwrapped, alone and as the first frame of many, as the document says, or with its error) returns true and leaves its argument as it was, for any byte slice.
   Condition: the package variable crc.fourShifts holds what the program's text lays (the card ties it to the text, by the translator's look). -/
import Derived.Test.YtgjofpjijnbjeaaDoorLaw
import Derived.Test.YtgjofpjijnbjeaaDoorUniform
namespace Go.Proofs.YtgjofpjijnbjeaaDoor.crcUnwraps
open Go.ChangeShapes Go.WideShapes Go.ChangeAt Go.RowKit

set_option maxHeartbeats 1000000 in
theorem walk (A : Option Addr) (n cap : Nat) (l : List UInt8) (w : World)
    (hl : l.length = n) (hcap : n ≤ cap) (hm : n ≤ 140737488351232) (hb : Bytes w w.heap.size A l) (ht : Table w) :
    Calls Tryd.prog 5 #[.slice A n cap] w fun e w' => e = .returned (.bool true) ∧ Below w.heap.size w w' := by
  have Hl := Lib.hid hl; clear hl
  have hsz := ht.size
  have HfP := Lib.hid (fPay_length l)
  have HuP := Lib.hid (uPay_length l)
  have hfl := fLen_le l
  have hfs := fSize_le l
  have hfe := frameErr_lt l
  have hue := unwrapErr_lt l
  go_enter Tryd.func5, Tryd.ntmps5
  go_wp2_with fail
  refine (alive_any w ht).mono ?_
  rintro e w1 ⟨rfl, hbel1⟩
  have ht1 := ht.below hbel1 hsz
  have hx1 := hb.below hbel1
  go_wp2_with fail
  refine (copy_any A n cap w.heap.size l w1 Hl.out (by omega) hx1 hbel1.size).mono ?_
  rintro e w2 ⟨A2, c2, rfl, ho2, hbel2⟩
  have hsz1 : 0 < w1.heap.size := Nat.lt_of_lt_of_le hsz hbel1.size
  have ht2 := ht1.below hbel2 hsz1
  have hx2 := (hx1.wide hbel1.size).below hbel2
  have hcap2 := ho2.cap
  have hown2 := ho2.bytes
  go_wp2_with fail
  refine (first_any A2 n c2 w2.heap.size l w2 Hl.out (by omega) hcap2 hown2 (Nat.le_refl _) ht2).mono ?_
  intro e w3 hp
  obtain ⟨A3, c3, rfl, ho3, hbel3⟩ := hp.uni
  clear hp
  have hx3 := (hx2.wide hbel2.size).below hbel3
  have hown3 := hown2.below hbel3
  have ht3 := ht2.below hbel3 (Nat.lt_of_lt_of_le hsz1 hbel2.size)
  go_wp2_with fail
  refine (refFirst_any A n cap w2.heap.size l w3 Hl.out (by omega) hcap hx3 hbel3.size).mono ?_
  intro e w4 hp
  obtain ⟨A4, c4, rfl, ho4, hbel4⟩ := hp.uni
  clear hp
  have hx4 := hx3.below (hbel4.mono hbel3.size)
  have hown4 := hown3.below (hbel4.mono hbel3.size)
  have hb24 : Below w2.heap.size w2 w4 := hbel3.trans (hbel4.mono hbel3.size)
  have ht4 := ht2.below hb24 (Nat.lt_of_lt_of_le hsz1 hbel2.size)
  have ho3' := ho3.below hbel4
  go_wp2_with fail
  refine (unwrap_any A2 n c2 w2.heap.size l w4 Hl.out (by omega) hcap2 hown4 hb24.size ht4).mono ?_
  intro e w5 hp
  obtain ⟨A5, c5, rfl, ho5, hbel5⟩ := hp.uni
  clear hp
  have hx5 := hx4.below (hbel5.mono hb24.size)
  have hown5 := hown4.below (hbel5.mono hb24.size)
  have hb25 : Below w2.heap.size w2 w5 := hb24.trans (hbel5.mono hb24.size)
  have ho35 := ho3'.below hbel5
  have ho45 := ho4.below hbel5
  go_wp2_with fail
  refine (refUnwrap_any A n cap w2.heap.size l w5 Hl.out (by omega) hcap hx5 hb25.size).mono ?_
  intro e w6 hp
  obtain ⟨A6, c6, rfl, ho6, hbel6⟩ := hp.uni
  clear hp
  have hx6 := hx5.below (hbel6.mono hb25.size)
  have hown6 := hown5.below (hbel6.mono hb25.size)
  have hb26 : Below w2.heap.size w2 w6 := hb25.trans (hbel6.mono hb25.size)
  have ho36 := ho35.below hbel6
  have ho46 := ho45.below hbel6
  have ho56 := ho5.below hbel6
  clear ht ht1 ht2 ht3 ht4 hb hx1 hx2 hx3 hx4 hx5 hown2 hown3 hown4 hown5 ho2 ho3 ho4 ho5 ho3' ho35 ho45 hbel3 hbel4 hbel5 hbel6 hb24 hb25
  go_wp2_with fail
  refine (same_any A3 A4 _ _ c3 c4 _ _ (fPay l) (fPay l) w6 HfP.out HfP.out ho36.bytes ho46.bytes).mono ?_
  rintro e w7 ⟨rfl, rfl⟩
  rw [beq_self_eq_true]
  go_wp2_with fail
  refine (same_any A5 A6 _ _ c5 c6 _ _ (uPay l) (uPay l) w6 HuP.out HuP.out ho56.bytes ho6.bytes).mono ?_
  rintro e w7 ⟨rfl, rfl⟩
  rw [beq_self_eq_true]
  clear ho46 ho56 ho6
  generalize fPay l = fp at *
  generalize uPay l = up at *
  generalize fLen l = fl at *
  generalize fSize l = fs at *
  generalize uLen l = ul at *
  generalize frameErr l = fe at *
  generalize unwrapErr l = ue at *
  go_wp2
  go_loopw [15] (fun i wr => ∃ (k : Nat) (l' : List UInt8), k ≤ fl ∧ i = .int .i64 k ∧ Own wr w2.heap.size A3 fl c3 l' ∧ Below w2.heap.size w6 wr) (fun i _ => fl - (intOf i).toNat)
  case atStart => exact ⟨0, fp, Nat.zero_le _, rfl, ho36, Below.refl _ _⟩
  case round =>
    obtain ⟨k, l', hk, rfl, ho, hbl⟩ := hrel
    have Hl' := Lib.hid ho.len
    by_cases hlt : k < fl
    · obtain ⟨g, rfl, hg1, hg2⟩ := ho.at_ (by omega)
      have hk' : k < l'.length := by have := Hl'.out; omega
      have hcell := ho.cell hk'
      have hfree := ho.free k
      generalize hbyte : l'[k].toNat = b at hcell
      have hb256 : b < 256 := by rw [← hbyte]; exact Plain.byte_lt _
      clear hbyte
      have hx : bits .xor .u8 (b : Int) 255 = ((b ^^^ 255 : Nat) : Int) := u8_xor_nat b 255 hb256 (by omega)
      have hst := ho.store k (UInt8.ofNat (b ^^^ 255))
      rw [bval_small (Nat.xor_lt_two_pow (n := 8) hb256 (by omega))] at hst
      have Hst := Lib.hid hst; clear hst
      have Hbl := Lib.hid (hbl.setCell (p := ⟨g, k, none⟩) hg1 (.int .u8 ((b ^^^ 255 : Nat) : Int)))
      generalize b ^^^ 255 = z at hx Hst Hbl
      go_wp2
      go_roundw
      case rel => exact ⟨k + 1, _, by omega, by go_num, Hst.out, Hbl.out⟩
      case measure => simp [intOf]; omega
    · obtain rfl : k = fl := by omega
      have hx7 := hx6.below hbl
      have hown7 := hown6.below hbl
      go_wp2_with fail
      refine (same_any A2 A n n c2 cap _ _ l l wr Hl.out Hl.out hown7 hx7).mono ?_
      rintro e w8 ⟨rfl, rfl⟩
      rw [beq_self_eq_true]
      go_wp2
      go_ret
      exact ⟨rfl, hbel1.trans ((hbel2.trans ((hb26.trans hbl).mono hbel2.size)).mono hbel1.size)⟩

/-- WHAT THE WALK GIVES, FOR EVERY ARGUMENT AND EVERY WORLD THAT HOLDS THE TABLE. -/
theorem contract (H : Type) (enc : TypeId × Value → H) (W : World) (base : Nat) (args : Array Value) (ds gs : List (DataW H)) (before : List MemPlace)
    (hval : ∀ (j : Nat) t v, Tryd.f5.params[j]? = some t → args[j]? = some v → Value.okWide Tryd.prog W .any base t v)
    (hW : DataW.Whole enc Tryd.prog Tryd.f5.params.toList Rows.crcUnwrapsSpec.vars false W args.toList ds gs before) (hL : laidMetH Tryd.prog Rows.crcUnwrapsRow.laid W)
    (hsz0 : (DataW.weightsEach Tryd.prog (Tryd.f5.params.toList ++ Rows.crcUnwrapsSpec.plain.varTypes Tryd.prog) (ds ++ gs)).all (· ≤ reachBytes) = true) :
    Calls Tryd.prog 5 args W fun e W' => ∃ v, e = .returned v ∧ Rows.crcUnwrapsSpec.post enc Tryd.prog Tryd.f5 false true false false W args v W' := by
  have hW' := hW
  obtain ⟨p, q, hA0, hV, rfl, hfz, hnd⟩ := hW
  have hA : DataW.TrodAll enc Tryd.prog W 0 (fun _ => true) true Tryd.f5.params.toList args.toList ds p := hA0
  rw [Tryd.params5] at hA hval hsz0
  obtain ⟨v0, vs0, d0, ds0, p0, q0, hargs, rfl, rfl, h0, r0⟩ := trodAll_cons hA
  obtain ⟨rfl, rfl, rfl⟩ := trodAll_nil r0
  obtain rfl : args = #[v0] := by cases args; simp_all
  obtain ⟨rfl, rfl⟩ := trodVars_none hV
  obtain ⟨a0, len0, cap0, rfl⟩ := okWide_slice Tryd.underlying22 (hval 0 22 v0 rfl rfl)
  have lt0 : ∀ x ∈ p0, x.block < W.heap.size := by obtain ⟨m, hm⟩ := h0; exact DataW.trod_lt m _ _ _ hm
  obtain ⟨l0, e0, ec0, b0, k0⟩ := open_bytes h0
  have reach0 := reach_bytes hsz0 (j := 0) rfl rfl k0
  clear hA0
  refine (walk a0 len0 cap0 l0 W e0 ec0 reach0 b0 (table hL)).mono fun e W' ⟨he, bel⟩ => ?_
  subst he
  exact ⟨_, rfl, _, _, _, [], _, [], hW', trodAll_mk1 (shut_bool Tryd.underlying4 _), (trodAll_cons_mk (Below.trod laidOut (by kernel_rfl) (of_decide_eq_true (by kernel_rfl)) h0 bel lt0) trodAll_mk0), rfl, bel.frame _, fun h => by cases h⟩

theorem laid_met (os : Os) : laidMet Tryd.prog Rows.crcUnwrapsRow.laid ((laidWorld os).forCall (fun _ _ => 0) ⟨#[], #[.slice none 0 0], []⟩).memory :=
  laidMet_of_run' 8 (by kernel_rfl) (by kernel_rfl)
theorem reads (os : Os) {H : Type} (enc : TypeId × Value → H) : ∃ places, DataW.whole enc Tryd.prog ((laidWorld os).forCall (fun _ _ => 0) ⟨#[], #[.slice none 0 0], []⟩).memory Tryd.f5.params.toList Rows.crcUnwrapsSpec.vars false #[Value.slice none 0 0].toList 8 = some ([.nil], [], places) :=
  ⟨[], by kernel_rfl⟩

set_option maxRecDepth 100000 in
theorem lifted (os : Os) (started : os.Started) (H : Type) (enc : TypeId × Value → H) (F : Stop.Interp) :
    ReturnsInHanded {} Tryd.checked os 5 .any ((OpenSpec.ofChange Rows.crcUnwrapsSpec).preRow enc Tryd.prog Tryd.f5 Rows.crcUnwrapsRow.domain false Rows.crcUnwrapsRow.laid) (((OpenSpec.ofChange Rows.crcUnwrapsSpec).at F).post enc Tryd.prog Tryd.f5 false true false false) := by
  obtain ⟨places, hx⟩ := reads os enc
  refine returnsInHanded_of_row (C := Tryd.checked) (s := OpenSpec.ofChange Rows.crcUnwrapsSpec) own started (by kernel_rfl) Tryd.func5
    (witness_row_at (enc := enc) (C := Tryd.checked) false (laidWorld os) #[.slice none 0 0] rfl (by kernel_rfl) (by kernel_rfl) (by kernel_rfl)
      (OpenSpec.preRow_of_cond 8 hx (by kernel_rfl) (fun k hk => by cases hk) (by kernel_rfl) (laid_met os))) ?_
  intro W base args ds gs before hval hW _ _ hsz hL _ _
  exact contract H enc W base args ds gs before hval hW hL hsz

theorem said : Rows.CrcUnwrapsSaid :=
  OpenClaim.holds_of_cond 5 Tryd.f5 rfl rfl rfl rfl rfl rfl rfl ⟨rfl, rfl, rfl, rfl, rfl⟩ rfl rfl rfl rfl rfl (by kernel_rfl) Tryd.func5 (by kernel_rfl)
    (of_decide_eq_true (by kernel_rfl)) (by unfold Func.isWrapper; first | (rw [if_pos (by decide +kernel)]; kernel_rfl) | (rw [if_neg (by decide +kernel)]; exact ⟨rfl, rfl⟩))
    (fun os started H enc _ F => by rw [OpenClaim.pre_eq_preRow]; exact lifted os started H enc F)

theorem plain (f : FuncId) (fn : Func) (hf : Tryd.pinned.checked.prog.funcNamed "dragnet/dragnetlaw01.CrcUnwraps" = some f) (hfn : Tryd.pinned.checked.prog.funcs[f]? = some fn) :
    false = Tryd.pinned.checked.prog.looks [] ∧ ∀ (j : Nat) t, fn.params[j]? = some t → Tryd.pinned.checked.prog.wantsStandIn t = false := by
  obtain rfl : f = 5 := Option.some.inj ((show Tryd.prog.funcNamed "dragnet/dragnetlaw01.CrcUnwraps" = some 5 by kernel_rfl).symm.trans hf) |>.symm
  obtain rfl : fn = Tryd.f5 := (Option.some.inj (Tryd.func5.symm.trans hfn)).symm
  refine ⟨by kernel_rfl, fun j t ht => ?_⟩
  rw [Tryd.params5] at ht
  obtain rfl : t = 22 := by simpa using Array.mem_of_getElem? ht
  exact (show Tryd.prog.wantsStandIn 22 = false by kernel_rfl)

/-- THE CARD -/
theorem card : Rows.CrcUnwrapsCardSaid :=
  Claim7.holds_tied_plain_at .later [] _ _ _ _ said (fun _ h => by cases h) (by kernel_rfl) (fun _ h => by cases h) crcUnwraps_row_tie rfl ⟨rfl, rfl⟩ (by kernel_rfl) rfl plain (by kernel_rfl)
end Go.Proofs.YtgjofpjijnbjeaaDoor.crcUnwraps
