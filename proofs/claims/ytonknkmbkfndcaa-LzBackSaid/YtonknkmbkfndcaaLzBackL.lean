/- PROVED: the law LzBack (what is packed is unpacked as it was, with just as many bytes for most, and not with one less; of up to 131,072 bytes) returns true and leaves its argument as it was, for every byte slice.
   Conditions: none but the form's own reach (a slice has fewer than 2^47 bytes). -/
import Derived.Test.YtonknkmbkfndcaaLzLaw
namespace Go.Proofs.Ytonknkmbkfndcaa.lzBack
open Go.ChangeShapes Go.WideShapes Go.ChangeAt Go.RowKit

set_option maxHeartbeats 1000000 in
theorem walk (A : Option Addr) (n cap : Nat) (l : List UInt8) (w : World)
    (hl : l.length = n) (hcap : n ≤ cap) (_hn : n ≤ 140737488351232) (hb : Bytes w w.heap.size A l) :
    Calls Try.prog 5 #[.slice A n cap] w fun e w' => e = .returned (.bool true) ∧ Below w.heap.size w w' := by
  obtain ⟨z, hz, hz0⟩ : ∃ z : Int, z = (n : Int) ∧ 0 ≤ z := ⟨n, rfl, by omega⟩
  by_cases hbig : 131072 < n
  · have hbig' : (131072 : Int) < z := by omega
    have hbig2 : decide ((131072 : Int) < (n : Int)) = true := decide_eq_true (by omega)
    have hbig3 : (131072 : Int) < (n : Int) := by omega
    clear hb hl hbig hz
    go_enter Try.func5, Try.ntmps5
    go_wp2_with fail
    refine (lzAlive_any w).mono ?_
    rintro e w1 ⟨rfl, hbel1⟩
    go_wp2
    go_ret
    exact ⟨rfl, hbel1⟩
  · have hsm : ¬ ((131072 : Int) < (n : Int)) := by omega
    have hXl := Lz.packed_length l
    have hu := Lz.unpack_packed l
    have C1 := fun w' B hb hB => pack_any A n cap B l w' hl hcap (by omega) hb hB
    generalize Lz.packed l = X at *
    rw [hl] at hXl hu
    have hk : X.length ≤ 200000 := by omega
    have C2 := fun A1 c1 w' hc hb => unpack_any A1 X.length c1 _ X (n : Int) w' rfl hc (by omega) (by omega) hb (Nat.le_refl _)
    have C3 := fun A1 c1 w' hc hb => unpack_any A1 X.length c1 _ X ((n : Int) - 1) w' rfl hc (by omega) (by omega) hb (Nat.le_refl _)
    rw [hu, if_neg (by omega), if_pos (Int.le_refl _)] at C2
    have C4 := Lib.hid fun A1 A2 c1 c2 B1 B2 w' h1 h2 => same_any A1 A2 n n c1 c2 B1 B2 l l w' hl hl h1 h2
    unfold UnPost at C2 C3
    simp only [hl, Int.natCast_zero] at C2
    generalize X.length = k at *
    replace C1 := Lib.hid C1
    replace C2 := Lib.hid C2
    have hcase : ∃ E : Nat, Lz.unpack X ((n : Int) - 1) = ([], E) ∧ ((n = 0 ∧ E = 1) ∨ (n ≠ 0 ∧ E = 5)) := by
      by_cases h0 : n = 0
      · exact ⟨1, by rw [hu, if_pos (by omega)], .inl ⟨h0, rfl⟩⟩
      · exact ⟨5, by rw [hu, if_neg (by omega), if_neg (by omega)], .inr ⟨h0, rfl⟩⟩
    obtain ⟨E, hE, hE2⟩ := hcase
    rw [hE] at C3
    simp only [List.length_nil] at C3
    clear hu hXl hE hbig hz
    replace C3 := Lib.hid C3
    have Hl := Lib.hid hl; clear hl
    have hnn : ((0 : Int) != 0) = false := rfl
    go_enter Try.func5, Try.ntmps5
    go_wp2_with fail
    refine (lzAlive_any w).mono ?_
    rintro e w1 ⟨rfl, hbel1⟩
    have hx1 := (hb.below hbel1).wide hbel1.size
    go_wp2_with fail
    refine (C1.out w1 _ hx1 (Nat.le_refl _)).mono ?_
    rintro e w2 ⟨A2, c2, rfl, ho2, hb2⟩
    have hx2 := (hx1.below hb2).wide hb2.size
    have hbel2 := hbel1.trans (hb2.mono hbel1.size)
    clear hx1 C1
    go_wp2_with fail
    refine (C2.out A2 c2 w2 (by exact ho2.cap) ho2.bytes).mono ?_
    rintro e w3 ⟨A3, c3, rfl, ho3, hb3⟩
    have hx3 := hx2.below hb3
    have ho2' := ho2.below hb3
    have hbel3 := hbel2.trans (hb3.mono hbel2.size)
    clear hx2 C2 ho2
    have S1 := C4.out A3 A c3 cap _ _ w3 ho3.bytes hx3
    rw [beq_self_eq_true] at S1
    replace S1 := Lib.hid S1
    clear C4
    go_wp2_with fail
    refine S1.out.mono ?_
    rintro e w4 ⟨rfl, rfl⟩
    clear S1
    go_wp2_with fail
    refine (C3.out A2 c2 w3 (by exact ho2'.cap) ho2'.bytes).mono ?_
    rintro e w5 ⟨A5, c5, rfl, ho5, hb5⟩
    have hbel5 := hbel3.trans (hb5.mono hbel3.size)
    clear C3 ho5
    rcases hE2 with ⟨rfl, rfl⟩ | ⟨h0, rfl⟩
    · go_wp2
      go_ret
      exact ⟨rfl, hbel5⟩
    · have h0' : ¬ ((n : Int) = 0) := by omega
      go_wp2
      go_ret
      exact ⟨rfl, hbel5⟩

/-- from the walk to the post of the row -/
theorem contract (H : Type) (enc : TypeId × Value → H) (W : World) (base : Nat) (args : Array Value) (ds gs : List (DataW H)) (before : List MemPlace)
    (hval : ∀ (j : Nat) t v, Try.f5.params[j]? = some t → args[j]? = some v → Value.okWide Try.prog W .any base t v)
    (hW : DataW.Whole enc Try.prog Try.f5.params.toList Rows.lzBackSpec.vars false W args.toList ds gs before) (_ : laidMetH Try.prog Rows.lzBackRow.laid W)
    (hsz0 : (DataW.weightsEach Try.prog (Try.f5.params.toList ++ Rows.lzBackSpec.plain.varTypes Try.prog) (ds ++ gs)).all (· ≤ reachBytes) = true) :
    Calls Try.prog 5 args W fun e W' => ∃ v, e = .returned v ∧ Rows.lzBackSpec.post enc Try.prog Try.f5 false true false false W args v W' := by
  have hW' := hW
  obtain ⟨p, q, hA0, hV, rfl, hfz, hnd⟩ := hW
  have hA : DataW.TrodAll enc Try.prog W 0 (fun _ => true) true Try.f5.params.toList args.toList ds p := hA0
  rw [Try.params5] at hA hval hsz0
  obtain ⟨v0, vs0, d0, ds0, p0, q0, hargs, rfl, rfl, h0, r0⟩ := trodAll_cons hA
  obtain ⟨rfl, rfl, rfl⟩ := trodAll_nil r0
  obtain rfl : args = #[v0] := by cases args; simp_all
  obtain ⟨rfl, rfl⟩ := trodVars_none hV
  obtain ⟨a0, len0, cap0, rfl⟩ := okWide_slice Try.underlying22 (hval 0 22 v0 rfl rfl)
  have lt0 : ∀ x ∈ p0, x.block < W.heap.size := by obtain ⟨m, hm⟩ := h0; exact DataW.trod_lt m _ _ _ hm
  obtain ⟨l0, e0, ec0, b0, k0⟩ := open_bytes h0
  have reach0 := reach_bytes hsz0 (j := 0) rfl rfl k0
  clear hA0
  refine (walk a0 len0 cap0 l0 W e0 ec0 reach0 b0).mono fun e W' ⟨he, bel⟩ => ?_
  subst he
  exact ⟨_, rfl, _, _, _, [], _, [], hW', trodAll_mk1 (shut_bool Try.underlying4 _), (trodAll_cons_mk (Below.trod laidOut (by kernel_rfl) (of_decide_eq_true (by kernel_rfl)) h0 bel lt0) trodAll_mk0), rfl, bel.frame _, fun h => by cases h⟩

theorem laid_met (os : Os) : laidMet Try.prog Rows.lzBackRow.laid ((World.holding Try.prog os ⟨#[], #[], []⟩).forCall (fun _ _ => 0) ⟨#[], #[.slice none 0 0], []⟩).memory :=
  laidMet_of_run' 8 (by kernel_rfl) (by kernel_rfl)
theorem reads (os : Os) {H : Type} (enc : TypeId × Value → H) : ∃ places, DataW.whole enc Try.prog ((World.holding Try.prog os ⟨#[], #[], []⟩).forCall (fun _ _ => 0) ⟨#[], #[.slice none 0 0], []⟩).memory Try.f5.params.toList Rows.lzBackSpec.vars false #[Value.slice none 0 0].toList 8 = some ([.nil], [], places) :=
  ⟨[], by kernel_rfl⟩

set_option maxRecDepth 100000 in
theorem lifted (os : Os) (started : os.Started) (H : Type) (enc : TypeId × Value → H) (F : Stop.Interp) :
    ReturnsInHanded {} Try.checked os 5 .any ((OpenSpec.ofChange Rows.lzBackSpec).preRow enc Try.prog Try.f5 Rows.lzBackRow.domain false Rows.lzBackRow.laid) (((OpenSpec.ofChange Rows.lzBackSpec).at F).post enc Try.prog Try.f5 false true false false) := by
  obtain ⟨places, hx⟩ := reads os enc
  refine returnsInHanded_of_row (C := Try.checked) (s := OpenSpec.ofChange Rows.lzBackSpec) own started (by kernel_rfl) Try.func5
    (witness_row_at (enc := enc) (C := Try.checked) false (World.holding Try.prog os ⟨#[], #[], []⟩) #[.slice none 0 0] rfl (by kernel_rfl) (by kernel_rfl) (by kernel_rfl)
      (OpenSpec.preRow_of_cond 8 hx (by kernel_rfl) (fun k hk => by cases hk) (by kernel_rfl) (laid_met os))) ?_
  intro W base args ds gs before hval hW _ _ hsz hL _ _
  exact contract H enc W base args ds gs before hval hW hL hsz

theorem said : Rows.LzBackSaid :=
  OpenClaim.holds_of_cond 5 Try.f5 rfl rfl rfl rfl rfl rfl rfl ⟨rfl, rfl, rfl, rfl, rfl⟩ rfl rfl rfl rfl rfl (by kernel_rfl) Try.func5 (by kernel_rfl)
    (of_decide_eq_true (by kernel_rfl)) (by unfold Func.isWrapper; first | (rw [if_pos (by decide +kernel)]; kernel_rfl) | (rw [if_neg (by decide +kernel)]; exact ⟨rfl, rfl⟩))
    (fun os started H enc _ F => by rw [OpenClaim.pre_eq_preRow]; exact lifted os started H enc F)

end Go.Proofs.Ytonknkmbkfndcaa.lzBack
