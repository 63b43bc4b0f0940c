/- PROVED: the law SymShort (a piece that comes again and again is coded by its own table, decoded as it was, and not longer) returns true and leaves its arguments as they were, for every byte slice and byte.
   Conditions: none but the form's own reach (a slice has fewer than 2^47 bytes). -/
import Derived.Test.YtmcioglidgbibaaSymLaw
import Derived.Test.YtmcioglidgbibaaSymTrain
import Derived.Test.YtmcioglidgbibaaSymDec
import Derived.Test.YtmcioglidgbibaaSymRep
namespace Go.Proofs.Ytmcioglidgbibaa.symShort
open Go.ChangeShapes Go.WideShapes Go.ChangeAt Go.RowKit
set_option maxRecDepth 100000

/-- a list of one byte slice -/
theorem one_sample (w : World) (A : Option Addr) (m c : Nat) (b : List UInt8) (hl : b.length = m) (hc : m ≤ c) (hb : Bytes w w.heap.size A b) :
    Samples (w.alloc (.cells #[.slice A m c] 24)) (w.alloc (.cells #[.slice A m c] 24)).heap.size (some ⟨w.heap.size, 0, none⟩) [b] := fun _ => by
  have hbel : Below w.heap.size w (w.alloc (.cells #[.slice A m c] 24)) := (Below.refl _ _).alloc (Nat.le_refl _) _
  refine ⟨_, rfl, by simp, fun i hi => ?_⟩
  have hi0 : i = 0 := by simpa using hi
  subst hi0
  refine ⟨A, c, by rw [List.getElem_cons_zero, hl]; exact hc, ?_, (hb.below hbel).wide hbel.size⟩
  rw [show (⟨w.heap.size, 0, none⟩ : Addr).add 0 = ⟨w.heap.size, 0, none⟩ from by simp [Addr.add], World.cell?_alloc_at _ _ _ _ rfl, List.getElem_cons_zero, hl]
  rfl

set_option maxHeartbeats 4000000 in
theorem walk (A : Option Addr) (n cap : Nat) (l : List UInt8) (u : Nat) (w : World)
    (hl : l.length = n) (_ : n ≤ cap) (hn : n ≤ 140737488351232) (hx : Bytes w w.heap.size A l) (hu : u ≤ 255) :
    Calls Try.prog 8 #[.slice A n cap, .int .u8 (u : Int)] w fun e w' => e = .returned (.bool true) ∧ Below w.heap.size w w' := by
  have hrem : (u : Int).tmod 16 = ((u % 16 : Nat) : Int) := by rw [Int.tmod_eq_emod_of_nonneg (by omega)]; omega
  have Hl := Lib.hid hl
  by_cases h28 : 2 ≤ n ∧ n ≤ 8
  · obtain ⟨h2, h8⟩ := h28
    have h2' : ¬ ((n : Int) < 2) := by omega
    have h8' : ¬ ((8 : Int) < (n : Int)) := by omega
    have hR : u % 16 ≤ 15 := by omega
    have HS := Lib.hid fun h3 : 3 ≤ u % 16 + 1 => Sym.rep_short (s := l) (by omega) (by omega) h3 (show u % 16 + 1 ≤ 16 by omega)
    generalize u % 16 = R at *
    clear hl
    go_enter Try.func8, Try.ntmps8
    go_wp2_with fail
    refine (symAlive_any w).mono ?_
    rintro e w1 ⟨rfl, hbel1⟩
    have hx1 := (hx.below hbel1).wide hbel1.size
    clear hx
    obtain ⟨M, hM⟩ : ∃ M, M = w1.heap.size := ⟨_, rfl⟩
    rw [← hM] at hx1
    have hwM : w.heap.size ≤ M := by rw [hM]; exact hbel1.size
    have HM := Lib.hid hM
    clear hM
    go_wp2
    go_loopg [5, 6] (R + 1) (fun g bv i wx => ∃ (k : Nat) (A2 : Option Addr) (c2 : Nat), k + g = R + 1 ∧ i = .int .i64 (k : Int) ∧ bv = .slice A2 (Sym.rep l k).length c2 ∧ Own wx M A2 (Sym.rep l k).length c2 (Sym.rep l k) ∧ Below M w1 wx ∧ M ≤ wx.heap.size)
    case atStart => exact ⟨0, none, 0, by omega, rfl, rfl, own_none _ _, Below.refl _ _, by rw [HM.out]; exact Nat.le_refl _⟩
    case round =>
      obtain ⟨k, A2, c2, hkg, rfl, rfl, hown, hbel, hsz⟩ := hrel
      have hlen : (Sym.rep l k).length = k * n := by rw [Sym.rep_length, Hl.out]
      have hlen2 : k * n ≤ 16 * 8 := Nat.mul_le_mul (by omega) h8
      have hl128 : (Sym.rep l k).length ≤ 128 := by omega
      by_cases hk : k ≤ R
      · have hk' : (k : Int) ≤ (R : Int) := by omega
        have HN := Lib.hid (show Sym.rep l (k + 1) = Sym.rep l k ++ l from rfl)
        have HN2 := Lib.hid (show (Sym.rep l (k + 1)).length = (Sym.rep l k).length + n from by rw [HN.out, List.length_append, Hl.out])
        have hxr := hx1.below hbel
        clear hlen hlen2
        generalize Sym.rep l k = b at *
        go_wp2_with (at_builtin; refine wpList_append_bytes rfl (.tmp 29) (.tmp 30) rfl M A2 b.length c2 b rfl hown M A n cap l rfl Hl.out hxr (by omega) hsz ?_; intro A5 c5 w5 ho5 hg5 hat5)
        have hbel5 := hbel.grown hg5 hsz (fun q hq => (hown.lt hq).1)
        have hsz5 := Nat.le_trans hsz hg5.size
        clear hg5 hat5 hown
        go_roundg (R + 1 - (k + 1))
        case measure => omega
        case rel => exact ⟨k + 1, A5, c5, by omega, by go_num, by rw [HN2.out], by rw [HN2.out, HN.out]; exact ho5, hbel5, hsz5⟩
      · have hk' : ¬ ((k : Int) ≤ (R : Int)) := by omega
        have hkR : k = R + 1 := by omega
        subst hkR
        generalize Sym.rep l (R + 1) = b at *
        have hf := Sym.train_formed (Sym.pieces_len [b] 1024)
        have C1 := fun w' A1 c1 (h1 : Samples w' w'.heap.size A1 [b]) => train_any A1 1 c1 _ [b] w' rfl (by omega) (fun s hs => by rw [List.mem_singleton.1 hs]; omega) h1 (Nat.le_refl _)
        have hlong := Sym.encode_long (Sym.train (Sym.pieces [b] 1024)) (fun s hs => (hf.2.1 s hs).1) b.length b rfl
        generalize Sym.train (Sym.pieces [b] 1024) = T at *
        have h32 := hf.1
        have hm : ∀ s ∈ T, s.length ≤ maxLen := fun s hs => by have := (hf.2.1 s hs).2; simp only [maxLen]; omega
        have C2 := fun w' A1 c1 (hc : T.length ≤ c1) (hc2 : b.length ≤ c2) (h1 : Strs w' w'.heap.size A1 T) (hb : Bytes w' w'.heap.size A2 b) => encode_any A1 A2 T.length b.length c1 c2 _ T b w' rfl hc (by omega) rfl hc2 (by omega) h1 hm hb (Nat.le_refl _)
        have C3 := fun w' A1 c1 A4 c4 (hc : T.length ≤ c1) (hc4 : (Sym.encode T b).length ≤ c4) (h1 : Strs w' w'.heap.size A1 T) (hb : Bytes w' w'.heap.size A4 (Sym.encode T b)) => decode_any A1 A4 T.length (Sym.encode T b).length c1 c4 _ (b.length : Int) T (Sym.encode T b) w' rfl hc (by omega) rfl hc4 (by omega) (by omega) (by omega) h1 hm hb (Nat.le_refl _)
        have hdec : Sym.decoded T (Sym.encode T b) (b.length : Int) = (b, 0) := by
          unfold Sym.decoded
          rw [if_pos ⟨hf, by omega⟩, Sym.decode_encode hf (b.length : Int) b.length b [] rfl (by simp)]
          rfl
        rw [hdec] at C3
        unfold Sym.encoded at C2
        simp only [if_pos hf] at C2
        unfold PairPost at C2 C3
        have S1 := Lib.hid fun A1 c1 B1 B2 w' (h1 : Bytes w' B1 A1 b) (h2 : Bytes w' B2 A2 b) => same_any A1 A2 b.length b.length c1 c2 B1 B2 b b w' rfl rfl h1 h2
        generalize Sym.encode T b = X at *
        replace C1 := Lib.hid C1
        replace C2 := Lib.hid C2
        replace C3 := Lib.hid C3
        have HF := Lib.hid hf
        have hcap2 := hown.cap
        have hsm := one_sample wr A2 b.length c2 b rfl hcap2 hown.bytes
        have hba : Below wr.heap.size wr (wr.alloc (.cells #[.slice A2 b.length c2] 24)) := (Below.refl _ _).alloc (Nat.le_refl _) _
        have hbel2 := hbel1.trans (hbel.mono hwM)
        have hbelA := hbel2.trans (hba.mono hbel2.size)
        have hoA := hown.below hba
        clear hdec hf hm hlen hlen2 hbel hba hbel2 hown hsz hwM hbel1 hx1
        go_wp2_with fail
        generalize wr.alloc (.cells #[.slice A2 b.length c2] 24) = w2 at *
        refine (C1.out w2 _ 1 hsm).mono ?_
        rintro e w3 ⟨A3, c3, rfl, ho3, hb3⟩
        have hcap3 := ho3.cap
        have hob3 := hoA.below hb3
        have hbel3 := hbelA.trans (hb3.mono hbelA.size)
        clear hsm C1 hoA hb3 hbelA
        go_wp2_with fail
        refine (C2.out w3 A3 c3 hcap3 hcap2 ho3.row hob3.bytes).mono ?_
        rintro e w4 ⟨A4, c4, rfl, ho4, hb4⟩
        have hcap4 := ho4.cap
        have ht4 := (ho3.row.below hb4).wide hb4.size
        have hob4 := hob3.below hb4
        have hbel4 := hbel3.trans (hb4.mono hbel3.size)
        clear C2 ho3 hob3 hb4 hbel3
        dsimp only at ho4 hcap4 ⊢
        go_wp2_with fail
        refine (C3.out w4 A3 c3 A4 c4 hcap3 hcap4 ht4 ho4.bytes).mono ?_
        rintro e w5 ⟨A5, c5, rfl, ho5, hb5⟩
        have hob5 := hob4.below hb5
        have hbel5 := hbel4.trans (hb5.mono hbel4.size)
        clear C3 ht4 ho4 hob4 hb5 hbel4
        dsimp only at ho5 ⊢
        have S2 := S1.out A5 c5 _ _ w5 ho5.bytes hob5.bytes
        rw [beq_self_eq_true] at S2
        replace S2 := Lib.hid S2
        clear S1
        go_wp2_with fail
        refine S2.out.mono ?_
        rintro e w6 ⟨rfl, rfl⟩
        clear S2
        by_cases h3 : R < 2
        · have h3' : (R : Int) < 2 := by omega
          go_wp2
          go_ret
          exact ⟨rfl, hbel5⟩
        · have h3' : ¬ ((R : Int) < 2) := by omega
          have hXb := HS.out (by omega)
          have hXb' : (X.length : Int) ≤ (b.length : Int) := by omega
          go_wp2
          go_ret
          exact ⟨rfl, hbel5⟩
  · by_cases h2 : n < 2
    · have h2' : (n : Int) < 2 := by omega
      go_enter Try.func8, Try.ntmps8
      go_wp2_with fail
      refine (symAlive_any w).mono ?_
      rintro e w1 ⟨rfl, hbel1⟩
      go_wp2
      go_ret
      exact ⟨rfl, hbel1⟩
    · have h2' : ¬ ((n : Int) < 2) := by omega
      have h8' : (8 : Int) < (n : Int) := by omega
      go_enter Try.func8, Try.ntmps8
      go_wp2_with fail
      refine (symAlive_any w).mono ?_
      rintro e w1 ⟨rfl, hbel1⟩
      go_wp2
      go_ret
      exact ⟨rfl, hbel1⟩

/-- from the walk to the post of the row -/
theorem contract (H : Type) (enc : TypeId × Value → H) (W : World) (base : Nat) (args : Array Value) (ds gs : List (DataW H)) (before : List MemPlace)
    (hval : ∀ (j : Nat) t v, Try.f8.params[j]? = some t → args[j]? = some v → Value.okWide Try.prog W .any base t v)
    (hW : DataW.Whole enc Try.prog Try.f8.params.toList Rows.symShortSpec.vars false W args.toList ds gs before) (_ : laidMetH Try.prog Rows.symShortRow.laid W)
    (hsz0 : (DataW.weightsEach Try.prog (Try.f8.params.toList ++ Rows.symShortSpec.plain.varTypes Try.prog) (ds ++ gs)).all (· ≤ reachBytes) = true) :
    Calls Try.prog 8 args W fun e W' => ∃ v, e = .returned v ∧ Rows.symShortSpec.post enc Try.prog Try.f8 false true false false W args v W' := by
  have hW' := hW
  obtain ⟨p, q, hA0, hV, rfl, hfz, hnd⟩ := hW
  have hA : DataW.TrodAll enc Try.prog W 0 (fun _ => true) true Try.f8.params.toList args.toList ds p := hA0
  rw [Try.params8] at hA hval hsz0
  obtain ⟨v0, vs0, d0, ds0, p0, q0, hargs, rfl, rfl, h0, r0⟩ := trodAll_cons hA
  obtain ⟨v1, vs1, d1, ds1, p1, q1, rfl, rfl, rfl, h1, r1⟩ := trodAll_cons r0
  obtain ⟨rfl, rfl, rfl⟩ := trodAll_nil r1
  obtain rfl : args = #[v0, v1] := by cases args; simp_all
  obtain ⟨rfl, rfl⟩ := trodVars_none hV
  obtain ⟨a0, len0, cap0, rfl⟩ := okWide_slice Try.underlying24 (hval 0 24 v0 rfl rfl)
  have lt0 : ∀ x ∈ p0, x.block < W.heap.size := by obtain ⟨m, hm⟩ := h0; exact DataW.trod_lt m _ _ _ hm
  obtain ⟨l0, e0, ec0, b0, k0⟩ := open_bytes h0
  have reach0 := reach_bytes hsz0 (j := 0) rfl rfl k0
  obtain ⟨x1, rfl, rfl, rfl, w1⟩ := open_int Try.underlying5 (hval 1 5 v1 rfl rfl) h1
  obtain ⟨c1, rfl⟩ := Int.eq_ofNat_of_zero_le (bounds_u8 w1).1
  clear hA0
  refine (walk a0 len0 cap0 l0 c1 W e0 ec0 reach0 b0 (by have := (bounds_u8 w1).2; omega)).mono fun e W' ⟨he, bel⟩ => ?_
  subst he
  exact ⟨_, rfl, _, _, _, [], _, [], hW', trodAll_mk1 (shut_bool Try.underlying4 _), (trodAll_cons_mk (Below.trod laidOut (by kernel_rfl) (of_decide_eq_true (by kernel_rfl)) h0 bel lt0) (trodAll_cons_mk (shut_int Try.underlying5 w1) trodAll_mk0)), rfl, bel.frame _, fun h => by cases h⟩

theorem laid_met (os : Os) : laidMet Try.prog Rows.symShortRow.laid ((World.holding Try.prog os ⟨#[], #[], []⟩).forCall (fun _ _ => 0) ⟨#[], #[.slice none 0 0, .int .u8 0], []⟩).memory :=
  laidMet_of_run' 8 (by kernel_rfl) (by kernel_rfl)
theorem reads (os : Os) {H : Type} (enc : TypeId × Value → H) : ∃ places, DataW.whole enc Try.prog ((World.holding Try.prog os ⟨#[], #[], []⟩).forCall (fun _ _ => 0) ⟨#[], #[.slice none 0 0, .int .u8 0], []⟩).memory Try.f8.params.toList Rows.symShortSpec.vars false #[Value.slice none 0 0, .int .u8 0].toList 8 = some ([.nil, .lit (.int .u8 0)], [], places) :=
  ⟨[], by kernel_rfl⟩

set_option maxRecDepth 100000 in
theorem lifted (os : Os) (started : os.Started) (H : Type) (enc : TypeId × Value → H) (F : Stop.Interp) :
    ReturnsInHanded {} Try.checked os 8 .any ((OpenSpec.ofChange Rows.symShortSpec).preRow enc Try.prog Try.f8 Rows.symShortRow.domain false Rows.symShortRow.laid) (((OpenSpec.ofChange Rows.symShortSpec).at F).post enc Try.prog Try.f8 false true false false) := by
  obtain ⟨places, hx⟩ := reads os enc
  refine returnsInHanded_of_row (C := Try.checked) (s := OpenSpec.ofChange Rows.symShortSpec) own started (by kernel_rfl) Try.func8
    (witness_row_at (enc := enc) (C := Try.checked) false (World.holding Try.prog os ⟨#[], #[], []⟩) #[.slice none 0 0, .int .u8 0] rfl (by kernel_rfl) (by kernel_rfl) (by kernel_rfl)
      (OpenSpec.preRow_of_cond 8 hx (by kernel_rfl) (fun k hk => by cases hk) (by kernel_rfl) (laid_met os))) ?_
  intro W base args ds gs before hval hW _ _ hsz hL _ _
  exact contract H enc W base args ds gs before hval hW hL hsz

theorem said : Rows.SymShortSaid :=
  OpenClaim.holds_of_cond 8 Try.f8 rfl rfl rfl rfl rfl rfl rfl ⟨rfl, rfl, rfl, rfl, rfl⟩ rfl rfl rfl rfl rfl (by kernel_rfl) Try.func8 (by kernel_rfl)
    (of_decide_eq_true (by kernel_rfl)) (by unfold Func.isWrapper; first | (rw [if_pos (by decide +kernel)]; kernel_rfl) | (rw [if_neg (by decide +kernel)]; exact ⟨rfl, rfl⟩))
    (fun os started H enc _ F => by rw [OpenClaim.pre_eq_preRow]; exact lifted os started H enc F)

end Go.Proofs.Ytmcioglidgbibaa.symShort
