/- PROVED: the law TokenJoined (terms with blanks between are cut into just these terms, place by place) returns true and leaves its argument as it was.
   Conditions: none beyond the statement's own (the first form). -/
import Derived.Test.YtahcmpmfknmecaaTokLaw
import Derived.Test.YtahcmpmfknmecaaTokRefIs
import Derived.Test.YtahcmpmfknmecaaStrBytes
import Derived.Test.YtahcmpmfknmecaaStrs
namespace Go.Proofs.Ytahcmpmfknmecaa.tokenJoined
open Go.ChangeShapes Go.WideShapes Go.ChangeAt Go.RowKit
set_option maxRecDepth 100000

theorem joined_next (t : List (List UInt8)) {k : Nat} (h : k < t.length) : Tok.joined (t.take (k + 1)) = Tok.joined (t.take k) ++ t[k] ++ [32] := by
  rw [List.take_succ_eq_append_getElem h, Tok.joined_snoc]
theorem terms_next {t : List (List UInt8)} {k : Nat} (h : k < t.length) (ht : ∀ x ∈ t.take k, Tok.is x = true) (hx : Tok.is t[k] = true) : ∀ x ∈ t.take (k + 1), Tok.is x = true := by
  intro x h1
  rw [List.take_succ_eq_append_getElem h] at h1
  rcases List.mem_append.1 h1 with h2 | h2
  · exact ht x h2
  · rw [List.mem_singleton.1 h2]; exact hx
theorem string_join (a b c : List UInt8) : (⟨a.toArray⟩ ++ ⟨b.toArray⟩ ++ ⟨c.toArray⟩ : ByteArray) = ⟨(a ++ b ++ c).toArray⟩ := by
  apply ByteArray.ext
  simp

/-- whether a text of any length is a term -/
theorem refIs_all (s : List UInt8) (w : World) :
    Calls Try.prog 19 #[.string ⟨s.toArray⟩] w fun e w' => e = .returned (.bool (Tok.is s)) ∧ Below w.heap.size w w' := by
  by_cases h64 : s.length ≤ 64
  · exact refIs_any s w (by omega)
  · have hI : Tok.is s = false := by
      rcases h : Tok.is s with _ | _
      · rfl
      · have := ((Tok.is_iff s).1 h).1.2; omega
    rw [hI]
    have hp : ¬ (s.length : Int) < 1 := by omega
    have hq : (64 : Int) < (s.length : Int) := by omega
    clear hI
    go_enter Try.func19, Try.ntmps19
    go_wp2
    go_ret
    exact ⟨rfl, Below.refl _ _⟩

set_option maxHeartbeats 1000000 in
theorem walk (A : Option Addr) (n cap : Nat) (t : List (List UInt8)) (w : World)
    (hl : t.length = n) (_hcap : n ≤ cap) (_hn : 16 * n ≤ 140737488351232) (hb : Strs w w.heap.size A t) (_hm : ∀ s ∈ t, s.length ≤ maxLen) :
    Calls Try.prog 8 #[.slice A n cap] w fun e w' => e = .returned (.bool true) ∧ Below w.heap.size w w' := by
  have Hl := Lib.hid hl; clear hl
  go_enter Try.func8, Try.ntmps8
  go_wp2_with fail
  refine (tokAlive_any w).mono ?_
  rintro e w1 ⟨rfl, hbel1⟩
  have hx1 := hb.below hbel1
  clear hb
  by_cases hbig : 200 < n
  · have i1 : (200 : Int) < (n : Int) := by omega
    go_wp2
    go_ret
    exact ⟨rfl, hbel1⟩
  have i1 : ¬ (200 : Int) < (n : Int) := by omega
  go_wp2
  go_loopw [3, 4] (fun s i wr => ∃ (k : Nat) (S : List UInt8), k ≤ n ∧ i = .int .i64 k ∧ s = .string ⟨S.toArray⟩ ∧ S = Tok.joined (t.take k) ∧ (∀ x ∈ t.take k, Tok.is x = true) ∧ Strs wr w.heap.size A t ∧ Below w.heap.size w wr) (fun _ i _ => n - (intOf i).toNat)
  case atStart => exact ⟨0, [], Nat.zero_le _, rfl, rfl, by simp [Tok.joined], by simp, hx1, hbel1⟩
  case round =>
    clear hx1 hbel1
    obtain ⟨k, S, hk, rfl, rfl, hS, hT, hb, hbel⟩ := hrel
    have HS := Lib.hid hS; clear hS
    have HT := Lib.hid hT; clear hT
    by_cases hlt : k < n
    · have hk' : k < t.length := by have := Hl.out; omega
      obtain ⟨ad, rfl, _, hc⟩ := hb.get hk'
      simp only [sval] at hc
      have C := Lib.hid (fun w' => refIs_all t[k] w')
      have HN := Lib.hid (joined_next t hk')
      have HX := Lib.hid (terms_next hk' HT.out)
      have H64 := Lib.hid (fun h : Tok.is t[k] = true => ((Tok.is_iff t[k]).1 h).1.2)
      have HJ := Lib.hid (Tok.joined_length (t.take k) HT.out)
      rw [← HS.out] at HN HJ
      generalize t[k] = x at *
      have i1 : (k : Int) < (n : Int) := by omega
      have i0 : (0 : Int) ≤ (k : Int) := by omega
      rcases hx : Tok.is x with _ | _
      · rw [hx] at C
        go_wp2_with fail
        refine (C.out _).mono ?_
        rintro e w2 ⟨rfl, hb2⟩
        go_wp2
        go_ret
        exact ⟨rfl, hbel.trans (hb2.mono hbel.size)⟩
      · rw [hx] at C
        have h64 := H64.out hx
        have hJ : S.length ≤ 65 * 200 := by have := HJ.out; simp at this; omega
        have hxl : x.length ≤ 64 := h64
        go_wp2_with fail
        refine (C.out _).mono ?_
        rintro e w2 ⟨rfl, hb2⟩
        have hb2' := hbel.trans (hb2.mono hbel.size)
        have hr2 := hb.below (hb2.mono hbel.size)
        have hc2 : w2.cell? (ad.add k) = some (.string ⟨x.toArray⟩) := ((hb2.mono hbel.size).cell (by rw [addr_add_block]; assumption)).trans hc
        have A1 := fun W : World => run_string_add_lists (P := Try.prog) (w := W) S x (by omega) (by omega)
        have A2 := fun W : World => run_string_add_lists (P := Try.prog) (w := W) (S ++ x) [32] (by simp only [List.length_append]; omega) (by simp)
        clear hc C HJ H64
        go_wp2
        go_roundw
        case rel => exact ⟨k + 1, S ++ x ++ [32], by omega, by go_num, by rw [List.append_assoc], HN.out.symm, HX.out hx, hr2, hb2'⟩
        case measure => simp [intOf]; omega
    · obtain rfl : k = n := by omega
      have hT : ∀ x ∈ t, Tok.is x = true := by have := HT.out; rwa [List.take_of_length_le (by have := Hl.out; omega)] at this
      have hS : S = Tok.joined t := by have := HS.out; rwa [List.take_of_length_le (by have := Hl.out; omega)] at this
      have hJ : S.length ≤ 65 * k := by have := Tok.joined_length t hT; rw [← hS, Hl.out] at this; exact this
      have hC : Tok.cuts S = t := by rw [hS]; exact Tok.cuts_joined t hT
      clear hS hT HS HT
      obtain ⟨c2, w2, hc2, hrun2, hby2, hb2⟩ := run_bytes_of S wr
      have C : Calls Try.prog 12 #[.slice (some ⟨wr.heap.size, 0, none⟩) S.length c2] w2 fun e w' => ∃ A c, e = .returned (.slice A k c) ∧ TOwn w' w2.heap.size A k c t ∧ Below w2.heap.size w2 w' := by
        refine (cut_any _ S.length c2 _ S w2 rfl hc2 (by omega) hby2 (Nat.le_refl _)).mono ?_
        rintro e w' ⟨A, c, rfl, h1, h2⟩
        rw [hC, Hl.out] at *
        exact ⟨A, c, rfl, h1, h2⟩
      replace C := Lib.hid C
      have hb2' := hbel.trans (hb2.mono hbel.size)
      have hr2 := hb.below (hb2.mono hbel.size)
      clear hC hby2 hb hJ hlt
      have hnn : ((k : Int) != (k : Int)) = false := by simp
      go_wp2_with fail
      refine C.out.mono ?_
      rintro e w3 ⟨A3, c3, rfl, ho3, hb3⟩
      have hb3' := hb2'.trans (hb3.mono hb2'.size)
      have hr3 := hr2.below (hb3.mono hb2'.size)
      have ht3 := ho3.toks
      clear hr2 ho3 hb3 hb2' C hrun2 hb2 hbel
      go_wp2
      go_loopw [6] (fun i wr => ∃ (j : Nat), j ≤ k ∧ i = .int .i64 j ∧ Toks wr A3 t ∧ Strs wr w.heap.size A t ∧ Below w.heap.size w wr) (fun i _ => k - (intOf i).toNat)
      case atStart => exact ⟨0, Nat.zero_le _, rfl, ht3, hr3, hb3'⟩
      case round =>
        clear ht3 hr3 hb3'
        obtain ⟨j, hj, rfl, ht, hr, hbel⟩ := hrel
        by_cases hlt : j < k
        · have hj' : j < t.length := by have := Hl.out; omega
          obtain ⟨g, rfl, _, ha, hb⟩ := ht.get hj'
          obtain ⟨ad, rfl, _, hc⟩ := hr.get hj'
          simp only [sval] at hc
          generalize t[j] = x at ha hb hc
          have hxx : (x != x) = false := by simp
          have hjj : ((j : Int) != (j : Int)) = false := by simp
          have i1 : (j : Int) < (k : Int) := by omega
          have i0 : (0 : Int) ≤ (j : Int) := by omega
          go_wp2_with fail
          go_quiet (fail)
          go_wp2
          go_roundw
          case rel => exact ⟨j + 1, by omega, by go_num, ht, hr, hbel.trans (((Drawn.refl wr).drewN _).below _)⟩
          case measure => simp [intOf]; omega
        · go_wp2
          go_ret
          exact ⟨rfl, hbel⟩

/-- from the walk to the post of the row -/
theorem contract (H : Type) (enc : TypeId × Value → H) (W : World) (base : Nat) (args : Array Value) (ds gs : List (DataW H)) (before : List MemPlace)
    (hval : ∀ (j : Nat) t v, Try.f8.params[j]? = some t → args[j]? = some v → Value.okWide Try.prog W .any base t v)
    (hW : DataW.Whole enc Try.prog Try.f8.params.toList Rows.tokenJoinedSpec.vars false W args.toList ds gs before) (_ : laidMetH Try.prog Rows.tokenJoinedRow.laid W)
    (hsz0 : (DataW.weightsEach Try.prog (Try.f8.params.toList ++ Rows.tokenJoinedSpec.plain.varTypes Try.prog) (ds ++ gs)).all (· ≤ reachBytes) = true) :
    Calls Try.prog 8 args W fun e W' => ∃ v, e = .returned v ∧ Rows.tokenJoinedSpec.post enc Try.prog Try.f8 false true false false W args v W' := by
  have hW' := hW
  obtain ⟨p, q, hA0, hV, rfl, hfz, hnd⟩ := hW
  have hA : DataW.TrodAll enc Try.prog W 0 (fun _ => true) true Try.f8.params.toList args.toList ds p := hA0
  rw [Try.params8] at hA hval hsz0
  obtain ⟨v0, vs0, d0, ds0, p0, q0, hargs, rfl, rfl, h0, r0⟩ := trodAll_cons hA
  obtain ⟨rfl, rfl, rfl⟩ := trodAll_nil r0
  obtain rfl : args = #[v0] := by cases args; simp_all
  obtain ⟨rfl, rfl⟩ := trodVars_none hV
  obtain ⟨a0, len0, cap0, rfl⟩ := okWide_slice Try.underlying30 (hval 0 30 v0 rfl rfl)
  have lt0 : ∀ x ∈ p0, x.block < W.heap.size := by obtain ⟨m, hm⟩ := h0; exact DataW.trod_lt m _ _ _ hm
  obtain ⟨l0, e0, ec0, b0, em0, k0⟩ := open_strs h0
  have reach0 := reach_strs hsz0 (j := 0) rfl rfl k0
  clear hA0
  refine (walk a0 len0 cap0 l0 W e0 ec0 reach0 b0 em0).mono fun e W' ⟨he, bel⟩ => ?_
  subst he
  exact ⟨_, rfl, _, _, _, [], _, [], hW', trodAll_mk1 (shut_bool Try.underlying4 _), (trodAll_cons_mk (Below.trod laidOut (by kernel_rfl) (of_decide_eq_true (by kernel_rfl)) h0 bel lt0) trodAll_mk0), rfl, bel.frame _, fun h => by cases h⟩

theorem laid_met (os : Os) : laidMet Try.prog Rows.tokenJoinedRow.laid ((World.holding Try.prog os ⟨#[], #[], []⟩).forCall (fun _ _ => 0) ⟨#[], #[.slice none 0 0], []⟩).memory :=
  laidMet_of_run' 8 (by kernel_rfl) (by kernel_rfl)
theorem reads (os : Os) {H : Type} (enc : TypeId × Value → H) : ∃ places, DataW.whole enc Try.prog ((World.holding Try.prog os ⟨#[], #[], []⟩).forCall (fun _ _ => 0) ⟨#[], #[.slice none 0 0], []⟩).memory Try.f8.params.toList Rows.tokenJoinedSpec.vars false #[Value.slice none 0 0].toList 8 = some ([.nil], [], places) :=
  ⟨[], by kernel_rfl⟩

set_option maxRecDepth 100000 in
theorem lifted (os : Os) (started : os.Started) (H : Type) (enc : TypeId × Value → H) (F : Stop.Interp) :
    ReturnsInHanded {} Try.checked os 8 .any ((OpenSpec.ofChange Rows.tokenJoinedSpec).preRow enc Try.prog Try.f8 Rows.tokenJoinedRow.domain false Rows.tokenJoinedRow.laid) (((OpenSpec.ofChange Rows.tokenJoinedSpec).at F).post enc Try.prog Try.f8 false true false false) := by
  obtain ⟨places, hx⟩ := reads os enc
  refine returnsInHanded_of_row (C := Try.checked) (s := OpenSpec.ofChange Rows.tokenJoinedSpec) own started (by kernel_rfl) Try.func8
    (witness_row_at (enc := enc) (C := Try.checked) false (World.holding Try.prog os ⟨#[], #[], []⟩) #[.slice none 0 0] rfl (by kernel_rfl) (by kernel_rfl) (by kernel_rfl)
      (OpenSpec.preRow_of_cond 8 hx (by kernel_rfl) (fun k hk => by cases hk) (by kernel_rfl) (laid_met os))) ?_
  intro W base args ds gs before hval hW _ _ hsz hL _ _
  exact contract H enc W base args ds gs before hval hW hL hsz

theorem said : Rows.TokenJoinedSaid :=
  OpenClaim.holds_of_cond 8 Try.f8 rfl rfl rfl rfl rfl rfl rfl ⟨rfl, rfl, rfl, rfl, rfl⟩ rfl rfl rfl rfl rfl (by kernel_rfl) Try.func8 (by kernel_rfl)
    (of_decide_eq_true (by kernel_rfl)) (by unfold Func.isWrapper; first | (rw [if_pos (by decide +kernel)]; kernel_rfl) | (rw [if_neg (by decide +kernel)]; exact ⟨rfl, rfl⟩))
    (fun os started H enc _ F => by rw [OpenClaim.pre_eq_preRow]; exact lifted os started H enc F)

end Go.Proofs.Ytahcmpmfknmecaa.tokenJoined
