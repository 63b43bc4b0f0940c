/- PROVED: the law FieldBack (a line that is made of a key, = and a shown value without blanks has just that field) returns true and leaves its argument as it was, for any field.
   Condition: the listed package variables (of strconv, math/bits) hold what the program's text lays (the card ties them to the text, by the translator's look). -/
import Derived.Test.YtbjoboemhdcalaaDoorFldArg
import Derived.Test.YtbjoboemhdcalaaDoorStrBytes
import Derived.Deep.RegionHeld3
namespace Go.Proofs.YtbjoboemhdcalaaDoor.fieldBack
open Go.ChangeShapes Go.WideShapes Go.ChangeAt Go.RowKit
set_option maxRecDepth 100000

theorem blank_no {c : UInt8} (h : Fld.blank c = false) : ¬ (c.toNat : Int) = 9 ∧ ¬ (c.toNat : Int) = 10 ∧ ¬ (c.toNat : Int) = 13 ∧ ¬ (c.toNat : Int) = 32 := by
  rw [← Bool.not_eq_true] at h
  simp only [Fld.blank, Bool.or_eq_true, beq_iff_eq] at h
  omega
theorem blank_yes {c : UInt8} (h : Fld.blank c = true) : (c.toNat : Int) = 9 ∨ (c.toNat : Int) = 10 ∨ (c.toNat : Int) = 13 ∨ (c.toNat : Int) = 32 := by
  simp only [Fld.blank, Bool.or_eq_true, beq_iff_eq] at h
  omega

theorem flds_one {W : World} {g : Nat} {f : Fld.F} (h : FBox W g f) : Flds W (some ⟨g, 0, none⟩) [f] := fun _ =>
  ⟨g, rfl, h.lt, fun k hk => by
    obtain rfl : k = 0 := by simp at hk; omega
    simpa using h.cell⟩

set_option maxHeartbeats 4000000 in
theorem walk (f : Fld.F) (w : World) (hin : FieldIn f) (hk : f.key.length ≤ 140737488351232) (ht : f.text.length ≤ 140737488351232) (hv : Vars w) :
    Calls Tryd.prog 6 #[fval f] w fun e w' => e = .returned (.bool true) ∧ Below w.heap.size w w' := by
  have hn0 : -9223372036854775808 ≤ f.int := by have := bounds_i64 hin.int; omega
  have hn1 : f.int ≤ 9223372036854775807 := by have := bounds_i64 hin.int; omega
  have hs47 : (Fld.show_ f).length ≤ 140737488351232 := by
    unfold Fld.show_
    split
    · have := Fld.itoa_length hn0 hn1; omega
    · exact ht
  clear hin
  have hb0 : Below w.heap.size w (w.alloc (.cells #[.string ⟨f.key.toArray⟩, .int .i64 f.kind, .int .i64 f.int, .string ⟨f.text.toArray⟩] 27)) := (Below.refl _ w).alloc (Nat.le_refl _) _
  have hbx0 := FBox.new w f
  have HA := Lib.hid (fldAlive_any _ (hv.below hb0))
  have HV := Lib.hid (fun w' h => hv.below (w' := w') h)
  have C1 := Lib.hid (fun w' (h : Below w.heap.size w w') => show_any f w' hn0 hn1 (by omega) (hv.below h))
  have C2 := fun w' (h : Below w.heap.size w w') => number_any (Fld.show_ f) w' (by omega) (hv.below h)
  have C3 := fun w' => isKey_any f.key w' (by omega)
  unfold NumPost at C2
  generalize Fld.show_ f = s at *
  have hnum : ((Fld.num s).isSome = true → Fld.num s = some ((Fld.num s).getD 0)) ∧ ((Fld.num s).isSome = false → Fld.num s = none) := by
    cases Fld.num s <;> simp
  have CR0 := fun T (q : Fld.F) (hT : T.length ≤ 140737488355328) (hq : Fld.read T = [q]) A c V (hc : T.length ≤ c) (hb : Bytes V V.heap.size A T) (hv : Vars V) => (by
    have := read_any A T.length c T V rfl hc hT hb hv
    rw [hq] at this
    exact this : Calls Tryd.prog 20 #[.slice A T.length c] V fun e w' => ∃ A2 c2, e = .returned (.slice A2 1 c2) ∧ FOwn w' V.heap.size A2 1 c2 [q] ∧ Below V.heap.size V w')
  replace CR0 := Lib.hid CR0
  obtain ⟨nv, hnv⟩ : ∃ nv, (Fld.num s).getD 0 = nv := ⟨_, rfl⟩
  obtain ⟨nb, hnb⟩ : ∃ nb, (Fld.num s).isSome = nb := ⟨_, rfl⟩
  rw [hnv, hnb] at C2 hnum
  have Hnum := Lib.hid hnum
  clear hnv hnb hnum
  obtain ⟨k, kd, n, t⟩ := f
  simp only at hk ht hn0 hn1 hb0 hbx0 HA C3
  clear hv
  unfold fval at C1 ⊢
  simp only at C1 ⊢
  replace C2 := Lib.hid C2
  go_enter Tryd.func6, Tryd.ntmps6
  go_wp2_with fail
  refine HA.out.mono ?_
  rintro e w1 ⟨rfl, hb1⟩
  have hbel1 := hb0.trans (hb1.mono hb0.size)
  have hbx1 := hbx0.below hb1
  clear hb0 hbx0 HA hb1
  obtain ⟨c0, c1, c2, c3⟩ := hbx1.cell
  simp only at c0 c1 c2 c3
  go_wp2_with fail
  refine (C1.out _ hbel1).mono ?_
  rintro e w2 ⟨rfl, hb2⟩
  have hbel2 := hbel1.trans (hb2.mono hbel1.size)
  have hbx2 := hbx1.below hb2
  clear hbel1 hbx1 hb2 c0 c1 c2 c3 C1
  go_wp2_with fail
  refine (C2.out _ hbel2).mono ?_
  rintro e w3 ⟨rfl, hb3⟩
  have hbel3 := hbel2.trans (hb3.mono hbel2.size)
  have hbx3 := hbx2.below hb3
  clear hbel2 hbx2 hb3 C2
  obtain ⟨c0, c1, c2, c3⟩ := hbx3.cell
  simp only at c0 c1 c2 c3
  rcases hkey : Fld.isKey k with _ | _
  · rw [hkey] at C3
    replace C3 := Lib.hid C3
    go_wp2_with fail
    refine (C3.out _).mono ?_
    rintro e w4 ⟨rfl, rfl⟩
    go_wp2
    go_ret
    exact ⟨rfl, hbel3⟩
  · rw [hkey] at C3
    replace C3 := Lib.hid C3
    by_cases h64 : s.length ≤ 64
    · have t64 : ¬ (64 : Int) < (s.length : Int) := by omega
      have d64 : decide ((64 : Int) < (s.length : Int)) = false := decide_eq_false t64
      go_wp2_with fail
      refine (C3.out _).mono ?_
      rintro e w4 ⟨rfl, rfl⟩
      go_wp2
      go_loop [6] (fun i => ∃ (j : Nat), j ≤ s.length ∧ i = .int .i64 j ∧ (s.take j).all (fun c => !Fld.blank c) = true) (fun i => s.length - (intOf i).toNat)
      case atStart => exact ⟨0, by omega, rfl, by simp⟩
      case round =>
        obtain ⟨j, hj, rfl, hall⟩ := hrel
        by_cases hlt : j < s.length
        · have he := letter_eq s j hlt
          have hidx : ∀ W, (Instr.index 9 (.string ⟨s.toArray⟩) (.int .i64 (j : Int))).run Tryd.prog W = .ok (.int .u8 (s[j].toNat : Int)) W := fun W => by
            have hsz : (⟨s.toArray⟩ : ByteArray).size = s.length := by rw [ByteArray.size, List.size_toArray]
            rw [run_index_string (P := Tryd.prog) W 9 ⟨s.toArray⟩ .i64 (j : Int) Tryd.underlying9, dif_pos ⟨by omega, by rw [hsz]; omega⟩]
            rfl
          have Hnx := Lib.hid (Fld.all_next hlt (fun c => !Fld.blank c) hall)
          clear hall he
          generalize s[j] = d at *
          rcases hbl : Fld.blank d with _ | _
          · obtain ⟨n1, n2, n3, n4⟩ := blank_no hbl
            have HN := Lib.hid (Hnx.out (by rw [hbl]; rfl))
            have e1 : ((d.toNat : Int) == 9) = false := by simpa using n1
            have e2 : ((d.toNat : Int) == 10) = false := by simpa using n2
            have e3 : ((d.toNat : Int) == 13) = false := by simpa using n3
            have e4 : ((d.toNat : Int) == 32) = false := by simpa using n4
            clear hbl Hnx
            go_wp2
            go_round
            case rel => exact ⟨j + 1, by omega, by go_num, HN.out⟩
            case measure => simp [intOf]; omega
          · have hyes := blank_yes hbl
            obtain ⟨x, hx⟩ : ∃ x : Int, x = (d.toNat : Int) := ⟨_, rfl⟩
            rw [← hx] at hidx hyes
            clear hbl Hnx hx
            rcases hyes with rfl | rfl | rfl | rfl
            all_goals
              go_wp2
              go_ret
              exact ⟨rfl, hbel3⟩
        · have Hall := Lib.hid (show s.all (fun c => !Fld.blank c) = true by rwa [List.take_of_length_le (by omega)] at hall)
          clear hall
          have hlt' : ¬ (j : Int) < (s.length : Int) := by omega
          have hb4 : Below w3.heap.size w3 (w3.alloc (.cells #[.string ⟨k.toArray⟩, .int .i64 2, .int .i64 0, .string ⟨s.toArray⟩] 27)) := (Below.refl _ _).alloc (Nat.le_refl _) _
          have hbx4 := hbx3.below hb4
          have hbz4 := FBox.new w3 ⟨k, 2, 0, s⟩
          have hbel4 := hbel3.trans (hb4.mono hbel3.size)
          have hk32 := (Fld.isKey_all hkey).2.1
          have hlt3 := hbx3.lt
          have hstr : (⟨k.toArray⟩ ++ ⟨#[61]⟩ ++ ⟨s.toArray⟩ : ByteArray) = ⟨(k ++ 61 :: s).toArray⟩ := by
            rw [show (⟨#[61]⟩ : ByteArray) = ⟨([61] : List UInt8).toArray⟩ from rfl, str_append, str_append]
            simp
          have hcat1 : ¬ 9223372036854775807 < k.length + 1 := by omega
          have hcat2 : ¬ 9223372036854775807 < k.length + 1 + s.length := by omega
          have hread := Fld.read_one hkey h64 Hall.out
          have hTl : (k ++ 61 :: s).length ≤ 140737488355328 := by simp; omega
          obtain ⟨g0, g1, g2, g3⟩ := hbx4.cell
          obtain ⟨z0, z1, z2, z3⟩ := hbz4.cell
          have y0 := hbz4.free 0
          have y1 := hbz4.free 1
          have y2 := hbz4.free 2
          have y3 := hbz4.free 3
          simp only at g0 g1 g2 g3 z0 z1 z2 z3
          cases nb
          · have hq : Fld.read (k ++ 61 :: s) = [⟨k, 2, 0, s⟩] := by rw [hread]; unfold Fld.mk; rw [Hnum.out.2 rfl]
            have CR := Lib.hid (CR0.out _ _ hTl hq)
            clear hread hq hTl hbx3 hbel3 hb4 CR0 hs47 C3
            generalize k ++ 61 :: s = T at *
            go_wp2
            have hbx9 := hbx4
            have hbz9 := hbz4
            have hbel9 := hbel4
            clear hbx4 hbz4 hbel4 g0 g1 g2 g3 z0 z1 z2 z3 y0 y1 y2 y3 c0 c1 c2 c3
            generalize w3.alloc (.cells #[.string ⟨k.toArray⟩, .int .i64 2, .int .i64 0, .string ⟨s.toArray⟩] 27) = W9 at *
            -- WALK 1
            refine wp_region_held_drew (S := fun W => W.cell? ⟨w.heap.size, 0, none⟩ = some (.string ⟨k.toArray⟩) ∧ W.cell? ⟨w3.heap.size, 0, none⟩ = some (.string ⟨k.toArray⟩) ∧ W.cell? ⟨w3.heap.size, 1, none⟩ = some (.int .i64 2) ∧ W.cell? ⟨w3.heap.size, 2, none⟩ = some (.int .i64 0) ∧ W.cell? ⟨w3.heap.size, 3, none⟩ = some (.string ⟨s.toArray⟩)) (by kernel_rfl) (by exact ⟨hbx9.drew.cell.1, hbz9.drew.cell⟩) (fun hHeld => ?_)
            change wpAnyH _ _ _ _ _ 11 #[false, false, false, false, false, false, false, false, false, false, false] _ _
            have hbxD := hbx9.drew
            have hbzD := hbz9.drew
            have hbelD := hbel9.drew
            clear hbx9 hbz9 hbel9
            generalize W9.drew = D at *
            refine wpAnyH_take (i := 0) (oi := { dst := some 63, op := _, type := _, pos := _, after := _, guard := _ }) (v := (.pointer (some ⟨w.heap.size, 0, none⟩))) rfl (by kernel_rfl) (by kernel_rfl) (by kernel_rfl) (fun _ _ _ h => h) (Or.inl ⟨by rfl, fun _ _ => rfl⟩) (by assumption) ?_
            simp only [Act.put, List.setIfInBounds_toArray, List.set_cons_zero, List.set_cons_succ]
            refine wpAnyH_take (i := 1) (oi := { dst := some 64, op := _, type := _, pos := _, after := _, guard := _ }) (v := (.string ⟨k.toArray⟩)) rfl (by kernel_rfl) (by kernel_rfl) (by kernel_rfl) (fun _ _ _ h => h) (Or.inl ⟨by rfl, by intro w hSw; (try dsimp only at hSw); go_simp⟩) (by assumption) ?_
            simp only [Act.put, List.setIfInBounds_toArray, List.set_cons_zero, List.set_cons_succ]
            refine wpAnyH_take (i := 2) (oi := { dst := some 65, op := _, type := _, pos := _, after := _, guard := _ }) (v := (.string (⟨k.toArray⟩ ++ ⟨#[61]⟩))) rfl (by kernel_rfl) (by kernel_rfl) (by kernel_rfl) (fun _ _ _ h => h) (Or.inl ⟨by rfl, by intro w hSw; (try dsimp only at hSw); go_simp⟩) (by assumption) ?_
            simp only [Act.put, List.setIfInBounds_toArray, List.set_cons_zero, List.set_cons_succ]
            refine wpAnyH_take (i := 3) (oi := { dst := some 66, op := _, type := _, pos := _, after := _, guard := _ }) (v := (.string ⟨s.toArray⟩)) rfl (by kernel_rfl) (by kernel_rfl) (by kernel_rfl) (fun _ _ _ h => h) (Or.inl ⟨by rfl, fun _ _ => rfl⟩) (by assumption) ?_
            simp only [Act.put, List.setIfInBounds_toArray, List.set_cons_zero, List.set_cons_succ]
            refine wpAnyH_take (i := 4) (oi := { dst := some 67, op := _, type := _, pos := _, after := _, guard := _ }) (v := (.string (⟨k.toArray⟩ ++ ⟨#[61]⟩ ++ ⟨s.toArray⟩))) rfl (by kernel_rfl) (by kernel_rfl) (by kernel_rfl) (fun _ _ _ h => h) (Or.inl ⟨by rfl, by intro w hSw; (try dsimp only at hSw); go_simp⟩) (by assumption) ?_
            simp only [Act.put, List.setIfInBounds_toArray, List.set_cons_zero, List.set_cons_succ]
            refine wpAnyH_take (i := 7) (oi := { dst := some 70, op := _, type := _, pos := _, after := _, guard := _ }) (v := (.agg #[.string ⟨k.toArray⟩, .int .i64 2, .int .i64 0, .string ⟨s.toArray⟩])) rfl (by kernel_rfl) (by kernel_rfl) (by kernel_rfl) (fun _ _ _ h => h) (Or.inl ⟨by rfl, by intro w hSw; (try dsimp only at hSw); go_simp⟩) (by assumption) ?_
            simp only [Act.put, List.setIfInBounds_toArray, List.set_cons_zero, List.set_cons_succ]
            rw [hstr]
            refine wpAnyH_ready (rs := [5, 8]) (by kernel_rfl) (by simp) ?_
            refine AllReadyH.cons (o := { dst := some 68, op := _, type := _, pos := _, after := _, guard := _ }) rfl (fun KK hK => ?_) ?_
            · obtain ⟨c1, V1, hc1, hrun1, hby1, hs1⟩ := run_bytes_of T D
              go_simp
              have hb1 := hs1
              refine hK.out _ _ (by exact ⟨(hbxD.below hb1).cell.1, (hbzD.below hb1).cell⟩) (fun hHeld => ?_)
              clear hK KK
              simp only [List.setIfInBounds_toArray, List.set_cons_zero, List.set_cons_succ]
              refine wpAnyH_ready (rs := [6, 8]) (by kernel_rfl) (by simp) ?_
              refine AllReadyH.cons (o := { dst := some 69, op := _, type := _, pos := _, after := _, guard := _ }) rfl (fun KK hK => ?_) ?_
              · go_simp
                refine (CR.out _ _ V1 hc1 (by exact hby1) (HV.out _ (hbelD.trans (hb1.mono hbelD.size)))).mono ?_
                rintro e V2 ⟨A2, c2, rfl, ho2, hs2⟩
                go_wp2_with fail
                have hb2 := hb1.trans (hs2.mono hb1.size)
                refine hK.out _ _ (by exact ⟨(hbxD.below hb2).cell.1, (hbzD.below hb2).cell⟩) (fun hHeld => ?_)
                clear hK KK
                simp only [List.setIfInBounds_toArray, List.set_cons_zero, List.set_cons_succ]
                refine wpAnyH_ready (rs := [8]) (by kernel_rfl) (by simp) ?_
                refine AllReadyH.cons (o := { dst := some 71, op := _, type := _, pos := _, after := _, guard := _ }) rfl (fun KK hK => ?_) ?_
                · have hs3 : Below V2.heap.size V2 (V2.alloc (.cells #[.string ⟨k.toArray⟩, .int .i64 2, .int .i64 0, .string ⟨s.toArray⟩] 27)) := (Below.refl _ _).alloc (Nat.le_refl _) _
                  have hbq3 := FBox.new V2 (⟨k, 2, 0, s⟩ : Fld.F)
                  go_simp
                  try simp only [List.toArray_nil] at hbq3
                  have hb3 := hb2.trans (hs3.mono hb2.size)
                  have hfl3x := Flds.below ho2.flds hs3
                  generalize V2.alloc (.cells #[.string ⟨k.toArray⟩, .int .i64 2, .int .i64 0, .string ⟨s.toArray⟩] 27) = W3 at *
                  refine hK.out _ _ (by exact ⟨(hbxD.below hb3).cell.1, (hbzD.below hb3).cell⟩) (fun hHeld => ?_)
                  clear hK KK
                  simp only [List.setIfInBounds_toArray, List.set_cons_zero, List.set_cons_succ]
                  refine wpAnyH_ready (rs := [9]) (by kernel_rfl) (by simp) ?_
                  refine AllReadyH.cons (o := { dst := some 72, op := _, type := _, pos := _, after := _, guard := _ }) rfl (fun KK hK => ?_) ?_
                  · go_simp
                    refine (sameFields_any A2 1 c2 [(⟨k, 2, 0, s⟩ : Fld.F)] (some ⟨V2.heap.size, 0, none⟩) 1 1 [(⟨k, 2, 0, s⟩ : Fld.F)] W3 rfl rfl (by omega) (by omega) (by exact hfl3x) (flds_one (by exact hbq3))).mono ?_
                    rintro e V4 ⟨rfl, hd4⟩
                    have hs4 := hd4.below W3.heap.size
                    rw [decide_eq_true rfl]
                    go_wp2_with fail
                    have hb4 := hb3.trans (hs4.mono hb3.size)
                    refine hK.out _ _ (by exact ⟨(hbxD.below hb4).cell.1, (hbzD.below hb4).cell⟩) (fun hHeld => ?_)
                    clear hK KK
                    simp only [List.setIfInBounds_toArray, List.set_cons_zero, List.set_cons_succ]
                    refine wpAnyH_take (i := 10) (oi := { dst := some 2, op := _, type := _, pos := _, after := _, guard := _ }) (v := (.bool true)) rfl (by kernel_rfl) (by kernel_rfl) (by kernel_rfl) (fun _ _ _ h => h) (Or.inl ⟨by rfl, fun _ _ => rfl⟩) (by assumption) ?_
                    simp only [Act.put, List.setIfInBounds_toArray, List.set_cons_zero, List.set_cons_succ]
                    refine wpAnyH_done (by kernel_rfl) ?_ _
                    go_wp2
                    go_ret
                    exact ⟨rfl, hbelD.trans (hb4.mono hbelD.size)⟩
                  exact AllReadyH.nil
                exact AllReadyH.nil
              refine AllReadyH.cons (o := { dst := some 71, op := _, type := _, pos := _, after := _, guard := _ }) rfl (fun KK hK => ?_) ?_
              · have hs5 : Below V1.heap.size V1 (V1.alloc (.cells #[.string ⟨k.toArray⟩, .int .i64 2, .int .i64 0, .string ⟨s.toArray⟩] 27)) := (Below.refl _ _).alloc (Nat.le_refl _) _
                have hbq5 := FBox.new V1 (⟨k, 2, 0, s⟩ : Fld.F)
                go_simp
                try simp only [List.toArray_nil] at hbq5
                have hb5 := hb1.trans (hs5.mono hb1.size)
                have hby5x := (hby1.below hs5).wide hs5.size
                generalize V1.alloc (.cells #[.string ⟨k.toArray⟩, .int .i64 2, .int .i64 0, .string ⟨s.toArray⟩] 27) = W5 at *
                refine hK.out _ _ (by exact ⟨(hbxD.below hb5).cell.1, (hbzD.below hb5).cell⟩) (fun hHeld => ?_)
                clear hK KK
                simp only [List.setIfInBounds_toArray, List.set_cons_zero, List.set_cons_succ]
                refine wpAnyH_ready (rs := [6]) (by kernel_rfl) (by simp) ?_
                refine AllReadyH.cons (o := { dst := some 69, op := _, type := _, pos := _, after := _, guard := _ }) rfl (fun KK hK => ?_) ?_
                · go_simp
                  refine (CR.out _ _ W5 hc1 (by exact hby5x) (HV.out _ (hbelD.trans (hb5.mono hbelD.size)))).mono ?_
                  rintro e V6 ⟨A6, c6, rfl, ho6, hs6⟩
                  go_wp2_with fail
                  have hb6 := hb5.trans (hs6.mono hb5.size)
                  have hbq6x := hbq5.below hs6
                  refine hK.out _ _ (by exact ⟨(hbxD.below hb6).cell.1, (hbzD.below hb6).cell⟩) (fun hHeld => ?_)
                  clear hK KK
                  simp only [List.setIfInBounds_toArray, List.set_cons_zero, List.set_cons_succ]
                  refine wpAnyH_ready (rs := [9]) (by kernel_rfl) (by simp) ?_
                  refine AllReadyH.cons (o := { dst := some 72, op := _, type := _, pos := _, after := _, guard := _ }) rfl (fun KK hK => ?_) ?_
                  · go_simp
                    refine (sameFields_any A6 1 c6 [(⟨k, 2, 0, s⟩ : Fld.F)] (some ⟨V1.heap.size, 0, none⟩) 1 1 [(⟨k, 2, 0, s⟩ : Fld.F)] V6 rfl rfl (by omega) (by omega) (by exact ho6.flds) (flds_one (by exact hbq6x))).mono ?_
                    rintro e V7 ⟨rfl, hd7⟩
                    have hs7 := hd7.below V6.heap.size
                    rw [decide_eq_true rfl]
                    go_wp2_with fail
                    have hb7 := hb6.trans (hs7.mono hb6.size)
                    refine hK.out _ _ (by exact ⟨(hbxD.below hb7).cell.1, (hbzD.below hb7).cell⟩) (fun hHeld => ?_)
                    clear hK KK
                    simp only [List.setIfInBounds_toArray, List.set_cons_zero, List.set_cons_succ]
                    refine wpAnyH_take (i := 10) (oi := { dst := some 2, op := _, type := _, pos := _, after := _, guard := _ }) (v := (.bool true)) rfl (by kernel_rfl) (by kernel_rfl) (by kernel_rfl) (fun _ _ _ h => h) (Or.inl ⟨by rfl, fun _ _ => rfl⟩) (by assumption) ?_
                    simp only [Act.put, List.setIfInBounds_toArray, List.set_cons_zero, List.set_cons_succ]
                    refine wpAnyH_done (by kernel_rfl) ?_ _
                    go_wp2
                    go_ret
                    exact ⟨rfl, hbelD.trans (hb7.mono hbelD.size)⟩
                  exact AllReadyH.nil
                exact AllReadyH.nil
              exact AllReadyH.nil
            refine AllReadyH.cons (o := { dst := some 71, op := _, type := _, pos := _, after := _, guard := _ }) rfl (fun KK hK => ?_) ?_
            · have hs8 : Below D.heap.size D (D.alloc (.cells #[.string ⟨k.toArray⟩, .int .i64 2, .int .i64 0, .string ⟨s.toArray⟩] 27)) := (Below.refl _ _).alloc (Nat.le_refl _) _
              have hbq8 := FBox.new D (⟨k, 2, 0, s⟩ : Fld.F)
              go_simp
              try simp only [List.toArray_nil] at hbq8
              have hb8 := hs8
              generalize D.alloc (.cells #[.string ⟨k.toArray⟩, .int .i64 2, .int .i64 0, .string ⟨s.toArray⟩] 27) = W8 at *
              refine hK.out _ _ (by exact ⟨(hbxD.below hb8).cell.1, (hbzD.below hb8).cell⟩) (fun hHeld => ?_)
              clear hK KK
              simp only [List.setIfInBounds_toArray, List.set_cons_zero, List.set_cons_succ]
              refine wpAnyH_ready (rs := [5]) (by kernel_rfl) (by simp) ?_
              refine AllReadyH.cons (o := { dst := some 68, op := _, type := _, pos := _, after := _, guard := _ }) rfl (fun KK hK => ?_) ?_
              · obtain ⟨c9, V9, hc9, hrun9, hby9, hs9⟩ := run_bytes_of T W8
                go_simp
                have hb9 := hb8.trans (hs9.mono hb8.size)
                have hbq9x := hbq8.below hs9
                refine hK.out _ _ (by exact ⟨(hbxD.below hb9).cell.1, (hbzD.below hb9).cell⟩) (fun hHeld => ?_)
                clear hK KK
                simp only [List.setIfInBounds_toArray, List.set_cons_zero, List.set_cons_succ]
                refine wpAnyH_ready (rs := [6]) (by kernel_rfl) (by simp) ?_
                refine AllReadyH.cons (o := { dst := some 69, op := _, type := _, pos := _, after := _, guard := _ }) rfl (fun KK hK => ?_) ?_
                · go_simp
                  refine (CR.out _ _ V9 hc9 (by exact hby9) (HV.out _ (hbelD.trans (hb9.mono hbelD.size)))).mono ?_
                  rintro e V10 ⟨A10, c10, rfl, ho10, hs10⟩
                  go_wp2_with fail
                  have hb10 := hb9.trans (hs10.mono hb9.size)
                  have hbq10x := hbq9x.below hs10
                  refine hK.out _ _ (by exact ⟨(hbxD.below hb10).cell.1, (hbzD.below hb10).cell⟩) (fun hHeld => ?_)
                  clear hK KK
                  simp only [List.setIfInBounds_toArray, List.set_cons_zero, List.set_cons_succ]
                  refine wpAnyH_ready (rs := [9]) (by kernel_rfl) (by simp) ?_
                  refine AllReadyH.cons (o := { dst := some 72, op := _, type := _, pos := _, after := _, guard := _ }) rfl (fun KK hK => ?_) ?_
                  · go_simp
                    refine (sameFields_any A10 1 c10 [(⟨k, 2, 0, s⟩ : Fld.F)] (some ⟨D.heap.size, 0, none⟩) 1 1 [(⟨k, 2, 0, s⟩ : Fld.F)] V10 rfl rfl (by omega) (by omega) (by exact ho10.flds) (flds_one (by exact hbq10x))).mono ?_
                    rintro e V11 ⟨rfl, hd11⟩
                    have hs11 := hd11.below V10.heap.size
                    rw [decide_eq_true rfl]
                    go_wp2_with fail
                    have hb11 := hb10.trans (hs11.mono hb10.size)
                    refine hK.out _ _ (by exact ⟨(hbxD.below hb11).cell.1, (hbzD.below hb11).cell⟩) (fun hHeld => ?_)
                    clear hK KK
                    simp only [List.setIfInBounds_toArray, List.set_cons_zero, List.set_cons_succ]
                    refine wpAnyH_take (i := 10) (oi := { dst := some 2, op := _, type := _, pos := _, after := _, guard := _ }) (v := (.bool true)) rfl (by kernel_rfl) (by kernel_rfl) (by kernel_rfl) (fun _ _ _ h => h) (Or.inl ⟨by rfl, fun _ _ => rfl⟩) (by assumption) ?_
                    simp only [Act.put, List.setIfInBounds_toArray, List.set_cons_zero, List.set_cons_succ]
                    refine wpAnyH_done (by kernel_rfl) ?_ _
                    go_wp2
                    go_ret
                    exact ⟨rfl, hbelD.trans (hb11.mono hbelD.size)⟩
                  exact AllReadyH.nil
                exact AllReadyH.nil
              exact AllReadyH.nil
            exact AllReadyH.nil
            -- END
          · have hq : Fld.read (k ++ 61 :: s) = [⟨k, 1, nv, []⟩] := by rw [hread]; unfold Fld.mk; rw [Hnum.out.1 rfl]
            have CR := Lib.hid (CR0.out _ _ hTl hq)
            have hb5 : Below w3.heap.size w3 (w3.alloc (.cells #[.string ⟨k.toArray⟩, .int .i64 1, .int .i64 nv, .string ⟨#[]⟩] 27)) := (Below.refl _ _).alloc (Nat.le_refl _) _
            have hbx5 := hbx3.below hb5
            have hbz5 := FBox.new w3 ⟨k, 1, nv, []⟩
            have hbel5 := hbel3.trans (hb5.mono hbel3.size)
            clear hread hq hTl hbx3 hbel3 hb4 hb5 CR0 hs47 C3
            generalize k ++ 61 :: s = T at *
            go_wp2
            have hbx9 : FBox (w3.alloc (.cells #[.string ⟨k.toArray⟩, .int .i64 1, .int .i64 nv, .string ⟨#[]⟩] 27)) w.heap.size ⟨k, kd, n, t⟩ := hbx5
            have hbz9 : FBox (w3.alloc (.cells #[.string ⟨k.toArray⟩, .int .i64 1, .int .i64 nv, .string ⟨#[]⟩] 27)) w3.heap.size ⟨k, 1, nv, []⟩ := hbz5
            have hbel9 := hbel5
            clear hbx4 hbz4 hbel4 hbx5 hbz5 hbel5 g0 g1 g2 g3 z0 z1 z2 z3 y0 y1 y2 y3 c0 c1 c2 c3
            generalize w3.alloc (.cells #[.string ⟨k.toArray⟩, .int .i64 1, .int .i64 nv, .string ⟨#[]⟩] 27) = W9 at *
            -- WALK 2
            refine wp_region_held_drew (S := fun W => W.cell? ⟨w.heap.size, 0, none⟩ = some (.string ⟨k.toArray⟩) ∧ W.cell? ⟨w3.heap.size, 0, none⟩ = some (.string ⟨k.toArray⟩) ∧ W.cell? ⟨w3.heap.size, 1, none⟩ = some (.int .i64 1) ∧ W.cell? ⟨w3.heap.size, 2, none⟩ = some (.int .i64 nv) ∧ W.cell? ⟨w3.heap.size, 3, none⟩ = some (.string ⟨([] : List UInt8).toArray⟩)) (by kernel_rfl) (by exact ⟨hbx9.drew.cell.1, hbz9.drew.cell⟩) (fun hHeld => ?_)
            change wpAnyH _ _ _ _ _ 11 #[false, false, false, false, false, false, false, false, false, false, false] _ _
            have hbxD := hbx9.drew
            have hbzD := hbz9.drew
            have hbelD := hbel9.drew
            clear hbx9 hbz9 hbel9
            generalize W9.drew = D at *
            refine wpAnyH_take (i := 0) (oi := { dst := some 63, op := _, type := _, pos := _, after := _, guard := _ }) (v := (.pointer (some ⟨w.heap.size, 0, none⟩))) rfl (by kernel_rfl) (by kernel_rfl) (by kernel_rfl) (fun _ _ _ h => h) (Or.inl ⟨by rfl, fun _ _ => rfl⟩) (by assumption) ?_
            simp only [Act.put, List.setIfInBounds_toArray, List.set_cons_zero, List.set_cons_succ]
            refine wpAnyH_take (i := 1) (oi := { dst := some 64, op := _, type := _, pos := _, after := _, guard := _ }) (v := (.string ⟨k.toArray⟩)) rfl (by kernel_rfl) (by kernel_rfl) (by kernel_rfl) (fun _ _ _ h => h) (Or.inl ⟨by rfl, by intro w hSw; (try dsimp only at hSw); go_simp⟩) (by assumption) ?_
            simp only [Act.put, List.setIfInBounds_toArray, List.set_cons_zero, List.set_cons_succ]
            refine wpAnyH_take (i := 2) (oi := { dst := some 65, op := _, type := _, pos := _, after := _, guard := _ }) (v := (.string (⟨k.toArray⟩ ++ ⟨#[61]⟩))) rfl (by kernel_rfl) (by kernel_rfl) (by kernel_rfl) (fun _ _ _ h => h) (Or.inl ⟨by rfl, by intro w hSw; (try dsimp only at hSw); go_simp⟩) (by assumption) ?_
            simp only [Act.put, List.setIfInBounds_toArray, List.set_cons_zero, List.set_cons_succ]
            refine wpAnyH_take (i := 3) (oi := { dst := some 66, op := _, type := _, pos := _, after := _, guard := _ }) (v := (.string ⟨s.toArray⟩)) rfl (by kernel_rfl) (by kernel_rfl) (by kernel_rfl) (fun _ _ _ h => h) (Or.inl ⟨by rfl, fun _ _ => rfl⟩) (by assumption) ?_
            simp only [Act.put, List.setIfInBounds_toArray, List.set_cons_zero, List.set_cons_succ]
            refine wpAnyH_take (i := 4) (oi := { dst := some 67, op := _, type := _, pos := _, after := _, guard := _ }) (v := (.string (⟨k.toArray⟩ ++ ⟨#[61]⟩ ++ ⟨s.toArray⟩))) rfl (by kernel_rfl) (by kernel_rfl) (by kernel_rfl) (fun _ _ _ h => h) (Or.inl ⟨by rfl, by intro w hSw; (try dsimp only at hSw); go_simp⟩) (by assumption) ?_
            simp only [Act.put, List.setIfInBounds_toArray, List.set_cons_zero, List.set_cons_succ]
            refine wpAnyH_take (i := 7) (oi := { dst := some 70, op := _, type := _, pos := _, after := _, guard := _ }) (v := (.agg #[.string ⟨k.toArray⟩, .int .i64 1, .int .i64 nv, .string ⟨#[]⟩])) rfl (by kernel_rfl) (by kernel_rfl) (by kernel_rfl) (fun _ _ _ h => h) (Or.inl ⟨by rfl, by intro w hSw; (try dsimp only at hSw); go_simp⟩) (by assumption) ?_
            simp only [Act.put, List.setIfInBounds_toArray, List.set_cons_zero, List.set_cons_succ]
            rw [hstr]
            refine wpAnyH_ready (rs := [5, 8]) (by kernel_rfl) (by simp) ?_
            refine AllReadyH.cons (o := { dst := some 68, op := _, type := _, pos := _, after := _, guard := _ }) rfl (fun KK hK => ?_) ?_
            · obtain ⟨c1, V1, hc1, hrun1, hby1, hs1⟩ := run_bytes_of T D
              go_simp
              have hb1 := hs1
              refine hK.out _ _ (by exact ⟨(hbxD.below hb1).cell.1, (hbzD.below hb1).cell⟩) (fun hHeld => ?_)
              clear hK KK
              simp only [List.setIfInBounds_toArray, List.set_cons_zero, List.set_cons_succ]
              refine wpAnyH_ready (rs := [6, 8]) (by kernel_rfl) (by simp) ?_
              refine AllReadyH.cons (o := { dst := some 69, op := _, type := _, pos := _, after := _, guard := _ }) rfl (fun KK hK => ?_) ?_
              · go_simp
                refine (CR.out _ _ V1 hc1 (by exact hby1) (HV.out _ (hbelD.trans (hb1.mono hbelD.size)))).mono ?_
                rintro e V2 ⟨A2, c2, rfl, ho2, hs2⟩
                go_wp2_with fail
                have hb2 := hb1.trans (hs2.mono hb1.size)
                refine hK.out _ _ (by exact ⟨(hbxD.below hb2).cell.1, (hbzD.below hb2).cell⟩) (fun hHeld => ?_)
                clear hK KK
                simp only [List.setIfInBounds_toArray, List.set_cons_zero, List.set_cons_succ]
                refine wpAnyH_ready (rs := [8]) (by kernel_rfl) (by simp) ?_
                refine AllReadyH.cons (o := { dst := some 71, op := _, type := _, pos := _, after := _, guard := _ }) rfl (fun KK hK => ?_) ?_
                · have hs3 : Below V2.heap.size V2 (V2.alloc (.cells #[.string ⟨k.toArray⟩, .int .i64 1, .int .i64 nv, .string ⟨#[]⟩] 27)) := (Below.refl _ _).alloc (Nat.le_refl _) _
                  have hbq3 := FBox.new V2 (⟨k, 1, nv, ([] : List UInt8)⟩ : Fld.F)
                  go_simp
                  try simp only [List.toArray_nil] at hbq3
                  have hb3 := hb2.trans (hs3.mono hb2.size)
                  have hfl3x := Flds.below ho2.flds hs3
                  generalize V2.alloc (.cells #[.string ⟨k.toArray⟩, .int .i64 1, .int .i64 nv, .string ⟨#[]⟩] 27) = W3 at *
                  refine hK.out _ _ (by exact ⟨(hbxD.below hb3).cell.1, (hbzD.below hb3).cell⟩) (fun hHeld => ?_)
                  clear hK KK
                  simp only [List.setIfInBounds_toArray, List.set_cons_zero, List.set_cons_succ]
                  refine wpAnyH_ready (rs := [9]) (by kernel_rfl) (by simp) ?_
                  refine AllReadyH.cons (o := { dst := some 72, op := _, type := _, pos := _, after := _, guard := _ }) rfl (fun KK hK => ?_) ?_
                  · go_simp
                    refine (sameFields_any A2 1 c2 [(⟨k, 1, nv, ([] : List UInt8)⟩ : Fld.F)] (some ⟨V2.heap.size, 0, none⟩) 1 1 [(⟨k, 1, nv, ([] : List UInt8)⟩ : Fld.F)] W3 rfl rfl (by omega) (by omega) (by exact hfl3x) (flds_one (by exact hbq3))).mono ?_
                    rintro e V4 ⟨rfl, hd4⟩
                    have hs4 := hd4.below W3.heap.size
                    rw [decide_eq_true rfl]
                    go_wp2_with fail
                    have hb4 := hb3.trans (hs4.mono hb3.size)
                    refine hK.out _ _ (by exact ⟨(hbxD.below hb4).cell.1, (hbzD.below hb4).cell⟩) (fun hHeld => ?_)
                    clear hK KK
                    simp only [List.setIfInBounds_toArray, List.set_cons_zero, List.set_cons_succ]
                    refine wpAnyH_take (i := 10) (oi := { dst := some 2, op := _, type := _, pos := _, after := _, guard := _ }) (v := (.bool true)) rfl (by kernel_rfl) (by kernel_rfl) (by kernel_rfl) (fun _ _ _ h => h) (Or.inl ⟨by rfl, fun _ _ => rfl⟩) (by assumption) ?_
                    simp only [Act.put, List.setIfInBounds_toArray, List.set_cons_zero, List.set_cons_succ]
                    refine wpAnyH_done (by kernel_rfl) ?_ _
                    go_wp2
                    go_ret
                    exact ⟨rfl, hbelD.trans (hb4.mono hbelD.size)⟩
                  exact AllReadyH.nil
                exact AllReadyH.nil
              refine AllReadyH.cons (o := { dst := some 71, op := _, type := _, pos := _, after := _, guard := _ }) rfl (fun KK hK => ?_) ?_
              · have hs5 : Below V1.heap.size V1 (V1.alloc (.cells #[.string ⟨k.toArray⟩, .int .i64 1, .int .i64 nv, .string ⟨#[]⟩] 27)) := (Below.refl _ _).alloc (Nat.le_refl _) _
                have hbq5 := FBox.new V1 (⟨k, 1, nv, ([] : List UInt8)⟩ : Fld.F)
                go_simp
                try simp only [List.toArray_nil] at hbq5
                have hb5 := hb1.trans (hs5.mono hb1.size)
                have hby5x := (hby1.below hs5).wide hs5.size
                generalize V1.alloc (.cells #[.string ⟨k.toArray⟩, .int .i64 1, .int .i64 nv, .string ⟨#[]⟩] 27) = W5 at *
                refine hK.out _ _ (by exact ⟨(hbxD.below hb5).cell.1, (hbzD.below hb5).cell⟩) (fun hHeld => ?_)
                clear hK KK
                simp only [List.setIfInBounds_toArray, List.set_cons_zero, List.set_cons_succ]
                refine wpAnyH_ready (rs := [6]) (by kernel_rfl) (by simp) ?_
                refine AllReadyH.cons (o := { dst := some 69, op := _, type := _, pos := _, after := _, guard := _ }) rfl (fun KK hK => ?_) ?_
                · go_simp
                  refine (CR.out _ _ W5 hc1 (by exact hby5x) (HV.out _ (hbelD.trans (hb5.mono hbelD.size)))).mono ?_
                  rintro e V6 ⟨A6, c6, rfl, ho6, hs6⟩
                  go_wp2_with fail
                  have hb6 := hb5.trans (hs6.mono hb5.size)
                  have hbq6x := hbq5.below hs6
                  refine hK.out _ _ (by exact ⟨(hbxD.below hb6).cell.1, (hbzD.below hb6).cell⟩) (fun hHeld => ?_)
                  clear hK KK
                  simp only [List.setIfInBounds_toArray, List.set_cons_zero, List.set_cons_succ]
                  refine wpAnyH_ready (rs := [9]) (by kernel_rfl) (by simp) ?_
                  refine AllReadyH.cons (o := { dst := some 72, op := _, type := _, pos := _, after := _, guard := _ }) rfl (fun KK hK => ?_) ?_
                  · go_simp
                    refine (sameFields_any A6 1 c6 [(⟨k, 1, nv, ([] : List UInt8)⟩ : Fld.F)] (some ⟨V1.heap.size, 0, none⟩) 1 1 [(⟨k, 1, nv, ([] : List UInt8)⟩ : Fld.F)] V6 rfl rfl (by omega) (by omega) (by exact ho6.flds) (flds_one (by exact hbq6x))).mono ?_
                    rintro e V7 ⟨rfl, hd7⟩
                    have hs7 := hd7.below V6.heap.size
                    rw [decide_eq_true rfl]
                    go_wp2_with fail
                    have hb7 := hb6.trans (hs7.mono hb6.size)
                    refine hK.out _ _ (by exact ⟨(hbxD.below hb7).cell.1, (hbzD.below hb7).cell⟩) (fun hHeld => ?_)
                    clear hK KK
                    simp only [List.setIfInBounds_toArray, List.set_cons_zero, List.set_cons_succ]
                    refine wpAnyH_take (i := 10) (oi := { dst := some 2, op := _, type := _, pos := _, after := _, guard := _ }) (v := (.bool true)) rfl (by kernel_rfl) (by kernel_rfl) (by kernel_rfl) (fun _ _ _ h => h) (Or.inl ⟨by rfl, fun _ _ => rfl⟩) (by assumption) ?_
                    simp only [Act.put, List.setIfInBounds_toArray, List.set_cons_zero, List.set_cons_succ]
                    refine wpAnyH_done (by kernel_rfl) ?_ _
                    go_wp2
                    go_ret
                    exact ⟨rfl, hbelD.trans (hb7.mono hbelD.size)⟩
                  exact AllReadyH.nil
                exact AllReadyH.nil
              exact AllReadyH.nil
            refine AllReadyH.cons (o := { dst := some 71, op := _, type := _, pos := _, after := _, guard := _ }) rfl (fun KK hK => ?_) ?_
            · have hs8 : Below D.heap.size D (D.alloc (.cells #[.string ⟨k.toArray⟩, .int .i64 1, .int .i64 nv, .string ⟨#[]⟩] 27)) := (Below.refl _ _).alloc (Nat.le_refl _) _
              have hbq8 := FBox.new D (⟨k, 1, nv, ([] : List UInt8)⟩ : Fld.F)
              go_simp
              try simp only [List.toArray_nil] at hbq8
              have hb8 := hs8
              generalize D.alloc (.cells #[.string ⟨k.toArray⟩, .int .i64 1, .int .i64 nv, .string ⟨#[]⟩] 27) = W8 at *
              refine hK.out _ _ (by exact ⟨(hbxD.below hb8).cell.1, (hbzD.below hb8).cell⟩) (fun hHeld => ?_)
              clear hK KK
              simp only [List.setIfInBounds_toArray, List.set_cons_zero, List.set_cons_succ]
              refine wpAnyH_ready (rs := [5]) (by kernel_rfl) (by simp) ?_
              refine AllReadyH.cons (o := { dst := some 68, op := _, type := _, pos := _, after := _, guard := _ }) rfl (fun KK hK => ?_) ?_
              · obtain ⟨c9, V9, hc9, hrun9, hby9, hs9⟩ := run_bytes_of T W8
                go_simp
                have hb9 := hb8.trans (hs9.mono hb8.size)
                have hbq9x := hbq8.below hs9
                refine hK.out _ _ (by exact ⟨(hbxD.below hb9).cell.1, (hbzD.below hb9).cell⟩) (fun hHeld => ?_)
                clear hK KK
                simp only [List.setIfInBounds_toArray, List.set_cons_zero, List.set_cons_succ]
                refine wpAnyH_ready (rs := [6]) (by kernel_rfl) (by simp) ?_
                refine AllReadyH.cons (o := { dst := some 69, op := _, type := _, pos := _, after := _, guard := _ }) rfl (fun KK hK => ?_) ?_
                · go_simp
                  refine (CR.out _ _ V9 hc9 (by exact hby9) (HV.out _ (hbelD.trans (hb9.mono hbelD.size)))).mono ?_
                  rintro e V10 ⟨A10, c10, rfl, ho10, hs10⟩
                  go_wp2_with fail
                  have hb10 := hb9.trans (hs10.mono hb9.size)
                  have hbq10x := hbq9x.below hs10
                  refine hK.out _ _ (by exact ⟨(hbxD.below hb10).cell.1, (hbzD.below hb10).cell⟩) (fun hHeld => ?_)
                  clear hK KK
                  simp only [List.setIfInBounds_toArray, List.set_cons_zero, List.set_cons_succ]
                  refine wpAnyH_ready (rs := [9]) (by kernel_rfl) (by simp) ?_
                  refine AllReadyH.cons (o := { dst := some 72, op := _, type := _, pos := _, after := _, guard := _ }) rfl (fun KK hK => ?_) ?_
                  · go_simp
                    refine (sameFields_any A10 1 c10 [(⟨k, 1, nv, ([] : List UInt8)⟩ : Fld.F)] (some ⟨D.heap.size, 0, none⟩) 1 1 [(⟨k, 1, nv, ([] : List UInt8)⟩ : Fld.F)] V10 rfl rfl (by omega) (by omega) (by exact ho10.flds) (flds_one (by exact hbq10x))).mono ?_
                    rintro e V11 ⟨rfl, hd11⟩
                    have hs11 := hd11.below V10.heap.size
                    rw [decide_eq_true rfl]
                    go_wp2_with fail
                    have hb11 := hb10.trans (hs11.mono hb10.size)
                    refine hK.out _ _ (by exact ⟨(hbxD.below hb11).cell.1, (hbzD.below hb11).cell⟩) (fun hHeld => ?_)
                    clear hK KK
                    simp only [List.setIfInBounds_toArray, List.set_cons_zero, List.set_cons_succ]
                    refine wpAnyH_take (i := 10) (oi := { dst := some 2, op := _, type := _, pos := _, after := _, guard := _ }) (v := (.bool true)) rfl (by kernel_rfl) (by kernel_rfl) (by kernel_rfl) (fun _ _ _ h => h) (Or.inl ⟨by rfl, fun _ _ => rfl⟩) (by assumption) ?_
                    simp only [Act.put, List.setIfInBounds_toArray, List.set_cons_zero, List.set_cons_succ]
                    refine wpAnyH_done (by kernel_rfl) ?_ _
                    go_wp2
                    go_ret
                    exact ⟨rfl, hbelD.trans (hb11.mono hbelD.size)⟩
                  exact AllReadyH.nil
                exact AllReadyH.nil
              exact AllReadyH.nil
            exact AllReadyH.nil
            -- END
    · have t64 : (64 : Int) < (s.length : Int) := by omega
      have d64 : decide ((64 : Int) < (s.length : Int)) = true := decide_eq_true t64
      go_wp2_with fail
      refine (C3.out _).mono ?_
      rintro e w4 ⟨rfl, rfl⟩
      go_wp2
      go_ret
      exact ⟨rfl, hbel3⟩

/-- from the walk to the post of the row -/
theorem contract (H : Type) (enc : TypeId × Value → H) (W : World) (base : Nat) (args : Array Value) (ds gs : List (DataW H)) (before : List MemPlace)
    (hval : ∀ (j : Nat) t v, Tryd.f6.params[j]? = some t → args[j]? = some v → Value.okWide Tryd.prog W .any base t v)
    (hW : DataW.Whole enc Tryd.prog Tryd.f6.params.toList Rows.fieldBackSpec.vars false W args.toList ds gs before) (hL : laidMetH Tryd.prog Rows.fieldBackRow.laid W)
    (hsz0 : (DataW.weightsEach Tryd.prog (Tryd.f6.params.toList ++ Rows.fieldBackSpec.plain.varTypes Tryd.prog) (ds ++ gs)).all (· ≤ reachBytes) = true) :
    Calls Tryd.prog 6 args W fun e W' => ∃ v, e = .returned v ∧ Rows.fieldBackSpec.post enc Tryd.prog Tryd.f6 false true false false W args v W' := by
  have hW' := hW
  obtain ⟨p, q, hA0, hV, rfl, hfz, hnd⟩ := hW
  have hA : DataW.TrodAll enc Tryd.prog W 0 (fun _ => true) true Tryd.f6.params.toList args.toList ds p := hA0
  rw [Tryd.params6] at hA hval hsz0
  obtain ⟨v0, vs0, d0, ds0, p0, q0, hargs, rfl, rfl, h0, r0⟩ := trodAll_cons hA
  obtain ⟨rfl, rfl, rfl⟩ := trodAll_nil r0
  obtain rfl : args = #[v0] := by cases args; simp_all
  obtain ⟨rfl, rfl⟩ := trodVars_none hV
  obtain ⟨f0, rfl, rfl, rfl, in0⟩ := open_field (hval 0 27 v0 rfl rfl) h0
  have reach0 := reach_field hsz0 (j := 0) (f := f0) rfl rfl
  clear hA0
  refine (walk f0 W in0 reach0.1 reach0.2 (vars hL)).mono fun e W' ⟨he, bel⟩ => ?_
  subst he
  exact ⟨_, rfl, _, _, _, [], _, [], hW', trodAll_mk1 (shut_bool Tryd.underlying4 _), (trodAll_cons_mk (shut_field in0) trodAll_mk0), rfl, bel.frame _, fun h => by cases h⟩

theorem laid_met (os : Os) : laidMet Tryd.prog Rows.fieldBackRow.laid ((laidWorld os).forCall (fun _ _ => 0) ⟨#[], #[.agg #[.string ⟨#[]⟩, .int .i64 0, .int .i64 0, .string ⟨#[]⟩]], []⟩).memory :=
  laidMet_of_run' 8 (by kernel_rfl) (by kernel_rfl)
theorem reads (os : Os) {H : Type} (enc : TypeId × Value → H) : ∃ places, DataW.whole enc Tryd.prog ((laidWorld os).forCall (fun _ _ => 0) ⟨#[], #[.agg #[.string ⟨#[]⟩, .int .i64 0, .int .i64 0, .string ⟨#[]⟩]], []⟩).memory Tryd.f6.params.toList Rows.fieldBackSpec.vars false #[Value.agg #[.string ⟨#[]⟩, .int .i64 0, .int .i64 0, .string ⟨#[]⟩]].toList 8 = some ([.agg [.lit (.string []), .lit (.int .i64 0), .lit (.int .i64 0), .lit (.string [])]], [], places) :=
  ⟨[], by kernel_rfl⟩

set_option maxRecDepth 100000 in
theorem lifted (os : Os) (started : os.Started) (H : Type) (enc : TypeId × Value → H) (F : Stop.Interp) :
    ReturnsInHanded {} Tryd.checked os 6 .any ((OpenSpec.ofChange Rows.fieldBackSpec).preRow enc Tryd.prog Tryd.f6 Rows.fieldBackRow.domain false Rows.fieldBackRow.laid) (((OpenSpec.ofChange Rows.fieldBackSpec).at F).post enc Tryd.prog Tryd.f6 false true false false) := by
  obtain ⟨places, hx⟩ := reads os enc
  refine returnsInHanded_of_row (C := Tryd.checked) (s := OpenSpec.ofChange Rows.fieldBackSpec) own started (by kernel_rfl) Tryd.func6
    (witness_row_at (enc := enc) (C := Tryd.checked) false (laidWorld os) #[.agg #[.string ⟨#[]⟩, .int .i64 0, .int .i64 0, .string ⟨#[]⟩]] rfl (by kernel_rfl) (by kernel_rfl) (by kernel_rfl)
      (OpenSpec.preRow_of_cond 8 hx (by kernel_rfl) (fun k hk => by cases hk) (by kernel_rfl) (laid_met os))) ?_
  intro W base args ds gs before hval hW _ _ hsz hL _ _
  exact contract H enc W base args ds gs before hval hW hL hsz

theorem said : Rows.FieldBackSaid :=
  OpenClaim.holds_of_cond 6 Tryd.f6 rfl rfl rfl rfl rfl rfl rfl ⟨rfl, rfl, rfl, rfl, rfl⟩ rfl rfl rfl rfl rfl (by kernel_rfl) Tryd.func6 (by kernel_rfl)
    (of_decide_eq_true (by kernel_rfl)) (by unfold Func.isWrapper; first | (rw [if_pos (by decide +kernel)]; kernel_rfl) | (rw [if_neg (by decide +kernel)]; exact ⟨rfl, rfl⟩))
    (fun os started H enc _ F => by rw [OpenClaim.pre_eq_preRow]; exact lifted os started H enc F)

theorem plain (f : FuncId) (fn : Func) (hf : Tryd.pinned.checked.prog.funcNamed "dragnet/dragnetlaw08.FieldBack" = some f) (hfn : Tryd.pinned.checked.prog.funcs[f]? = some fn) :
    true = Tryd.pinned.checked.prog.looks [] ∧ ∀ (j : Nat) t, fn.params[j]? = some t → Tryd.pinned.checked.prog.wantsStandIn t = false := by
  obtain rfl : f = 6 := Option.some.inj ((show Tryd.prog.funcNamed "dragnet/dragnetlaw08.FieldBack" = some 6 by kernel_rfl).symm.trans hf) |>.symm
  obtain rfl : fn = Tryd.f6 := (Option.some.inj (Tryd.func6.symm.trans hfn)).symm
  refine ⟨by kernel_rfl, fun j t ht => ?_⟩
  rw [Tryd.params6] at ht
  obtain rfl : t = 27 := by simpa using Array.mem_of_getElem? ht
  exact (show Tryd.prog.wantsStandIn 27 = false by kernel_rfl)

/-- THE CARD -/
theorem card : Rows.FieldBackCardSaid :=
  Claim7.holds_tied_plain_at .later [] _ _ _ _ said (fun _ h => by cases h) (by kernel_rfl) (fun _ h => by cases h) fieldBack_row_tie rfl ⟨rfl, rfl⟩ (by kernel_rfl) rfl plain (by kernel_rfl)
end Go.Proofs.YtbjoboemhdcalaaDoor.fieldBack
