/- The document's One: the field of a word. -/
import Derived.Test.YtbjoboemhdcalaaDoorFldRefN
import Derived.Test.YtbjoboemhdcalaaDoorFldOf
import Derived.Deep.RegionHeld3
namespace Go.Proofs.YtbjoboemhdcalaaDoor
open Go.RowKit
set_option maxRecDepth 100000

theorem run_head (s : List UInt8) (k : Nat) (hk : k ≤ s.length) (W : World) :
    (Instr.slice 9 (.string ⟨s.toArray⟩) none (some (.int .i64 (k : Int))) none).run Tryd.prog W = .ok (.string ⟨(s.take k).toArray⟩) W := by
  have hsz : (⟨s.toArray⟩ : ByteArray).size = s.length := by rw [ByteArray.size, List.size_toArray]
  rw [run_slice_string_to_if (P := Tryd.prog) (w := W) 9 ⟨s.toArray⟩ .i64 (k : Int) Tryd.underlying9]
  rw [if_pos (by rw [hsz]; omega)]
  congr 2
  apply ByteArray.ext
  simp [ByteArray.data_extract]
theorem run_rest (s : List UInt8) (k : Nat) (hk : k ≤ s.length) (W : World) :
    (Instr.slice 9 (.string ⟨s.toArray⟩) (some (.int .i64 (k : Int))) none none).run Tryd.prog W = .ok (.string ⟨(s.drop k).toArray⟩) W := by
  have hsz : (⟨s.toArray⟩ : ByteArray).size = s.length := by rw [ByteArray.size, List.size_toArray]
  rw [run_slice_string_from_if (P := Tryd.prog) (w := W) 9 ⟨s.toArray⟩ .i64 (k : Int) Tryd.underlying9]
  rw [if_pos (by rw [hsz]; omega)]
  congr 2
  apply ByteArray.ext
  simp [ByteArray.data_extract, ByteArray.size]
  exact List.take_of_length_le (by simp)

theorem i64_in_of (x : Int) (h0 : 0 ≤ x) (h1 : x ≤ 140737488355328) : IntKind.i64.wrap (x + 1) = x + 1 := by
  unfold IntKind.wrap; simp [IntKind.bits, IntKind.signed]; omega
theorem turned {f : FuncId} {args : Array Value} {w : World} {x : Ending} (h : Calls Tryd.prog f args w fun e w' => e = x ∧ w = w') : Calls Tryd.prog f args w fun e w' => e = x ∧ w' = w := h.mono fun _ _ ⟨he, hw⟩ => ⟨he, hw.symm⟩
theorem FBox.other {W : World} {g g' : Nat} {f : Fld.F} (h : FBox W g f) (hne : g ≠ g') (i : Nat) (v : Value) : FBox (W.setCell ⟨g', i, none⟩ v) g f := (Below.heap_setCell W ⟨g', i, none⟩ v g hne).trans h
theorem FBox.drew {W : World} {g : Nat} {f : Fld.F} (h : FBox W g f) : FBox W.drew g f := h
/-- What One answers: the field, if there is one; else any. -/
def OnePost (l : List UInt8) (w : World) (e : Ending) (w' : World) : Prop :=
  ∃ f, e = .returned (.tuple #[fval f, .bool (Fld.one l).isSome]) ∧ (∀ g, Fld.one l = some g → f = g) ∧ Below w.heap.size w w'
theorem Fld.eqAt_found : ∀ (l : List UInt8) (k : Nat), k ≤ Fld.eqAt l → (h : k < l.length) → l[k].toNat = 61 → Fld.eqAt l = k
  | [], k, _, h, _ => by cases h
  | c :: r, 0, _, _, h => by simp only [List.getElem_cons_zero] at h; rw [Fld.eqAt, if_pos h]
  | c :: r, k + 1, hk, h, h1 => by
    simp only [List.getElem_cons_succ] at h1
    unfold Fld.eqAt at hk ⊢
    split at hk
    · omega
    · rename_i hc
      rw [if_neg hc, Fld.eqAt_found r k (by omega) (by simpa using h) h1]
theorem Fld.eqAt_next : ∀ (l : List UInt8) (k : Nat), k ≤ Fld.eqAt l → (h : k < l.length) → ¬ l[k].toNat = 61 → k + 1 ≤ Fld.eqAt l
  | [], k, _, h, _ => by cases h
  | c :: r, 0, _, _, h => by simp only [List.getElem_cons_zero] at h; rw [Fld.eqAt, if_neg h]; omega
  | c :: r, k + 1, hk, h, h1 => by
    simp only [List.getElem_cons_succ] at h1
    unfold Fld.eqAt at hk ⊢
    split at hk
    · omega
    · rename_i hc
      rw [if_neg hc]
      have := Fld.eqAt_next r k (by omega) (by simpa using h) h1
      omega

set_option maxHeartbeats 4000000 in
theorem one_any (l : List UInt8) (w : World) (hl : l.length ≤ 140737488355328) :
    Calls Tryd.prog 34 #[.string ⟨l.toArray⟩] w (OnePost l w) := by
  go_enter Tryd.func34, Tryd.ntmps34
  go_wp2
  go_loop [4] (fun i => ∃ (k : Nat), k ≤ l.length ∧ i = .int .i64 k ∧ k ≤ Fld.eqAt l) (fun i => l.length - (intOf i).toNat)
  case atStart => exact ⟨0, by omega, rfl, by omega⟩
  case round =>
    obtain ⟨k, hk, rfl, hat⟩ := hrel
    by_cases hlt : k < l.length
    · have he := letter_eq l k hlt
      have Hf := Lib.hid (fun h => Fld.eqAt_found l k hat hlt h)
      have Hn := Lib.hid (fun h => Fld.eqAt_next l k hat hlt h)
      by_cases h61 : l[k].toNat = 61
      · have hE := Hf.out h61
        have h61' : ((l[k].toNat : Int) == 61) = true := by rw [h61]; rfl
        have h61'' : (l[k].toNat : Int) = 61 := by omega
        have hs1 := run_head l k hk
        have hs2 := run_rest l (k + 1) (by omega)
        rw [show (((k + 1 : Nat)) : Int) = (k : Int) + 1 from by omega] at hs2
        have hkl : (l.take k).length ≤ 140737488355328 := by rw [List.length_take]; omega
        have hvl : (l.drop (k + 1)).length ≤ 140737488355328 := by rw [List.length_drop]; omega
        have HO := Lib.hid (show Fld.one l = if Fld.isKey (l.take k) = true ∧ (l.drop (k + 1)).length ≤ 64 then some (Fld.mk (l.take k) (l.drop (k + 1))) else none by
          unfold Fld.one
          rw [hE]
          by_cases h : Fld.isKey (l.take k) = true ∧ (l.drop (k + 1)).length ≤ 64
          · rw [if_pos h, if_pos ⟨hlt, h⟩]
          · rw [if_neg h, if_neg (fun x => h x.2)])
        have HM := Lib.hid (show Fld.mk (l.take k) (l.drop (k + 1)) = match Fld.num (l.drop (k + 1)) with | some n => ⟨l.take k, 1, n, []⟩ | none => ⟨l.take k, 2, 0, l.drop (k + 1)⟩ from rfl)
        have HN := Lib.hid (fun W => refNumber_any (l.drop (k + 1)) W hvl)
        have HK := Lib.hid (fun W => refIsKey_any (l.take k) W hkl)
        clear Hf Hn hat h61 hE
        generalize l[k] = d at *
        generalize l.take k = K at *
        generalize l.drop (k + 1) = V at *
        have hw1 := i64_in_of (k : Int) (by omega) (by omega)
        have hbel2 : Below w.heap.size w (((w.alloc (.cells #[.string ⟨#[]⟩, .int .i64 0, .int .i64 0, .string ⟨#[]⟩] 27)).alloc (.cells #[.string ⟨K.toArray⟩, .int .i64 2, .int .i64 0, .string ⟨V.toArray⟩] 27)).drew) := (((Below.refl _ w).alloc (Nat.le_refl _) _).alloc (by simp) _).drew
        have hbz : FBox (((w.alloc (.cells #[.string ⟨#[]⟩, .int .i64 0, .int .i64 0, .string ⟨#[]⟩] 27)).alloc (.cells #[.string ⟨K.toArray⟩, .int .i64 2, .int .i64 0, .string ⟨V.toArray⟩] 27)).drew) w.heap.size Fld.zero := (FBox.new w Fld.zero).below (((Below.refl _ _).alloc (Nat.le_refl _) _).drew)
        have hbf : FBox (((w.alloc (.cells #[.string ⟨#[]⟩, .int .i64 0, .int .i64 0, .string ⟨#[]⟩] 27)).alloc (.cells #[.string ⟨K.toArray⟩, .int .i64 2, .int .i64 0, .string ⟨V.toArray⟩] 27)).drew) (w.heap.size + 1) ⟨K, 2, 0, V⟩ := by
          have := FBox.new (w.alloc (.cells #[.string ⟨#[]⟩, .int .i64 0, .int .i64 0, .string ⟨#[]⟩] 27)) ⟨K, 2, 0, V⟩
          rw [World.size_alloc] at this
          exact this
        go_wp2
        go_region
        generalize ((w.alloc (.cells #[.string ⟨#[]⟩, .int .i64 0, .int .i64 0, .string ⟨#[]⟩] 27)).alloc (.cells #[.string ⟨K.toArray⟩, .int .i64 2, .int .i64 0, .string ⟨V.toArray⟩] 27)).drew = W2 at *
        obtain ⟨z0, z1, z2, z3⟩ := hbz.cell
        obtain ⟨k0, k1, k2, k3⟩ := hbf.cell
        have f0 := hbf.free 0
        have f1 := hbf.free 1
        have f2 := hbf.free 2
        have f3 := hbf.free 3
        have y0 := hbz.free 0
        have y1 := hbz.free 1
        have y2 := hbz.free 2
        have y3 := hbz.free 3
        simp only [Fld.zero] at z0 z1 z2 z3
        clear hs2 hw1
        rcases hnum : Fld.num V with _ | v
        · rw [hnum] at HN HM
          simp only [Option.getD_none, Option.isSome_none] at HN
          clear hnum
          go_wp2_with fail
          refine (HN.out _).mono ?_
          rintro e w3 ⟨rfl, rfl⟩
          go_wp2
          clear hs1 HN k0 k1 k2 k3 f0 f1 f2 f3
          have hbf9 : FBox W2 (w.heap.size + 1) ⟨K, 2, 0, V⟩ := hbf
          have hbz9 : FBox W2 w.heap.size Fld.zero := hbz
          have hbel9 := hbel2
          clear hbf hbz hbel2
          generalize W2 = W9 at *
          have hbo9 := Lib.hid (fun a b c d => (((hbf9.other (g' := w.heap.size) (by omega) 0 a).other (g' := w.heap.size) (by omega) 1 b).other (g' := w.heap.size) (by omega) 2 c).other (g' := w.heap.size) (by omega) 3 d)
          rcases hk9 : Fld.isKey K with _ | _
          · rw [hk9] at HK
            have HO9 := Lib.hid (show Fld.one l = none by rw [HO.out, if_neg (by rw [hk9]; simp)])
            clear hk9 HO
            -- WALK 1
            refine wp_region_held_drew (S := fun W => W.cell? ⟨w.heap.size + 1, 0, none⟩ = some (.string ⟨K.toArray⟩) ∧ W.cell? ⟨w.heap.size + 1, 1, none⟩ = some (.int .i64 2) ∧ W.cell? ⟨w.heap.size + 1, 2, none⟩ = some (.int .i64 0) ∧ W.cell? ⟨w.heap.size + 1, 3, none⟩ = some (.string ⟨V.toArray⟩)) (by kernel_rfl) (by exact hbf9.drew.cell) (fun hHeld => ?_)
            change wpAnyH _ _ _ _ _ 12 #[false, false, false, false, false, false, false, false, false, false, false, false] _ _
            refine wpAnyH_take (i := 0) (oi := { dst := some 38, op := _, type := _, pos := _, after := _, guard := _ }) (v := (.agg #[.string ⟨K.toArray⟩, .int .i64 2, .int .i64 0, .string ⟨V.toArray⟩])) rfl (by kernel_rfl) (by kernel_rfl) (by kernel_rfl) (fun _ _ _ h => h) (Or.inl ⟨by rfl, by intro w hSw; (try dsimp only at hSw); go_simp⟩) (by assumption) ?_
            simp only [Act.put, List.setIfInBounds_toArray, List.set_cons_zero, List.set_cons_succ]
            refine wpAnyH_take (i := 1) (oi := { dst := some 39, op := _, type := _, pos := _, after := _, guard := _ }) (v := (.pointer (some ⟨w.heap.size + 1, 0, none⟩))) rfl (by kernel_rfl) (by kernel_rfl) (by kernel_rfl) (fun _ _ _ h => h) (Or.inl ⟨by rfl, fun _ _ => rfl⟩) (by assumption) ?_
            simp only [Act.put, List.setIfInBounds_toArray, List.set_cons_zero, List.set_cons_succ]
            refine wpAnyH_take (i := 2) (oi := { dst := some 40, op := _, type := _, pos := _, after := _, guard := _ }) (v := (.string ⟨K.toArray⟩)) rfl (by kernel_rfl) (by kernel_rfl) (by kernel_rfl) (fun _ _ _ h => h) (Or.inl ⟨by rfl, by intro w hSw; (try dsimp only at hSw); go_simp⟩) (by assumption) ?_
            simp only [Act.put, List.setIfInBounds_toArray, List.set_cons_zero, List.set_cons_succ]
            refine wpAnyH_ready (rs := [3]) (by kernel_rfl) (by simp) ?_
            refine AllReadyH.cons (o := { dst := some 41, op := _, type := _, pos := _, after := _, guard := _ }) rfl (fun KK hK => ?_) AllReadyH.nil
            go_simp
            refine (HK.out _).mono ?_
            rintro e w5 ⟨rfl, rfl⟩
            go_wp2_with fail
            refine hK.out _ _ (by exact hbf9.drew.cell) (fun hHeld => ?_)
            clear hK KK
            simp only [List.setIfInBounds_toArray, List.set_cons_zero, List.set_cons_succ]
            refine wpAnyH_take (i := 4) (oi := { dst := some 42, op := _, type := _, pos := _, after := _, guard := _ }) (v := (.bool false)) rfl (by kernel_rfl) (by kernel_rfl) (by kernel_rfl) (fun _ _ _ h => h) (Or.inl ⟨by rfl, fun _ _ => rfl⟩) (by assumption) ?_
            simp only [Act.put, List.setIfInBounds_toArray, List.set_cons_zero, List.set_cons_succ]
            refine wpAnyH_take (i := 5) (oi := { dst := some 43, op := _, type := _, pos := _, after := _, guard := _ }) (v := undef) rfl (by kernel_rfl) (by kernel_rfl) (by kernel_rfl) (fun _ _ _ h => h) (Or.inr ⟨by rfl, rfl⟩) (by assumption) ?_
            simp only [Act.put, List.setIfInBounds_toArray, List.set_cons_zero, List.set_cons_succ]
            refine wpAnyH_take (i := 6) (oi := { dst := some 44, op := _, type := _, pos := _, after := _, guard := _ }) (v := undef) rfl (by kernel_rfl) (by kernel_rfl) (by kernel_rfl) (fun _ _ _ h => h) (Or.inr ⟨by rfl, rfl⟩) (by assumption) ?_
            simp only [Act.put, List.setIfInBounds_toArray, List.set_cons_zero, List.set_cons_succ]
            refine wpAnyH_take (i := 7) (oi := { dst := some 45, op := _, type := _, pos := _, after := _, guard := _ }) (v := undef) rfl (by kernel_rfl) (by kernel_rfl) (by kernel_rfl) (fun _ _ _ h => h) (Or.inr ⟨by rfl, rfl⟩) (by assumption) ?_
            simp only [Act.put, List.setIfInBounds_toArray, List.set_cons_zero, List.set_cons_succ]
            refine wpAnyH_take (i := 8) (oi := { dst := some 46, op := _, type := _, pos := _, after := _, guard := _ }) (v := undef) rfl (by kernel_rfl) (by kernel_rfl) (by kernel_rfl) (fun _ _ _ h => h) (Or.inr ⟨by rfl, rfl⟩) (by assumption) ?_
            simp only [Act.put, List.setIfInBounds_toArray, List.set_cons_zero, List.set_cons_succ]
            refine wpAnyH_take (i := 9) (oi := { dst := some 47, op := _, type := _, pos := _, after := _, guard := _ }) (v := (.bool false)) rfl (by kernel_rfl) (by kernel_rfl) (by kernel_rfl) (fun _ _ _ h => h) (Or.inl ⟨by rfl, fun _ _ => rfl⟩) (by assumption) ?_
            simp only [Act.put, List.setIfInBounds_toArray, List.set_cons_zero, List.set_cons_succ]
            refine wpAnyH_ready (rs := [10]) (by kernel_rfl) (by simp) ?_
            refine AllReadyH.cons (o := { dst := none, op := _, type := _, pos := _, after := _, guard := _ }) rfl (fun KK hK => ?_) AllReadyH.nil
            go_simp
            refine hK.out _ _ (by exact (hbo9.out _ _ _ _).drew.cell) (fun hHeld => ?_)
            clear hK KK
            simp only [List.setIfInBounds_toArray, List.set_cons_zero, List.set_cons_succ]
            refine wpAnyH_take (i := 11) (oi := { dst := some 3, op := _, type := _, pos := _, after := _, guard := _ }) (v := (.bool false)) rfl (by kernel_rfl) (by kernel_rfl) (by kernel_rfl) (fun _ _ _ h => h) (Or.inl ⟨by rfl, fun _ _ => rfl⟩) (by assumption) ?_
            simp only [Act.put, List.setIfInBounds_toArray, List.set_cons_zero, List.set_cons_succ]
            refine wpAnyH_done (by kernel_rfl) ?_ _
            go_wp2
            refine bodyPost_ret ((hbz9.set ⟨K, 2, 0, V⟩).drew.results rfl rfl) rfl ?_
            exact ⟨⟨K, 2, 0, V⟩, by rw [HO9.out]; rfl, (fun g hg => by rw [HO9.out] at hg; cases hg), (below_set hbel9 (Nat.le_refl _) _ _ _ _).drew⟩
            -- END
          · rw [hk9] at HK
            by_cases h64 : V.length ≤ 64
            · have HO9 := Lib.hid (show Fld.one l = some ⟨K, 2, 0, V⟩ by rw [HO.out, if_pos ⟨hk9, h64⟩, HM.out])
              have t64 : (V.length : Int) ≤ 64 := by omega
              clear hk9 HO
              -- WALK 2
              refine wp_region_held_drew (S := fun W => W.cell? ⟨w.heap.size + 1, 0, none⟩ = some (.string ⟨K.toArray⟩) ∧ W.cell? ⟨w.heap.size + 1, 1, none⟩ = some (.int .i64 2) ∧ W.cell? ⟨w.heap.size + 1, 2, none⟩ = some (.int .i64 0) ∧ W.cell? ⟨w.heap.size + 1, 3, none⟩ = some (.string ⟨V.toArray⟩)) (by kernel_rfl) (by exact hbf9.drew.cell) (fun hHeld => ?_)
              change wpAnyH _ _ _ _ _ 12 #[false, false, false, false, false, false, false, false, false, false, false, false] _ _
              refine wpAnyH_take (i := 0) (oi := { dst := some 38, op := _, type := _, pos := _, after := _, guard := _ }) (v := (.agg #[.string ⟨K.toArray⟩, .int .i64 2, .int .i64 0, .string ⟨V.toArray⟩])) rfl (by kernel_rfl) (by kernel_rfl) (by kernel_rfl) (fun _ _ _ h => h) (Or.inl ⟨by rfl, by intro w hSw; (try dsimp only at hSw); go_simp⟩) (by assumption) ?_
              simp only [Act.put, List.setIfInBounds_toArray, List.set_cons_zero, List.set_cons_succ]
              refine wpAnyH_take (i := 1) (oi := { dst := some 39, op := _, type := _, pos := _, after := _, guard := _ }) (v := (.pointer (some ⟨w.heap.size + 1, 0, none⟩))) rfl (by kernel_rfl) (by kernel_rfl) (by kernel_rfl) (fun _ _ _ h => h) (Or.inl ⟨by rfl, fun _ _ => rfl⟩) (by assumption) ?_
              simp only [Act.put, List.setIfInBounds_toArray, List.set_cons_zero, List.set_cons_succ]
              refine wpAnyH_take (i := 2) (oi := { dst := some 40, op := _, type := _, pos := _, after := _, guard := _ }) (v := (.string ⟨K.toArray⟩)) rfl (by kernel_rfl) (by kernel_rfl) (by kernel_rfl) (fun _ _ _ h => h) (Or.inl ⟨by rfl, by intro w hSw; (try dsimp only at hSw); go_simp⟩) (by assumption) ?_
              simp only [Act.put, List.setIfInBounds_toArray, List.set_cons_zero, List.set_cons_succ]
              refine wpAnyH_ready (rs := [3]) (by kernel_rfl) (by simp) ?_
              refine AllReadyH.cons (o := { dst := some 41, op := _, type := _, pos := _, after := _, guard := _ }) rfl (fun KK hK => ?_) AllReadyH.nil
              go_simp
              refine (HK.out _).mono ?_
              rintro e w5 ⟨rfl, rfl⟩
              go_wp2_with fail
              refine hK.out _ _ (by exact hbf9.drew.cell) (fun hHeld => ?_)
              clear hK KK
              simp only [List.setIfInBounds_toArray, List.set_cons_zero, List.set_cons_succ]
              refine wpAnyH_take (i := 4) (oi := { dst := some 42, op := _, type := _, pos := _, after := _, guard := _ }) (v := (.bool true)) rfl (by kernel_rfl) (by kernel_rfl) (by kernel_rfl) (fun _ _ _ h => h) (Or.inl ⟨by rfl, fun _ _ => rfl⟩) (by assumption) ?_
              simp only [Act.put, List.setIfInBounds_toArray, List.set_cons_zero, List.set_cons_succ]
              refine wpAnyH_take (i := 5) (oi := { dst := some 43, op := _, type := _, pos := _, after := _, guard := _ }) (v := (.pointer (some ⟨w.heap.size + 1, 3, none⟩))) rfl (by kernel_rfl) (by kernel_rfl) (by kernel_rfl) (fun _ _ _ h => h) (Or.inl ⟨by rfl, by intro w hSw; (try dsimp only at hSw); go_simp⟩) (by assumption) ?_
              simp only [Act.put, List.setIfInBounds_toArray, List.set_cons_zero, List.set_cons_succ]
              refine wpAnyH_take (i := 6) (oi := { dst := some 44, op := _, type := _, pos := _, after := _, guard := _ }) (v := (.string ⟨V.toArray⟩)) rfl (by kernel_rfl) (by kernel_rfl) (by kernel_rfl) (fun _ _ _ h => h) (Or.inl ⟨by rfl, by intro w hSw; (try dsimp only at hSw); go_simp⟩) (by assumption) ?_
              simp only [Act.put, List.setIfInBounds_toArray, List.set_cons_zero, List.set_cons_succ]
              refine wpAnyH_take (i := 7) (oi := { dst := some 45, op := _, type := _, pos := _, after := _, guard := _ }) (v := (.int .i64 (V.length : Int))) rfl (by kernel_rfl) (by kernel_rfl) (by kernel_rfl) (fun _ _ _ h => h) (Or.inl ⟨by rfl, by intro w hSw; (try dsimp only at hSw); go_simp⟩) (by assumption) ?_
              simp only [Act.put, List.setIfInBounds_toArray, List.set_cons_zero, List.set_cons_succ]
              refine wpAnyH_take (i := 8) (oi := { dst := some 46, op := _, type := _, pos := _, after := _, guard := _ }) (v := (.bool true)) rfl (by kernel_rfl) (by kernel_rfl) (by kernel_rfl) (fun _ _ _ h => h) (Or.inl ⟨by rfl, by intro w hSw; (try dsimp only at hSw); go_simp⟩) (by assumption) ?_
              simp only [Act.put, List.setIfInBounds_toArray, List.set_cons_zero, List.set_cons_succ]
              refine wpAnyH_take (i := 9) (oi := { dst := some 47, op := _, type := _, pos := _, after := _, guard := _ }) (v := (.bool true)) rfl (by kernel_rfl) (by kernel_rfl) (by kernel_rfl) (fun _ _ _ h => h) (Or.inl ⟨by rfl, fun _ _ => rfl⟩) (by assumption) ?_
              simp only [Act.put, List.setIfInBounds_toArray, List.set_cons_zero, List.set_cons_succ]
              refine wpAnyH_ready (rs := [10]) (by kernel_rfl) (by simp) ?_
              refine AllReadyH.cons (o := { dst := none, op := _, type := _, pos := _, after := _, guard := _ }) rfl (fun KK hK => ?_) AllReadyH.nil
              go_simp
              refine hK.out _ _ (by exact (hbo9.out _ _ _ _).drew.cell) (fun hHeld => ?_)
              clear hK KK
              simp only [List.setIfInBounds_toArray, List.set_cons_zero, List.set_cons_succ]
              refine wpAnyH_take (i := 11) (oi := { dst := some 3, op := _, type := _, pos := _, after := _, guard := _ }) (v := (.bool true)) rfl (by kernel_rfl) (by kernel_rfl) (by kernel_rfl) (fun _ _ _ h => h) (Or.inl ⟨by rfl, fun _ _ => rfl⟩) (by assumption) ?_
              simp only [Act.put, List.setIfInBounds_toArray, List.set_cons_zero, List.set_cons_succ]
              refine wpAnyH_done (by kernel_rfl) ?_ _
              go_wp2
              refine bodyPost_ret ((hbz9.set ⟨K, 2, 0, V⟩).drew.results rfl rfl) rfl ?_
              exact ⟨⟨K, 2, 0, V⟩, by rw [HO9.out]; rfl, (fun g hg => by rw [HO9.out] at hg; cases hg; rfl), (below_set hbel9 (Nat.le_refl _) _ _ _ _).drew⟩
              -- END
            · have HO9 := Lib.hid (show Fld.one l = none by rw [HO.out, if_neg (fun x => h64 x.2)])
              have t64 : ¬ (V.length : Int) ≤ 64 := by omega
              clear hk9 HO
              -- WALK 3
              refine wp_region_held_drew (S := fun W => W.cell? ⟨w.heap.size + 1, 0, none⟩ = some (.string ⟨K.toArray⟩) ∧ W.cell? ⟨w.heap.size + 1, 1, none⟩ = some (.int .i64 2) ∧ W.cell? ⟨w.heap.size + 1, 2, none⟩ = some (.int .i64 0) ∧ W.cell? ⟨w.heap.size + 1, 3, none⟩ = some (.string ⟨V.toArray⟩)) (by kernel_rfl) (by exact hbf9.drew.cell) (fun hHeld => ?_)
              change wpAnyH _ _ _ _ _ 12 #[false, false, false, false, false, false, false, false, false, false, false, false] _ _
              refine wpAnyH_take (i := 0) (oi := { dst := some 38, op := _, type := _, pos := _, after := _, guard := _ }) (v := (.agg #[.string ⟨K.toArray⟩, .int .i64 2, .int .i64 0, .string ⟨V.toArray⟩])) rfl (by kernel_rfl) (by kernel_rfl) (by kernel_rfl) (fun _ _ _ h => h) (Or.inl ⟨by rfl, by intro w hSw; (try dsimp only at hSw); go_simp⟩) (by assumption) ?_
              simp only [Act.put, List.setIfInBounds_toArray, List.set_cons_zero, List.set_cons_succ]
              refine wpAnyH_take (i := 1) (oi := { dst := some 39, op := _, type := _, pos := _, after := _, guard := _ }) (v := (.pointer (some ⟨w.heap.size + 1, 0, none⟩))) rfl (by kernel_rfl) (by kernel_rfl) (by kernel_rfl) (fun _ _ _ h => h) (Or.inl ⟨by rfl, fun _ _ => rfl⟩) (by assumption) ?_
              simp only [Act.put, List.setIfInBounds_toArray, List.set_cons_zero, List.set_cons_succ]
              refine wpAnyH_take (i := 2) (oi := { dst := some 40, op := _, type := _, pos := _, after := _, guard := _ }) (v := (.string ⟨K.toArray⟩)) rfl (by kernel_rfl) (by kernel_rfl) (by kernel_rfl) (fun _ _ _ h => h) (Or.inl ⟨by rfl, by intro w hSw; (try dsimp only at hSw); go_simp⟩) (by assumption) ?_
              simp only [Act.put, List.setIfInBounds_toArray, List.set_cons_zero, List.set_cons_succ]
              refine wpAnyH_ready (rs := [3]) (by kernel_rfl) (by simp) ?_
              refine AllReadyH.cons (o := { dst := some 41, op := _, type := _, pos := _, after := _, guard := _ }) rfl (fun KK hK => ?_) AllReadyH.nil
              go_simp
              refine (HK.out _).mono ?_
              rintro e w5 ⟨rfl, rfl⟩
              go_wp2_with fail
              refine hK.out _ _ (by exact hbf9.drew.cell) (fun hHeld => ?_)
              clear hK KK
              simp only [List.setIfInBounds_toArray, List.set_cons_zero, List.set_cons_succ]
              refine wpAnyH_take (i := 4) (oi := { dst := some 42, op := _, type := _, pos := _, after := _, guard := _ }) (v := (.bool true)) rfl (by kernel_rfl) (by kernel_rfl) (by kernel_rfl) (fun _ _ _ h => h) (Or.inl ⟨by rfl, fun _ _ => rfl⟩) (by assumption) ?_
              simp only [Act.put, List.setIfInBounds_toArray, List.set_cons_zero, List.set_cons_succ]
              refine wpAnyH_take (i := 5) (oi := { dst := some 43, op := _, type := _, pos := _, after := _, guard := _ }) (v := (.pointer (some ⟨w.heap.size + 1, 3, none⟩))) rfl (by kernel_rfl) (by kernel_rfl) (by kernel_rfl) (fun _ _ _ h => h) (Or.inl ⟨by rfl, by intro w hSw; (try dsimp only at hSw); go_simp⟩) (by assumption) ?_
              simp only [Act.put, List.setIfInBounds_toArray, List.set_cons_zero, List.set_cons_succ]
              refine wpAnyH_take (i := 6) (oi := { dst := some 44, op := _, type := _, pos := _, after := _, guard := _ }) (v := (.string ⟨V.toArray⟩)) rfl (by kernel_rfl) (by kernel_rfl) (by kernel_rfl) (fun _ _ _ h => h) (Or.inl ⟨by rfl, by intro w hSw; (try dsimp only at hSw); go_simp⟩) (by assumption) ?_
              simp only [Act.put, List.setIfInBounds_toArray, List.set_cons_zero, List.set_cons_succ]
              refine wpAnyH_take (i := 7) (oi := { dst := some 45, op := _, type := _, pos := _, after := _, guard := _ }) (v := (.int .i64 (V.length : Int))) rfl (by kernel_rfl) (by kernel_rfl) (by kernel_rfl) (fun _ _ _ h => h) (Or.inl ⟨by rfl, by intro w hSw; (try dsimp only at hSw); go_simp⟩) (by assumption) ?_
              simp only [Act.put, List.setIfInBounds_toArray, List.set_cons_zero, List.set_cons_succ]
              refine wpAnyH_take (i := 8) (oi := { dst := some 46, op := _, type := _, pos := _, after := _, guard := _ }) (v := (.bool false)) rfl (by kernel_rfl) (by kernel_rfl) (by kernel_rfl) (fun _ _ _ h => h) (Or.inl ⟨by rfl, by intro w hSw; (try dsimp only at hSw); go_simp⟩) (by assumption) ?_
              simp only [Act.put, List.setIfInBounds_toArray, List.set_cons_zero, List.set_cons_succ]
              refine wpAnyH_take (i := 9) (oi := { dst := some 47, op := _, type := _, pos := _, after := _, guard := _ }) (v := (.bool false)) rfl (by kernel_rfl) (by kernel_rfl) (by kernel_rfl) (fun _ _ _ h => h) (Or.inl ⟨by rfl, fun _ _ => rfl⟩) (by assumption) ?_
              simp only [Act.put, List.setIfInBounds_toArray, List.set_cons_zero, List.set_cons_succ]
              refine wpAnyH_ready (rs := [10]) (by kernel_rfl) (by simp) ?_
              refine AllReadyH.cons (o := { dst := none, op := _, type := _, pos := _, after := _, guard := _ }) rfl (fun KK hK => ?_) AllReadyH.nil
              go_simp
              refine hK.out _ _ (by exact (hbo9.out _ _ _ _).drew.cell) (fun hHeld => ?_)
              clear hK KK
              simp only [List.setIfInBounds_toArray, List.set_cons_zero, List.set_cons_succ]
              refine wpAnyH_take (i := 11) (oi := { dst := some 3, op := _, type := _, pos := _, after := _, guard := _ }) (v := (.bool false)) rfl (by kernel_rfl) (by kernel_rfl) (by kernel_rfl) (fun _ _ _ h => h) (Or.inl ⟨by rfl, fun _ _ => rfl⟩) (by assumption) ?_
              simp only [Act.put, List.setIfInBounds_toArray, List.set_cons_zero, List.set_cons_succ]
              refine wpAnyH_done (by kernel_rfl) ?_ _
              go_wp2
              refine bodyPost_ret ((hbz9.set ⟨K, 2, 0, V⟩).drew.results rfl rfl) rfl ?_
              exact ⟨⟨K, 2, 0, V⟩, by rw [HO9.out]; rfl, (fun g hg => by rw [HO9.out] at hg; cases hg), (below_set hbel9 (Nat.le_refl _) _ _ _ _).drew⟩
              -- END
        · have h20 := Fld.num_short hnum
          rw [hnum] at HN HM
          simp only [Option.getD_some, Option.isSome_some] at HN
          clear hnum
          go_wp2_with fail
          refine (HN.out _).mono ?_
          rintro e w3 ⟨rfl, rfl⟩
          go_wp2
          have hbf9 : FBox (((((W2.setCell ⟨w.heap.size + 1, 0, none⟩ (.string ⟨K.toArray⟩)).setCell ⟨w.heap.size + 1, 1, none⟩ (.int .i64 1)).setCell ⟨w.heap.size + 1, 2, none⟩ (.int .i64 v)).setCell ⟨w.heap.size + 1, 3, none⟩ (.string ⟨#[]⟩))) (w.heap.size + 1) ⟨K, 1, v, []⟩ := hbf.set ⟨K, 1, v, []⟩
          have hbz9 : FBox (((((W2.setCell ⟨w.heap.size + 1, 0, none⟩ (.string ⟨K.toArray⟩)).setCell ⟨w.heap.size + 1, 1, none⟩ (.int .i64 1)).setCell ⟨w.heap.size + 1, 2, none⟩ (.int .i64 v)).setCell ⟨w.heap.size + 1, 3, none⟩ (.string ⟨#[]⟩))) w.heap.size Fld.zero := (((hbz.other (g' := w.heap.size + 1) (by omega) 0 _).other (g' := w.heap.size + 1) (by omega) 1 _).other (g' := w.heap.size + 1) (by omega) 2 _).other (g' := w.heap.size + 1) (by omega) 3 _
          have hbel9 : Below w.heap.size w ((((W2.setCell ⟨w.heap.size + 1, 0, none⟩ (.string ⟨K.toArray⟩)).setCell ⟨w.heap.size + 1, 1, none⟩ (.int .i64 1)).setCell ⟨w.heap.size + 1, 2, none⟩ (.int .i64 v)).setCell ⟨w.heap.size + 1, 3, none⟩ (.string ⟨#[]⟩)) := below_set hbel2 (by omega) _ _ _ _
          clear hs1 HN k0 k1 k2 k3 f0 f1 f2 f3 z0 z1 z2 z3 y0 y1 y2 y3 hbf hbz hbel2
          generalize (((W2.setCell ⟨w.heap.size + 1, 0, none⟩ (.string ⟨K.toArray⟩)).setCell ⟨w.heap.size + 1, 1, none⟩ (.int .i64 1)).setCell ⟨w.heap.size + 1, 2, none⟩ (.int .i64 v)).setCell ⟨w.heap.size + 1, 3, none⟩ (.string ⟨#[]⟩) = W9 at *
          obtain ⟨z0, z1, z2, z3⟩ := hbz9.cell
          have y0 := hbz9.free 0
          have y1 := hbz9.free 1
          have y2 := hbz9.free 2
          have y3 := hbz9.free 3
          simp only [Fld.zero] at z0 z1 z2 z3
          have hbo9 := Lib.hid (fun a b c d => (((hbf9.other (g' := w.heap.size) (by omega) 0 a).other (g' := w.heap.size) (by omega) 1 b).other (g' := w.heap.size) (by omega) 2 c).other (g' := w.heap.size) (by omega) 3 d)
          rcases hk9 : Fld.isKey K with _ | _
          · rw [hk9] at HK
            have HO9 := Lib.hid (show Fld.one l = none by rw [HO.out, if_neg (by rw [hk9]; simp)])
            clear hk9 HO
            -- WALK 4
            refine wp_region_held_drew (S := fun W => W.cell? ⟨w.heap.size + 1, 0, none⟩ = some (.string ⟨K.toArray⟩) ∧ W.cell? ⟨w.heap.size + 1, 1, none⟩ = some (.int .i64 1) ∧ W.cell? ⟨w.heap.size + 1, 2, none⟩ = some (.int .i64 v) ∧ W.cell? ⟨w.heap.size + 1, 3, none⟩ = some (.string ⟨([] : List UInt8).toArray⟩)) (by kernel_rfl) (by exact hbf9.drew.cell) (fun hHeld => ?_)
            change wpAnyH _ _ _ _ _ 12 #[false, false, false, false, false, false, false, false, false, false, false, false] _ _
            refine wpAnyH_take (i := 0) (oi := { dst := some 38, op := _, type := _, pos := _, after := _, guard := _ }) (v := (.agg #[.string ⟨K.toArray⟩, .int .i64 1, .int .i64 v, .string ⟨([] : List UInt8).toArray⟩])) rfl (by kernel_rfl) (by kernel_rfl) (by kernel_rfl) (fun _ _ _ h => h) (Or.inl ⟨by rfl, by intro w hSw; (try dsimp only at hSw); go_simp⟩) (by assumption) ?_
            simp only [Act.put, List.setIfInBounds_toArray, List.set_cons_zero, List.set_cons_succ]
            refine wpAnyH_take (i := 1) (oi := { dst := some 39, op := _, type := _, pos := _, after := _, guard := _ }) (v := (.pointer (some ⟨w.heap.size + 1, 0, none⟩))) rfl (by kernel_rfl) (by kernel_rfl) (by kernel_rfl) (fun _ _ _ h => h) (Or.inl ⟨by rfl, fun _ _ => rfl⟩) (by assumption) ?_
            simp only [Act.put, List.setIfInBounds_toArray, List.set_cons_zero, List.set_cons_succ]
            refine wpAnyH_take (i := 2) (oi := { dst := some 40, op := _, type := _, pos := _, after := _, guard := _ }) (v := (.string ⟨K.toArray⟩)) rfl (by kernel_rfl) (by kernel_rfl) (by kernel_rfl) (fun _ _ _ h => h) (Or.inl ⟨by rfl, by intro w hSw; (try dsimp only at hSw); go_simp⟩) (by assumption) ?_
            simp only [Act.put, List.setIfInBounds_toArray, List.set_cons_zero, List.set_cons_succ]
            refine wpAnyH_ready (rs := [3]) (by kernel_rfl) (by simp) ?_
            refine AllReadyH.cons (o := { dst := some 41, op := _, type := _, pos := _, after := _, guard := _ }) rfl (fun KK hK => ?_) AllReadyH.nil
            go_simp
            refine (HK.out _).mono ?_
            rintro e w5 ⟨rfl, rfl⟩
            go_wp2_with fail
            refine hK.out _ _ (by exact hbf9.drew.cell) (fun hHeld => ?_)
            clear hK KK
            simp only [List.setIfInBounds_toArray, List.set_cons_zero, List.set_cons_succ]
            refine wpAnyH_take (i := 4) (oi := { dst := some 42, op := _, type := _, pos := _, after := _, guard := _ }) (v := (.bool false)) rfl (by kernel_rfl) (by kernel_rfl) (by kernel_rfl) (fun _ _ _ h => h) (Or.inl ⟨by rfl, fun _ _ => rfl⟩) (by assumption) ?_
            simp only [Act.put, List.setIfInBounds_toArray, List.set_cons_zero, List.set_cons_succ]
            refine wpAnyH_take (i := 5) (oi := { dst := some 43, op := _, type := _, pos := _, after := _, guard := _ }) (v := undef) rfl (by kernel_rfl) (by kernel_rfl) (by kernel_rfl) (fun _ _ _ h => h) (Or.inr ⟨by rfl, rfl⟩) (by assumption) ?_
            simp only [Act.put, List.setIfInBounds_toArray, List.set_cons_zero, List.set_cons_succ]
            refine wpAnyH_take (i := 6) (oi := { dst := some 44, op := _, type := _, pos := _, after := _, guard := _ }) (v := undef) rfl (by kernel_rfl) (by kernel_rfl) (by kernel_rfl) (fun _ _ _ h => h) (Or.inr ⟨by rfl, rfl⟩) (by assumption) ?_
            simp only [Act.put, List.setIfInBounds_toArray, List.set_cons_zero, List.set_cons_succ]
            refine wpAnyH_take (i := 7) (oi := { dst := some 45, op := _, type := _, pos := _, after := _, guard := _ }) (v := undef) rfl (by kernel_rfl) (by kernel_rfl) (by kernel_rfl) (fun _ _ _ h => h) (Or.inr ⟨by rfl, rfl⟩) (by assumption) ?_
            simp only [Act.put, List.setIfInBounds_toArray, List.set_cons_zero, List.set_cons_succ]
            refine wpAnyH_take (i := 8) (oi := { dst := some 46, op := _, type := _, pos := _, after := _, guard := _ }) (v := undef) rfl (by kernel_rfl) (by kernel_rfl) (by kernel_rfl) (fun _ _ _ h => h) (Or.inr ⟨by rfl, rfl⟩) (by assumption) ?_
            simp only [Act.put, List.setIfInBounds_toArray, List.set_cons_zero, List.set_cons_succ]
            refine wpAnyH_take (i := 9) (oi := { dst := some 47, op := _, type := _, pos := _, after := _, guard := _ }) (v := (.bool false)) rfl (by kernel_rfl) (by kernel_rfl) (by kernel_rfl) (fun _ _ _ h => h) (Or.inl ⟨by rfl, fun _ _ => rfl⟩) (by assumption) ?_
            simp only [Act.put, List.setIfInBounds_toArray, List.set_cons_zero, List.set_cons_succ]
            refine wpAnyH_ready (rs := [10]) (by kernel_rfl) (by simp) ?_
            refine AllReadyH.cons (o := { dst := none, op := _, type := _, pos := _, after := _, guard := _ }) rfl (fun KK hK => ?_) AllReadyH.nil
            go_simp
            refine hK.out _ _ (by exact (hbo9.out _ _ _ _).drew.cell) (fun hHeld => ?_)
            clear hK KK
            simp only [List.setIfInBounds_toArray, List.set_cons_zero, List.set_cons_succ]
            refine wpAnyH_take (i := 11) (oi := { dst := some 3, op := _, type := _, pos := _, after := _, guard := _ }) (v := (.bool false)) rfl (by kernel_rfl) (by kernel_rfl) (by kernel_rfl) (fun _ _ _ h => h) (Or.inl ⟨by rfl, fun _ _ => rfl⟩) (by assumption) ?_
            simp only [Act.put, List.setIfInBounds_toArray, List.set_cons_zero, List.set_cons_succ]
            refine wpAnyH_done (by kernel_rfl) ?_ _
            go_wp2
            refine bodyPost_ret ((hbz9.set ⟨K, 1, v, ([] : List UInt8)⟩).drew.results rfl rfl) rfl ?_
            exact ⟨⟨K, 1, v, ([] : List UInt8)⟩, by rw [HO9.out]; rfl, (fun g hg => by rw [HO9.out] at hg; cases hg), (below_set hbel9 (Nat.le_refl _) _ _ _ _).drew⟩
            -- END
          · rw [hk9] at HK
            have HO9 := Lib.hid (show Fld.one l = some ⟨K, 1, v, []⟩ by rw [HO.out, if_pos ⟨hk9, by omega⟩, HM.out])
            clear hk9 HO
            -- WALK 5
            refine wp_region_held_drew (S := fun W => W.cell? ⟨w.heap.size + 1, 0, none⟩ = some (.string ⟨K.toArray⟩) ∧ W.cell? ⟨w.heap.size + 1, 1, none⟩ = some (.int .i64 1) ∧ W.cell? ⟨w.heap.size + 1, 2, none⟩ = some (.int .i64 v) ∧ W.cell? ⟨w.heap.size + 1, 3, none⟩ = some (.string ⟨([] : List UInt8).toArray⟩)) (by kernel_rfl) (by exact hbf9.drew.cell) (fun hHeld => ?_)
            change wpAnyH _ _ _ _ _ 12 #[false, false, false, false, false, false, false, false, false, false, false, false] _ _
            refine wpAnyH_take (i := 0) (oi := { dst := some 38, op := _, type := _, pos := _, after := _, guard := _ }) (v := (.agg #[.string ⟨K.toArray⟩, .int .i64 1, .int .i64 v, .string ⟨([] : List UInt8).toArray⟩])) rfl (by kernel_rfl) (by kernel_rfl) (by kernel_rfl) (fun _ _ _ h => h) (Or.inl ⟨by rfl, by intro w hSw; (try dsimp only at hSw); go_simp⟩) (by assumption) ?_
            simp only [Act.put, List.setIfInBounds_toArray, List.set_cons_zero, List.set_cons_succ]
            refine wpAnyH_take (i := 1) (oi := { dst := some 39, op := _, type := _, pos := _, after := _, guard := _ }) (v := (.pointer (some ⟨w.heap.size + 1, 0, none⟩))) rfl (by kernel_rfl) (by kernel_rfl) (by kernel_rfl) (fun _ _ _ h => h) (Or.inl ⟨by rfl, fun _ _ => rfl⟩) (by assumption) ?_
            simp only [Act.put, List.setIfInBounds_toArray, List.set_cons_zero, List.set_cons_succ]
            refine wpAnyH_take (i := 2) (oi := { dst := some 40, op := _, type := _, pos := _, after := _, guard := _ }) (v := (.string ⟨K.toArray⟩)) rfl (by kernel_rfl) (by kernel_rfl) (by kernel_rfl) (fun _ _ _ h => h) (Or.inl ⟨by rfl, by intro w hSw; (try dsimp only at hSw); go_simp⟩) (by assumption) ?_
            simp only [Act.put, List.setIfInBounds_toArray, List.set_cons_zero, List.set_cons_succ]
            refine wpAnyH_ready (rs := [3]) (by kernel_rfl) (by simp) ?_
            refine AllReadyH.cons (o := { dst := some 41, op := _, type := _, pos := _, after := _, guard := _ }) rfl (fun KK hK => ?_) AllReadyH.nil
            go_simp
            refine (HK.out _).mono ?_
            rintro e w5 ⟨rfl, rfl⟩
            go_wp2_with fail
            refine hK.out _ _ (by exact hbf9.drew.cell) (fun hHeld => ?_)
            clear hK KK
            simp only [List.setIfInBounds_toArray, List.set_cons_zero, List.set_cons_succ]
            refine wpAnyH_take (i := 4) (oi := { dst := some 42, op := _, type := _, pos := _, after := _, guard := _ }) (v := (.bool true)) rfl (by kernel_rfl) (by kernel_rfl) (by kernel_rfl) (fun _ _ _ h => h) (Or.inl ⟨by rfl, fun _ _ => rfl⟩) (by assumption) ?_
            simp only [Act.put, List.setIfInBounds_toArray, List.set_cons_zero, List.set_cons_succ]
            refine wpAnyH_take (i := 5) (oi := { dst := some 43, op := _, type := _, pos := _, after := _, guard := _ }) (v := (.pointer (some ⟨w.heap.size + 1, 3, none⟩))) rfl (by kernel_rfl) (by kernel_rfl) (by kernel_rfl) (fun _ _ _ h => h) (Or.inl ⟨by rfl, by intro w hSw; (try dsimp only at hSw); go_simp⟩) (by assumption) ?_
            simp only [Act.put, List.setIfInBounds_toArray, List.set_cons_zero, List.set_cons_succ]
            refine wpAnyH_take (i := 6) (oi := { dst := some 44, op := _, type := _, pos := _, after := _, guard := _ }) (v := (.string ⟨([] : List UInt8).toArray⟩)) rfl (by kernel_rfl) (by kernel_rfl) (by kernel_rfl) (fun _ _ _ h => h) (Or.inl ⟨by rfl, by intro w hSw; (try dsimp only at hSw); go_simp⟩) (by assumption) ?_
            simp only [Act.put, List.setIfInBounds_toArray, List.set_cons_zero, List.set_cons_succ]
            refine wpAnyH_take (i := 7) (oi := { dst := some 45, op := _, type := _, pos := _, after := _, guard := _ }) (v := (.int .i64 0)) rfl (by kernel_rfl) (by kernel_rfl) (by kernel_rfl) (fun _ _ _ h => h) (Or.inl ⟨by rfl, by intro w hSw; (try dsimp only at hSw); go_simp⟩) (by assumption) ?_
            simp only [Act.put, List.setIfInBounds_toArray, List.set_cons_zero, List.set_cons_succ]
            refine wpAnyH_take (i := 8) (oi := { dst := some 46, op := _, type := _, pos := _, after := _, guard := _ }) (v := (.bool true)) rfl (by kernel_rfl) (by kernel_rfl) (by kernel_rfl) (fun _ _ _ h => h) (Or.inl ⟨by rfl, by intro w hSw; (try dsimp only at hSw); go_simp⟩) (by assumption) ?_
            simp only [Act.put, List.setIfInBounds_toArray, List.set_cons_zero, List.set_cons_succ]
            refine wpAnyH_take (i := 9) (oi := { dst := some 47, op := _, type := _, pos := _, after := _, guard := _ }) (v := (.bool true)) rfl (by kernel_rfl) (by kernel_rfl) (by kernel_rfl) (fun _ _ _ h => h) (Or.inl ⟨by rfl, fun _ _ => rfl⟩) (by assumption) ?_
            simp only [Act.put, List.setIfInBounds_toArray, List.set_cons_zero, List.set_cons_succ]
            refine wpAnyH_ready (rs := [10]) (by kernel_rfl) (by simp) ?_
            refine AllReadyH.cons (o := { dst := none, op := _, type := _, pos := _, after := _, guard := _ }) rfl (fun KK hK => ?_) AllReadyH.nil
            go_simp
            refine hK.out _ _ (by exact (hbo9.out _ _ _ _).drew.cell) (fun hHeld => ?_)
            clear hK KK
            simp only [List.setIfInBounds_toArray, List.set_cons_zero, List.set_cons_succ]
            refine wpAnyH_take (i := 11) (oi := { dst := some 3, op := _, type := _, pos := _, after := _, guard := _ }) (v := (.bool true)) rfl (by kernel_rfl) (by kernel_rfl) (by kernel_rfl) (fun _ _ _ h => h) (Or.inl ⟨by rfl, fun _ _ => rfl⟩) (by assumption) ?_
            simp only [Act.put, List.setIfInBounds_toArray, List.set_cons_zero, List.set_cons_succ]
            refine wpAnyH_done (by kernel_rfl) ?_ _
            go_wp2
            refine bodyPost_ret ((hbz9.set ⟨K, 1, v, ([] : List UInt8)⟩).drew.results rfl rfl) rfl ?_
            exact ⟨⟨K, 1, v, ([] : List UInt8)⟩, by rw [HO9.out]; rfl, (fun g hg => by rw [HO9.out] at hg; cases hg; rfl), (below_set hbel9 (Nat.le_refl _) _ _ _ _).drew⟩
            -- END
      · have h61' : ((l[k].toNat : Int) == 61) = false := by simp; omega
        have h61'' : ¬ (l[k].toNat : Int) = 61 := by omega
        have HN := Lib.hid (Hn.out h61)
        generalize l[k] = d at *
        clear Hf Hn hat h61
        go_wp2
        go_round
        case rel => exact ⟨k + 1, by omega, by go_num, HN.out⟩
        case measure => simp [intOf]; omega
    · have HO := Lib.hid (show Fld.one l = none by unfold Fld.one; rw [if_neg (fun x => by have := x.1; omega)])
      clear hat
      go_wp2
      refine bodyPost_ret ((FBox.new w Fld.zero).results rfl rfl) rfl ?_
      exact ⟨Fld.zero, by rw [HO.out]; rfl, (fun g hg => by rw [HO.out] at hg; cases hg), (Below.refl _ w).alloc (Nat.le_refl _) _⟩
end Go.Proofs.YtbjoboemhdcalaaDoor
