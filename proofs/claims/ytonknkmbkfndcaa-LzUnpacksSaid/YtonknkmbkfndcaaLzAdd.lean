/- lz.history.add -/
import Derived.Test.YtonknkmbkfndcaaLzHist
namespace Go.Proofs.Ytonknkmbkfndcaa
open Go.RowKit Go.Maps

theorem cell_drawn {w w' : World} (hd : Drawn w.drew w') {p : Addr} {v : Value} (h : w.cell? p = some v) : w'.cell? p = some v := by
  obtain ⟨q, rfl⟩ := hd
  exact h
theorem grown_drawn {w w' : World} (hd : Drawn w w') (row : Option Nat) : w.grownBy w' row := by
  obtain ⟨q, rfl⟩ := hd
  exact ⟨rfl, rfl, rfl, Nat.le_refl _, fun _ _ _ => rfl⟩

theorem cell_grown {w w' : World} {row : Option Nat} (hg : w.grownBy w' row) (p : Addr) (hp : p.block < w.heap.size) (hne : some p.block ≠ row) : w'.cell? p = w.cell? p := by
  unfold World.cell?
  rw [hg.block _ hp hne]
/-- all but the place's own four bytes are told as at the next place -/
def Mid (l : List UInt8) (i : Nat) (D : DataW Unit) : Prop := ∀ q, q < 4294967296 → q ≠ Lz.quad l i → ∃ r, Lz.IsLast l (i + 1) q r ∧ Says D q r
theorem ne_key {q q' : Nat} (h : q ≠ q') : (Lit.int .u32 (q : Int)) ≠ (Lit.int .u32 (q' : Int)) := fun e => by
  injection e with _ e
  exact h (by omega)
theorem mid_near {l : List UInt8} {i : Nat} {D : DataW Unit} (h : ∀ q, q < 4294967296 → ∃ r, Lz.IsLast l i q r ∧ Says D q r) (hi : i < 65535) : Mid l i D := fun q hq hne => by
  obtain ⟨r, hr, hs⟩ := h q hq
  exact ⟨r, hr.next (Ne.symm hne) (.inr hi), hs⟩
theorem old_is {l : List UInt8} {i : Nat} {D : DataW Unit} (h : ∀ q, q < 4294967296 → ∃ r, Lz.IsLast l i q r ∧ Says D q r) (hi : 65535 ≤ i) :
    ∃ p, Lz.IsLast l i (Lz.quad l (i - 65535)) (some p) ∧ Says D (Lz.quad l (i - 65535)) (some p) := by
  obtain ⟨r, hr, hs⟩ := h _ (Lz.quad_lt l (i - 65535))
  match r, hr, hs with
  | none, hr, _ => exact absurd rfl (hr (i - 65535) (by omega) (by omega))
  | some p, hr, hs => exact ⟨p, hr, hs⟩
theorem mid_keep {l : List UInt8} {i p : Nat} {D : DataW Unit} (h : ∀ q, q < 4294967296 → ∃ r, Lz.IsLast l i q r ∧ Says D q r) (hp : Lz.IsLast l i (Lz.quad l (i - 65535)) (some p)) (hne : p ≠ i - 65535) : Mid l i D := fun q hq hn => by
  obtain ⟨r, hr, hs⟩ := h q hq
  refine ⟨r, hr.next (Ne.symm hn) (.inl fun e => ?_), hs⟩
  subst e
  have e2 := hr.2.2.1
  rw [e2] at hp
  have := Lz.IsLast.unique hr hp
  injection this with this
  exact hne this.symm
theorem mid_drop {l : List UInt8} {i : Nat} {D : DataW Unit} (h : ∀ q, q < 4294967296 → ∃ r, Lz.IsLast l i q r ∧ Says D q r) (hi : 65535 ≤ i) (hp : Lz.IsLast l i (Lz.quad l (i - 65535)) (some (i - 65535))) :
    Mid l i (D.del (.int .u32 (Lz.quad l (i - 65535) : Int))) := fun q hq hn => by
  by_cases e : q = Lz.quad l (i - 65535)
  · subst e
    exact ⟨none, hp.next_far hi (Ne.symm hn), has_del_same⟩
  · obtain ⟨r, hr, hs⟩ := h q hq
    refine ⟨r, hr.next (Ne.symm hn) (.inl fun e2 => ?_), ?_⟩
    · subst e2
      exact e hr.2.2.1.symm
    · match r, hs with
      | none, hs => exact (has_del_other (ne_key e)).trans hs
      | some p, hs => exact ⟨(has_del_other (ne_key e)).trans hs.1, (atKey_del_other (ne_key e) _).trans hs.2⟩
theorem hist_put {l : List UInt8} {i : Nat} {D : DataW Unit} {w : World} {M k : Nat} (h : Mid l i D) (ho : w.ownsMap Try.prog 51 (plainElem Try.prog 3) M (k + 1) (D.put (.int .u32 (Lz.quad l i : Int)) (.lit (.int .i64 (i : Int)))) ∧ IsMap D) (hk : k ≤ i) : Hist w M l (i + 1) := by
  obtain ⟨ho, hD⟩ := ho
  refine ⟨_, k + 1, by omega, ho, fun q hq => ?_⟩
  by_cases e : q = Lz.quad l i
  · subst e
    exact ⟨some i, Lz.IsLast.here l i, has_put_same hD (by simp [WideAt.IsKeyLit]) _, atKey_put_same hD (by simp [WideAt.IsKeyLit]) _ _⟩
  · obtain ⟨r, hr, hs⟩ := h q hq e
    refine ⟨r, hr, ?_⟩
    match r, hs with
    | none, hs => exact (has_put_other (ne_key e) _).trans hs
    | some p, hs => exact ⟨(has_put_other (ne_key e) _).trans hs.1, (atKey_put_other (ne_key e) _ _).trans hs.2⟩
theorem put_run {w w8 : World} {M k q p : Nat} {z : Int} {D : DataW Unit} (hz : z = (p : Int)) (h : w.ownsMap Try.prog 51 (plainElem Try.prog 3) M k D) (hk : k < maxLen) (hp : p ≤ 9223372036854775807) (hq : q < 4294967296) (hd : Drawn w.drew w8) :
    ∃ w9, (Instr.mapUpdate 34 (.map (some M)) (.int .u32 (q : Int)) (.int .i64 z)).run Try.prog w8 = .ok () w9 ∧ (w9.ownsMap Try.prog 51 (plainElem Try.prog 3) M (k + 1) (D.put (.int .u32 (q : Int)) (.lit (.int .i64 (p : Int)))) ∧ IsMap D) ∧ w8.grownBy w9 (some M) := by
  subst hz
  have hD := h.isMap
  have h8 : w8.ownsMap Try.prog 51 (plainElem Try.prog 3) M k D := by
    obtain ⟨n, rfl⟩ := hd
    exact h
  obtain ⟨w9, h1, h2, h3⟩ := h8.update keyLaw Try.underlying34 hk (keyIs hq) (plainElem_int (H := Unit) (a := (p : Int)) Try.underlying3 (WalkArith.wf_i64 ⟨by omega, by omega⟩))
  exact ⟨w9, h1, ⟨h2, hD⟩, h3⟩

set_option maxHeartbeats 1000000 in
theorem add_any (A : Option Addr) (n cap B M i : Nat) (l : List UInt8) (w : World) (hl : l.length = n) (hm : n ≤ 281474976710656) (hi : i ≤ n) (hb : Bytes w B A l) (hB : B ≤ w.heap.size) (hBM : B ≤ M) (hh : i + 4 ≤ n → Hist w M l i) :
    Calls Try.prog 16 #[.agg #[.slice A n cap, .map (some M)], .int .i64 (i : Int)] w fun e w' => e = .returned (.tuple #[]) ∧ (i + 4 ≤ n → Hist w' M l (i + 1)) ∧ w.grownBy w' (some M) := by
  have hg0 : w.grownBy (w.alloc (.cells #[.slice A n cap, .map (some M)] 36)) (some M) := World.grownBy_alloc _ _ _
  have hbel : Below w.heap.size w (w.alloc (.cells #[.slice A n cap, .map (some M)] 36)) := (Below.refl _ _).alloc (Nat.le_refl _) _
  have hb1 := hb.below (hbel.mono hB)
  have c0 : (w.alloc (.cells #[.slice A n cap, .map (some M)] 36)).cell? ⟨w.heap.size, 0, none⟩ = some (.slice A n cap) := by rw [World.cell?_alloc_at _ _ _ _ rfl]; rfl
  have c1 : (w.alloc (.cells #[.slice A n cap, .map (some M)] 36)).cell? ⟨w.heap.size, 1, none⟩ = some (.map (some M)) := by rw [World.cell?_alloc_at _ _ _ _ rfl]; rfl
  obtain ⟨z, hz, hz0, hz1⟩ : ∃ z : Int, z = (i : Int) ∧ 0 ≤ z ∧ z ≤ 281474976710656 := ⟨i, rfl, by omega, by omega⟩
  rw [← hz]
  by_cases h4 : i + 4 ≤ n
  · have hh := hh h4
    have hlt := hh.lt
    obtain ⟨D, k, hki, hown, hall⟩ := hh
    have hown1 := hown.alloc (.cells #[.slice A n cap, .map (some M)] 36)
    have HQ := fun w' hb' => quadAt_any A n cap B i l w' hl h4 hm hb'
    rw [← hz] at HQ
    replace HQ := Lib.hid HQ
    have HQ2 := Lib.hid fun j hj w' hb' => quadAt_any A n cap B j l w' hl hj hm hb'
    have hQ := Lib.hid (Lz.quad_lt l i)
    have hkb := Lib.hid (show k < maxLen from by unfold maxLen; omega)
    have hi63 := Lib.hid (show i ≤ 9223372036854775807 from by omega)
    have h4' : ¬ ((n : Int) < z + 4) := by omega
    have hgM : some w.heap.size ≠ some M := by simp; omega
    by_cases h65 : i < 65535
    · have HMID := Lib.hid (mid_near hall h65)
      have h65' : z < 65535 := by omega
      have HZ := Lib.hid hz
      clear hall hown hb hbel hl hh h4 HQ2 h65 hz hi
      go_enter Try.func16, Try.ntmps16
      go_wp2_with fail
      generalize w.alloc (.cells #[.slice A n cap, .map (some M)] 36) = wb at *
      obtain ⟨Q, hQe⟩ : ∃ Q, Q = Lz.quad l i := ⟨_, rfl⟩
      rw [← hQe] at HQ hQ
      have HQe := Lib.hid hQe; clear hQe
      generalize hgg : w.heap.size = g at *
      have Hgg := Lib.hid hgg; clear hgg
      go_region_held3 (fun w' => w'.cell? ⟨g, 0, none⟩ = some (.slice A n cap) ∧ w'.cell? ⟨g, 1, none⟩ = some (.map (some M))) (first | exact ⟨c0, c1⟩ | exact ⟨cell_drawn hd8 c0, cell_drawn hd8 c1⟩ | exact ⟨ht9.cell (cell_drawn hd8 c0) hgM, ht9.cell (cell_drawn hd8 c1) hgM⟩) (first | (go_at_call 26; refine (HQ.out _ (by exact hb1)).mono ?_; rintro e w8 ⟨rfl, hd8⟩; obtain ⟨w9, hrun9, ho9, ht9⟩ := put_run HZ.out hown1 (q := Q) (p := i) hkb.out hi63.out hQ.out hd8))
      go_wp2
      go_end0
      exact ⟨rfl, fun _ => hist_put HMID.out (by rw [← HQe.out]; exact ho9) hki, hg0.trans ((grown_drawn (Drawn.trans ⟨1, rfl⟩ hd8) _).trans ht9)⟩
    · obtain ⟨p, hpl, hps⟩ := old_is hall (by omega)
      obtain ⟨j, hj⟩ : ∃ j, j = i - 65535 := ⟨_, rfl⟩
      rw [← hj] at hpl hps
      obtain ⟨zo, hzo⟩ : ∃ zo : Int, zo = (j : Int) := ⟨_, rfl⟩
      have hzz : z - 65535 = zo := by omega
      have hzo0 : (0 : Int) ≤ zo := by omega
      have hzo1 : zo ≤ 281474976710656 := by omega
      have HK := fun w' hb' => HQ2.out j (by omega) w' hb'
      rw [← hzo] at HK
      replace HK := Lib.hid HK
      have hKlt := Lib.hid (Lz.quad_lt l j)
      have HPS := Lib.hid hps
      obtain ⟨zp, hzp⟩ : ∃ zp : Int, zp = (p : Int) := ⟨_, rfl⟩
      have HZ := Lib.hid hz
      have HZP := Lib.hid hzp
      obtain ⟨Q, hQe⟩ : ∃ Q, Q = Lz.quad l i := ⟨_, rfl⟩
      rw [← hQe] at HQ hQ
      have HQe := Lib.hid hQe; clear hQe
      have hnotneg : ¬ (zo < 0) := by omega
      have hmid : (p ≠ j → Mid l i D) ∧ (p = j → Mid l i (D.del (.int .u32 (Lz.quad l j : Int)))) := by
        rw [hj] at hpl ⊢
        exact ⟨fun h => mid_keep hall hpl h, fun h => mid_drop hall (by omega) (by rw [h] at hpl; exact hpl)⟩
      generalize hKe : Lz.quad l j = K at *
      have HM := Lib.hid hmid
      have hcmp : (p = j → (zp == zo) = true) ∧ (p ≠ j → (zp == zo) = false) := ⟨fun h => by simp; omega, fun h => by simp; omega⟩
      have HC := Lib.hid hcmp
      have h65' : ¬ (z < 65535) := by omega
      clear hall hown hb hbel hl hh h4 HQ2 h65 hz hi hj hpl hps hzo hzp hKe hmid hcmp
      go_enter Try.func16, Try.ntmps16
      go_wp2_with fail
      generalize w.alloc (.cells #[.slice A n cap, .map (some M)] 36) = wb at *
      generalize hgg : w.heap.size = g at *
      have Hgg := Lib.hid hgg; clear hgg
      refine (HK.out wb hb1).mono ?_
      rintro e w1 ⟨rfl, hd1⟩
      clear HK
      replace c0 := (grown_drawn hd1 none).cell c0 (by simp)
      replace c1 := (grown_drawn hd1 none).cell c1 (by simp)
      replace hb1 := bytes_drawn hb1 hd1
      replace hown1 := hown1.kept (grown_drawn hd1 none) (by simp)
      obtain ⟨cv, hlook, hat, _⟩ := hown1.lookup_int keyLaw Try.underlying34 Try.underlying3 (zeroInt _) (keyIs hKlt.out)
      have hcv : cv = zp := by
        have h1 := hat.symm.trans HPS.out.2
        injection h1 with h1
        injection h1 with _ h1
        rw [h1, HZP.out]
      subst hcv
      clear hat
      by_cases hpj : p = j
      · have hc := HC.out.1 hpj
        have hce : cv = zo := by simpa using hc
        have HMID2 := Lib.hid (HM.out.2 hpj)
        clear hpj
        have Hce := Lib.hid hce; clear hce
        go_wp2_with (at_delete; refine wpList_delete_own _ rfl _ _ 34 51 rfl 3 keyLaw Try.underlying34 _ M k D rfl hown1 _ _ rfl (keyIs hKlt.out) ?_; intro w2 hown2 ht2)
        replace c0 := ht2.grown.cell c0 hgM
        replace c1 := ht2.grown.cell c1 hgM
        have hM1 := hown1.lt
        have hb2 : Bytes w2 B A l := hb1.keep (fun p hp => cell_grown ht2.grown p (by omega) (by simp; omega))
        clear hb1 hown1 hlook hc
        go_region_held3 (fun w' => w'.cell? ⟨g, 0, none⟩ = some (.slice A n cap) ∧ w'.cell? ⟨g, 1, none⟩ = some (.map (some M))) (first | exact ⟨c0, c1⟩ | exact ⟨cell_drawn hd8 c0, cell_drawn hd8 c1⟩ | exact ⟨ht9.cell (cell_drawn hd8 c0) hgM, ht9.cell (cell_drawn hd8 c1) hgM⟩) (first | (go_at_call 26; refine (HQ.out _ (by exact hb2)).mono ?_; rintro e w8 ⟨rfl, hd8⟩; obtain ⟨w9, hrun9, ho9, ht9⟩ := put_run HZ.out hown2 (q := Q) (p := i) hkb.out hi63.out hQ.out hd8))
        go_wp2
        go_end0
        exact ⟨rfl, fun _ => hist_put HMID2.out (by rw [← HQe.out]; exact ho9) hki, ((hg0.trans (grown_drawn hd1 _)).trans ht2.grown).trans ((grown_drawn (Drawn.trans ⟨1, rfl⟩ hd8) _).trans ht9)⟩
      · have hc := HC.out.2 hpj
        have hce : ¬ (cv = zo) := by simpa using hc
        have HMID := Lib.hid (HM.out.1 hpj)
        clear hpj
        go_wp2_with fail
        clear hc hce hlook
        go_region_held3 (fun w' => w'.cell? ⟨g, 0, none⟩ = some (.slice A n cap) ∧ w'.cell? ⟨g, 1, none⟩ = some (.map (some M))) (first | exact ⟨c0, c1⟩ | exact ⟨cell_drawn hd8 c0, cell_drawn hd8 c1⟩ | exact ⟨ht9.cell (cell_drawn hd8 c0) hgM, ht9.cell (cell_drawn hd8 c1) hgM⟩) (first | (go_at_call 26; refine (HQ.out _ (by exact hb1)).mono ?_; rintro e w8 ⟨rfl, hd8⟩; obtain ⟨w9, hrun9, ho9, ht9⟩ := put_run HZ.out hown1 (q := Q) (p := i) hkb.out hi63.out hQ.out hd8))
        go_wp2
        go_end0
        exact ⟨rfl, fun _ => hist_put HMID.out (by rw [← HQe.out]; exact ho9) hki, (hg0.trans (grown_drawn hd1 _)).trans ((grown_drawn (Drawn.trans ⟨1, rfl⟩ hd8) _).trans ht9)⟩
  · have h4' : (n : Int) < z + 4 := by omega
    have H4 := Lib.hid h4
    clear hb1 hb hh hbel hl hz h4 hi
    go_enter Try.func16, Try.ntmps16
    go_wp2
    refine bodyPost_ret (results_none rfl _ _ _) rfl ?_
    exact ⟨rfl, fun h => absurd h H4.out, hg0⟩
end Go.Proofs.Ytonknkmbkfndcaa
