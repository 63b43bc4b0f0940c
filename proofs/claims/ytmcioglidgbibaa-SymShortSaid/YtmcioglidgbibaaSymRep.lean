/- A piece that comes again and again is not longer when it is coded by its own table: plain. -/
import Derived.Test.YtmcioglidgbibaaSymOrd
namespace Go.Proofs.Ytmcioglidgbibaa.Sym

/-- a text so many times -/
def rep (s : List UInt8) : Nat → List UInt8
  | 0 => []
  | k + 1 => rep s k ++ s
theorem rep_length (s : List UInt8) : ∀ k, (rep s k).length = k * s.length
  | 0 => by simp [rep]
  | k + 1 => by rw [rep, List.length_append, rep_length s k, Nat.add_mul, Nat.one_mul]
theorem rep_get (s : List UInt8) : ∀ k i, i < k * s.length → (rep s k)[i]? = s[i % s.length]?
  | 0, i, h => by omega
  | k + 1, i, h => by
    rw [rep]
    by_cases hi : i < k * s.length
    · rw [List.getElem?_append_left (by rw [rep_length]; exact hi), rep_get s k i hi]
    · rw [Nat.add_mul, Nat.one_mul] at h
      obtain ⟨r, rfl⟩ : ∃ r, i = r + k * s.length := ⟨i - k * s.length, by omega⟩
      rw [List.getElem?_append_right (by rw [rep_length]; omega), rep_length, Nat.add_sub_cancel, Nat.add_mul_mod_self_right, Nat.mod_eq_of_lt (by omega)]
/-- letters n apart are the same -/
def Per (b : List UInt8) (n : Nat) : Prop := ∀ i j, i < b.length → j < b.length → i % n = j % n → b[i]? = b[j]?
theorem rep_per (s : List UInt8) (k : Nat) : Per (rep s k) s.length := fun i j hi hj e => by
  rw [rep_length] at hi hj
  rw [rep_get s k i hi, rep_get s k j hj, e]
theorem per_cut {b : List UInt8} {n i i' j : Nat} (h : Per b n) (h1 : i + j ≤ b.length) (h2 : i' + j ≤ b.length) (e : i % n = i' % n) : (b.drop i).take j = (b.drop i').take j := by
  apply List.ext_getElem?
  intro t
  rw [List.getElem?_take, List.getElem?_take]
  split
  · rw [List.getElem?_drop, List.getElem?_drop]
    exact h _ _ (by omega) (by omega) (by rw [Nat.add_mod, e, ← Nat.add_mod])
  · rfl

theorem mem_occTo {b y : List UInt8} : ∀ {m : Nat}, y ∈ occTo b m → ∃ i, i + y.length ≤ b.length ∧ y = (b.drop i).take y.length
  | 0, h => by cases h
  | m + 1, h => by
    rw [occTo_step] at h
    rcases List.mem_append.1 h with h | h
    · exact mem_occTo h
    · obtain ⟨t, ht, rfl⟩ := List.mem_map.1 h
      have ht' := List.mem_range.1 ht
      unfold nAt at ht'
      refine ⟨m, ?_, ?_⟩
      · rw [List.length_take, List.length_drop]; omega
      · rw [List.length_take, List.length_drop, Nat.min_eq_left (by omega)]

/-- how many of the places ahead of m are those of a piece of j letters that stands at place p -/
def cnum (n N j p : Nat) : Nat → Nat
  | 0 => 0
  | m + 1 => cnum n N j p m + if m + j ≤ N ∧ m % n = p % n then 1 else 0
theorem mem_posK {b : List UInt8} {m j : Nat} (h2 : 2 ≤ j) (h8 : j ≤ 8) (hm : m + j ≤ b.length) : (b.drop m).take j ∈ posK b m (nAt b m) :=
  List.mem_map.2 ⟨j - 2, List.mem_range.2 (by unfold nAt; omega), by rw [show j - 2 + 2 = j from by omega]⟩
theorem cnum_le {b : List UInt8} {n j p : Nat} (h : Per b n) (h2 : 2 ≤ j) (h8 : j ≤ 8) (hp : p + j ≤ b.length) : ∀ m, cnum n b.length j p m ≤ (occTo b m).count ((b.drop p).take j)
  | 0 => Nat.zero_le _
  | m + 1 => by
    have ih := cnum_le h h2 h8 hp m
    rw [occTo_step, List.count_append, cnum]
    split
    · rename_i hc
      have e := per_cut h hc.1 hp hc.2
      have := List.count_pos_iff.2 (mem_posK h2 h8 hc.1)
      rw [e] at this
      omega
    · omega

/-- how many pieces have j letters -/
theorem posK_many {b : List UInt8} {i j : Nat} : ∀ k, k ≤ nAt b i → ((posK b i k).filter fun y => decide (y.length = j)).length ≤ if j ≤ k + 1 then 1 else 0
  | 0, _ => by rw [posK_zero]; simp
  | k + 1, hk => by
    have ih := posK_many (b := b) (i := i) (j := j) k (by omega)
    have hl : ((b.drop i).take (k + 2)).length = k + 2 := by
      unfold nAt at hk
      rw [List.length_take, List.length_drop]
      omega
    rw [posK_step, List.filter_append, List.length_append]
    have : (List.filter (fun y => decide (y.length = j)) [(b.drop i).take (k + 2)]).length = if k + 2 = j then 1 else 0 := by
      by_cases e : k + 2 = j
      · rw [if_pos e, List.filter_cons, if_pos (decide_eq_true (hl.trans e))]; rfl
      · rw [if_neg e, List.filter_cons, if_neg (fun h => e (hl.symm.trans (of_decide_eq_true h)))]; rfl
    rw [this]
    split at ih <;> split <;> split <;> omega
theorem occTo_many (b : List UInt8) (j : Nat) (h2 : 2 ≤ j) : ∀ m, ((occTo b m).filter fun y => decide (y.length = j)).length ≤ min m (b.length + 1 - j)
  | 0 => by simp [occTo]
  | m + 1 => by
    have ih := occTo_many b j h2 m
    have hk := posK_many (b := b) (i := m) (j := j) (nAt b m) (Nat.le_refl _)
    rw [occTo_step, List.filter_append, List.length_append]
    split at hk
    · rename_i hc
      unfold nAt at hc
      omega
    · omega

/-- texts that are all unlike come in a list not more often than it is long -/
theorem sum_count_cons (a : List UInt8) (P : List (List UInt8)) : ∀ F : List (List UInt8), (F.map ((a :: P).count ·)).sum = (F.map (P.count ·)).sum + F.count a
  | [] => rfl
  | y :: F => by
    rw [List.map_cons, List.sum_cons, List.map_cons, List.sum_cons, sum_count_cons a P F, List.count_cons, List.count_cons]
    by_cases e : a = y
    · subst e; simp; omega
    · have e2 : ¬ y = a := fun h => e h.symm
      simp [e, e2]; omega
theorem sum_count_le {F : List (List UInt8)} (hn : F.Nodup) : ∀ P : List (List UInt8), (F.map (P.count ·)).sum ≤ P.length
  | [] => by
    have : ∀ F : List (List UInt8), (F.map (([] : List (List UInt8)).count ·)).sum = 0 := fun F => by
      induction F with
      | nil => rfl
      | cons y F ih => rw [List.map_cons, List.sum_cons, ih]; rfl
    rw [this]
    exact Nat.zero_le _
  | a :: P => by
    rw [sum_count_cons, List.length_cons]
    have := sum_count_le hn P
    have := List.nodup_iff_count.1 hn a
    omega
theorem sum_val {P : List (List UInt8)} {j v : Nat} : ∀ {F : List (List UInt8)}, (∀ y ∈ F, v ≤ j * P.count y) → F.length * v ≤ j * (F.map (P.count ·)).sum
  | [], _ => by simp
  | y :: F, h => by
    have ih := sum_val (F := F) (fun z hz => h z (List.mem_cons_of_mem _ hz))
    have h1 := h y (List.mem_cons_self ..)
    rw [List.length_cons, List.map_cons, List.sum_cons, Nat.mul_add, Nat.add_mul, Nat.one_mul]
    omega
theorem count_filter_len {P : List (List UInt8)} {y : List UInt8} {j : Nat} (h : y.length = j) : (P.filter fun z => decide (z.length = j)).count y = P.count y :=
  List.count_filter (by simp [h])
theorem nodup_len' : ∀ {ss P : List (List UInt8)}, ss.Nodup → (∀ s ∈ ss, s ∈ P) → ss.length ≤ P.length
  | [], _, _, _ => Nat.zero_le _
  | s :: r, P, hn, hs => by
    rw [List.nodup_cons] at hn
    have hm := hs s (by simp)
    have h := nodup_len' (P := P.erase s) hn.2 (fun u hu => (List.mem_erase_of_ne (fun e => hn.1 (by rw [← e]; exact hu))).2 (hs u (by simp [hu])))
    rw [List.length_erase_of_mem hm] at h
    have := List.length_pos_of_mem hm
    rw [List.length_cons]
    omega
/-- unlike pieces of one length: not more than letters in the piece that comes again -/
theorem few_len {b : List UInt8} {n j : Nat} (h : Per b n) (hn : 0 < n) {F : List (List UInt8)} (hF : F.Nodup) (hm : ∀ y ∈ F, y ∈ occ b) : (F.filter fun y => decide (y.length = j)).length ≤ n := by
  have := nodup_len' (ss := F.filter fun y => decide (y.length = j)) (P := (List.range n).map fun i => (b.drop i).take j) (hF.filter _) (fun y hy => by
    rw [List.mem_filter, decide_eq_true_iff] at hy
    obtain ⟨hy1, hy2⟩ := hy
    obtain ⟨i, hi, e⟩ := mem_occTo (hm y hy1)
    rw [hy2] at hi e
    have hlt := Nat.mod_lt i hn
    have hle := Nat.mod_le i n
    exact List.mem_map.2 ⟨i % n, List.mem_range.2 hlt, by rw [per_cut h (i := i % n) (i' := i) (by omega) hi (Nat.mod_mod _ _)]; exact e.symm⟩)
  simpa using this
/-- unlike pieces of one length that are worth so much -/
theorem few_val {b : List UInt8} {j c : Nat} (h2 : 2 ≤ j) (hc : 0 < c) {F : List (List UInt8)} (hF : F.Nodup) (hv : ∀ y ∈ F, c ≤ (y.length - 1) * (occ b).count y) : (F.filter fun y => decide (y.length = j)).length ≤ (b.length + 1 - j) * (j - 1) / c := by
  rw [Nat.le_div_iff_mul_le hc]
  have hG : (F.filter fun y => decide (y.length = j)).Nodup := hF.filter _
  have h1 := sum_count_le hG ((occ b).filter fun y => decide (y.length = j))
  have h3 := occTo_many b j h2 b.length
  have hs := sum_val (P := (occ b).filter fun y => decide (y.length = j)) (j := j - 1) (v := c) (F := F.filter fun y => decide (y.length = j)) (fun y hy => by
    rw [List.mem_filter, decide_eq_true_iff] at hy
    rw [count_filter_len hy.2]
    have := hv y hy.1
    rwa [hy.2] at this)
  have h4 : (j - 1) * ((F.filter fun y => decide (y.length = j)).map (((occ b).filter fun y => decide (y.length = j)).count ·)).sum ≤ (j - 1) * (b.length + 1 - j) := Nat.mul_le_mul_left _ (Nat.le_trans h1 (Nat.le_trans h3 (Nat.min_le_right _ _)))
  rw [Nat.mul_comm (b.length + 1 - j)]
  exact Nat.le_trans hs h4
theorem by_len : ∀ {F : List (List UInt8)}, (∀ y ∈ F, 2 ≤ y.length ∧ y.length ≤ 8) → F.length = (F.filter fun y => decide (y.length = 2)).length + (F.filter fun y => decide (y.length = 3)).length + (F.filter fun y => decide (y.length = 4)).length + (F.filter fun y => decide (y.length = 5)).length + (F.filter fun y => decide (y.length = 6)).length + (F.filter fun y => decide (y.length = 7)).length + (F.filter fun y => decide (y.length = 8)).length
  | [], _ => rfl
  | y :: F, h => by
    have ih := by_len (F := F) (fun z hz => h z (List.mem_cons_of_mem _ hz))
    have hy := h y (List.mem_cons_self ..)
    simp only [List.filter_cons, List.length_cons]
    have : y.length = 2 ∨ y.length = 3 ∨ y.length = 4 ∨ y.length = 5 ∨ y.length = 6 ∨ y.length = 7 ∨ y.length = 8 := by omega
    rcases this with e | e | e | e | e | e | e <;> simp only [e, decide_true, decide_false, Nat.reduceEqDiff, if_true, List.length_cons, Bool.false_eq_true, if_false] <;> omega
/-- so many pieces can be worth so much -/
def most (n N c : Nat) : Nat := min n ((N + 1 - 2) * (2 - 1) / c) + min n ((N + 1 - 3) * (3 - 1) / c) + min n ((N + 1 - 4) * (4 - 1) / c) + min n ((N + 1 - 5) * (5 - 1) / c) + min n ((N + 1 - 6) * (6 - 1) / c) + min n ((N + 1 - 7) * (7 - 1) / c) + min n ((N + 1 - 8) * (8 - 1) / c)
theorem few {b : List UInt8} {n c : Nat} (h : Per b n) (hn : 0 < n) (hc : 0 < c) {F : List (List UInt8)} (hF : F.Nodup) (hm : ∀ y ∈ F, y ∈ occ b) (hv : ∀ y ∈ F, c ≤ (y.length - 1) * (occ b).count y) : F.length ≤ most n b.length c := by
  have h8 : ∀ y ∈ F, 2 ≤ y.length ∧ y.length ≤ 8 := fun y hy => occTo_len _ _ y (hm y hy)
  rw [by_len h8]
  unfold most
  have a := fun j => few_len (j := j) h hn hF hm
  have d := fun j (h2 : 2 ≤ j) => few_val (j := j) h2 hc hF hv
  have a2 := a 2; have a3 := a 3; have a4 := a 4; have a5 := a 5; have a6 := a 6; have a7 := a 7; have a8 := a 8
  have d2 := d 2 (by omega); have d3 := d 3 (by omega); have d4 := d 4 (by omega); have d5 := d 5 (by omega); have d6 := d 6 (by omega); have d7 := d 7 (by omega); have d8 := d 8 (by omega)
  have e2 := Nat.le_min.2 ⟨a2, d2⟩; have e3 := Nat.le_min.2 ⟨a3, d3⟩; have e4 := Nat.le_min.2 ⟨a4, d4⟩; have e5 := Nat.le_min.2 ⟨a5, d5⟩; have e6 := Nat.le_min.2 ⟨a6, d6⟩; have e7 := Nat.le_min.2 ⟨a7, d7⟩; have e8 := Nat.le_min.2 ⟨a8, d8⟩
  exact Nat.add_le_add (Nat.add_le_add (Nat.add_le_add (Nat.add_le_add (Nat.add_le_add (Nat.add_le_add e2 e3) e4) e5) e6) e7) e8

/-- a piece that comes twice and more is in the table, where not more than 32 are worth as much -/
theorem in_train {P : List (List UInt8)} {x : List UInt8} (hx : 2 ≤ P.count x) (hb : ∀ F : List (List UInt8), F.Nodup → (∀ y ∈ F, y ∈ P) → (∀ y ∈ F, val P x ≤ val P y) → F.length ≤ 32) : x ∈ train P := by
  obtain ⟨i, hi, rfl⟩ := List.mem_iff_getElem.1 (mem_srt.2 hx)
  have h := hb ((srt P).take (i + 1)) ((nodup_srt P).sublist (List.take_sublist _ _)) (fun y hy => count_mem (mem_srt.1 (List.mem_of_mem_take hy))) (fun y hy => by
    obtain ⟨j, hj, rfl⟩ := List.mem_iff_getElem.1 hy
    rw [List.length_take] at hj
    rw [List.getElem_take]
    by_cases e : j = i
    · subst e; exact Int.le_refl _
    · have := List.pairwise_iff_getElem.1 (srt_pairwise P) j i (by omega) hi (by omega)
      unfold leP at this
      rw [Bool.not_eq_true', ahead_not] at this
      exact this.1)
  rw [List.length_take] at h
  unfold train
  exact List.mem_iff_getElem.2 ⟨i, by rw [List.length_take]; omega, by rw [List.getElem_take]⟩
theorem val_nat {P : List (List UInt8)} {y : List UInt8} (h : 1 ≤ y.length) : val P y = (((y.length - 1) * P.count y : Nat) : Int) := by
  unfold val
  rw [Int.natCast_mul]
  congr 1
  omega
/-- a piece of j letters at place p of a text with letters n apart the same -/
theorem cut_in {b : List UInt8} {n j p : Nat} (h : Per b n) (hn : 0 < n) (h2 : 2 ≤ j) (h8 : j ≤ 8) (hp : p + j ≤ b.length) (hc : 2 ≤ cnum n b.length j p b.length) (hm : most n b.length ((j - 1) * cnum n b.length j p b.length) ≤ 32) : (b.drop p).take j ∈ train (occ b) := by
  have hl : ((b.drop p).take j).length = j := by rw [List.length_take, List.length_drop]; omega
  have hcn := cnum_le h h2 h8 hp b.length
  refine in_train (Nat.le_trans hc hcn) fun F hF hFm hv => Nat.le_trans (few h hn (Nat.mul_pos (by omega) (by omega)) hF hFm fun y hy => ?_) hm
  have hy := hv y hy
  have hy8 := occTo_len _ _ y (hFm y ‹_›)
  rw [val_nat (by omega), val_nat (by omega), hl] at hy
  have h3 : (j - 1) * (occ b).count ((b.drop p).take j) ≤ (y.length - 1) * (occ b).count y := Int.ofNat_le.1 hy
  exact Nat.le_trans (Nat.mul_le_mul_left _ hcn) h3

/-- coded by pieces of eight letters to the end -/
theorem encode_eight {t : List (List UInt8)} (ht : Formed t) : ∀ (N : Nat) (b : List UInt8), b.length = N → (∀ q, 8 * q + 8 ≤ b.length → (b.drop (8 * q)).take 8 ∈ t) → (encode t b).length ≤ N / 8 + 2 * (N % 8) := by
  intro N
  induction N using Nat.strongRecOn with
  | ind N ih =>
    intro b hb h
    by_cases h8 : 8 ≤ N
    · have h0 := h 0 (by omega)
      rw [Nat.mul_zero, List.drop_zero] at h0
      have hl := longest_is t b
      have hpre : b.take 8 <+: b := List.take_prefix _ _
      have htl : (b.take 8).length = 8 := by rw [List.length_take]; omega
      cases hk : longest t b with
      | none =>
        rw [hk] at hl
        exact absurd hpre (hl _ h0)
      | some k =>
        rw [hk] at hl
        obtain ⟨hkl, hp, hmx⟩ := hl
        have h1 := hmx _ h0 hpre
        have h2 := (ht.2.1 _ (List.getElem_mem hkl)).2
        have he : t[k].length = 8 := by omega
        rw [encode_some hk (by rw [getD_eq hkl]; omega), getD_eq hkl, he, List.length_cons]
        have := ih (N - 8) (by omega) (b.drop 8) (by rw [List.length_drop]; omega) (fun q hq => by
          rw [List.length_drop] at hq
          have := h (q + 1) (by omega)
          rw [List.drop_drop]
          rwa [show 8 * (q + 1) = 8 + 8 * q from by omega] at this)
        omega
    · have := encode_long t (fun s hs => (ht.2.1 s hs).1) N b hb
      omega
/-- coded without escapes, but for the last letter -/
theorem encode_two {t : List (List UInt8)} (ht : Formed t) : ∀ (N : Nat) (b : List UInt8), b.length = N → (∀ i, i + 2 ≤ b.length → ∃ s ∈ t, s <+: b.drop i) → (encode t b).length ≤ if N = 1 then 2 else N := by
  intro N
  induction N using Nat.strongRecOn with
  | ind N ih =>
    intro b hb h
    by_cases h2 : 2 ≤ N
    · obtain ⟨s, hs, hsp⟩ := h 0 (by omega)
      rw [List.drop_zero] at hsp
      have hl := longest_is t b
      cases hk : longest t b with
      | none =>
        rw [hk] at hl
        exact absurd hsp (hl _ hs)
      | some k =>
        rw [hk] at hl
        obtain ⟨hkl, hp, _⟩ := hl
        have hk2 := (ht.2.1 _ (List.getElem_mem hkl)).1
        have hle := hp.length_le
        rw [encode_some hk (by rw [getD_eq hkl]; omega), getD_eq hkl, List.length_cons]
        have := ih (N - t[k].length) (by omega) (b.drop t[k].length) (by rw [List.length_drop]; omega) (fun i hi => by
          rw [List.length_drop] at hi
          rw [List.drop_drop]
          exact h _ (by omega))
        rw [if_neg (by omega)]
        split at this <;> omega
    · have := encode_long t (fun s hs => (ht.2.1 s hs).1) N b hb
      split <;> omega

theorem most_le (n N c : Nat) : most n N c ≤ 7 * n := by unfold most; omega
def numsEight : Bool := (List.range 9).all fun n => (List.range 17).all fun k => (List.range 16).all fun q => !(decide (5 ≤ n) && decide (3 ≤ k) && decide (8 * q + 8 ≤ k * n)) || (decide (2 ≤ cnum n (k * n) 8 (8 * q) (k * n)) && decide (most n (k * n) ((8 - 1) * cnum n (k * n) 8 (8 * q) (k * n)) ≤ 32))
theorem nums_eight {n k q : Nat} (h1 : n < 9) (h2 : 5 ≤ n) (h3 : k < 17) (h4 : 3 ≤ k) (h5 : q < 16) (h6 : 8 * q + 8 ≤ k * n) : 2 ≤ cnum n (k * n) 8 (8 * q) (k * n) ∧ most n (k * n) ((8 - 1) * cnum n (k * n) 8 (8 * q) (k * n)) ≤ 32 := by
  have h : numsEight = true := by decide +kernel
  have h := List.all_eq_true.1 (List.all_eq_true.1 (List.all_eq_true.1 h n (List.mem_range.2 h1)) k (List.mem_range.2 h3)) q (List.mem_range.2 h5)
  rw [decide_eq_true h2, decide_eq_true h4, decide_eq_true h6, Bool.and_self, Bool.and_self, Bool.not_true, Bool.false_or, Bool.and_eq_true] at h
  exact ⟨of_decide_eq_true h.1, of_decide_eq_true h.2⟩
def numsTwo : Bool := (List.range 5).all fun n => (List.range 17).all fun k => (List.range 64).all fun p => !(decide (2 ≤ n) && decide (3 ≤ k) && decide (p + 2 ≤ k * n)) || decide (2 ≤ cnum n (k * n) 2 p (k * n))
theorem nums_two {n k p : Nat} (h1 : n < 5) (h2 : 2 ≤ n) (h3 : k < 17) (h4 : 3 ≤ k) (h5 : p < 64) (h6 : p + 2 ≤ k * n) : 2 ≤ cnum n (k * n) 2 p (k * n) := by
  have h : numsTwo = true := by decide +kernel
  have h := List.all_eq_true.1 (List.all_eq_true.1 (List.all_eq_true.1 h n (List.mem_range.2 h1)) k (List.mem_range.2 h3)) p (List.mem_range.2 h5)
  rw [decide_eq_true h2, decide_eq_true h4, decide_eq_true h6, Bool.and_self, Bool.and_self, Bool.not_true, Bool.false_or] at h
  exact of_decide_eq_true h
theorem pieces_one {b : List UInt8} (h : b.length ≤ 1024) : pieces [b] 1024 = occ b := by
  rw [pieces, pieces, List.append_nil, List.take_of_length_le h]
/-- three times and more: not longer -/
theorem rep_short {s : List UInt8} (h2 : 2 ≤ s.length) (h8 : s.length ≤ 8) {k : Nat} (hk : 3 ≤ k) (hk2 : k ≤ 16) : (encode (train (pieces [rep s k] 1024)) (rep s k)).length ≤ (rep s k).length := by
  have hper := rep_per s k
  have hlen := rep_length s k
  have hle : k * s.length ≤ 128 := Nat.le_trans (Nat.mul_le_mul hk2 h8) (by omega)
  have hge : 3 * s.length ≤ k * s.length := Nat.mul_le_mul_right _ hk
  have hf := train_formed (pieces_len [rep s k] 1024)
  rw [pieces_one (by omega)] at hf ⊢
  generalize rep s k = b at *
  by_cases h5 : 5 ≤ s.length
  · have := encode_eight hf b.length b rfl (fun q hq => by
      have hn := nums_eight (n := s.length) (k := k) (q := q) (by omega) h5 (by omega) hk (by omega) (by omega)
      rw [← hlen] at hn
      exact cut_in hper (by omega) (by omega) (by omega) hq hn.1 hn.2)
    omega
  · have h64 : k * s.length ≤ 64 := Nat.le_trans (Nat.mul_le_mul hk2 (show s.length ≤ 4 by omega)) (by omega)
    have := encode_two hf b.length b rfl (fun i hi => by
      have hn := nums_two (n := s.length) (k := k) (p := i) (by omega) h2 (by omega) hk (by omega) (by omega)
      rw [← hlen] at hn
      exact ⟨(b.drop i).take 2, cut_in hper (by omega) (by omega) (by omega) hi hn (Nat.le_trans (most_le _ _ _) (by omega)), List.take_prefix _ _⟩)
    rw [if_neg (by omega)] at this
    exact this
end Go.Proofs.Ytmcioglidgbibaa.Sym
