/- The sort of the candidates, by the library's contract. -/
import Derived.Test.YtmcioglidgbibaaSymCmp
import Derived.Test.YtmcioglidgbibaaSortLay
import Derived.Shelf.SlSortCmp.NoneTotal
namespace Go.Proofs.Ytmcioglidgbibaa
open Go.RowKit Go.Sort Go.Shelf
set_option maxRecDepth 100000

/-- texts of at most eight letters -/
abbrev S8 := {l : List UInt8 // l.length ≤ 8}
instance : Inhabited S8 := ⟨⟨[], by simp⟩⟩
def enc8 (x : S8) : Value := .string ⟨x.1.toArray⟩
theorem enc8_one : OneCell enc8 := fun _ => rfl
def cf8 (P : List (List UInt8)) (x y : S8) : Int := cfT P x.1 y.1
theorem lt8 (P : List (List UInt8)) (x y : S8) : ltOf (cf8 P) x y = Sym.ahead P x.1 y.1 := by
  unfold ltOf cf8
  rw [Bool.eq_iff_iff, decide_eq_true_iff]
  exact cfT_neg
theorem swo8 (P : List (List UInt8)) : SWO (ltOf (cf8 P)) where
  irrefl x := by rw [lt8]; exact Sym.ahead_irrefl P x.1
  trans x y z h1 h2 := by rw [lt8] at *; exact Sym.ahead_trans h1 h2
  ntrans x y z h1 h2 := by rw [lt8] at *; exact Sym.ahead_ntrans h1 h2
theorem tot8 (P : List (List UInt8)) (x y : S8) (h1 : ltOf (cf8 P) x y = false) (h2 : ltOf (cf8 P) y x = false) : x = y := by
  rw [lt8] at *
  exact Subtype.ext (Sym.ahead_same h1 h2)

theorem grownBy_sortWorld {α : Type} [Inhabited α] (enc : α → Value) (w : World) (g n : Nat) (d : Array α) (os : Array Obj) : w.grownBy (sortWorld enc w g 0 n d os) (some g) := by
  unfold sortWorld
  refine ⟨rfl, rfl, rfl, by simp, fun k hk hne => ?_⟩
  rw [heap_grow_old _ _ (by simpa using hk)]
  have : g ≠ k := fun e => hne (by rw [e])
  simp [putRow, mapBlock, Sort.ahead, Array.getElem?_modify, this]
theorem heap_sortWorld {α : Type} [Inhabited α] (enc : α → Value) {w : World} {g n : Nat} {os : Array Obj} {cur : Array Value} {e : TypeId} {fr : Nat × Nat} (d : Array α) (hb : w.heap[g]? = some (.cells cur e fr)) :
    (sortWorld enc w g 0 n d os).heap[g]? = some (.cells (putCells enc 0 d cur) e fr) := by
  unfold sortWorld
  have hg : g < w.heap.size := (Array.getElem?_eq_some_iff.1 hb).1
  rw [heap_grow_old _ _ (by simpa using hg)]
  simp [putRow, mapBlock, Sort.ahead, Array.getElem?_modify, hb, onCells]
theorem take_put8 (cur : Array Value) (ts : List S8) (h : ts.length ≤ cur.size) : (putCells enc8 0 ts.toArray cur).toList.take ts.length = ts.map enc8 := by
  apply List.ext_getElem?
  intro j
  by_cases hj : j < ts.length
  · rw [List.getElem?_take_of_lt hj, Array.getElem?_toList]
    simp [putCells, hj, show j < cur.size by omega]
  · rw [List.getElem?_take_eq_none (by omega), List.getElem?_eq_none (by simp; omega)]
theorem holds8 {w : World} {g : Nat} {cur : Array Value} {e : TypeId} {ss : List S8} (hb : w.heap[g]? = some (.cells cur e (0, 0))) (ht : cur.toList.take ss.length = ss.map enc8) : Holds enc8 w g 0 ss.toArray := by
  intro j hj
  have hj' : j < ss.length := by simpa using hj
  refine ⟨?_, by simp [World.frozen?, hb]⟩
  have h1 : (cur.toList.take ss.length)[j]? = (ss.map enc8)[j]? := by rw [ht]
  rw [List.getElem?_take_of_lt hj'] at h1
  simp only [World.cell?, hb, Nat.zero_add]
  simp only [Option.isSome_none, Bool.false_eq_true, if_false]
  rw [← Array.getElem?_toList, h1]
  simp [hj']
theorem list8 : ∀ (ss : List (List UInt8)), (∀ s ∈ ss, s.length ≤ 8) → ∃ l : List S8, l.map (·.1) = ss
  | [], _ => ⟨[], rfl⟩
  | s :: r, h => by
    obtain ⟨l, hl⟩ := list8 r (fun x hx => h x (by simp [hx]))
    exact ⟨⟨s, h s (by simp)⟩ :: l, by rw [List.map_cons, hl]⟩

theorem cell_far {w w' : World} {row : Option Nat} (hg : w.grownBy w' row) {g i : Nat} {v : Value} (h : w.cell? ⟨g, i, none⟩ = some v) (hlt : g < w.heap.size) (hne : some g ≠ row) : w'.cell? ⟨g, i, none⟩ = some v := by
  unfold World.cell? at *
  rw [hg.block g hlt hne]
  exact h

theorem sortFunc_any (A : Option Addr) (n c base g4 g3 M : Nat) (P ss : List (List UInt8)) (w : World) (ho : SOwn w base A n c ss) (h4 : g4 < base) (h3 : g3 < base) (hM : M < base) (hn : n < 4611686018427387904) (h8 : ∀ s ∈ ss, s.length ≤ 8) (hP : P.length ≤ 7168) (hbase : base ≤ w.heap.size)
    (c4 : w.cell? ⟨g4, 0, none⟩ = some (.func (.func 27) #[] #[.pointer (some ⟨g3, 0, none⟩)])) (c3 : w.cell? ⟨g3, 0, none⟩ = some (.map (some M))) (h : Counts w M P) :
    Calls Try.prog 28 #[.slice A n c, .func (.func 29) #[] #[.pointer (some ⟨g4, 0, none⟩)]] w fun e w' => e = .returned (.tuple #[]) ∧ SOwn w' base A n c (ss.mergeSort (Sym.leP P)) ∧ w.grownBy w' (blk A) := by
  by_cases h0 : n = 0
  · subst h0
    have hs : ss = [] := List.eq_nil_of_length_eq_zero ho.len
    subst hs
    have hS := AnyF.slices_SortFunc_none (P := Try.prog) (ρ := Try.sortL_ren) { Try.sortL with } A c (.func (.func 29) #[] #[.pointer (some ⟨g4, 0, none⟩)]) w
    refine Calls.mono hS fun e w' ⟨he, hw⟩ => ⟨he, ?_, ?_⟩
    · rw [hw, List.mergeSort_nil]; exact ho
    · rw [hw]; exact World.grownBy.refl w _
  · obtain ⟨g, rfl, hg1, hg2⟩ := ho.at_ (by omega)
    obtain ⟨l8, hl8⟩ := list8 ss h8
    have hlen : l8.length = n := by rw [← ho.len, ← hl8, List.length_map]
    rcases ho.2 with ⟨hnil, _⟩ | ⟨g', cap, cur, hv, hb1, hb2, hb3, hb4, hb5, hb6⟩
    · cases hnil
    · injection hv with hv1 hv2 hv3
      injection hv1 with hv1
      injection hv1 with hv1
      subst hv1 hv3
      have hcur : cur.toList.take l8.length = l8.map enc8 := by
        rw [hlen]
        rw [Nat.mul_one] at hb6
        rw [hb6, ← hl8, List.map_map]
        rfl
      have hH := holds8 hb2 hcur
      have eg : ∀ args w, (callFunc 29 args).run Try.prog w = .ok (.enter 29 args) w := enters_of Try.func29 (by kernel_rfl) rfl
      have hcmp : CmpReads Try.prog 29 #[.pointer (some ⟨g4, 0, none⟩)] enc8 (cf8 P) g 0 l8.toArray.size w := fun m os dk _ x y => by
        have hgr := grownBy_sortWorld enc8 w g m dk os
        exact compare_any g4 g3 M P x.1 y.1 _ hP x.2 y.2 (cell_far hgr c4 (by omega) (by simp; omega)) (cell_far hgr c3 (by omega) (by simp; omega)) (StrMap.kept h hgr (by simp; omega))
      have hS := Any.slices_SortFunc_total Try.sortL enc8 enc8_one (cf8 P) (swo8 P) 29 #[.pointer (some ⟨g4, 0, none⟩)] g 0 c l8.toArray w eg hcmp.lays hH hg2 (by rw [List.size_toArray]; omega) (tot8 P)
      rw [List.size_toArray, hlen] at hS
      refine Calls.mono hS fun e w' ⟨he, k, os, hw⟩ => ⟨he, ?_, ?_⟩
      · rw [hw]
        have hms : (l8.toArray.toList.mergeSort fun x y => !ltOf (cf8 P) y x).map (·.1) = ss.mergeSort (Sym.leP P) := by
          rw [← hl8]
          exact List.map_mergeSort (fun a _ b _ => by rw [lt8]; rfl)
        have hl2 : (l8.toArray.toList.mergeSort fun x y => !ltOf (cf8 P) y x).length = n := by rw [List.length_mergeSort]; exact hlen
        generalize (l8.toArray.toList.mergeSort fun x y => !ltOf (cf8 P) y x) = T at *
        refine ⟨by rw [List.length_map, ← hms, List.length_map, hl2, Nat.mul_one], .inr ⟨g, c, _, rfl, hb1, heap_sortWorld enc8 _ hb2, hb3, hb4, by simp [putCells, hb5], ?_⟩⟩
        rw [Nat.mul_one, ← hl2, take_put8 cur T (by omega), ← hms, List.map_map]
        rfl
      · rw [hw]; exact grownBy_sortWorld enc8 w g k _ os
end Go.Proofs.Ytmcioglidgbibaa
