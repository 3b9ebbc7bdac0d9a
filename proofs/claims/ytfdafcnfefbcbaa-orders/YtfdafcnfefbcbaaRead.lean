/-
  The contract of 'Read': what the program makes of a text.
-/
import Derived.Test.YtfdafcnfefbcbaaAdd
namespace Go.Proofs.Ytfdafcnfefbcbaa
open Go.RowKit
set_option linter.unusedVariables false

/-- A text's bytes as numbers. -/
def bytesOf (s : ByteArray) : List Nat := s.data.toList.map (·.toNat)

theorem bytesOf_length (s : ByteArray) : (bytesOf s).length = s.size := by simp [bytesOf]
theorem bytesOf_drop (s : ByteArray) (i : Nat) (h : i < s.size) : (bytesOf s).drop i = s[i].toNat :: (bytesOf s).drop (i + 1) := by
  unfold bytesOf
  rw [List.drop_eq_getElem_cons (by simpa using h)]
  simp; rfl
theorem bytesOf_end (s : ByteArray) : (bytesOf s).drop s.size = [] := by
  rw [← bytesOf_length]; simp

/-- The bounds of a draft behind i bytes. -/
def Small (i : Nat) (D : Pl.Draft) : Prop := D.threads.length ≤ i ∧ D.ops.length ≤ i ∧ D.blocks ≤ i

theorem small_add {i : Nat} {D : Pl.Draft} (k n : Nat) (h : Small i D) : Small (i + 1) (Pl.add D k n) := by
  obtain ⟨h1, h2, h3⟩ := h
  unfold Small Pl.add Pl.endThread
  repeat' split
  all_goals (simp; omega)

theorem Small.mono {i j : Nat} {D : Pl.Draft} (h : Small i D) (hij : i ≤ j) : Small j D := ⟨Nat.le_trans h.1 hij, Nat.le_trans h.2.1 hij, Nat.le_trans h.2.2 hij⟩

theorem read_no {D : Pl.Draft} {i k : Nat} {r : List Nat} (h : Pl.admits D k = false) : Pl.read D i (k :: r) = (none, i) := by
  cases r <;> simp [Pl.read, h]
theorem read_one {D : Pl.Draft} {i k : Nat} {r : List Nat} (h : Pl.admits D k = true) (ht : Pl.takesName k = false) : Pl.read D i (k :: r) = Pl.read (Pl.add D k 0) (i + 1) r := by
  cases r <;> simp [Pl.read, h, ht]
theorem read_short {D : Pl.Draft} {i k : Nat} (h : Pl.admits D k = true) (ht : Pl.takesName k = true) : Pl.read D i [k] = (none, i + 1) := by
  simp [Pl.read, h, ht]
theorem read_bad {D : Pl.Draft} {i k n : Nat} {r : List Nat} (h : Pl.admits D k = true) (ht : Pl.takesName k = true) (hn : Pl.isName k n = false) : Pl.read D i (k :: n :: r) = (none, i + 1) := by
  simp [Pl.read, h, ht, hn]
theorem read_two {D : Pl.Draft} {i k n : Nat} {r : List Nat} (h : Pl.admits D k = true) (ht : Pl.takesName k = true) (hn : Pl.isName k n = true) : Pl.read D i (k :: n :: r) = Pl.read (Pl.add D k n) (i + 2) r := by
  simp [Pl.read, h, ht, hn]

/-- What Read answers. -/
def ReadSays (w : World) (r : Option (List (List Pl.POp)) × Nat) (e : Ending) (w' : World) : Prop :=
  Below w.heap.size w w' ∧
  match r.1 with
  | none => e = .returned (.tuple #[.agg #[.slice none 0 0], .bool false, .int .i64 (r.2 : Int)])
  | some p => ∃ a cap, e = .returned (.tuple #[.agg #[.slice a p.length cap], .bool true, .int .i64 0]) ∧ RowsIn w' w.heap.size w'.heap.size (.slice a p.length cap) p

/-- How it stands behind i bytes. -/
def Reading (s : ByteArray) (w wr : World) (i : Nat) : Prop :=
  ∃ D hi, DraftAt wr (w.heap.size + 1) (w.heap.size + 2) hi D ∧ Small i D ∧ Below w.heap.size w wr ∧ wr.cell? ⟨w.heap.size, 0, none⟩ = some (.slice none 0 0) ∧ wr.frozen? ⟨w.heap.size, 0, none⟩ = false ∧
    Pl.read Pl.draft0 0 (bytesOf s) = Pl.read D i ((bytesOf s).drop i)

theorem reading_start (s : ByteArray) (w : World) : Reading s w ((w.alloc (.cells #[.slice none 0 0] 101)).alloc (.cells #[.slice none 0 0, .slice none 0 0, .int .i64 0, .int .i64 (-1)] 136)) 0 := by
  have c : ∀ j, ((w.alloc (.cells #[.slice none 0 0] 101)).alloc (.cells #[.slice none 0 0, .slice none 0 0, .int .i64 0, .int .i64 (-1)] 136)).cell? ⟨w.heap.size + 1, j, none⟩ = (#[Value.slice none 0 0, .slice none 0 0, .int .i64 0, .int .i64 (-1)] : Array Value)[j]? := fun j =>
    cell_of_row _ (w.heap.size + 1) j _ 136 (0, 0) (by have := heap_alloc_new (w.alloc (.cells #[.slice none 0 0] 101)) (.cells #[.slice none 0 0, .slice none 0 0, .int .i64 0, .int .i64 (-1)] 136); simpa using this)
  refine ⟨Pl.draft0, w.heap.size + 2, ⟨⟨by omega, by omega, by simp⟩, ⟨_, c 0, ⟨[], ⟨World.ownsRow_nil _ _ _ _, by simp [Value.ownBlock]⟩, by simp [Pl.draft0]⟩⟩, ⟨_, c 1, World.ownsRow_nil _ _ _ _⟩, c 2, c 3, fun o => ?_⟩, ⟨by simp [Pl.draft0], by simp [Pl.draft0], by simp [Pl.draft0]⟩, ?_, ?_, ?_, by simp⟩
  · rw [World.frozen?_alloc_at _ _ _ _ (by simp)]
  · exact ((Below.refl _ _).alloc (Nat.le_refl _) _).alloc (by simp) _
  · have := alloc_cell (w := w.alloc (.cells #[.slice none 0 0] 101)) (a := ⟨w.heap.size, 0, none⟩) (v := .slice none 0 0) (by rw [cell_of_row _ w.heap.size 0 _ 101 (0, 0) (heap_alloc_new w _)]; rfl)
    exact this _
  · rw [World.frozen?_alloc_past _ _ _ (by simp), World.frozen?_alloc_at _ _ _ _ rfl]

/-- A result without a program, laid into the result's own cell. -/
theorem says_no {s : ByteArray} {w wr : World} {i : Nat} (hb : Below w.heap.size w wr) (heq : Pl.read Pl.draft0 0 (bytesOf s) = (none, i)) :
    ReadSays w (Pl.read Pl.draft0 0 (bytesOf s)) (.returned (.tuple #[.agg #[.slice none 0 0], .bool false, .int .i64 (i : Int)])) (wr.setCell ⟨w.heap.size, 0, none⟩ (.slice none 0 0)) := by
  rw [heq]
  exact ⟨hb.setCell (Nat.le_refl _) _, rfl⟩

theorem reading_next {s : ByteArray} {w wr w1 : World} {i j k n : Nat} {D : Pl.Draft} (hb : Below w.heap.size w wr) (hc : wr.cell? ⟨w.heap.size, 0, none⟩ = some (.slice none 0 0)) (hf : wr.frozen? ⟨w.heap.size, 0, none⟩ = false)
    (hsm : Small i D) (hij : i < j) (heq : Pl.read Pl.draft0 0 (bytesOf s) = Pl.read (Pl.add D k n) j ((bytesOf s).drop j))
    (hd : ∃ hi', DraftAt w1 (w.heap.size + 1) (w.heap.size + 2) hi' (Pl.add D k n)) (hw : Below (w.heap.size + 1) wr w1) : Reading s w w1 j := by
  obtain ⟨hi', hd⟩ := hd
  refine ⟨_, hi', hd, (small_add k n hsm).mono hij, hb.trans (hw.mono (by omega)), ?_, ?_, heq⟩
  · rw [hw.cell (p := ⟨w.heap.size, 0, none⟩) (by simp)]; exact hc
  · rw [hw.frozen (p := ⟨w.heap.size, 0, none⟩) (by simp)]; exact hf

set_option maxRecDepth 100000 in
set_option maxHeartbeats 4000000 in
theorem read_any (s : ByteArray) (w : World) (hs : s.size ≤ 100) :
    Calls Try.prog 48 #[.string s] w fun e w' => ReadSays w (Pl.read Pl.draft0 0 (bytesOf s)) e w' := by
  go_enter Try.func48, Try.ntmps48
  go_wp2
  go_loopw [6] (fun t wr => ∃ i : Nat, i ≤ s.size ∧ t = .int .i64 i ∧ Hid (Reading s w wr i)) (fun t _ => s.size - (intOf t).toNat)
  case atStart => exact ⟨0, Nat.zero_le _, rfl, reading_start s w⟩
  case round =>
    obtain ⟨i, hi, rfl, hh⟩ := hrel
    obtain ⟨D, hj, hd, hsm, hb, hc, hf, heq⟩ := hh.out
    by_cases hlt : i < s.size
    · rw [bytesOf_drop s i hlt] at heq
      have ht3 : D.threads.length ≤ 100 := by have := hsm.1; omega
      have ho3 : D.ops.length ≤ 100 := by have := hsm.2.1; omega
      have hb3 : D.blocks ≤ 1000 := by have := hsm.2.2; omega
      by_cases ha : Pl.admits D s[i].toNat = true
      · by_cases ht : Pl.takesName s[i].toNat = true
        · by_cases hl2 : i + 1 < s.size
          · have hle : ((i : Int) + 1 == (s.size : Int)) = false := by simp; omega
            rw [bytesOf_drop s (i + 1) hl2] at heq
            by_cases hn : Pl.isName s[i].toNat s[i + 1].toNat = true
            · rw [read_two ha ht hn] at heq
              have HE : Hid _ := heq
              clear heq
              go_wp2_with (first | (go_at_call 73; refine (admits_any D _ _ _ _ _ hd ht3).mono ?_; rintro e w' ⟨rfl, rfl⟩) | (go_at_call 74; refine (takesName_any _ _).mono ?_; rintro e w' ⟨rfl, rfl⟩) | (go_at_call 75; refine (isName_any _ _ _).mono ?_; rintro e w' ⟨rfl, rfl⟩) | (go_at_call 76; refine (add_any D _ _ _ _ _ _ hd ht3 ho3 hb3).mono ?_; rintro e w1 ⟨rfl, hd1, hw1⟩))
              go_roundw
              case rel => exact ⟨i + 2, by omega, by go_num, reading_next hb hc hf hsm (by omega) HE.out hd1 hw1⟩
              case measure => simp [intOf]; omega
            · have hn' : Pl.isName s[i].toNat s[i + 1].toNat = false := by simpa using hn
              rw [read_bad ha ht hn'] at heq
              have HE : Hid _ := heq
              clear heq hn
              go_wp2_with (first | (go_at_call 73; refine (admits_any D _ _ _ _ _ hd ht3).mono ?_; rintro e w' ⟨rfl, rfl⟩) | (go_at_call 74; refine (takesName_any _ _).mono ?_; rintro e w' ⟨rfl, rfl⟩) | (go_at_call 75; refine (isName_any _ _ _).mono ?_; rintro e w' ⟨rfl, rfl⟩) | (go_at_call 76; refine (add_any D _ _ _ _ _ _ hd ht3 ho3 hb3).mono ?_; rintro e w1 ⟨rfl, hd1, hw1⟩))
              exact bodyPost_ret (v := .tuple #[.agg #[.slice none 0 0], .bool false, .int .i64 ((i + 1 : Nat) : Int)]) (by simp [results, Try.results48, go_sem, hc]) rfl (says_no hb HE.out)
          · have hle : ((i : Int) + 1 == (s.size : Int)) = true := by simp; omega
            rw [show (bytesOf s).drop (i + 1) = [] by rw [show i + 1 = s.size by omega]; exact bytesOf_end s, read_short ha ht] at heq
            have HE : Hid _ := heq
            clear heq
            go_wp2_with (first | (go_at_call 73; refine (admits_any D _ _ _ _ _ hd ht3).mono ?_; rintro e w' ⟨rfl, rfl⟩) | (go_at_call 74; refine (takesName_any _ _).mono ?_; rintro e w' ⟨rfl, rfl⟩) | (go_at_call 75; refine (isName_any _ _ _).mono ?_; rintro e w' ⟨rfl, rfl⟩) | (go_at_call 76; refine (add_any D _ _ _ _ _ _ hd ht3 ho3 hb3).mono ?_; rintro e w1 ⟨rfl, hd1, hw1⟩))
            exact bodyPost_ret (v := .tuple #[.agg #[.slice none 0 0], .bool false, .int .i64 ((i + 1 : Nat) : Int)]) (by simp [results, Try.results48, go_sem, hc]) rfl (says_no hb HE.out)
        · have ht' : Pl.takesName s[i].toNat = false := by simpa using ht
          rw [read_one ha ht'] at heq
          have HE : Hid _ := heq
          clear heq ht
          go_wp2_with (first | (go_at_call 73; refine (admits_any D _ _ _ _ _ hd ht3).mono ?_; rintro e w' ⟨rfl, rfl⟩) | (go_at_call 74; refine (takesName_any _ _).mono ?_; rintro e w' ⟨rfl, rfl⟩) | (go_at_call 75; refine (isName_any _ _ _).mono ?_; rintro e w' ⟨rfl, rfl⟩) | (go_at_call 76; refine (add_any D _ _ _ _ _ _ hd ht3 ho3 hb3).mono ?_; rintro e w1 ⟨rfl, hd1, hw1⟩))
          go_roundw
          case rel => exact ⟨i + 1, by omega, by go_num, reading_next hb hc hf hsm (by omega) HE.out hd1 hw1⟩
          case measure => simp [intOf]; omega
      · have ha' : Pl.admits D s[i].toNat = false := by simpa using ha
        rw [read_no ha'] at heq
        have HE : Hid _ := heq
        clear heq ha
        go_wp2_with (go_at_call 73; refine (admits_any D _ _ _ _ _ hd ht3).mono ?_; rintro e w' ⟨rfl, rfl⟩)
        exact bodyPost_ret (v := .tuple #[.agg #[.slice none 0 0], .bool false, .int .i64 (i : Int)]) (by simp [results, Try.results48, go_sem, hc]) rfl (says_no hb HE.out)
    · have e : i = s.size := by omega
      subst e
      rw [bytesOf_end] at heq
      have ht3 : D.threads.length ≤ 100 := by have := hsm.1; omega
      have c3 := hd.at3
      by_cases hbk : D.block = -1
      · have hbk' : (D.block == -1) = true := by simpa using hbk
        rw [hbk] at c3
        rw [Pl.read, if_pos hbk'] at heq
        have HE : Hid _ := heq
        clear heq hbk'
        have HB : Hid _ := hbk
        clear hbk
        go_wp2_with fail
        refine (endThread_any D _ _ _ _ hd ht3).mono ?_
        rintro e w1 ⟨rfl, hd1, hw1⟩
        obtain ⟨v, g0, hr⟩ := hd1.at0
        obtain ⟨a, cap, hv⟩ := owns_form (hr.choose_spec.1.1)
        subst hv
        have hc1 := (hw1.cell (p := ⟨w.heap.size, 0, none⟩) (by simp)).trans hc
        have hf1 := (hw1.frozen (p := ⟨w.heap.size, 0, none⟩) (by simp)).trans hf
        have HR : Hid (RowsIn w1 (w.heap.size + 2) w1.heap.size (.slice a (Pl.endThread D).threads.length cap) (Pl.endThread D).threads) := hr
        clear hr hd1
        go_wp2
        have hb1 := hb.trans (hw1.mono (Nat.le_succ _))
        refine bodyPost_ret (v := .tuple #[.agg #[.slice a (Pl.endThread D).threads.length cap], .bool true, .int .i64 0]) (by simp [results, Try.results48, go_sem, hc1]) rfl ?_
        rw [HE.out]
        refine ⟨hb1.setCell (Nat.le_refl _) _, a, cap, rfl, ?_⟩
        have := (HR.out.setCell (a := ⟨w.heap.size, 0, none⟩) (by simp) (.slice a (Pl.endThread D).threads.length cap)).mono (lo' := w.heap.size) (hi' := w1.heap.size) (by omega) (Nat.le_refl _)
        show RowsIn _ _ _ (.slice a (Pl.endThread D).threads.length cap) (Pl.endThread D).threads
        rw [World.size_setCell]
        exact this
      · have hbk' : (D.block == -1) = false := by simpa using hbk
        rw [Pl.read, if_neg (by simp [hbk'])] at heq
        have HE : Hid _ := heq
        clear heq
        go_wp2
        exact bodyPost_ret (v := .tuple #[.agg #[.slice none 0 0], .bool false, .int .i64 (s.size : Int)]) (by simp [results, Try.results48, go_sem, hc]) rfl (says_no hb HE.out)

end Go.Proofs.Ytfdafcnfefbcbaa
