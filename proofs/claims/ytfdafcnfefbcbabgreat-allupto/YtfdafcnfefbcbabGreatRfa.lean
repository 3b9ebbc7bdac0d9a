/-
 Several texts of ours in one: RefPl, RefNum, RefOnPl, RefRun, RefSt.
-/
import Derived.Test.YtfdafcnfefbcbabGreatPla
import Derived.Test.YtfdafcnfefbcbabGreatRefNew
import Derived.Laws.BitsLemmas
import Derived.Test.YtfdafcnfefbcbabGreatSts
import Derived.Deep.CutBlock
import Derived.Deep.RegionWith
import Derived.Deep.RegionLaw
import Derived.Test.YtfdafcnfefbcbabGreatBeg
/-
 Plain: how the rows of operations stand in the threads' texts: places, blocks.
-/
namespace Go.Proofs.YtfdafcnfefbcbabGreat
open Go.RowKit
set_option linter.unusedVariables false
set_option maxRecDepth 100000
set_option maxHeartbeats 1000000

/-- How many bytes an operation has, by its first. -/
def opSize (k : Nat) : Nat := if Pl.takesName k then 2 else 1
def opBytes (o : Pl.POp) : List Nat := if Pl.takesName o.kind then [o.kind, o.name] else [o.kind]
def textOf (r : List Pl.POp) : List Nat := r.flatMap opBytes
/-- The place in its text of a row's operation. -/
def offs (r : List Pl.POp) (i : Nat) : Nat := (textOf (r.take i)).length

theorem opBytes_length (o : Pl.POp) : (opBytes o).length = opSize o.kind := by unfold opBytes opSize; split <;> rfl
theorem opSize_pos (k : Nat) : 1 ≤ opSize k ∧ opSize k ≤ 2 := by unfold opSize; split <;> omega

theorem textOf_cons (o : Pl.POp) (r : List Pl.POp) : textOf (o :: r) = opBytes o ++ textOf r := by simp [textOf]
theorem textOf_append (a b : List Pl.POp) : textOf (a ++ b) = textOf a ++ textOf b := by simp [textOf]

theorem offs_zero (r : List Pl.POp) : offs r 0 = 0 := by simp [offs, textOf]
theorem offs_all (r : List Pl.POp) (i : Nat) (h : r.length ≤ i) : offs r i = (textOf r).length := by unfold offs; rw [List.take_of_length_le h]
theorem offs_succ {r : List Pl.POp} {i : Nat} {o : Pl.POp} (h : r[i]? = some o) : offs r (i + 1) = offs r i + opSize o.kind := by
 unfold offs
 rw [List.take_add_one, h, Option.toList_some, textOf_append, List.length_append]
 simp [textOf, opBytes_length]
theorem text_split {r : List Pl.POp} {i : Nat} {o : Pl.POp} (h : r[i]? = some o) : textOf r = textOf (r.take i) ++ (opBytes o ++ textOf (r.drop (i + 1))) := by
 obtain ⟨hl, e⟩ := List.getElem?_eq_some_iff.1 h
 rw [← textOf_cons, ← textOf_append, ← e, ← List.drop_eq_getElem_cons hl, List.take_append_drop]
theorem offs_lt {r : List Pl.POp} {i : Nat} {o : Pl.POp} (h : r[i]? = some o) : offs r i + opSize o.kind ≤ (textOf r).length := by
 rw [text_split h]
 simp only [List.length_append, opBytes_length]
 unfold offs
 omega
theorem text_kind {r : List Pl.POp} {i : Nat} {o : Pl.POp} (h : r[i]? = some o) : (textOf r)[offs r i]? = some o.kind := by
 rw [text_split h, List.getElem?_append_right (by unfold offs; omega)]
 unfold offs
 rw [Nat.sub_self]
 unfold opBytes
 split <;> rfl
theorem text_name {r : List Pl.POp} {i : Nat} {o : Pl.POp} (h : r[i]? = some o) (ht : Pl.takesName o.kind = true) : (textOf r)[offs r i + 1]? = some o.name := by
 rw [text_split h, List.getElem?_append_right (by unfold offs; omega)]
 unfold offs
 rw [Nat.add_sub_cancel_left]
 unfold opBytes
 rw [if_pos ht]
 rfl
theorem offs_le (r : List Pl.POp) (i : Nat) : offs r i ≤ (textOf r).length := by
 have : textOf r = textOf (r.take i) ++ textOf (r.drop i) := by rw [← textOf_append, List.take_append_drop]
 rw [this]; unfold offs; simp

/-- The block in which a place lies, as the reference counts. -/
def blkStep (x : Nat × Bool) (c : Nat) : Nat × Bool := if c = 91 then (x.1 + 1, true) else if c = 93 then (x.1, false) else x
def blkTo (l : List Nat) : Nat × Bool := l.foldl blkStep (0, false)
def blkNo (x : Nat × Bool) : Int := if x.2 then (x.1 : Int) - 1 else -1

/-- Operations as a text can have them. -/
def OpOk (o : Pl.POp) : Prop := (Pl.takesName o.kind = true ∧ Pl.isName o.kind o.name = true) ∨ o.kind = 33 ∨ o.kind = 91 ∨ o.kind = 93

structure RowOk (r : List Pl.POp) : Prop where
 ops : ∀ o ∈ r, OpOk o
 blk : ∀ (i : Nat) o, r[i]? = some o → Pl.isShared o.kind = true → o.block = blkNo (blkTo (textOf (r.take i)))

/-- What a draft has read of a thread. -/
structure RowSt (d : Pl.Draft) : Prop where
 ok : RowOk d.ops
 at_ : blkTo (textOf d.ops) = (d.blocks, d.block != -1)
 no : d.block = blkNo (blkTo (textOf d.ops))
 th : ∀ r ∈ d.threads, RowOk r

theorem blk_app (a b : List Nat) : blkTo (a ++ b) = b.foldl blkStep (blkTo a) := by unfold blkTo; rw [List.foldl_append]

theorem blk_names {k n : Nat} (ht : Pl.takesName k = true) (h : Pl.isName k n = true) (x : Nat × Bool) : blkStep (blkStep x k) n = x := by
 have h1 : k ≠ 91 ∧ k ≠ 93 := by
  obtain ⟨-, a, b, -⟩ := Pl.takes_ne ht
  simp at a b
  exact ⟨a, b⟩
 have h2 : n ≠ 91 ∧ n ≠ 93 := by
  simp only [Pl.isName] at h
  repeat' split at h
  all_goals simp at h
  all_goals omega
 simp [blkStep, h1.1, h1.2, h2.1, h2.2]

theorem RowOk.snoc {r : List Pl.POp} (h : RowOk r) {o : Pl.POp} (ho : OpOk o) (hb : Pl.isShared o.kind = true → o.block = blkNo (blkTo (textOf r))) : RowOk (r ++ [o]) := by
 refine ⟨fun q hq => ?_, fun i q hq hs => ?_⟩
 ·rcases List.mem_append.1 hq with hq | hq
  ·exact h.ops q hq
  ·rw [List.mem_singleton] at hq; subst hq; exact ho
 ·by_cases hi : i < r.length
  ·rw [List.getElem?_append_left hi] at hq
   rw [List.take_append_of_le_length (by omega)]
   exact h.blk i q hq hs
  ·have e : i = r.length := by have := (List.getElem?_eq_some_iff.1 hq).1; simp at this; omega
   subst e
   simp at hq
   subst hq
   rw [List.take_left' rfl]
   exact hb hs

theorem rowOk_nil : RowOk [] := ⟨fun o ho => by simp at ho, fun i o h => by simp at h⟩

theorem RowSt.add {d : Pl.Draft} (h : RowSt d) (hf : Pl.Fine d) {k n : Nat} (ha : Pl.admits d k = true) (hn : Pl.takesName k = true → Pl.isName k n = true) (hz : Pl.takesName k = false → n = 0) : RowSt (Pl.add d k n) := by
 have hno := h.no
 rw [h.at_] at hno
 unfold Pl.add
 by_cases h10 : k = 10
 ·subst h10
  rw [if_pos (by decide)]
  unfold Pl.endThread
  have hb : d.block = -1 := by simp [Pl.admits] at ha; exact ha.1
  refine ⟨rowOk_nil, by simp [textOf, blkTo, hb], by simp [textOf, blkTo, blkNo, hb], fun r hr => ?_⟩
  rcases List.mem_append.1 hr with hr | hr
  ·exact h.th r hr
  ·simp at hr; subst hr; exact h.ok
 ·rw [if_neg (by simpa using h10)]
  by_cases h91 : k = 91
  ·subst h91
   rw [if_pos (by decide)]
   have hb : d.block = -1 := by simp [Pl.admits] at ha; exact ha
   have ht : textOf (d.ops ++ [⟨91, 0, d.blocks⟩]) = textOf d.ops ++ [91] := by rw [textOf_append]; rfl
   refine ⟨h.ok.snoc (Or.inr (Or.inr (Or.inl rfl))) (fun hs => by simp [Pl.isShared] at hs), ?_, ?_, h.th⟩
   ·show blkTo (textOf (d.ops ++ [⟨91, 0, d.blocks⟩])) = (d.blocks + 1, ((d.blocks : Int) != -1))
    rw [ht, blk_app, h.at_, Pl.nat_ne]; rfl
   ·show (d.blocks : Int) = blkNo (blkTo (textOf (d.ops ++ [⟨91, 0, d.blocks⟩])))
    rw [ht, blk_app, h.at_]; simp [blkStep, blkNo]
  ·rw [if_neg (by simpa using h91)]
   by_cases h93 : k = 93
   ·subst h93
    rw [if_pos (by decide)]
    have ht : textOf (d.ops ++ [⟨93, 0, d.block⟩]) = textOf d.ops ++ [93] := by rw [textOf_append]; rfl
    refine ⟨h.ok.snoc (Or.inr (Or.inr (Or.inr rfl))) (fun hs => by simp [Pl.isShared] at hs), ?_, ?_, h.th⟩
    ·show blkTo (textOf (d.ops ++ [⟨93, 0, d.block⟩])) = (d.blocks, ((-1 : Int) != -1))
     rw [ht, blk_app, h.at_]; simp [blkStep]
    ·show (-1 : Int) = blkNo (blkTo (textOf (d.ops ++ [⟨93, 0, d.block⟩])))
     rw [ht, blk_app, h.at_]; simp [blkStep, blkNo]
   ·rw [if_neg (by simpa using h93)]
    have hk : OpOk ⟨k, n, d.block⟩ := by
     by_cases ht : Pl.takesName k = true
     ·exact Or.inl ⟨ht, hn ht⟩
     ·right; left
      simp [Pl.admits, h10, h91, h93, ht] at ha
      exact ha
    have ht : blkTo (textOf (d.ops ++ [⟨k, n, d.block⟩])) = blkTo (textOf d.ops) := by
     rw [textOf_append, blk_app]
     show (opBytes ⟨k, n, d.block⟩ ++ []).foldl blkStep _ = _
     rw [List.append_nil]
     unfold opBytes
     by_cases ht : Pl.takesName k = true
     ·simp only [if_pos ht, List.foldl_cons, List.foldl_nil]
      exact blk_names ht (hn ht) _
     ·simp only [if_neg ht, List.foldl_cons, List.foldl_nil]
      simp [blkStep, h91, h93]
    exact ⟨h.ok.snoc hk (fun _ => h.no), by rw [ht]; exact h.at_, by rw [ht]; exact h.no, h.th⟩

/-- A text cut at its newlines. -/
def split10 : List Nat → List (List Nat)
 | [] => [[]]
 | c :: r => if c = 10 then [] :: split10 r else (c :: (split10 r).headD []) :: (split10 r).tail

theorem split10_ne (l : List Nat) : split10 l ≠ [] := by
 cases l with
 | nil => simp [split10]
 | cons c r => unfold split10; split <;> simp

def onto (x : List Nat) (l : List (List Nat)) : List (List Nat) := (x ++ l.headD []) :: l.tail

theorem split10_none : ∀ (x l : List Nat), (∀ c ∈ x, c ≠ 10) → split10 (x ++ l) = onto x (split10 l)
 | [], l, _ => by
  show split10 l = _
  unfold onto
  cases h : split10 l with
  | nil => exact absurd h (split10_ne l)
  | cons a b => rfl
 | c :: x, l, h => by
  rw [List.cons_append, split10, if_neg (h c (by simp)), split10_none x l (fun c hc => h c (by simp [hc]))]
  rfl

theorem onto_onto (x y : List Nat) (l : List (List Nat)) : onto x (onto y l) = onto (x ++ y) l := by simp [onto]

theorem read_other (d : Pl.Draft) (k : Nat) (ht : ¬ Pl.takesName k = true) (ha : Pl.admits d k = true) (r : List Nat) : (Pl.add d k 0).threads.map textOf ++ onto (textOf (Pl.add d k 0).ops) (split10 r) = d.threads.map textOf ++ onto (textOf d.ops) (split10 (k :: r)) := by
 unfold Pl.add
 by_cases h10 : k = 10
 ·subst h10
  rw [if_pos (by decide), split10, if_pos rfl]
  unfold Pl.endThread
  cases hs : split10 r with
  | nil => exact absurd hs (split10_ne r)
  | cons a b => simp [onto, textOf]
 ·have hb : ∀ b : Int, textOf (d.ops ++ [⟨k, 0, b⟩]) = textOf d.ops ++ [k] := fun b => by
   rw [textOf_append]
   simp [textOf, opBytes, ht]
  rw [if_neg (by simpa using h10), show k :: r = [k] ++ r from rfl, split10_none [k] r (by intro c hc; simp at hc; subst hc; exact h10), onto_onto]
  split
  ·rw [hb]
  ·split
   ·rw [hb]
   ·rw [hb]

/-- What is read, by threads. -/
theorem read_split : ∀ (s : List Nat) (d : Pl.Draft) (i : Nat) (p : List (List Pl.POp)), (Pl.read d i s).1 = some p →
  p.map textOf = d.threads.map textOf ++ onto (textOf d.ops) (split10 s)
 | [], d, i, p => by
  intro h
  rw [Pl.read] at h
  split at h
  ·simp at h; subst h
   simp [onto, split10]
  ·cases h
 | [k], d, i, p => by
  intro h
  rw [Pl.read] at h
  split at h
  ·rename_i ha
   split at h
   ·cases h
   ·rename_i ht
    rw [read_split [] _ _ _ h]
    exact read_other d k ht ha []
  ·cases h
 | k :: n :: r, d, i, p => by
  intro h
  rw [Pl.read] at h
  split at h
  ·rename_i ha
   split at h
   ·split at h
    ·rename_i ht hn
     rw [read_split r _ _ _ h, Pl.add_takes n ht]
     show d.threads.map textOf ++ onto (textOf (d.ops ++ [⟨k, n, d.block⟩])) (split10 r) = _
     have hk : k ≠ 10 := by have := (Pl.takes_ne ht).1; simpa using this
     have hnn : n ≠ 10 := by have := (Pl.name_not_shared ht hn).2; simpa using this
     rw [show k :: n :: r = [k, n] ++ r from rfl, split10_none [k, n] r (by intro c hc; simp at hc; rcases hc with rfl | rfl <;> assumption), onto_onto, textOf_append]
     congr 2
     simp [textOf, opBytes, ht]
    ·cases h
   ·rename_i ht
    rw [read_split (n :: r) _ _ _ h]
    exact read_other d k ht ha (n :: r)
  ·cases h

theorem read_rows : ∀ (s : List Nat) (d : Pl.Draft) (i : Nat) (p : List (List Pl.POp)), Pl.Fine d → RowSt d → (Pl.read d i s).1 = some p → ∀ r ∈ p, RowOk r
 | [], d, i, p, hf, h1, h => by
  rw [Pl.read] at h
  split at h
  ·simp at h
   subst h
   intro r hr
   rcases List.mem_append.1 hr with hr | hr
   ·exact h1.th r hr
   ·simp at hr; subst hr; exact h1.ok
  ·cases h
 | [k], d, i, p, hf, h1, h => by
  rw [Pl.read] at h
  split at h
  ·rename_i ha
   split at h
   ·cases h
   ·rename_i ht
    exact read_rows [] _ _ p (Pl.fine_add _ _ hf) (h1.add hf ha (fun hk => absurd hk ht) (fun _ => rfl)) h
  ·cases h
 | k :: x :: r, d, i, p, hf, h1, h => by
  rw [Pl.read] at h
  split at h
  ·rename_i ha
   split at h
   ·rename_i ht
    split at h
    ·rename_i hn
     exact read_rows r _ _ p (Pl.fine_add _ _ hf) (h1.add hf ha (fun _ => hn) (fun hk => by rw [ht] at hk; cases hk)) h
    ·cases h
   ·rename_i ht
    exact read_rows (x :: r) _ _ p (Pl.fine_add _ _ hf) (h1.add hf ha (fun hk => absurd hk ht) (fun _ => rfl)) h
  ·cases h

theorem new_rows {s : List Nat} {p : List (List Pl.POp)} (h : Pl.new s = .inr p) : (∀ r ∈ p, RowOk r) ∧ p.map textOf = split10 s := by
 unfold Pl.new at h
 split at h
 ·cases h
 ·split at h
  ·cases h
  ·rename_i q hq
   split at h
   ·cases h
   ·simp at h
    subst h
    refine ⟨read_rows s _ _ _ (Or.inl rfl) ⟨rowOk_nil, rfl, rfl, fun r hr => by simp [Pl.draft0] at hr⟩ hq, ?_⟩
    rw [read_split s _ _ _ hq]
    simp only [Pl.draft0, textOf, List.flatMap_nil, List.map_nil, List.nil_append]
    unfold onto
    cases hs : split10 s with
    | nil => exact absurd hs (split10_ne s)
    | cons a b => rfl

/-! The reference's cut is that one. -/
theorem bytesOf_extract (s : ByteArray) (a b : Nat) : bytesOf (s.extract a b) = ((bytesOf s).drop a).take (b - a) := by
 unfold bytesOf
 simp [ByteArray.extract, ByteArray.copySlice, List.map_drop, List.map_take]

theorem cut_split (s : ByteArray) : ∀ i, i ≤ s.size → split10 (bytesOf s) = (cutTo s i).1.map bytesOf ++ onto (((bytesOf s).drop (cutTo s i).2).take (i - (cutTo s i).2)) (split10 ((bytesOf s).drop i))
 | 0, _ => by
  simp only [cutTo, List.map_nil, List.drop_zero, Nat.sub_self, List.take_zero, List.nil_append]
  unfold onto
  cases hs : split10 (bytesOf s) with
  | nil => exact absurd hs (split10_ne _)
  | cons a b => rfl
 | i + 1, h => by
  have ih := cut_split s i (by omega)
  have hl := bytesOf_length s
  have hle := (cutTo_le s i).1
  have hd : (bytesOf s).drop i = (bytesOf s)[i] :: (bytesOf s).drop (i + 1) := List.drop_eq_getElem_cons (by omega)
  have e : (bytesOf s)[i]? = some (bytesOf s)[i] := List.getElem?_eq_getElem (by omega)
  rw [ih, hd]
  have ec : cutTo s (i + 1) = if i = s.size ∨ (bytesOf s)[i]? = some 10 then ((cutTo s i).1 ++ [s.extract (cutTo s i).2 i], i + 1) else cutTo s i := rfl
  rw [ec]
  by_cases h10 : (bytesOf s)[i] = 10
  ·rw [if_pos (Or.inr (by rw [e, h10])), h10, split10, if_pos rfl]
   simp only [List.map_append, List.map_cons, List.map_nil, Nat.sub_self, List.take_zero, List.append_assoc]
   rw [bytesOf_extract]
   unfold onto
   cases hs : split10 ((bytesOf s).drop (i + 1)) with
   | nil => exact absurd hs (split10_ne _)
   | cons a b => simp
  ·rw [if_neg (by rw [e]; simp [h10]; omega), show (bytesOf s)[i] :: (bytesOf s).drop (i + 1) = [(bytesOf s)[i]] ++ (bytesOf s).drop (i + 1) from rfl, split10_none [_] _ (by intro c hc; simp at hc; subst hc; exact h10), onto_onto]
   congr 2
   rw [show i + 1 - (cutTo s i).2 = (i - (cutTo s i).2) + 1 by omega, List.take_add_one]
   congr 1
   rw [List.getElem?_drop, show (cutTo s i).2 + (i - (cutTo s i).2) = i by omega, e]
   rfl

theorem cut_texts {s : ByteArray} {p : List (List Pl.POp)} (h : Pl.new (bytesOf s) = .inr p) : (cutTo s (s.size + 1)).1.map bytesOf = p.map textOf ∧ ∀ r ∈ p, RowOk r := by
 obtain ⟨h1, h2⟩ := new_rows h
 refine ⟨?_, h1⟩
 have h3 := cut_split s s.size (Nat.le_refl _)
 rw [h2, h3, cutTo, if_pos (Or.inl rfl)]
 have hl := bytesOf_length s
 have hd : (bytesOf s).drop s.size = [] := List.drop_eq_nil_of_le (by omega)
 rw [List.map_append, List.map_cons, List.map_nil, bytesOf_extract, hd]
 simp [onto, split10]

theorem wrap16 (n : Int) : IntKind.i16.wrap n = (n + 32768) % 65536 - 32768 := by
 simp [IntKind.wrap, IntKind.bits, IntKind.signed]
 split <;> omega

def In16 (x : Int) : Prop := -32768 ≤ x ∧ x ≤ 32767

theorem in16_wrap (n : Int) : In16 (IntKind.i16.wrap n) := by rw [wrap16]; unfold In16; omega
theorem wrap16_id {x : Int} (h : In16 x) : IntKind.i16.wrap x = x := by rw [wrap16]; unfold In16 at h; omega

theorem i64_and16 (n : Int) : bits .and .i64 n 65535 = n % 65536 := by
 have h16 : (BitVec.ofInt 64 65535).toNat = 2 ^ 16 - 1 := by decide
 have key : (BitVec.ofInt 64 n &&& BitVec.ofInt 64 65535).toNat = (n % ((2 ^ 64 : Nat) : Int)).toNat % 2 ^ 16 := by
  rw [BitVec.toNat_and, BitVec.toNat_ofInt, h16, Nat.and_two_pow_sub_one_eq_mod]
 show IntKind.i64.wrap ((BitVec.ofInt 64 n &&& BitVec.ofInt 64 65535).toNat : Nat) = n % 65536
 rw [key, IntKind.wrap_i64]
 omega

theorem i64_xor (a d : Nat) (ha : a < 65536) (hd : d < 65536) : bits .xor .i64 (a : Int) (d : Int) = ((a ^^^ d : Nat) : Int) := by
 have hx : a ^^^ d < 2 ^ 16 := Nat.xor_lt_two_pow (by omega) (by omega)
 have h1 : (BitVec.ofInt 64 (a : Int)).toNat = a := by rw [BitVec.toNat_ofInt]; omega
 have h2 : (BitVec.ofInt 64 (d : Int)).toNat = d := by rw [BitVec.toNat_ofInt]; omega
 show IntKind.i64.wrap ((BitVec.ofInt 64 (a : Int) ^^^ BitVec.ofInt 64 (d : Int)).toNat : Nat) = _
 rw [BitVec.toNat_xor, h1, h2, IntKind.wrap_i64]
 omega

/-- The exclusive or of 16 bits, as the reference reckons it. -/
theorem xor16 (x : Int) (d : Nat) (hd : d ≤ 9) : IntKind.i16.wrap (bits .xor .i64 (bits .and .i64 x 65535) (d : Int)) = bits .xor .i16 x (d : Int) := by
 rw [i64_and16]
 obtain ⟨a, ha⟩ : ∃ a : Nat, x % 65536 = (a : Int) := ⟨(x % 65536).toNat, by omega⟩
 have ha2 : a < 65536 := by omega
 rw [ha, i64_xor a d ha2 (by omega)]
 have h1 : (BitVec.ofInt 16 x).toNat = a := by rw [BitVec.toNat_ofInt]; omega
 have h2 : (BitVec.ofInt 16 (d : Int)).toNat = d := by rw [BitVec.toNat_ofInt]; omega
 show _ = IntKind.i16.wrap ((BitVec.ofInt 16 x ^^^ BitVec.ofInt 16 (d : Int)).toNat : Nat)
 rw [BitVec.toNat_xor, h1, h2]

/-- Shifting by one bit after the other. -/
theorem shl16 (x : Int) (k : Nat) : IntKind.i16.wrap (2 * IntKind.i16.wrap (x * 2 ^ k)) = IntKind.i16.wrap (x * 2 ^ (k + 1)) := by
 rw [Int.pow_succ, ← Int.mul_assoc]
 generalize x * 2 ^ k = y
 rw [wrap16, wrap16, wrap16]
 omega

theorem wrap_any (n : Int) (w : World) : Calls Tryz.prog 83 #[.int .i64 n] w fun e w' => e = .returned (.int .i64 (IntKind.i16.wrap n)) ∧ w' = w := by
 have hb := i64_and16 n
 have HW : Hid (IntKind.i16.wrap n = if 32768 ≤ n % 65536 then n % 65536 - 65536 else n % 65536) := by
  show _ = _
  rw [wrap16]; split <;> omega
 have h0 : 0 ≤ n % 65536 := by omega
 have h1 : n % 65536 < 65536 := by omega
 generalize n % 65536 = m at *
 by_cases h : 32768 ≤ m
 ·go_enter Tryz.func83, Tryz.ntmps83
  go_wp2
  go_ret
  exact ⟨ret_int (by rw [HW.out, if_pos h]), rfl⟩
 ·go_enter Tryz.func83, Tryz.ntmps83
  go_wp2
  go_ret
  exact ⟨ret_int (by rw [HW.out, if_neg (by omega)]), rfl⟩

theorem size_any (s : ByteArray) (i : Nat) (w : World) (hi : i < s.size) (hs : s.size ≤ 1000) : Calls Tryz.prog 82 #[.string s, .int .i64 (i : Int)] w fun e w' => e = .returned (.int .i64 (opSize s[i].toNat : Int)) ∧ w' = w := by
 cases ht : Pl.takesName s[i].toNat
 ·have hemp : (wantsB s[i].toNat).toList.isEmpty = true := by rw [wantsB_empty, ht]; rfl
  have HV : Hid ((opSize s[i].toNat : Int) = 1) := by show _ = _; unfold opSize; rw [ht]; rfl
  go_enter Tryz.func82, Tryz.ntmps82
  go_wp2_with (go_at_call 75; refine (wants_any _ _).mono ?_; rintro e w' ⟨rfl, rfl⟩)
  go_ret
  exact ⟨ret_int HV.out.symm, rfl⟩
 ·have hemp : (wantsB s[i].toNat).toList.isEmpty = false := by rw [wantsB_empty, ht]; rfl
  have HV : Hid ((opSize s[i].toNat : Int) = 2) := by show _ = _; unfold opSize; rw [ht]; rfl
  go_enter Tryz.func82, Tryz.ntmps82
  go_wp2_with (go_at_call 75; refine (wants_any _ _).mono ?_; rintro e w' ⟨rfl, rfl⟩)
  go_ret
  exact ⟨ret_int HV.out.symm, rfl⟩

theorem block_any (s : ByteArray) (n : Nat) (w : World) (hn : n ≤ s.size) (hs : s.size ≤ 1000) : Calls Tryz.prog 59 #[.string s, .int .i64 (n : Int)] w fun e w' => e = .returned (.int .i64 (blkNo (blkTo ((bytesOf s).take n)))) ∧ w' = w := by
 go_enter Tryz.func59, Tryz.ntmps59
 go_wp2_with fail
 go_loop [5, 6, 7] (fun v5 v6 v7 => ∃ (i k : Nat) (o : Bool), i ≤ n ∧ k ≤ i ∧ v7 = .int .i64 (i : Int) ∧ v5 = .int .i64 (k : Int) ∧ v6 = .bool o ∧ Hid (blkTo ((bytesOf s).take i) = (k, o))) (fun _ _ v7 => n - (intOf v7).toNat)
 case atStart => exact ⟨0, 0, false, Nat.zero_le _, Nat.le_refl _, rfl, rfl, rfl, by simp [Hid, blkTo]⟩
 case round =>
  obtain ⟨i, k, o, hi, hk, rfl, rfl, rfl, HH⟩ := hrel
  by_cases hlt : i < n
  ·have hlt' : (i : Int) < (n : Int) := by omega
   have his : i < s.size := by omega
   have hil : (i : Int) < (s.size : Int) := by omega
   have HT : Hid (blkTo ((bytesOf s).take (i + 1)) = blkStep (k, o) s[i].toNat) := by
    show _ = _
    have e : (bytesOf s)[i]? = some s[i].toNat := by
     have := bytesOf_drop s i his
     rw [← List.head?_drop, this]; rfl
    rw [List.take_add_one, e, blk_app, HH.out]
    rfl
   cases h91 : ((s[i].toNat : Int) == 91)
   ·cases h93 : ((s[i].toNat : Int) == 93)
    ·have HN : Hid (blkTo ((bytesOf s).take (i + 1)) = (k, o)) := by
      show _ = _
      rw [HT.out, blkStep, if_neg (by simp at h91; omega), if_neg (by simp at h93; omega)]
     go_wp2
     go_round
     case rel => exact ⟨i + 1, k, o, by omega, by omega, by go_num, rfl, rfl, HN⟩
     case measure => simp [intOf]; omega
    ·have HN : Hid (blkTo ((bytesOf s).take (i + 1)) = (k, false)) := by
      show _ = _
      rw [HT.out, blkStep, if_neg (by simp at h91; omega), if_pos (by simp at h93; omega)]
     go_wp2
     go_round
     case rel => exact ⟨i + 1, k, false, by omega, by omega, by go_num, rfl, rfl, HN⟩
     case measure => simp [intOf]; omega
   ·have h93 : ((s[i].toNat : Int) == 93) = false := by simp at h91 ⊢; omega
    have HN : Hid (blkTo ((bytesOf s).take (i + 1)) = (k + 1, true)) := by
     show _ = _
     rw [HT.out, blkStep, if_pos (by simp at h91; omega)]
    go_wp2
    go_round
    case rel => exact ⟨i + 1, k + 1, true, by omega, by omega, by go_num, by go_num, rfl, HN⟩
    case measure => simp [intOf]; omega
  ·have e : i = n := by omega
   subst e
   cases o
   ·go_wp2
    go_ret
    exact ⟨ret_int (by rw [HH.out]; rfl), rfl⟩
   ·go_wp2
    go_ret
    exact ⟨ret_int (by rw [HH.out]; rfl), rfl⟩

attribute [local go_sem ↓] Go.wp_at_zero Go.wp_at_succ

/-- Where the reference has a thread stand. -/
def atOf (r : List Pl.POp) (t : Th) : Int := if t.failed then -1 else (offs r t.pos : Int)

/-- A thread of the reference's run in memory. -/
structure ThAt (w : World) (tb n : Nat) (x g : Int) : Prop where
 a : w.cell? ⟨tb, n * 2, none⟩ = some (.int .i64 x)
 g : w.cell? ⟨tb, n * 2 + 1, none⟩ = some (.int .i64 g)
 f : ∀ j, w.frozen? ⟨tb, j, none⟩ = false

/-- The two worlds part in the two cells of a thread alone. -/
structure OnlyTh (tb n : Nat) (w w' : World) : Prop where
 off : Off tb w w'
 same : ∀ j, j ≠ n * 2 → j ≠ n * 2 + 1 → w'.cell? ⟨tb, j, none⟩ = w.cell? ⟨tb, j, none⟩

theorem OnlyTh.refl (tb n : Nat) (w : World) : OnlyTh tb n w w := ⟨Off.refl _ _, fun _ _ _ => rfl⟩
theorem OnlyTh.put {tb n : Nat} {w w' : World} (h : OnlyTh tb n w w') (j : Nat) (hj : j = n * 2 ∨ j = n * 2 + 1) (v : Value) : OnlyTh tb n w (w'.setCell ⟨tb, j, none⟩ v) :=
 ⟨h.off.setCell _ _, fun i h1 h2 => by rw [World.cell?_setCell_other _ _ _ _ (by simp; first | done | omega)]; exact h.same i h1 h2⟩
theorem OnlyTh.drew {tb n : Nat} {w w' : World} (h : OnlyTh tb n w w') : OnlyTh tb n w w'.drew := ⟨⟨h.off.os, h.off.tape, h.off.output, h.off.size, h.off.block, h.off.frozen⟩, h.same⟩

theorem ThAt.putA {w : World} {tb n : Nat} {x g : Int} (h : ThAt w tb n x g) (y : Int) : ThAt (w.setCell ⟨tb, n * 2, none⟩ (.int .i64 y)) tb n y g :=
 ⟨World.cell?_setCell_same _ _ _ h.a, by rw [World.cell?_setCell_other _ _ _ _ (by simp)]; exact h.g, fun j => by rw [World.frozen?_setCell]; exact h.f j⟩
theorem ThAt.putG {w : World} {tb n : Nat} {x g : Int} (h : ThAt w tb n x g) (y : Int) : ThAt (w.setCell ⟨tb, n * 2 + 1, none⟩ (.int .i64 y)) tb n x y :=
 ⟨by rw [World.cell?_setCell_other _ _ _ _ (by simp)]; exact h.a, World.cell?_setCell_same _ _ _ h.g, fun j => by rw [World.frozen?_setCell]; exact h.f j⟩

theorem ThAt.drew {w : World} {tb n : Nat} {x g : Int} (h : ThAt w tb n x g) : ThAt w.drew tb n x g := ⟨h.a, h.g, h.f⟩

/-- What a round of on rests on. -/
structure OnInv (r : List Pl.POp) (t : Th) (tb n : Nat) (w wr : World) (f : Nat) (t' : Th) : Prop where
 only : OnlyTh tb n w wr
 at_ : ThAt wr tb n (atOf r t') t'.reg
 set_ : settle r (r.length + 1) t = settle r f t'
 fuel : r.length + 1 ≤ f + t'.pos
 pos : t'.pos ≤ r.length
 reg : In16 t'.reg

theorem byte_at {s : ByteArray} {i c : Nat} (h : (bytesOf s)[i]? = some c) : ∃ hi : i < s.size, s[i].toNat = c := by
 have hi : i < s.size := by rw [← bytesOf_length s]; exact (List.getElem?_eq_some_iff.1 h).1
 refine ⟨hi, ?_⟩
 have := bytesOf_drop s i hi
 rw [← List.head?_drop, this] at h
 simpa using h

theorem own_kinds {o : Pl.POp} (h : OpOk o) (hs : Pl.isShared o.kind = false) : (∃ d : Nat, d ≤ 9 ∧ o.name = 48 + d ∧ digitOf o.name = d ∧ Pl.takesName o.kind = true ∧ (o.kind = 43 ∨ o.kind = 45 ∨ o.kind = 42 ∨ o.kind = 94 ∨ o.kind = 60 ∨ o.kind = 63)) ∨ (Pl.takesName o.kind = false ∧ (o.kind = 33 ∨ o.kind = 91 ∨ o.kind = 93)) := by
 rcases h with ⟨h1, h2⟩ | h | h | h
 ·left
  have hk : o.kind = 43 ∨ o.kind = 45 ∨ o.kind = 42 ∨ o.kind = 94 ∨ o.kind = 60 ∨ o.kind = 63 := by
   simp only [Pl.takesName, Pl.isShared, Bool.or_eq_true, beq_iff_eq, Bool.or_eq_false_iff, beq_eq_false_iff_ne] at h1 hs
   omega
  have hn : 48 ≤ o.name ∧ o.name ≤ 57 := by
   simp only [Pl.isName] at h2
   repeat' split at h2
   all_goals simp at *
   all_goals omega
  refine ⟨o.name - 48, by omega, by omega, ?_, h1, hk⟩
  unfold digitOf
  rw [if_neg (by omega)]
 ·right; rw [h]; exact ⟨by decide, by simp⟩
 ·right; rw [h]; exact ⟨by decide, by simp⟩
 ·right; rw [h]; exact ⟨by decide, by simp⟩

/-- Registers and variables have 16 bits. -/
structure Tame (S : St) : Prop where
 reg : ∀ n, In16 (S.th n).reg
 var : ∀ v, In16 (S.var v)

/-- The reference's run in memory. -/
structure RR (w : World) (b tb bY la tcap lcap : Nat) (p : List (List Pl.POp)) (S : St) : Prop where
 pp : w.cell? ⟨b, 0, none⟩ = some (.pointer (some ⟨bY, 0, none⟩))
 vr : ∀ v, v < 4 → w.cell? ⟨b, 1 + v, none⟩ = some (.int .i64 (S.var v))
 ts : w.cell? ⟨b, 5, none⟩ = some (.slice (some ⟨tb, 0, none⟩) p.length tcap)
 hd : ∀ n l, n < 4 → l < 2 → w.cell? ⟨b, 6 + n * 2 + l, none⟩ = some (.int .i64 ((S.th n).held l : Int))
 th : ∀ n, n < p.length → ThAt w tb n (atOf (rowOf p n) (S.th n)) (S.th n).reg
 fb : ∀ j, w.frozen? ⟨b, j, none⟩ = false
 y0 : w.cell? ⟨bY, 0, none⟩ = some (.slice (some ⟨la, 0, none⟩) p.length lcap)
 ls : ∀ n, n < p.length → ∃ s : ByteArray, w.cell? ⟨la, n, none⟩ = some (.string s) ∧ bytesOf s = textOf (rowOf p n) ∧ s.size ≤ 1000
 rows : ∀ n : Nat, RowOk (rowOf p n)
 p1 : 1 ≤ p.length
 p4 : p.length ≤ 4
 n1 : b ≠ tb
 n2 : bY ≠ b
 n3 : bY ≠ tb
 n4 : la ≠ b
 n5 : la ≠ tb
 sm : Tame S
 idle : ∀ u, p.length ≤ u → u < 4 → S.th u = th0

theorem RR.lt {w : World} {b tb bY la tcap lcap : Nat} {p : List (List Pl.POp)} {S : St} (h : RR w b tb bY la tcap lcap p S) : b < w.heap.size ∧ tb < w.heap.size ∧ bY < w.heap.size ∧ la < w.heap.size := by
 refine ⟨World.block_lt_of_cell? w ⟨b, 0, none⟩ h.pp, World.block_lt_of_cell? w ⟨tb, 0 * 2, none⟩ (h.th 0 h.p1).a, World.block_lt_of_cell? w ⟨bY, 0, none⟩ h.y0, ?_⟩
 obtain ⟨s, hs, -⟩ := h.ls 0 h.p1
 exact World.block_lt_of_cell? w ⟨la, 0, none⟩ hs

/-- What the run rests on is there still. -/
theorem RR.of {w w' : World} {b tb bY la tcap lcap : Nat} {p : List (List Pl.POp)} {S : St} (h : RR w b tb bY la tcap lcap p S) (hb : ∀ k, k = b ∨ k = tb ∨ k = bY ∨ k = la → w'.heap[k]? = w.heap[k]?) : RR w' b tb bY la tcap lcap p S := by
 have c : ∀ k j, (k = b ∨ k = tb ∨ k = bY ∨ k = la) → w'.cell? ⟨k, j, none⟩ = w.cell? ⟨k, j, none⟩ := fun k j hk => World.cell?_of_block (w := w) (hb k hk)
 have f : ∀ k j, (k = b ∨ k = tb ∨ k = bY ∨ k = la) → w'.frozen? ⟨k, j, none⟩ = w.frozen? ⟨k, j, none⟩ := fun k j hk => World.frozen?_of_block (w := w) (hb k hk)
 refine ⟨(c _ _ (by simp)).trans h.pp, fun v hv => (c _ _ (by simp)).trans (h.vr v hv), (c _ _ (by simp)).trans h.ts, fun n l h1 h2 => (c _ _ (by simp)).trans (h.hd n l h1 h2), fun n hn => ?_, fun j => (f _ _ (by simp)).trans (h.fb j), (c _ _ (by simp)).trans h.y0, fun n hn => ?_, h.rows, h.p1, h.p4, h.n1, h.n2, h.n3, h.n4, h.n5, h.sm, h.idle⟩
 ·obtain ⟨a, g, ff⟩ := h.th n hn
  exact ⟨(c _ _ (by simp)).trans a, (c _ _ (by simp)).trans g, fun j => (f _ _ (by simp)).trans (ff j)⟩
 ·obtain ⟨s, h1, h2⟩ := h.ls n hn
  exact ⟨s, (c _ _ (by simp)).trans h1, h2⟩

theorem RR.below {w w' : World} {b tb bY la tcap lcap : Nat} {p : List (List Pl.POp)} {S : St} (h : RR w b tb bY la tcap lcap p S) (hb : Below w.heap.size w w') : RR w' b tb bY la tcap lcap p S := by
 obtain ⟨h1, h2, h3, h4⟩ := h.lt
 exact h.of fun k hk => hb.block k (by omega)

/-- All but two blocks are as they were. -/
structure Kept (b tb : Nat) (w w' : World) : Prop where
 os : w'.os = w.os
 tape : w'.tape = w.tape
 output : w'.output = w.output
 size : w.heap.size ≤ w'.heap.size
 block : ∀ k, k < w.heap.size → k ≠ b → k ≠ tb → w'.heap[k]? = w.heap[k]?

theorem Kept.trans {b tb : Nat} {w w' w'' : World} (h : Kept b tb w w') (g : Kept b tb w' w'') : Kept b tb w w'' :=
 ⟨g.os.trans h.os, g.tape.trans h.tape, g.output.trans h.output, Nat.le_trans h.size g.size, fun k hk h1 h2 => (g.block k (Nat.lt_of_lt_of_le hk h.size) h1 h2).trans (h.block k hk h1 h2)⟩
theorem Below.kept {b tb : Nat} {w w' : World} (h : Below w.heap.size w w') : Kept b tb w w' := ⟨h.os, h.tape, h.output, h.size, fun k hk _ _ => h.block k hk⟩
theorem Kept.below {b tb B : Nat} {w w' : World} (h : Kept b tb w w') (h1 : B ≤ b) (h2 : B ≤ tb) (h3 : B ≤ w.heap.size) : Below B w w' :=
 ⟨h.os, h.tape, h.output, h.size, fun k hk => h.block k (by omega) (by omega) (by omega)⟩
theorem Off.kept {b tb : Nat} {w w' : World} (h : Off tb w w') : Kept b tb w w' := ⟨h.os, h.tape, h.output, by rw [h.size]; exact Nat.le_refl _, fun k _ _ h2 => h.block k h2⟩
theorem Off.kept' {b tb : Nat} {w w' : World} (h : Off b w w') : Kept b tb w w' := ⟨h.os, h.tape, h.output, by rw [h.size]; exact Nat.le_refl _, fun k _ h1 _ => h.block k h1⟩

theorem rowOf_nat {p : List (List Pl.POp)} {n : Nat} (h : n < p.length) : rowOf p (n : Int) = p[n] := by unfold rowOf; rw [if_neg (by omega)]; simp [h]
theorem rowOf_past {p : List (List Pl.POp)} {n : Nat} (h : p.length ≤ n) : rowOf p (n : Int) = [] := by unfold rowOf; rw [if_neg (by omega)]; simp [h]

/-- A thread's two cells turn. -/
theorem RR.move {w w' : World} {b tb bY la tcap lcap : Nat} {p : List (List Pl.POp)} {S : St} (h : RR w b tb bY la tcap lcap p S) {n : Nat} (hn : n < p.length) (ho : OnlyTh tb n w w') (u : Th) (hu : ThAt w' tb n (atOf (rowOf p n) u) u.reg) (hg : In16 u.reg) (hh : ∀ l, l < 2 → u.held l = (S.th n).held l) : RR w' b tb bY la tcap lcap p (S.setTh n u) := by
 have h4 := h.p4
 have c : ∀ k j, k ≠ tb → w'.cell? ⟨k, j, none⟩ = w.cell? ⟨k, j, none⟩ := fun k j hk => World.cell?_of_block (w := w) (ho.off.block k hk)
 have f : ∀ k j, k ≠ tb → w'.frozen? ⟨k, j, none⟩ = w.frozen? ⟨k, j, none⟩ := fun k j hk => World.frozen?_of_block (w := w) (ho.off.block k hk)
 have hvar : ∀ v, (S.setTh n u).var v = S.var v := fun v => by
  have : n = 0 ∨ n = 1 ∨ n = 2 ∨ n = 3 := by omega
  rcases this with rfl | rfl | rfl | rfl <;> (unfold St.var St.setTh; rfl)
 have hth : ∀ m, m < 4 → (S.setTh n u).th m = if m = n then u else S.th m := fun m hm => th_setTh S n u (by omega) m hm
 refine ⟨(c _ _ h.n1).trans h.pp, fun v hv => (c _ _ h.n1).trans (by rw [hvar]; exact h.vr v hv), (c _ _ h.n1).trans h.ts, fun m l h1 h2 => (c _ _ h.n1).trans ?_, fun m hm => ?_, fun j => (f _ _ h.n1).trans (h.fb j), (c _ _ h.n3).trans h.y0, fun m hm => ?_, h.rows, h.p1, h.p4, h.n1, h.n2, h.n3, h.n4, h.n5, ⟨fun m => ?_, fun v => by rw [hvar]; exact h.sm.var v⟩, fun m h1 h2 => by rw [hth m h2, if_neg (by omega)]; exact h.idle m h1 h2⟩
 ·rw [hth m h1]
  split
  ·rename_i e; subst e; rw [hh l h2]; exact h.hd m l h1 h2
  ·exact h.hd m l h1 h2
 ·rw [hth m (by omega)]
  split
  ·rename_i e; subst e; exact hu
  ·rename_i e
   obtain ⟨a, g, ff⟩ := h.th m hm
   exact ⟨(ho.same _ (by omega) (by omega)).trans a, (ho.same _ (by omega) (by omega)).trans g, fun j => by rw [ho.off.frozen]; exact ff j⟩
 ·obtain ⟨s, h1, h2⟩ := h.ls m hm
  exact ⟨s, (c _ _ h.n5).trans h1, h2⟩
 ·by_cases hm : m < 4
  ·rw [hth m hm]
   split
   ·exact hg
   ·exact h.sm.reg m
  ·have e1 : ∀ T : St, T.th m = T.t3 := fun T => by
    match m, hm with
    | m + 4, _ => rfl
   have h3 := hth 3 (by omega)
   rw [e1]
   show In16 ((S.setTh n u).th 3).reg
   rw [h3]
   split
   ·exact hg
   ·exact h.sm.reg 3

theorem settle_in16 (r : List Pl.POp) : ∀ (k : Nat) (t : Th), In16 t.reg → In16 (settle r k t).reg
 | 0, t, h => h
 | k + 1, t, h => by
  unfold settle
  split
  ·exact h
  ·split
   ·exact h
   ·rename_i o _ hs
    refine settle_in16 r k _ ?_
    unfold ownStep
    split
    ·exact h
    ·split
     ·exact h
     ·show In16 (reck _ _ _)
      unfold reck
      repeat' split
      all_goals first
       | exact in16_wrap _
       | exact h
       | (show In16 (bits _ _ _ _); unfold bits; exact in16_wrap _)

theorem settle_keeps (r : List Pl.POp) : ∀ (k : Nat) (t : Th) (l : Nat), (settle r k t).held l = t.held l
 | 0, t, l => rfl
 | k + 1, t, l => by
  unfold settle
  split
  ·rfl
  ·split
   ·rfl
   ·rw [settle_keeps r k]
    have := ownStep_holds t r
    unfold Th.held
    rw [(this _).1, (this _).2]

theorem RR.ofCells {w w' : World} {b tb bY la tcap lcap : Nat} {p : List (List Pl.POp)} {S : St} (h : RR w b tb bY la tcap lcap p S) (c : ∀ k j, (k = b ∨ k = tb ∨ k = bY ∨ k = la) → w'.cell? ⟨k, j, none⟩ = w.cell? ⟨k, j, none⟩) (f : ∀ k j, (k = b ∨ k = tb ∨ k = bY ∨ k = la) → w'.frozen? ⟨k, j, none⟩ = w.frozen? ⟨k, j, none⟩) : RR w' b tb bY la tcap lcap p S := by
 refine ⟨(c _ _ (by simp)).trans h.pp, fun v hv => (c _ _ (by simp)).trans (h.vr v hv), (c _ _ (by simp)).trans h.ts, fun n l h1 h2 => (c _ _ (by simp)).trans (h.hd n l h1 h2), fun n hn => ?_, fun j => (f _ _ (by simp)).trans (h.fb j), (c _ _ (by simp)).trans h.y0, fun n hn => ?_, h.rows, h.p1, h.p4, h.n1, h.n2, h.n3, h.n4, h.n5, h.sm, h.idle⟩
 ·obtain ⟨a, g, ff⟩ := h.th n hn
  exact ⟨(c _ _ (by simp)).trans a, (c _ _ (by simp)).trans g, fun j => (f _ _ (by simp)).trans (ff j)⟩
 ·obtain ⟨s, h1, h2⟩ := h.ls n hn
  exact ⟨s, (c _ _ (by simp)).trans h1, h2⟩

theorem RR.far {w : World} {b tb bY la tcap lcap : Nat} {p : List (List Pl.POp)} {S : St} (h : RR w b tb bY la tcap lcap p S) {k : Nat} (hk : k ≠ b ∧ k ≠ tb ∧ k ≠ bY ∧ k ≠ la) (j : Nat) (v : Value) : RR (w.setCell ⟨k, j, none⟩ v) b tb bY la tcap lcap p S :=
 h.ofCells (fun k' j' h' => World.cell?_setCell_far _ _ _ _ (by show k ≠ k'; rcases h' with rfl | rfl | rfl | rfl <;> omega)) (fun k' j' _ => World.frozen?_setCell _ _ _ _)

theorem RR.new {w : World} {b tb bY la tcap lcap : Nat} {p : List (List Pl.POp)} {S : St} (h : RR w b tb bY la tcap lcap p S) (o : Obj) : RR (w.alloc o) b tb bY la tcap lcap p S :=
 h.below ((Below.refl _ _).alloc (Nat.le_refl _) _)

theorem RR.drew {w : World} {b tb bY la tcap lcap : Nat} {p : List (List Pl.POp)} {S : St} (h : RR w b tb bY la tcap lcap p S) : RR w.drew b tb bY la tcap lcap p S := h.below (Below.refl _ _).drew

theorem var_setVar (S : St) (v : Nat) (x : Int) (hv : v < 4) (u : Nat) (hu : u < 4) : (S.setVar v x).var u = if u = v then x else S.var u := by
 have h1 : v = 0 ∨ v = 1 ∨ v = 2 ∨ v = 3 := by omega
 have h2 : u = 0 ∨ u = 1 ∨ u = 2 ∨ u = 3 := by omega
 rcases h1 with rfl | rfl | rfl | rfl <;> rcases h2 with rfl | rfl | rfl | rfl <;> rfl

theorem var_past (S : St) (u : Nat) (hu : 4 ≤ u) : S.var u = S.var 3 := by
 match u, hu with
 | u + 4, _ => rfl

/-- A variable turns. -/
theorem RR.setVar {w : World} {b tb bY la tcap lcap : Nat} {p : List (List Pl.POp)} {S : St} (h : RR w b tb bY la tcap lcap p S) (v : Nat) (hv : v < 4) (x : Int) (hx : In16 x) : RR (w.setCell ⟨b, 1 + v, none⟩ (.int .i64 x)) b tb bY la tcap lcap p (S.setVar v x) := by
 have far : ∀ k j, k ≠ b → (w.setCell ⟨b, 1 + v, none⟩ (.int .i64 x)).cell? ⟨k, j, none⟩ = w.cell? ⟨k, j, none⟩ := fun k j hk => World.cell?_setCell_far _ _ _ _ (Ne.symm hk)
 have near : ∀ j, j ≠ 1 + v → (w.setCell ⟨b, 1 + v, none⟩ (.int .i64 x)).cell? ⟨b, j, none⟩ = w.cell? ⟨b, j, none⟩ := fun j hj => World.cell?_setCell_other _ _ _ _ (fun e => hj (by simpa using (congrArg Addr.off e).symm))
 have vv : ∀ u, In16 ((S.setVar v x).var u) := fun u => by
  by_cases hu : u < 4
  ·rw [var_setVar S v x hv u hu]; split
   ·exact hx
   ·exact h.sm.var u
  ·rw [var_past _ u (by omega), var_setVar S v x hv 3 (by omega)]; split
   ·exact hx
   ·exact h.sm.var 3
 refine ⟨(near _ (by omega)).trans h.pp, fun u hu => ?_, (near _ (by omega)).trans h.ts, fun n l h1 h2 => (near _ (by omega)).trans (by rw [th_setVar]; exact h.hd n l h1 h2), fun n hn => ?_, fun j => by rw [World.frozen?_setCell]; exact h.fb j, (far _ _ h.n2).trans h.y0, fun n hn => ?_, h.rows, h.p1, h.p4, h.n1, h.n2, h.n3, h.n4, h.n5, ⟨fun n => by rw [th_setVar]; exact h.sm.reg n, vv⟩, fun u h1 h2 => by rw [th_setVar]; exact h.idle u h1 h2⟩
 ·rw [var_setVar S v x hv u hu]
  split
  ·rename_i e; subst e; exact World.cell?_setCell_same _ _ _ (h.vr u hu)
  ·rename_i e; exact (near _ (by omega)).trans (h.vr u hu)
 ·rw [th_setVar]
  obtain ⟨a, g, ff⟩ := h.th n hn
  exact ⟨(far _ _ (Ne.symm h.n1)).trans a, (far _ _ (Ne.symm h.n1)).trans g, fun j => by rw [World.frozen?_setCell]; exact ff j⟩
 ·obtain ⟨s, h1, h2⟩ := h.ls n hn
  exact ⟨s, (far _ _ h.n4).trans h1, h2⟩

theorem held_with (t : Th) (l x k : Nat) (hl : l < 2) (hk : k < 2) : (t.withHeld l x).held k = if k = l then x else t.held k := by
 have h1 : l = 0 ∨ l = 1 := by omega
 have h2 : k = 0 ∨ k = 1 := by omega
 rcases h1 with rfl | rfl <;> rcases h2 with rfl | rfl <;> rfl

/-- A lock's count turns. -/
theorem RR.setHeld {w : World} {b tb bY la tcap lcap : Nat} {p : List (List Pl.POp)} {S : St} (h : RR w b tb bY la tcap lcap p S) (n l : Nat) (hn : n < p.length) (hl : l < 2) (x : Nat) : RR (w.setCell ⟨b, 6 + n * 2 + l, none⟩ (.int .i64 (x : Int))) b tb bY la tcap lcap p (S.setTh n ((S.th n).withHeld l x)) := by
 have h4 := h.p4
 have far : ∀ k j, k ≠ b → (w.setCell ⟨b, 6 + n * 2 + l, none⟩ (.int .i64 (x : Int))).cell? ⟨k, j, none⟩ = w.cell? ⟨k, j, none⟩ := fun k j hk => World.cell?_setCell_far _ _ _ _ (Ne.symm hk)
 have near : ∀ j, j ≠ 6 + n * 2 + l → (w.setCell ⟨b, 6 + n * 2 + l, none⟩ (.int .i64 (x : Int))).cell? ⟨b, j, none⟩ = w.cell? ⟨b, j, none⟩ := fun j hj => World.cell?_setCell_other _ _ _ _ (fun e => hj (by simpa using (congrArg Addr.off e).symm))
 have hvar : ∀ v, (S.setTh n ((S.th n).withHeld l x)).var v = S.var v := fun v => by
  have : n = 0 ∨ n = 1 ∨ n = 2 ∨ n = 3 := by omega
  rcases this with rfl | rfl | rfl | rfl <;> (unfold St.var St.setTh; rfl)
 have hth : ∀ m, m < 4 → (S.setTh n ((S.th n).withHeld l x)).th m = if m = n then (S.th n).withHeld l x else S.th m := fun m hm => th_setTh S n _ (by omega) m hm
 have hreg : ∀ m, In16 ((S.setTh n ((S.th n).withHeld l x)).th m).reg := fun m => by
  have key : ∀ m, m < 4 → In16 ((S.setTh n ((S.th n).withHeld l x)).th m).reg := fun m hm => by
   rw [hth m hm]; split
   ·exact h.sm.reg n
   ·exact h.sm.reg m
  by_cases hm : m < 4
  ·exact key m hm
  ·match m, hm with
   | m + 4, _ => exact key 3 (by omega)
 refine ⟨(near _ (by omega)).trans h.pp, fun u hu => by rw [hvar]; exact (near _ (by omega)).trans (h.vr u hu), (near _ (by omega)).trans h.ts, fun m k h1 h2 => ?_, fun m hm => ?_, fun j => by rw [World.frozen?_setCell]; exact h.fb j, (far _ _ h.n2).trans h.y0, fun m hm => ?_, h.rows, h.p1, h.p4, h.n1, h.n2, h.n3, h.n4, h.n5, ⟨hreg, fun v => by rw [hvar]; exact h.sm.var v⟩, fun u h1 h2 => by rw [hth u h2, if_neg (by omega)]; exact h.idle u h1 h2⟩
 ·rw [hth m h1]
  split
  ·rename_i e
   subst e
   rw [held_with _ _ _ _ hl h2]
   split
   ·rename_i e2; subst e2; exact World.cell?_setCell_same _ _ _ (h.hd m k h1 h2)
   ·rename_i e2; exact (near _ (by omega)).trans (h.hd m k h1 h2)
  ·rename_i e
   exact (near _ (by omega)).trans (h.hd m k h1 h2)
 ·rw [hth m (by omega)]
  obtain ⟨a, g, ff⟩ := h.th m hm
  split
  ·rename_i e
   subst e
   exact ⟨(far _ _ (Ne.symm h.n1)).trans a, (far _ _ (Ne.symm h.n1)).trans g, fun j => by rw [World.frozen?_setCell]; exact ff j⟩
  ·exact ⟨(far _ _ (Ne.symm h.n1)).trans a, (far _ _ (Ne.symm h.n1)).trans g, fun j => by rw [World.frozen?_setCell]; exact ff j⟩
 ·obtain ⟨s, h1, h2⟩ := h.ls m hm
  exact ⟨s, (far _ _ h.n4).trans h1, h2⟩

end Go.Proofs.YtfdafcnfefbcbabGreat
