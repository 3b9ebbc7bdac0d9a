/-
 The contract of the reference's on, over the whole run.
-/
import Derived.Test.YtfdafcnfefbcbabGreatRefOn
import Derived.Test.YtfdafcnfefbcbabGreatRfa
namespace Go.Proofs.YtfdafcnfefbcbabGreat
open Go.RowKit
set_option linter.unusedVariables false

theorem on_any {w : World} {b tb bY la tcap lcap : Nat} {p : List (List Pl.POp)} {S : St} (h : RR w b tb bY la tcap lcap p S) (n : Nat) (hn : n < p.length) (hp : (S.th n).pos ≤ (rowOf p n).length) :
  Calls Tryz.prog 58 #[.pointer (some ⟨b, 0, none⟩), .int .i64 (n : Int)] w
   fun e w' => e = .returned (.tuple #[]) ∧ Kept b tb w w' ∧ w'.heap.size = w.heap.size ∧ RR w' b tb bY la tcap lcap p (S.setTh n (settle (rowOf p n) ((rowOf p n).length + 1) (S.th n))) := by
 obtain ⟨s, hs1, hs2, hs3⟩ := h.ls n hn
 refine (on_walk (rowOf p n) s (S.th n) n b tb bY p.length tcap lcap la w (h.rows n) hs2 hs3 hn h.pp h.ts h.y0 hs1 (h.th n hn) hp (h.sm.reg n)).mono ?_
 rintro e w' ⟨rfl, ho, hu⟩
 exact ⟨rfl, ho.off.kept, ho.off.size, h.move hn ho _ hu (settle_in16 _ _ _ (h.sm.reg n)) (fun l _ => settle_keeps _ _ _ l)⟩

end Go.Proofs.YtfdafcnfefbcbabGreat
