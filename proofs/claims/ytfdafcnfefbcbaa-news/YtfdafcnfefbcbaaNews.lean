/-
  PROVED HERE: whatever the text, the Go function interleavelaw.News, called in whatever memory and on every schedule, returns true and leaves its argument as it was: New answers the error, the place and the number of threads that the document asks.
  No condition beside the form's own reach.
-/
import Derived.Test.YtfdafcnfefbcbaaMade
import Derived.ProofKit
import Derived.OpenShut
import Derived.ShutString
import Derived.ChangeOld
import Derived.BigQuiet
import Derived.Deep.QuietTactic
namespace Go.Proofs.Ytfdafcnfefbcbaa
open Go.ChangeShapes Go.WideShapes Go.ChangeAt Go.RowKit
open Go.ChangeMaps (open_string shut_string)
set_option linter.unusedVariables false

set_option maxRecDepth 100000 in
set_option maxHeartbeats 1000000 in
theorem news_walk (s : ByteArray) (w : World) (hs : s.size ≤ maxLen) : Calls Try.prog 3 #[.string s] w fun e w' => e = .returned (.bool true) ∧ Below w.heap.size w w' := by
  cases hn : Pl.new (bytesOf s) with
  | inl kn =>
    have HN : Hid _ := hn
    clear hn
    go_enter Try.func3, Try.ntmps3
    go_wp2_with fail
    refine (known_any _).mono ?_
    rintro e w1 ⟨rfl, hb1⟩
    go_wp2_with fail
    refine (made_any s _ hs).mono ?_
    rintro e w2 ⟨hb2, he⟩
    rw [HN.out] at he
    subst he
    go_wp2
    go_ret
    exact ⟨rfl, hb1.trans (hb2.mono hb1.size)⟩
  | inr p =>
    have HN : Hid _ := hn
    have hpl : p.length ≤ 1000 := by
      rcases Pl.new_ref (bytesOf s) with ⟨k, n, h1, _⟩ | ⟨q, h1, h2⟩
      · rw [hn] at h1; cases h1
      · rw [hn] at h1; cases h1
        unfold Pl.refNew at h2
        split at h2
        · cases h2
        · split at h2
          · cases h2
          · split at h2
            · cases h2
            · rename_i c _ _
              simp at h2
              have := countBytes_le (fun c => c == 10) (bytesOf s)
              omega
    clear hn
    go_enter Try.func3, Try.ntmps3
    go_wp2_with fail
    refine (known_any _).mono ?_
    rintro e w1 ⟨rfl, hb1⟩
    go_wp2_with fail
    refine (made_any s _ hs).mono ?_
    rintro e w2 ⟨hb2, he⟩
    rw [HN.out] at he
    obtain ⟨b, rfl, hp, hlen⟩ := he
    obtain ⟨bx, bY, h1, h2, c0, c1, hp, hr⟩ := hp
    obtain ⟨_, _, a, cap, c2, _⟩ := hr
    rw [hlen] at c2
    have HL : Hid _ := hlen
    clear hlen
    have HP : Hid (ProgIn w2 w1.heap.size w2.heap.size bx p) := hp
    clear hp
    go_wp2_with fail
    go_quiet ((go_at_call 17; exact Calls.quiet_of_same (threads_any p w1.heap.size w2.heap.size bx _ (HP.out.below (by exact below_drewN (Below.refl _ _) _)) hpl)))
    go_wp2
    go_ret
    exact ⟨by simp, below_drewN (hb1.trans (hb2.mono hb1.size)) _⟩

end Go.Proofs.Ytfdafcnfefbcbaa
