/- Texts joined in build order: Ref9FnsProof. -/
import Derived.Test.YtioeagadhnnajaaA49
import Derived.Test.YtioeagadhnnajaaA43
import Derived.Test.YtioeagadhnnajaaA39
import Derived.Test.YtioeagadhnnajaaA38
/- instarref09's Add and Await answer what the mathematics says. -/
namespace Go.Proofs.Ytioeagadhnnajaa
open Go.RowKit
theorem awaitE_custom {D : DeskD} {s : List UInt8} (h : awaitE D s = 0) : rightK D = true ∧ customL s = true ∧ ¬ 100000 ≤ D.next := by
  unfold awaitE at h
  by_cases h1 : rightK D = false
  · rw [if_pos h1] at h; cases h
  · rw [if_neg h1] at h
    by_cases h2 : customL s = false
    · rw [if_pos h2] at h; cases h
    · rw [if_neg h2] at h
      by_cases h3 : 100000 ≤ D.next
      · rw [if_pos h3] at h; cases h
      · exact ⟨by simpa using h1, by simpa using h2, h3⟩
theorem ref9Fns : Ref9Fns where
  add := fun da dl dc wa wl wc nx bz L M m s base c W hd ht hsh hs hbs hc => by
    obtain ⟨h1, h2, _, _⟩ := shortK_iff.1 hsh
    obtain ⟨sd, st⟩ := short_small hsh
    have e1 := hd.hlen
    have e2 := ht.hlen
    by_cases hE : mayE ⟨L, M, nx, bz⟩ m s.toList base.toList c = 0
    · have : addR9 ⟨L, M, nx, bz⟩ m s base c = (addK ⟨L, M, nx, bz⟩ s base c, (L.length : Int), toldZ M s.toList, 0) := by unfold addR9; rw [if_pos hE]
      rw [this]
      exact refadd_ok da dl dc wa wl wc nx bz L M m s base c W hd ht sd st (by omega) (by omega) (by omega) (by omega) hc hE
    · exact refadd_err da dl dc wa wl wc nx bz L M m s base c W hd ht sd st (by omega) hE
  await := fun da dl dc wa wl wc nx bz L M s W hd ht hsh hs hnx => by
    obtain ⟨h1, h2, _, _⟩ := shortK_iff.1 hsh
    obtain ⟨sd, st⟩ := short_small hsh
    have e1 := hd.hlen
    have e2 := ht.hlen
    by_cases hE : awaitE ⟨L, M, nx, bz⟩ s.toList = 0
    · obtain ⟨hr, hcu, hn⟩ := awaitE_custom hE
      have h0 : 0 ≤ nx := (rightK_iff.1 hr).n0
      have : awaitR ⟨L, M, nx, bz⟩ s = (awaitK ⟨L, M, nx, bz⟩ s, nx, namedZ L s.toList, 0) := by unfold awaitR; rw [if_pos hE]
      rw [this]
      exact refawait_ok da dl dc wa wl wc nx bz L M s W hd ht sd st (by omega) (by omega) h0 hn hr hcu
    · exact refawait_err da dl dc wa wl wc nx bz L M s W hd ht sd st (by omega) hE
end Go.Proofs.Ytioeagadhnnajaa
