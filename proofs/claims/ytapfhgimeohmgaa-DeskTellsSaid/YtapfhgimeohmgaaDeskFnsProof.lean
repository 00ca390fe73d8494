/- What is asked of package desk's functions holds of the landed code. -/
import Derived.Test.YtapfhgimeohmgaaDeskAddOk
import Derived.Test.YtapfhgimeohmgaaDeskAwaitFn
namespace Go.Proofs.Ytapfhgimeohmgaa
open Go.RowKit
theorem deskFns : DeskFns where
  right := deskright_any
  find := fun da dl dc wa wl wc nx bz L M l s W h1 h2 _ _ => deskfind_any da dl dc wa wl wc nx bz L M l s W h1 h2
  named := fun da dl dc wa wl wc nx bz L M s W h1 h2 _ => named_any da dl dc wa wl wc nx bz L M s W h1 h2
  classed := classed_any
  may := fun da dl dc wa wl wc nx bz L M m s base c W h1 h2 h3 _ => deskmay_any da dl dc wa wl wc nx bz L M m s base c W h1 h2 h3
  add := fun da dl dc wa wl wc nx bz L M m s base c W h1 h2 h3 h4 h5 h6 h7 => by
    by_cases hm : mayE ⟨L, M, nx, bz⟩ m s.toList base.toList c = 0
    · unfold addR
      rw [if_pos hm]
      exact add_ok da dl dc wa wl wc nx bz L M m s base c W h1 h2 h3 h4 h5 h6 h7 hm
    · unfold addR
      rw [if_neg hm]
      exact add_err da dl dc wa wl wc nx bz L M m s base c W h1 h2 h3 h6 h7 hm
  await := fun da dl dc wa wl wc nx bz L M s W h1 h2 h3 _ h6 h7 => by
    by_cases hm : awaitE ⟨L, M, nx, bz⟩ s.toList = 0
    · unfold awaitR
      rw [if_pos hm]
      exact await_good da dl dc wa wl wc nx bz L M s W h1 h2 h3 h6 h7 hm
    · unfold awaitR
      rw [if_neg hm]
      exact await_err da dl dc wa wl wc nx bz L M s W h1 h2 h3 h6 h7 hm
end Go.Proofs.Ytapfhgimeohmgaa
