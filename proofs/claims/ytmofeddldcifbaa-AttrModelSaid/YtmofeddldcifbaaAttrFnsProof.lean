/- Package attr has the contracts that the laws lean on. -/
import Derived.Test.YtmofeddldcifbaaAttrAlike2
namespace Go.Proofs.Ytmofeddldcifbaa
theorem attrFns : AttrFns where
  right := right_any'
  get := attrget_any
  set a len cap L n v w h hn hv hl := (attrset_any a len cap L n v w h hn hv hl).mono fun _ _ h => h.post
  remove a len cap L n w h hn hl := (attrrem_any a len cap L n w h hn hl).mono fun _ _ h => h.post
  toggle a len cap L n f w h hn hl := (attrtog_any a len cap L n f w h hn hl).mono fun _ _ h => h.post
  alike := attralike_any
end Go.Proofs.Ytmofeddldcifbaa
