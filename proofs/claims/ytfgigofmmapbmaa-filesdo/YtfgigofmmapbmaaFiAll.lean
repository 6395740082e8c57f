/- Package files: all that the laws ask of it. -/
import Derived.Test.YtfgigofmmapbmaaFiOpen
import Derived.Test.YtfgigofmmapbmaaFiClose
import Derived.Test.YtfgigofmmapbmaaFiDrop
import Derived.Test.YtfgigofmmapbmaaFiForkOk
namespace Go.Proofs.Ytfgigofmmapbmaa

theorem works9 : Works Fi where
  keep := fun h _ hk => fi_keep h hk
  lt := fi_lt
  wf := fi_wf
  opn := fun h _ _ P k t => fi_open h P k t
  dup := fun h hl _ P d => fi_dup h hl P d
  cls := fun h hl _ P d => fi_close h hl P d
  get := fun h _ _ P d => fi_get h P d
  fork := fun h hl _ P c => fi_fork h hl P c
  drop := fun h hl _ P => fi_drop h hl P
  count := fun h _ _ => fi_count h
end Go.Proofs.Ytfgigofmmapbmaa
