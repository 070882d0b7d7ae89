/- Contracts of deeds and Once, of the document's own answers, and of Nums. -/
import Derived.Test.YtpnmgpmmaiinmaaFrC
namespace Go.Proofs.Ytpnmgpmmaiinmaa
open Go.RowKit Go.Deep
theorem rover_any (f : Fr) (w : World) : Tells 54 #[fv f] w (.bool (f.res != 0)) := by
  obtain ⟨o, c, p, v, x, y, r⟩ := f
  go_enter Try.func54, Try.ntmps54
  go_wp2
  go_ret
  exact ⟨rfl, (Below.refl _ _).alloc (Nat.le_refl _) _⟩
theorem rend_any (f : Fr) (r v : Int) (w : World) : Tells 31 #[fv f, .int .i64 r, .int .u64 v] w (fv (ed f r v)) := by
  obtain ⟨o, c, p, v', x, y, r'⟩ := f
  go_enter Try.func31, Try.ntmps31
  go_wp2
  refine bodyPost_ret (by simp [results, Try.results31, go_sem]; try rfl) rfl ?_
  exact ⟨rfl, ((Below.refl _ _).alloc (Nat.le_refl _) _).alloc (by simp) _⟩
end Go.Proofs.Ytpnmgpmmaiinmaa
