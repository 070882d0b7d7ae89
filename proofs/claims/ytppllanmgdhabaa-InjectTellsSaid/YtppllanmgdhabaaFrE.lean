/- Contracts of deeds and Once, of the document's own answers, and of Nums. -/
import Derived.Test.YtppllanmgdhabaaFrC
namespace Go.Proofs.Ytppllanmgdhabaa
open Go.RowKit Go.Deep
set_option maxRecDepth 100000 in
theorem rover_any (f : Fr) (w : World) : Tells 43 #[fv f] w (.bool (f.res != 0)) := by
  obtain ⟨o, c, p, v, x, y, r⟩ := f
  go_enter Try.func43, Try.ntmps43
  go_wp2
  go_ret
  exact ⟨rfl, (Below.refl _ _).alloc (Nat.le_refl _) _⟩
set_option maxRecDepth 100000 in
theorem rbegin_any (o p v : Int) (w : World) : Tells 42 #[.int .i64 o, .int .i64 p, .int .u64 v] w (fv (fbg o p v)) := by
  go_enter Try.func42, Try.ntmps42
  go_wp2
  refine bodyPost_ret (by simp [results, Try.results42, go_sem]; try rfl) rfl ?_
  exact ⟨rfl, (Below.refl _ _).alloc (Nat.le_refl _) _⟩
set_option maxRecDepth 100000 in
theorem rend_any (f : Fr) (r v : Int) (w : World) : Tells 65 #[fv f, .int .i64 r, .int .u64 v] w (fv (ed f r v)) := by
  obtain ⟨o, c, p, v', x, y, r'⟩ := f
  go_enter Try.func65, Try.ntmps65
  go_wp2
  refine bodyPost_ret (by simp [results, Try.results65, go_sem]; try rfl) rfl ?_
  exact ⟨rfl, ((Below.refl _ _).alloc (Nat.le_refl _) _).alloc (by simp) _⟩
end Go.Proofs.Ytppllanmgdhabaa
