/- Plain facts of an entry put with its name, and taken out again. No conditions. -/
import Derived.Test.YtijffkklhgnknaaDoorMgMem
set_option linter.unusedVariables false
namespace Go.Proofs.YtijffkklhgnknaaDoor
open Go.RowKit

section
variable {X R : List Ent} {x : Ent} {z : Nat} {nm : ByteArray}
theorem other_name (hR : X.filter (fun e : Ent => !(e.nm.toList == x.nm.toList)) = R) : ∀ y ∈ R, (y.nm.toList == x.nm.toList) = false := fun y hy => by
  rw [← hR] at hy
  have h := (List.mem_filter.1 hy).2
  simpa using h
/-- What was put is found. -/
theorem find_with (hR : X.filter (fun e : Ent => !(e.nm.toList == x.nm.toList)) = R) : (R.take z ++ x :: R.drop z).find? (fun e : Ent => e.nm.toList == x.nm.toList) = some x := by
  have h := other_name hR
  rw [List.find?_append, List.find?_eq_none.2 (fun y hy => by rw [h y (List.mem_of_mem_take hy)]; decide), Option.none_or, List.find?_cons_of_pos (by simp)]
/-- Without it, the others are left. -/
theorem filter_with (hR : X.filter (fun e : Ent => !(e.nm.toList == x.nm.toList)) = R) : (R.take z ++ x :: R.drop z).filter (fun e : Ent => !(e.nm.toList == x.nm.toList)) = R := by
  have h := other_name hR
  rw [List.filter_append, List.filter_cons_of_neg (by simp), List.filter_eq_self.2 (fun y hy => by rw [h y (List.mem_of_mem_take hy)]; rfl), List.filter_eq_self.2 (fun y hy => by rw [h y (List.mem_of_mem_drop hy)]; rfl), List.take_append_drop]
/-- It isn't among them. -/
theorem find_gone (hR : X.filter (fun e : Ent => !(e.nm.toList == x.nm.toList)) = R) : R.find? (fun e : Ent => e.nm.toList == x.nm.toList) = none := by
  have h := other_name hR
  exact List.find?_eq_none.2 (fun y hy => by rw [h y hy]; decide)
/-- Another name's entry is the same one as before. -/
theorem find_other (hR : X.filter (fun e : Ent => !(e.nm.toList == x.nm.toList)) = R) (hne : (nm.toList == x.nm.toList) = false) : (R.take z ++ x :: R.drop z).find? (fun e : Ent => e.nm.toList == nm.toList) = X.find? (fun e : Ent => e.nm.toList == nm.toList) := by
  have hx : ¬ (x.nm.toList == nm.toList) = true := by
    intro h
    have h1 : x.nm.toList = nm.toList := by simpa using h
    rw [h1] at hne
    simp at hne
  have h1 : (R.take z ++ x :: R.drop z).find? (fun e : Ent => e.nm.toList == nm.toList) = R.find? (fun e : Ent => e.nm.toList == nm.toList) := by
    have e2 : R = R.take z ++ R.drop z := (List.take_append_drop z R).symm
    rw [List.find?_append, List.find?_cons_of_neg (p := fun e : Ent => e.nm.toList == nm.toList) hx]
    conv => rhs; rw [e2, List.find?_append]
  rw [h1, ← hR, List.find?_filter]
  congr 1
  funext y
  by_cases hy : (y.nm.toList == nm.toList) = true
  · have h2 : y.nm.toList = nm.toList := by simpa using hy
    rw [h2, hne]
    simp
  · have hy2 : (y.nm.toList == nm.toList) = false := by simpa using hy
    simp [hy2]
end
end Go.Proofs.YtijffkklhgnknaaDoor
