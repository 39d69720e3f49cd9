/- Plain arithmetic of a division of two words by ten to the nineteenth, two half words at a time. No program is named here. -/
import Derived.Test.YtchhhaiokpecjaaDoorPlain
import Derived.Laws.MathBits
namespace Go.Proofs.YtchhhaiokpecjaaDoor

def ten19 : Int := 10000000000000000000
def y1 : Int := 2328306436
def y0 : Int := 2313682944
/-- The half word of a quotient, and what is left. -/
def hQ (U u : Int) : Int := (U * 4294967296 + u) / 10000000000000000000
def hR (U u : Int) : Int := (U * 4294967296 + u) % 10000000000000000000
def dQ (hi lo : Int) : Int := (hi * 18446744073709551616 + lo) / 10000000000000000000
def dR (hi lo : Int) : Int := (hi * 18446744073709551616 + lo) % 10000000000000000000
/-- What a guess of a half word keeps to. -/
def Guess (U u q r : Int) : Prop := q * 2328306436 + r = U ∧ 0 ≤ r ∧ r < 4294967296 ∧ hQ U u ≤ q ∧ q ≤ 4294967297 ∧ 0 ≤ q
/-- What is divided is small enough, and the half word that follows is one. -/
def Fits (U u : Int) : Prop := 0 ≤ U ∧ U < 10000000000000000000 ∧ 0 ≤ u ∧ u < 4294967296
/-- Is the guess too great? -/
def over (u q r : Int) : Bool := decide (4294967296 ≤ q) || decide (4294967296 * r + u < q * 2313682944)

theorem hQ_nonneg {U u : Int} (f : Fits U u) : 0 ≤ hQ U u ∧ hQ U u < 4294967296 := by unfold Fits at f; unfold hQ; omega
theorem hR_bd (U u : Int) : 0 ≤ hR U u ∧ hR U u < 10000000000000000000 := by unfold hR; omega
theorem guess_start {U u : Int} (f : Fits U u) : Guess U u (U / 2328306436) (U - U / 2328306436 * 2328306436) := by
  unfold Fits at f
  have h1 : hQ U u ≤ U / 2328306436 := by unfold hQ; omega
  have h2 := hQ_nonneg f
  unfold Guess
  omega
theorem guess_over {U u q r : Int} (f : Fits U u) (g : Guess U u q r) (h : over u q r = true) : hQ U u ≤ q - 1 := by
  unfold Fits at f
  unfold over at h
  obtain ⟨e, r0, r1, -, q1, -⟩ := g
  simp only [Bool.or_eq_true, decide_eq_true_eq] at h
  unfold hQ
  rcases h with h | h <;> omega
theorem guess_next {U u q r : Int} (f : Fits U u) (g : Guess U u q r) (h : over u q r = true) (hr : r + 2328306436 < 4294967296) : Guess U u (q - 1) (r + 2328306436) := by
  have h1 := guess_over f g h
  have h2 := hQ_nonneg f
  obtain ⟨e, r0, r1, -, q1, -⟩ := g
  unfold Guess
  omega
theorem guess_break {U u q r : Int} (f : Fits U u) (g : Guess U u q r) (h : over u q r = true) (hr : ¬ r + 2328306436 < 4294967296) : q - 1 = hQ U u := by
  have h1 := guess_over f g h
  have h2 := hQ_nonneg f
  unfold Fits at f
  obtain ⟨e, r0, r1, -, q1, -⟩ := g
  have : q - 1 ≤ hQ U u := by unfold hQ; omega
  omega
theorem guess_done {U u q r : Int} (_f : Fits U u) (g : Guess U u q r) (h : over u q r = false) : q = hQ U u := by
  unfold over at h
  obtain ⟨e, r0, r1, h1, q1, -⟩ := g
  simp only [Bool.or_eq_false_iff, decide_eq_false_iff_not] at h
  have : q ≤ hQ U u := by unfold hQ; omega
  omega
theorem half_left {U u : Int} (_f : Fits U u) : uw (uw (uw (U * 4294967296) + u) - uw (hQ U u * 10000000000000000000)) = hR U u := by
  unfold uw hQ hR
  omega
theorem whole_quo {hi lo : Int} (f : Fits hi (lo / 4294967296)) (h0 : 0 ≤ lo) (h1 : lo < 18446744073709551616) :
    uw (uw (hQ hi (lo / 4294967296) * 4294967296) + hQ (hR hi (lo / 4294967296)) (lo % 4294967296)) = dQ hi lo ∧ hR (hR hi (lo / 4294967296)) (lo % 4294967296) = dR hi lo := by
  unfold Fits at f
  unfold uw hQ hR dQ dR
  omega
theorem fits_high {hi lo : Int} (h1 : 0 ≤ hi) (h2 : hi < 10000000000000000000) (h0 : 0 ≤ lo) (h3 : lo < 18446744073709551616) : Fits hi (lo / 4294967296) := by unfold Fits; omega
theorem fits_low (hi u lo : Int) : Fits (hR hi u) (lo % 4294967296) := by have := hR_bd hi u; unfold Fits; omega
end Go.Proofs.YtchhhaiokpecjaaDoor
