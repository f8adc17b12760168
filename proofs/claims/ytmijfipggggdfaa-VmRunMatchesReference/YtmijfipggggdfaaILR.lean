/- The law that compares runs, for every input. No condition. -/
import Derived.Test.YtmijfipggggdfaaIXG
namespace Go.Proofs.Ytmijfipggggdfaa
open Go.RowKit

theorem law6_run (code : List In4) (m : Nat) (hl : code.length = m) (inp y1 y2 y3 : List Bool) (Ac Ai A1 A2 A3 : Option Addr) (cc ni ci m1 c1 m2 c2 m3 c3 : Nat) (w : World)
    (hc : RdC w Ac code) (hcn : Ac = none → cc = 0) (hi : Im w Ai ni ci inp) (h1 : Im w A1 m1 c1 y1) (h2 : Im w A2 m2 c2 y2) (h3 : Im w A3 m3 c3 y3) :
    Calls Try.prog 3 #[.slice Ac m cc, .slice Ai ni ci, .agg #[.slice A1 m1 c1, .slice A2 m2 c2, .slice A3 m3 c3]] w fun e w' => e = .returned (.bool true) ∧ Nx w w' := by
  subst hl
  by_cases h : sm6 code.length ni m1 m2 m3
  · exact law6_run_small vmRunOk al_ok code inp y1 y2 y3 Ac Ai A1 A2 A3 cc ni ci m1 c1 m2 c2 m3 c3 h w hc hcn hi h1 h2 h3
  · exact law6_run_big al_ok Ac Ai A1 A2 A3 code.length cc ni ci m1 c1 m2 c2 m3 c3 h w
end Go.Proofs.Ytmijfipggggdfaa
