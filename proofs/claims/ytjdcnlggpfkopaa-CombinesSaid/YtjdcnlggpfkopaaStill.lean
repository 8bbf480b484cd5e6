/- A region that draws its order, whose operations all leave the world; behind a structure each, so that no tactic looks into what is still to come. -/
import Derived.Test.YtjdcnlggpfkopaaRows
import Derived.StillTactics
import Derived.StillTail
namespace Go.Proofs.Ytjdcnlggpfkopaa
theorem region_still {P : Program} {id : Nat} {Q : Exit → Act → World → Prop} {a : Act} {w : World} {l : List Oper} (hm : P.follows .mixedOrders = true) (hB : Region.lexB .any l.toArray = true)
    (h : wpStill P l.toArray w.drew (fun a' => Q .normal a' w.drew) l a) : (Code.region id l.toArray true).wp P Q a w := wp_region_still_lit hm hB h
structure StillS (P : Program) (ops : Array Oper) (w : World) (Q : Act → Prop) (l : List Oper) (a : Act) : Prop where
  out : wpStill P ops w Q l a
structure OperS (P : Program) (ops : Array Oper) (w : World) (o : Oper) (K : Act → Prop) (a : Act) : Prop where
  out : if Region.wanted o (yielded ops a.tmps) then o.still P a w K else K (a.put o.dst undef)
theorem StillS.step {P : Program} {ops : Array Oper} {w : World} {Q : Act → Prop} {a : Act} {o : Oper} {rest : List Oper}
    (h : ∀ K : Act → Prop, (∀ a, StillS P ops w Q rest a → K a) → OperS P ops w o K a) : StillS P ops w Q (o :: rest) a := ⟨wpStill_step fun K hK => (h K fun a ha => hK a ha.out).out⟩
theorem StillS.nil {P : Program} {ops : Array Oper} {w : World} {Q : Act → Prop} {a : Act} (h : Q a) : StillS P ops w Q [] a := ⟨h⟩
theorem region_stillS {P : Program} {id : Nat} {Q : Exit → Act → World → Prop} {a : Act} {w : World} {l : List Oper} (hm : P.follows .mixedOrders = true) (hB : Region.lexB .any l.toArray = true)
    (h : StillS P l.toArray w.drew (fun a' => Q .normal a' w.drew) l a) : (Code.region id l.toArray true).wp P Q a w := wp_region_still_lit hm hB h.out
theorem region_tailS {P : Program} {id : Nat} {Q : Exit → Act → World → Prop} {a : Act} {w : World} {l : List Oper} (n : Nat) (hm : P.follows .mixedOrders = true) (hB : Region.lexTailB .any l.toArray n = true)
    (h : StillS P l.toArray w.drew (fun a' => wpList P l.toArray Q (l.drop n) a' w.drew) (l.take n) a) : (Code.region id l.toArray true).wp P Q a w := wp_region_still_tail n hm hB h.out
end Go.Proofs.Ytjdcnlggpfkopaa
