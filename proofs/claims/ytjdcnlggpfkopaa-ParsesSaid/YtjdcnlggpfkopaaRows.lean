/-
  No cell of these rows narrows 'for every input' (looked for: loops, veiled, ifaces, maps, wideKeys, modest, calm, conditions, laid).
  DERIVED. THE GIVEN ROWS OF THIS SEAT. 7 by the template 'for every input the law returns true; each argument reads behind the call as it read before'; 0 by the template 'total and deterministic' (their statements: YtjdcnlggpfkopaaTotals.lean).
  GIVEN WITH THE SEED: the statements are not yours to turn. If you find one false, say at which input.
  Laid BY PROGRAM, IN A SANDBOX (cutbox-rows.mjs): the forced cells as the released guide's own fill.sh prints them over the translation 3c0a5c7ebefaa8dd… (all of the seat's roots in one cut). By AI agents, Wed Nov 11 2026. No macro, syntax, notation, axiom, sorry.
-/
import Derived.Test.YtjdcnlggpfkopaaChecked
import GoSem.Claim
import GoSem.ClaimJoined
import GoSem.ClaimMapViews
import Derived.JoinedTies
import Derived.KernelRfl
namespace Go.Proofs.Ytjdcnlggpfkopaa
/- THE CELL 'sum', in the pinned program and in every row, IS THE sha256 OF THE DUMP (.gsa) THAT YtjdcnlggpfkopaaProg.lean LOADS. Nothing in Lean hashes anything: it is a label: what it is worth is what the hold of that sum in a sandbox is worth. -/
noncomputable def Try.pinned : Pinned := { name := "ytjdcnlggpfkopaa", sum := "3c0a5c7ebefaa8dd31f81a75bf079565b2efed6a8d4dc9a4418e7805c683e99a", checked := Try.checked }
namespace Rows
def none {H : Type} : Left H := { results := [], args := [] }

/-- 'chimelaw.Parses': WHATEVER THE INPUT: true; the input reads as it did. -/
def parsesSpec : ChangeSpec := { name := "parses", fn := fun _ => fun
  | [d1, d2] => { results := [.lit (.bool true)], args := [d1, d2] }
  | _ => none }
def parsesRow : OpenClaim := { program := "ytjdcnlggpfkopaa", sum := "3c0a5c7ebefaa8dd31f81a75bf079565b2efed6a8d4dc9a4418e7805c683e99a", func := "chime/chimelaw.Parses", spec := "parses", apart := false }
def ParsesSaid : Prop := parsesRow.holds Try.pinned (OpenSpec.ofChange parsesSpec)

/-- ITS FALSE NEIGHBOUR: 'it returns false'. Refute it at one input. -/
def parsesWrong : ChangeSpec := { name := "parses", fn := fun _ => fun
  | [d1, d2] => { results := [.lit (.bool false)], args := [d1, d2] }
  | _ => none }
def ParsesWrongFalsely : Prop := parsesRow.holds Try.pinned (OpenSpec.ofChange parsesWrong)

/-- 'chimelaw.Measures': WHATEVER THE INPUT: true; the input reads as it did. -/
def measuresSpec : ChangeSpec := { name := "measures", fn := fun _ => fun
  | [d1, d2, d3, d4] => { results := [.lit (.bool true)], args := [d1, d2, d3, d4] }
  | _ => none }
def measuresRow : OpenClaim := { program := "ytjdcnlggpfkopaa", sum := "3c0a5c7ebefaa8dd31f81a75bf079565b2efed6a8d4dc9a4418e7805c683e99a", func := "chime/chimelaw.Measures", spec := "measures", apart := false }
def MeasuresSaid : Prop := measuresRow.holds Try.pinned (OpenSpec.ofChange measuresSpec)

/-- ITS FALSE NEIGHBOUR: 'it returns false'. Refute it at one input. -/
def measuresWrong : ChangeSpec := { name := "measures", fn := fun _ => fun
  | [d1, d2, d3, d4] => { results := [.lit (.bool false)], args := [d1, d2, d3, d4] }
  | _ => none }
def MeasuresWrongFalsely : Prop := measuresRow.holds Try.pinned (OpenSpec.ofChange measuresWrong)

/-- 'chimelaw.Replies': WHATEVER THE INPUT: true; the input reads as it did. -/
def repliesSpec : ChangeSpec := { name := "replies", fn := fun _ => fun
  | [d1, d2, d3, d4] => { results := [.lit (.bool true)], args := [d1, d2, d3, d4] }
  | _ => none }
def repliesRow : OpenClaim := { program := "ytjdcnlggpfkopaa", sum := "3c0a5c7ebefaa8dd31f81a75bf079565b2efed6a8d4dc9a4418e7805c683e99a", func := "chime/chimelaw.Replies", spec := "replies", apart := false }
def RepliesSaid : Prop := repliesRow.holds Try.pinned (OpenSpec.ofChange repliesSpec)

/-- ITS FALSE NEIGHBOUR: 'it returns false'. Refute it at one input. -/
def repliesWrong : ChangeSpec := { name := "replies", fn := fun _ => fun
  | [d1, d2, d3, d4] => { results := [.lit (.bool false)], args := [d1, d2, d3, d4] }
  | _ => none }
def RepliesWrongFalsely : Prop := repliesRow.holds Try.pinned (OpenSpec.ofChange repliesWrong)

/-- 'chimelaw.Peers': WHATEVER THE INPUT: true; the input reads as it did. -/
def peersSpec : ChangeSpec := { name := "peers", fn := fun _ => fun
  | [d] => { results := [.lit (.bool true)], args := [d] }
  | _ => none }
def peersRow : OpenClaim := { program := "ytjdcnlggpfkopaa", sum := "3c0a5c7ebefaa8dd31f81a75bf079565b2efed6a8d4dc9a4418e7805c683e99a", func := "chime/chimelaw.Peers", spec := "peers", inPlace := ["math.sqrt"], apart := false }
def PeersSaid : Prop := peersRow.holds Try.pinned (OpenSpec.ofChange peersSpec)

/-- ITS FALSE NEIGHBOUR: 'it returns false'. Refute it at one input. -/
def peersWrong : ChangeSpec := { name := "peers", fn := fun _ => fun
  | [d] => { results := [.lit (.bool false)], args := [d] }
  | _ => none }
def PeersWrongFalsely : Prop := peersRow.holds Try.pinned (OpenSpec.ofChange peersWrong)

/-- 'chimelaw.Selects': WHATEVER THE INPUT: true; the input reads as it did. -/
def selectsSpec : ChangeSpec := { name := "selects", fn := fun _ => fun
  | [d] => { results := [.lit (.bool true)], args := [d] }
  | _ => none }
def selectsRow : OpenClaim := { program := "ytjdcnlggpfkopaa", sum := "3c0a5c7ebefaa8dd31f81a75bf079565b2efed6a8d4dc9a4418e7805c683e99a", func := "chime/chimelaw.Selects", spec := "selects", apart := false }
def SelectsSaid : Prop := selectsRow.holds Try.pinned (OpenSpec.ofChange selectsSpec)

/-- ITS FALSE NEIGHBOUR: 'it returns false'. Refute it at one input. -/
def selectsWrong : ChangeSpec := { name := "selects", fn := fun _ => fun
  | [d] => { results := [.lit (.bool false)], args := [d] }
  | _ => none }
def SelectsWrongFalsely : Prop := selectsRow.holds Try.pinned (OpenSpec.ofChange selectsWrong)

/-- 'chimelaw.Combines': WHATEVER THE INPUT: true; the input reads as it did. -/
def combinesSpec : ChangeSpec := { name := "combines", fn := fun _ => fun
  | [d] => { results := [.lit (.bool true)], args := [d] }
  | _ => none }
def combinesRow : OpenClaim := { program := "ytjdcnlggpfkopaa", sum := "3c0a5c7ebefaa8dd31f81a75bf079565b2efed6a8d4dc9a4418e7805c683e99a", func := "chime/chimelaw.Combines", spec := "combines", apart := false }
def CombinesSaid : Prop := combinesRow.holds Try.pinned (OpenSpec.ofChange combinesSpec)

/-- ITS FALSE NEIGHBOUR: 'it returns false'. Refute it at one input. -/
def combinesWrong : ChangeSpec := { name := "combines", fn := fun _ => fun
  | [d] => { results := [.lit (.bool false)], args := [d] }
  | _ => none }
def CombinesWrongFalsely : Prop := combinesRow.holds Try.pinned (OpenSpec.ofChange combinesWrong)

/-- 'chimelaw.Clocks': WHATEVER THE INPUT: true; the input reads as it did. -/
def clocksSpec : ChangeSpec := { name := "clocks", fn := fun _ => fun
  | [d] => { results := [.lit (.bool true)], args := [d] }
  | _ => none }
def clocksRow : OpenClaim := { program := "ytjdcnlggpfkopaa", sum := "3c0a5c7ebefaa8dd31f81a75bf079565b2efed6a8d4dc9a4418e7805c683e99a", func := "chime/chimelaw.Clocks", spec := "clocks", inPlace := ["sync/atomic.LoadUint64", "sync/atomic.LoadInt64", "math/bits.Add64", "sync/atomic.AddUint64", "sync/atomic.StoreUint64", "sync/atomic.StoreInt64", "(*sync.WaitGroup).Add", "internal/race.ReleaseMerge", "internal/race.Disable", "internal/race.Enable", "internal/synctest.IsInBubble", "internal/synctest.Associate[sync.WaitGroup]", "sync.fatal", "sync/atomic.OrUint64", "internal/race.Read", "internal/synctest.Disassociate[sync.WaitGroup]", "sync.runtime_Semrelease", "(*sync.WaitGroup).Done", "(*sync.WaitGroup).Wait", "internal/race.Acquire", "internal/synctest.IsAssociated[sync.WaitGroup]", "sync/atomic.CompareAndSwapUint64", "internal/race.Write", "sync.runtime_SemacquireWaitGroup"], unfollowed := true, recurses := true, apart := false }
def ClocksSaid : Prop := clocksRow.holds Try.pinned (OpenSpec.ofChange clocksSpec)

/-- ITS FALSE NEIGHBOUR: 'it returns false'. Refute it at one input. -/
def clocksWrong : ChangeSpec := { name := "clocks", fn := fun _ => fun
  | [d] => { results := [.lit (.bool false)], args := [d] }
  | _ => none }
def ClocksWrongFalsely : Prop := clocksRow.holds Try.pinned (OpenSpec.ofChange clocksWrong)

/- THE SECOND FORM. 'bulk': how many values and letters a reading holds, each counted each time it is reached (what is shared counts as often as it is met; a slice's spare places count too). A statement '..UptoSaid' is the law's where the arguments, and the package variables that the reading takes, are together of bulk at most 1048576: NARROWER than '..Said'. Prove '..Said' where nothing that the law and all that it calls make is longer than what came in: it says more and counts as full. Else prove '..UptoSaid'. A law counts once. -/
mutual
def uptoBulk {H : Type} : DataW H → Nat
  | .lit (.string bytes) => bytes.length + 1
  | .lit _ => 1
  | .nil => 1
  | .ptr d => uptoBulk d + 1
  | .slice elems spare => uptoBulkAll elems + uptoBulkAll spare + 1
  | .agg parts => uptoBulkAll parts + 1
  | .iface _ d => uptoBulk d + 1
  | .map entries => uptoBulkEntries entries + 1
  | .held _ => 1
def uptoBulkAll {H : Type} : List (DataW H) → Nat
  | [] => 0
  | d :: r => uptoBulk d + uptoBulkAll r
def uptoBulkEntries {H : Type} : List (Lit × DataW H) → Nat
  | [] => 0
  | x :: r => uptoBulkEntry x + uptoBulkEntries r
def uptoBulkEntry {H : Type} : Lit × DataW H → Nat
  | (.string bytes, d) => bytes.length + uptoBulk d + 1
  | (_, d) => uptoBulk d + 1
 end
def uptoSmall : (H : Type) → List (DataW H) → Bool := fun _ ds => decide (uptoBulkAll ds ≤ 1048576)
def OpenSpec.upto (s : _root_.Go.ChangeSpec) : _root_.Go.OpenSpec := { _root_.Go.OpenSpec.ofChange s with cond := some uptoSmall }

/-- 'chimelaw.Parses', WHERE WHAT IT READS IS OF BULK AT MOST 1048576: true; the input reads as it did. -/
def parsesUptoRow : OpenClaim := { program := "ytjdcnlggpfkopaa", sum := "3c0a5c7ebefaa8dd31f81a75bf079565b2efed6a8d4dc9a4418e7805c683e99a", func := "chime/chimelaw.Parses", spec := "parses", apart := false, narrowed := true }
def ParsesUptoSaid : Prop := parsesUptoRow.holds Try.pinned (OpenSpec.upto parsesSpec)

/-- 'chimelaw.Measures', WHERE WHAT IT READS IS OF BULK AT MOST 1048576: true; the input reads as it did. -/
def measuresUptoRow : OpenClaim := { program := "ytjdcnlggpfkopaa", sum := "3c0a5c7ebefaa8dd31f81a75bf079565b2efed6a8d4dc9a4418e7805c683e99a", func := "chime/chimelaw.Measures", spec := "measures", apart := false, narrowed := true }
def MeasuresUptoSaid : Prop := measuresUptoRow.holds Try.pinned (OpenSpec.upto measuresSpec)

/-- 'chimelaw.Replies', WHERE WHAT IT READS IS OF BULK AT MOST 1048576: true; the input reads as it did. -/
def repliesUptoRow : OpenClaim := { program := "ytjdcnlggpfkopaa", sum := "3c0a5c7ebefaa8dd31f81a75bf079565b2efed6a8d4dc9a4418e7805c683e99a", func := "chime/chimelaw.Replies", spec := "replies", apart := false, narrowed := true }
def RepliesUptoSaid : Prop := repliesUptoRow.holds Try.pinned (OpenSpec.upto repliesSpec)

/-- 'chimelaw.Peers', WHERE WHAT IT READS IS OF BULK AT MOST 1048576: true; the input reads as it did. -/
def peersUptoRow : OpenClaim := { program := "ytjdcnlggpfkopaa", sum := "3c0a5c7ebefaa8dd31f81a75bf079565b2efed6a8d4dc9a4418e7805c683e99a", func := "chime/chimelaw.Peers", spec := "peers", inPlace := ["math.sqrt"], apart := false, narrowed := true }
def PeersUptoSaid : Prop := peersUptoRow.holds Try.pinned (OpenSpec.upto peersSpec)

/-- 'chimelaw.Selects', WHERE WHAT IT READS IS OF BULK AT MOST 1048576: true; the input reads as it did. -/
def selectsUptoRow : OpenClaim := { program := "ytjdcnlggpfkopaa", sum := "3c0a5c7ebefaa8dd31f81a75bf079565b2efed6a8d4dc9a4418e7805c683e99a", func := "chime/chimelaw.Selects", spec := "selects", apart := false, narrowed := true }
def SelectsUptoSaid : Prop := selectsUptoRow.holds Try.pinned (OpenSpec.upto selectsSpec)

/-- 'chimelaw.Combines', WHERE WHAT IT READS IS OF BULK AT MOST 1048576: true; the input reads as it did. -/
def combinesUptoRow : OpenClaim := { program := "ytjdcnlggpfkopaa", sum := "3c0a5c7ebefaa8dd31f81a75bf079565b2efed6a8d4dc9a4418e7805c683e99a", func := "chime/chimelaw.Combines", spec := "combines", apart := false, narrowed := true }
def CombinesUptoSaid : Prop := combinesUptoRow.holds Try.pinned (OpenSpec.upto combinesSpec)

/-- 'chimelaw.Clocks', WHERE WHAT IT READS IS OF BULK AT MOST 1048576: true; the input reads as it did. -/
def clocksUptoRow : OpenClaim := { program := "ytjdcnlggpfkopaa", sum := "3c0a5c7ebefaa8dd31f81a75bf079565b2efed6a8d4dc9a4418e7805c683e99a", func := "chime/chimelaw.Clocks", spec := "clocks", inPlace := ["sync/atomic.LoadUint64", "sync/atomic.LoadInt64", "math/bits.Add64", "sync/atomic.AddUint64", "sync/atomic.StoreUint64", "sync/atomic.StoreInt64", "(*sync.WaitGroup).Add", "internal/race.ReleaseMerge", "internal/race.Disable", "internal/race.Enable", "internal/synctest.IsInBubble", "internal/synctest.Associate[sync.WaitGroup]", "sync.fatal", "sync/atomic.OrUint64", "internal/race.Read", "internal/synctest.Disassociate[sync.WaitGroup]", "sync.runtime_Semrelease", "(*sync.WaitGroup).Done", "(*sync.WaitGroup).Wait", "internal/race.Acquire", "internal/synctest.IsAssociated[sync.WaitGroup]", "sync/atomic.CompareAndSwapUint64", "internal/race.Write", "sync.runtime_SemacquireWaitGroup"], unfollowed := true, recurses := true, apart := false, narrowed := true }
def ClocksUptoSaid : Prop := clocksUptoRow.holds Try.pinned (OpenSpec.upto clocksSpec)

end Rows
end Go.Proofs.Ytjdcnlggpfkopaa
