/- The law Onward, where what it reads is small, as a card: of the landed clock. -/
import Derived.Test.YtjdcnlggpfkopabDoorOnwardL
import Derived.Test.YtjdcnlggpfkopabDoorClkE
namespace Go.Proofs.YtjdcnlggpfkopabDoor
set_option linter.unusedVariables false

theorem clock_keeps : ClockKeeps CkAt where
  new := fun w => (newClock_any w).mono fun e w' ⟨he, hc, hb⟩ => ⟨_, he, Nat.le_refl _, hc, hb⟩
  now := fun w b m kn cnt tm rt c hC h0 h1 => (now_any b m kn cnt tm rt c w hC h0 h1).mono fun e w' ⟨he, hc, hb⟩ => ⟨he, hc, fun B hB => hb.mono (Nat.le_trans hB (Nat.le_of_lt hC.lt))⟩
  pub := fun w b m kn cnt tm rt c t r hC hm h0 h1 h2 h3 h4 h5 => (pub_any b m kn cnt tm rt c t r w hC hm h0 h1 h2 h3 h4 h5).mono fun e w' ⟨he, hk, hno, hb⟩ => ⟨he, hk, hno, fun B hB => hb.mono hB⟩
theorem onward_upto_card_holds : Rows.OnwardUptoCardSaid := onward.cardUpto CkAt clock_keeps
#print axioms onward_upto_card_holds
end Go.Proofs.YtjdcnlggpfkopabDoor
