/- A scope whose run jumps back to one label: what holds at the label, the code behind it walked once. -/
import Derived.Test.YtjohjilfmhgdnaaBase
import Derived.ScopeJumps
import Derived.WalkMore
namespace Go.Proofs.Ytjohjilfmhgdnaa
/-- where the code behind the label begins by nothing (as a label's own statement is laid) -/
theorem wp_scope_back {P : Program} {a : Act} {w : World} {Q : Exit → Act → World → Prop} {c rest : Code} (l : Nat) (J : Act → World → Prop) (μ : Act → World → Nat) (hf : findLabel c l = some (Code.skip.seq rest))
    (pass : ∀ (K : Act → World → Prop) a w, J a w → (∀ a' w', J a' w' → μ a' w' < μ a w → K a' w') → rest.wp P (Exit.jump l K Q) a w)
    (first : (∀ (K : Act → World → Prop) a w, J a w → (∀ a' w', J a' w' → K a' w') → rest.wp P (Exit.jump l K Q) a w) → c.wp P (Exit.jump l J Q) a w) : (Code.scope c).wp P Q a w :=
  wp_scope_jumps l J μ hf (first fun K a w hJ hK => pass K a w hJ fun a' w' h _ => hK a' w' h) (fun a w hJ => wp_seq (wp_skip (show rest.wp P _ a w from pass _ a w hJ fun _ _ h hm => ⟨h, hm⟩)))
end Go.Proofs.Ytjohjilfmhgdnaa
