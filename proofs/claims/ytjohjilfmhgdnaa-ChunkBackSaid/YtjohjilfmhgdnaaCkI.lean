/- What splitting bytes into chunks tells: what holds at the head of each round. -/
import Derived.Test.YtjohjilfmhgdnaaCkR
namespace Go.Proofs.Ytjohjilfmhgdnaa
open Go.RowKit

def allOk (l : List DC) : Prop := ∀ d ∈ l, okC d
theorem allOk_snoc {l : List DC} {d : DC} (h : allOk l) (hd : okC d) : allOk (l ++ [d]) := by
  intro x hx
  rcases List.mem_append.1 hx with hx | hx
  · exact h x hx
  · rw [List.mem_singleton.1 hx]; exact hd
theorem all_snoc {l : List DC} {d : DC} (h : l.all rightC = true) (hd : rightC d = true) : (l ++ [d]).all rightC = true := by
  rw [List.all_append, h]; simp [hd]
/-- what Split tells of its bytes -/
structure SpR (b : List UInt8) (z : Int) (es : List DC) : Prop where
  fine : z = 0 → es.all rightC = true ∧ allOk es ∧ b.length ≤ 200 ∧ (encs es).length ≤ b.length ∧ ((encs es).length = b.length → encs es = b)
  back : ∀ d0 : List DC, d0 ≠ [] → d0.all rightC = true → allOk d0 → (encs d0).length ≤ 200 → b = encs d0 → z = 0 ∧ es = d0
  none : b = [] → z = 3
/-- what holds while it goes on -/
structure SpI (b L : List UInt8) (es : List DC) : Prop where
  all : es.all rightC = true
  ok : allOk es
  len : (encs es).length + L.length ≤ b.length
  eq : (encs es).length + L.length = b.length → encs es ++ L = b
  back : ∀ d0 : List DC, d0 ≠ [] → d0.all rightC = true → allOk d0 → b = encs d0 → ∃ d rest, d0 = es ++ d :: rest ∧ L = encC d ++ encs rest ∧ rightC d = true ∧ okC d
  none : b = [] → L = []
theorem SpI.start (b : List UInt8) : SpI b b [] := by
  refine ⟨rfl, fun _ h => absurd h (by simp), by simp [encs], fun _ => rfl, fun d0 h0 h1 h2 h3 => ?_, fun h => h⟩
  match d0, h0 with
  | d :: rest, _ =>
    simp only [List.all_cons, Bool.and_eq_true] at h1
    exact ⟨d, rest, rfl, h3, h1.1, h2 d (List.mem_cons_self ..)⟩
theorem encs_nil_iff {l : List DC} (h : encs l = []) : l = [] := by
  match l with
  | [] => rfl
  | d :: l =>
    have := congrArg List.length h
    rw [encs_cons, List.length_append, encC_len] at this
    simp at this
theorem SpI.fine {b L : List UInt8} {es : List DC} (h : SpI b L es) (h200 : b.length ≤ 200) (he : rdE L = 0) :
    (es ++ [rdD L]).all rightC = true ∧ allOk (es ++ [rdD L]) ∧ (encs (es ++ [rdD L])).length + (rdL L).length ≤ b.length ∧ ((encs (es ++ [rdD L])).length + (rdL L).length = b.length → encs (es ++ [rdD L]) ++ rdL L = b) := by
  have hl := h.len
  obtain ⟨r1, r2, r3, r4⟩ := rd_fine L he (by omega)
  refine ⟨all_snoc h.all r1, allOk_snoc h.ok r2, ?_, fun hx => ?_⟩
  · rw [encs_snoc, List.length_append]; omega
  · rw [encs_snoc, List.length_append] at hx
    rw [encs_snoc, List.append_assoc, r4 (by omega)]
    exact h.eq (by omega)
theorem SpI.next {b L : List UInt8} {es : List DC} (h : SpI b L es) (h200 : b.length ≤ 200) (he : rdE L = 0) (hn : rdL L ≠ []) : SpI b (rdL L) (es ++ [rdD L]) := by
  obtain ⟨f1, f2, f3, f4⟩ := h.fine h200 he
  refine ⟨f1, f2, f3, f4, fun d0 h0 h1 h2 h3 => ?_, fun hb => ?_⟩
  · obtain ⟨d, rest, rfl, hL, k1, k2⟩ := h.back d0 h0 h1 h2 h3
    obtain ⟨e1, e2, _⟩ := rd_back d (encs rest) k1 k2
    rw [← hL] at e1 e2
    rw [e2] at hn
    cases rest with
    | nil => exact absurd rfl hn
    | cons d' rest =>
      rw [List.all_append, Bool.and_eq_true, List.all_cons, List.all_cons, Bool.and_eq_true, Bool.and_eq_true] at h1
      exact ⟨d', rest, by rw [e1]; simp, by rw [e2]; rfl, h1.2.2.1, h2 d' (by simp)⟩
  · have := h.none hb
    subst this
    rw [(rd_short [] (by decide)).1] at he
    exact absurd he (by decide)
theorem SpI.done {b L : List UInt8} {es : List DC} (h : SpI b L es) (h200 : b.length ≤ 200) (he : rdE L = 0) (hn : rdL L = []) : SpR b 0 (es ++ [rdD L]) := by
  obtain ⟨f1, f2, f3, f4⟩ := h.fine h200 he
  rw [hn] at f3 f4
  refine ⟨fun _ => ⟨f1, f2, h200, by simpa using f3, fun hx => by simpa using f4 (by simpa using hx)⟩, fun d0 h0 h1 h2 _ h3 => ?_, fun hb => ?_⟩
  · obtain ⟨d, rest, rfl, hL, k1, k2⟩ := h.back d0 h0 h1 h2 h3
    obtain ⟨e1, e2, _⟩ := rd_back d (encs rest) k1 k2
    rw [← hL] at e1 e2
    rw [hn] at e2
    rw [encs_nil_iff e2.symm, e1]
    exact ⟨rfl, rfl⟩
  · have := h.none hb
    subst this
    rw [(rd_short [] (by decide)).1] at he
    exact absurd he (by decide)
theorem SpI.bad {b L : List UInt8} {es : List DC} (h : SpI b L es) (he : rdE L ≠ 0) : SpR b (rdE L) [] := by
  refine ⟨fun h => absurd h he, fun d0 h0 h1 h2 _ h3 => ?_, fun hb => ?_⟩
  · obtain ⟨d, rest, rfl, hL, k1, k2⟩ := h.back d0 h0 h1 h2 h3
    have := (rd_back d (encs rest) k1 k2).2.2
    rw [← hL] at this
    exact absurd this he
  · have := h.none hb
    subst this
    exact (rd_short [] (by decide)).1
theorem SpR.long {b : List UInt8} (h : 200 < b.length) : SpR b 4 [] :=
  ⟨fun h => absurd h (by decide), fun d0 _ _ _ h1 h2 => by rw [h2] at h; omega, fun hb => by rw [hb] at h; simp at h⟩
/-! ### the state -/
structure SpS (w0 : World) (rb : Nat) (b L : List UInt8) (u : Value) (ts : List Ck) (w : World) : Prop where
  rd : Rd w0.heap.size w rb L 0
  own : w.ownsRow (rb + 1) 37 3 u ts.length (cellsC ts)
  ok : ∀ t ∈ ts, t.n < 256 ∧ t.y < 256 ∧ BSx (fun k => w0.heap.size ≤ k ∧ k < rb) w t.v t.b
  below : Below w0.heap.size w0 w
  inv : SpI b L (ds ts)
/-- behind a round -/
structure SpT (w0 : World) (rb : Nat) (L : List UInt8) (e : Int) (u : Value) (ts : List Ck) (w : World) : Prop where
  rd : Rd w0.heap.size w rb L e
  own : w.ownsRow (rb + 1) 37 3 u ts.length (cellsC ts)
  ok : ∀ t ∈ ts, t.n < 256 ∧ t.y < 256 ∧ BSx (fun k => w0.heap.size ≤ k ∧ k < rb) w t.v t.b
  below : Below w0.heap.size w0 w
theorem SpT.items {w0 w : World} {rb : Nat} {L : List UInt8} {e : Int} {u : Value} {ts : List Ck} (h : SpT w0 rb L e u ts w) : CkS w u ts :=
  own_chunks rfl h.own (fun t ht => ⟨(h.ok t ht).1, (h.ok t ht).2.1, (h.ok t ht).2.2.1⟩)
theorem SpS.app {w0 w w1 w3 : World} {rb : Nat} {b L : List UInt8} {u u' v : Value} {ts : List Ck} (h : SpS w0 rb b L u ts w) (hp : RPost w0.heap.size w rb (rdL L) (rdE L) w1) (hv : BSx (fun k => w0.heap.size ≤ k ∧ k < rb) w1 v (rdB L)) (o : Obj)
    (ho : w3.ownsRow (rb + 1) 37 3 u' (ts.length + 1) (cellsC ts ++ [.int .u8 (fstN L % 32 : Nat), .int .u8 (typN L : Nat), v])) (hg : (w1.alloc o).grownBy w3 u.ownBlock) :
    SpT w0 rb (rdL L) (rdE L) u' (ts ++ [⟨fstN L % 32, typN L, v, rdB L⟩]) w3 := by
  have hsz := h.below.size
  have hsz1 := hp.2.size
  have hrb := h.rd.lt
  have hlt : ∀ k, some k = u.ownBlock → rb + 1 ≤ k := fun k hk => (h.own.lt k hk.symm).1
  have hf := Fr.grown hg
  have ha := Fr.alloc w1 o
  have hyl : typN L < 256 := rdN_lt 1 (rawR 1 L)
  refine ⟨?_, ?_, ?_, ?_⟩
  · exact (hp.1.fr0 ha).fr hf (fun k _ hk hx => by have := hlt k hx; omega)
  · have e1 : (ts ++ [(⟨fstN L % 32, typN L, v, rdB L⟩ : Ck)]).length = ts.length + 1 := by simp
    rw [e1, ← cellsC_snoc]; exact ho
  · have key : ∀ (v : Value) (l : List UInt8), BSx (fun k => w0.heap.size ≤ k ∧ k < rb) w1 v l → BSx (fun k => w0.heap.size ≤ k ∧ k < rb) w3 v l := fun v l hb =>
      (hb.fr ha (fun _ _ _ h => h)).fr hf (fun k _ hk hx => by have := hlt k hx; omega)
    intro t ht
    rcases List.mem_append.1 ht with ht | ht
    · exact ⟨(h.ok t ht).1, (h.ok t ht).2.1, key _ _ ((h.ok t ht).2.2.fr hp.2 (fun k _ hk (hx : k = rb) => by omega))⟩
    · obtain rfl := List.mem_singleton.1 ht
      exact ⟨by show fstN L % 32 < 256; omega, hyl, key _ _ hv⟩
  · exact ((h.below.trans (hp.2.below hsz (fun k (hk : k = rb) => by omega))).alloc (by omega) o).grown hg (by rw [World.size_alloc]; omega) (fun k hk => by have := hlt k hk.symm; omega)
theorem ds_app (ts : List Ck) (t : Ck) : ds (ts ++ [t]) = ds ts ++ [t.d] := by simp [ds]
theorem SpT.next {w0 w3 : World} {rb : Nat} {b L : List UInt8} {u' v : Value} {ts : List Ck} (h : SpT w0 rb (rdL L) (rdE L) u' (ts ++ [⟨fstN L % 32, typN L, v, rdB L⟩]) w3) (hi : SpI b L (ds ts)) (h200 : b.length ≤ 200) (hn : rdL L ≠ []) :
    SpS w0 rb b (rdL L) u' (ts ++ [⟨fstN L % 32, typN L, v, rdB L⟩]) w3 := by
  have he : rdE L = 0 := Classical.byContradiction fun he => hn (rd_wrong L he)
  have hr := h.rd
  rw [he] at hr
  refine ⟨hr, h.own, h.ok, h.below, ?_⟩
  rw [ds_app]
  exact hi.next h200 he hn
/-- how many bytes a reader has left -/
def leftOf (v : Value) (w : World) : Nat :=
  match v with
  | .pointer (some a) => match w.heap[a.block]? with
    | some (.cells cs _ _) => slen (cs.getD 0 undef)
    | _ => 0
  | _ => 0
theorem Rd.leftOf {lo rb : Nat} {w : World} {L : List UInt8} {e : Int} (h : Rd lo w rb L e) : leftOf (.pointer (some ⟨rb, 0, none⟩)) w = L.length := by
  obtain ⟨_, _, v, hh, hb⟩ := h
  obtain ⟨A, c, rfl, _⟩ := bs_parts hb.1
  simp [Go.Proofs.Ytjohjilfmhgdnaa.leftOf, hh, slen]
theorem rdL_lt (L : List UInt8) (h : L ≠ []) : (rdL L).length < L.length := by
  by_cases h4 : L.length < 4
  · rw [(rd_short L h4).2]
    cases L with
    | nil => exact absurd rfl h
    | cons x l => simp
  · have hs : (stL L).length + 4 = L.length := by
      obtain ⟨a, b, c, d, M, rfl⟩ := four_of L h4
      rw [(rd_four a b c d M).2.2.2.1]; simp
    have hb : (bdL L).length ≤ (stL L).length := by
      rw [bdL, rawR, fmL]
      split
      · split <;> simp
      · simp
    have hr : (rdL L).length ≤ (bdL L).length := by
      rw [rdL, upL]
      split
      · split <;> simp
      · exact Nat.le_refl _
    omega
end Go.Proofs.Ytjohjilfmhgdnaa
