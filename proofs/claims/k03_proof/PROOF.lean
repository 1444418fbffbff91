import PyProof.Rows.All
import Wide.All
import OpenK.AllK
import Wide.FinOn
import PyProof.EqAt
import PyProof.EqKinds
import PyProof.TupleCall
import PyProof.Rows.SetFrom
import PyProof.CollectIter
import PyProof.DictWalks
import PyProof.Rows.SortShell
import PySem.Challenge.RW_oddcoin_k03_weighings
set_option Elab.async false
set_option linter.all false
set_option maxRecDepth 100000
set_option maxHeartbeats 4000000
section
namespace SetX
open PySem
theorem getD_nat (xs : Array Nat) (i d : Nat) (h : i < xs.size) : xs.getD i d = xs[i] := by simp [Array.getD, h]
def Rise (xs : Array Nat) : Prop := ∀ a b, a < b → b < xs.size → xs.getD a 0 < xs.getD b 0
theorem rise_iff (xs : Array Nat) : Rise xs ↔ xs.toList.Pairwise (· < ·) := by
  rw [List.pairwise_iff_getElem]
  constructor
  · intro h i j hi hj hij
    have hj' : j < xs.size := by simpa using hj
    have hi' : i < xs.size := by simpa using hi
    have := h i j hij hj'
    rw [getD_nat xs i 0 hi', getD_nat xs j 0 hj'] at this
    simpa using this
  · intro h a b hab hb
    have ha : a < xs.size := by omega
    rw [getD_nat xs a 0 ha, getD_nat xs b 0 hb]
    have := h a b (by simpa using ha) (by simpa using hb) hab
    simpa using this
theorem below_go {xs : Array Nat} (R : Rise xs) (j : Nat) : ∀ (fuel lo hi : Nat), hi - lo ≤ fuel → lo ≤ hi → hi ≤ xs.size → (∀ i, i < lo → xs.getD i 0 < j) → (∀ i, hi ≤ i → i < xs.size → j ≤ xs.getD i 0) →
    let p := SetTable.below.go xs j fuel lo hi
    p ≤ xs.size ∧ (∀ i, i < p → xs.getD i 0 < j) ∧ (∀ i, p ≤ i → i < xs.size → j ≤ xs.getD i 0)
  | 0, lo, hi, h1, h2, h3, h4, h5 => by
    have e : lo = hi := by omega
    subst e
    exact ⟨h3, h4, h5⟩
  | fuel + 1, lo, hi, h1, h2, h3, h4, h5 => by
    show let p := SetTable.below.go xs j (fuel + 1) lo hi; _
    unfold SetTable.below.go
    by_cases hlt : lo < hi
    · rw [if_pos hlt]
      have hm : (lo + hi) / 2 < hi := by omega
      have hm2 : lo ≤ (lo + hi) / 2 := by omega
      have hms : (lo + hi) / 2 < xs.size := by omega
      have eg : xs.getD ((lo + hi) / 2) j = xs.getD ((lo + hi) / 2) 0 := by rw [getD_nat xs _ j hms, getD_nat xs _ 0 hms]
      dsimp only
      rw [eg]
      by_cases hc : xs.getD ((lo + hi) / 2) 0 < j
      · rw [if_pos hc]
        refine below_go R j fuel _ hi (by omega) (by omega) h3 (fun i hi' => ?_) h5
        by_cases e : i = (lo + hi) / 2
        · rw [e]; exact hc
        · exact Nat.lt_trans (R i ((lo + hi) / 2) (by omega) hms) hc
      · rw [if_neg hc]
        refine below_go R j fuel lo _ (by omega) hm2 (by omega) h4 fun i hi' hsz => ?_
        by_cases e : i = (lo + hi) / 2
        · rw [e]; omega
        · have := R ((lo + hi) / 2) i (by omega) hsz
          omega
    · rw [if_neg hlt]
      have e : lo = hi := by omega
      subst e
      exact ⟨h3, h4, h5⟩
theorem below_spec {xs : Array Nat} (R : Rise xs) (j : Nat) : SetTable.below xs j ≤ xs.size ∧ (∀ i, i < SetTable.below xs j → xs.getD i 0 < j) ∧ (∀ i, SetTable.below xs j ≤ i → i < xs.size → j ≤ xs.getD i 0) :=
  below_go R j xs.size 0 xs.size (by omega) (Nat.zero_le _) (Nat.le_refl _) (fun i h => absurd h (Nat.not_lt_zero _)) fun i h1 h2 => absurd h2 (by omega)
theorem not_live {xs : Array Nat} (R : Rise xs) {j : Nat} (h : ¬ xs[SetTable.below xs j]? = some j) : ∀ i, i < xs.size → xs.getD i 0 ≠ j := by
  intro i hi e
  obtain ⟨h1, h2, h3⟩ := below_spec R j
  by_cases c : i < SetTable.below xs j
  · have := h2 i c; omega
  · by_cases c2 : i = SetTable.below xs j
    · apply h
      rw [← c2, Array.getElem?_eq_getElem hi, ← e, getD_nat xs i 0 hi]
    · have h4 := h3 (SetTable.below xs j) (Nat.le_refl _) (by omega)
      have := R (SetTable.below xs j) i (by omega) hi
      omega
theorem insert_rise {xs : Array Nat} (R : Rise xs) {j : Nat} (hn : ∀ i, i < xs.size → xs.getD i 0 ≠ j) : Rise (SetTable.insertAt xs (SetTable.below xs j) j) := by
  rw [rise_iff, SetTable.toList_insertAt]
  obtain ⟨h1, h2, h3⟩ := below_spec R j
  have RL := (rise_iff xs).mp R
  refine List.pairwise_append.mpr ⟨RL.sublist (List.take_sublist _ _), List.pairwise_cons.mpr ⟨fun y hy => ?_, RL.sublist (List.drop_sublist _ _)⟩, fun x hx y hy => ?_⟩
  · obtain ⟨i, hi, rfl⟩ := List.mem_iff_getElem.mp hy
    rw [List.getElem_drop]
    have hi' : SetTable.below xs j + i < xs.size := by
      rw [List.length_drop] at hi; simp at hi; omega
    have a := h3 (SetTable.below xs j + i) (by omega) hi'
    have b := hn (SetTable.below xs j + i) hi'
    rw [getD_nat xs _ 0 hi'] at a b
    simp only [Array.getElem_toList]
    omega
  · have hx' : x < j := by
      obtain ⟨i, hi, rfl⟩ := List.mem_iff_getElem.mp hx
      rw [List.getElem_take]
      rw [List.length_take] at hi
      have hi1 : i < SetTable.below xs j := by omega
      have hi2 : i < xs.size := by simp at hi; omega
      have a := h2 i hi1
      rw [getD_nat xs _ 0 hi2] at a
      simpa using a
    rcases List.mem_cons.mp hy with e | hy
    · rw [e]; exact hx'
    · have hy' : j ≤ y := by
        obtain ⟨i, hi, rfl⟩ := List.mem_iff_getElem.mp hy
        rw [List.getElem_drop]
        have hi' : SetTable.below xs j + i < xs.size := by
          rw [List.length_drop] at hi; simp at hi; omega
        have a := h3 (SetTable.below xs j + i) (by omega) hi'
        rw [getD_nat xs _ 0 hi'] at a
        simpa using a
      omega
theorem probe_go {t : SetTable} {hashAt : Nat → Int} {h : Int} : ∀ (fuel : Nat) (p : SetTable.Probe) {j : Nat} {dm : Option Nat}, (∀ d, p.dummy = some d → t.slot d = .dummy) → SetTable.probe.go t hashAt h fuel p = some (.empty j dm) →
    t.slot j = .empty ∧ ∀ d, dm = some d → t.slot d = .dummy
  | 0, p, j, dm, _, e => by simp [SetTable.probe.go] at e
  | fuel + 1, p, j, dm, hd, e => by
    unfold SetTable.probe.go at e
    have adv : ∀ q : SetTable.Probe, (t.advance q).dummy = q.dummy := fun q => by unfold SetTable.advance; split <;> rfl
    cases q : t.slot p.j with
    | empty =>
      rw [q] at e
      have e' := Option.some.inj e
      injection e' with e1 e2
      subst e1 e2
      exact ⟨q, hd⟩
    | dummy =>
      rw [q] at e
      refine probe_go fuel _ (fun d z => ?_) e
      rw [adv] at z
      have z' : some p.j = some d := z
      cases z'
      exact q
    | live i =>
      rw [q] at e
      dsimp only at e
      split at e
      · cases e
      · exact probe_go fuel _ (fun d z => by rw [adv] at z; exact hd d z) e
structure TabOk (b : Bool) (t : SetTable) : Prop where
  led : t.led = b
  rise : Rise t.place
theorem range_rise (n : Nat) : Rise (Array.range n) := by
  intro a c hac hc
  simp only [Array.size_range] at hc
  rw [getD_nat _ a 0 (by simp; omega), getD_nat _ c 0 (by simpa using hc)]
  simpa using hac
theorem standIn_ok {b : Bool} {t : SetTable} (h : TabOk b t) (n : Nat) : TabOk b (t.standIn n) := ⟨h.led, range_rise n⟩
theorem orStandIn_ok {b : Bool} {t : SetTable} (h : TabOk b t) (n : Nat) : TabOk b (t.orStandIn n) := by
  unfold SetTable.orStandIn
  split
  · exact h
  · exact standIn_ok h n
theorem slot_free {t : SetTable} {j : Nat} (h : t.slot j = .empty ∨ t.slot j = .dummy) : ¬ t.place[SetTable.below t.place j]? = some j := by
  intro e
  unfold SetTable.slot at h
  simp [e] at h
theorem layNew_ok {b : Bool} {t : SetTable} (h : TabOk b t) (es : Array (Int × Value)) (k : Int) (x : Value) : TabOk b (layNew t es k x).2.1 := by
  unfold layNew
  split
  · rename_i slot wd e
    dsimp only
    refine orStandIn_ok (t := (t.put slot).1) ⟨h.led, ?_⟩ _
    show Rise (SetTable.insertAt t.place (SetTable.below t.place slot) slot)
    refine insert_rise h.rise (not_live h.rise (slot_free ?_))
    unfold SetTable.freeSlot SetTable.probe at e
    split at e
    · rename_i j dm q
      obtain ⟨h1, h2⟩ := probe_go _ _ (fun d z => by cases z) q
      have e' := Option.some.inj e
      have e1 : dm.getD j = slot := congrArg Prod.fst e'
      cases dm with
      | none => exact .inl (e1 ▸ h1)
      | some d => exact .inr (by have z : d = slot := e1; rw [← z]; exact h2 d rfl)
    · cases e
  · exact standIn_ok h _
theorem laid_ok {mask fg mv : Nat} {led plain : Bool} {hs : Array Int} {t : SetTable} {ord : Array Nat} (e : SetTable.laid mask fg mv led plain hs = some (t, ord)) : TabOk led t := by
  unfold SetTable.laid at e
  cases q : SetTable.layClean mask hs with
  | none => rw [q] at e; cases e
  | some owner =>
    rw [q] at e
    have e' := congrArg Prod.fst (Option.some.inj e)
    have e'' : ({ mask, place := (((List.range (mask + 1)).filterMap fun j => (owner.getD j none).map (j, ·)).map (·.1)).toArray, dummies := #[], finger := fg, led, moves := mv, plain } : SetTable) = t := e'
    subst e''
    refine ⟨rfl, ?_⟩
    rw [rise_iff]
    show List.Pairwise (· < ·) (((List.range (mask + 1)).filterMap fun j => (owner.getD j none).map (j, ·)).map (·.1))
    rw [List.pairwise_map]
    refine List.Pairwise.filterMap _ (fun a a' haa b hb b' hb' => ?_) (List.pairwise_lt_range)
    cases qa : owner.getD a none with
    | none => rw [qa] at hb; cases hb
    | some u =>
      rw [qa] at hb
      cases qb : owner.getD a' none with
      | none => rw [qb] at hb'; cases hb'
      | some v =>
        rw [qb] at hb'
        have z1 : (a, u) = b := Option.some.inj hb
        have z2 : (a', v) = b' := Option.some.inj hb'
        rw [← z1, ← z2]
        exact haa
theorem relayAll_ok {b : Bool} {t : SetTable} (h : TabOk b t) (es : Array (Int × Value)) (wanted : Nat) : TabOk b (relayAll t es wanted).2.1 := by
  unfold relayAll
  split
  · rename_i t' order e
    dsimp only
    split
    · unfold SetTable.relaid at e
      have := laid_ok e
      rw [h.led] at this
      exact this
    · exact standIn_ok h _
  · exact standIn_ok h _
end SetX
namespace SetX
open PySem
def ledOf (w : World) : Bool := !(w.params.followText "set-order")
def val (e : Int × Value) : Int := match e.2 with | .int n _ => n | _ => 0
def Ent (l : List (Int × Value)) : Prop := ∀ e ∈ l, ∃ n t, e = (hashInt n, Value.int n t)
def SetAt (w : World) (h : Heap) (a : Addr) (ns : List Int) : Prop :=
  ∃ o es ep t, h.get? a = some o ∧ o.ExactSet ∧ o.data = .set es ep t ∧ Ent es.toList ∧ es.toList.map val = ns ∧ ns.Nodup ∧ ns.length < scanBound ∧ t.fits es.size = true ∧ TabOk (ledOf w) t
theorem SetAt.keeps {w : World} {h h' : Heap} {a : Addr} {ns : List Int} (S : SetAt w h a ns) (k : ∀ o, h.get? a = some o → h'.get? a = some o) : SetAt w h' a ns := by
  obtain ⟨o, es, ep, t, ho, r⟩ := S
  exact ⟨o, es, ep, t, k o ho, r⟩
theorem Ent.elems {prog : Program} {w : World} {l : List (Int × Value)} (h : Ent l) : ElemsOf (intKind prog w) l := fun e he => by
  obtain ⟨n, t, rfl⟩ := h e he
  exact ⟨⟨n, intKind_is prog w n t, rfl⟩, rfl⟩
theorem is_val {prog : Program} {w : World} {e : Int × Value} (h : ∃ n t, e = (hashInt n, Value.int n t)) (k : Int) : (intKind prog w).is k e.2 = decide (k = val e) := by
  obtain ⟨n, t, rfl⟩ := h
  show Value.isInt k (Value.int n t) = decide (k = n)
  unfold Value.isInt
  by_cases e : k = n
  · subst e; simp
  · have e' : ¬ n = k := fun z => e z.symm
    simp [e, e']
theorem Ent.perm {l l' : List (Int × Value)} (h : Ent l) (p : List.Perm l' l) : Ent l' := fun e he => h e (p.mem_iff.mp he)
theorem Ent.snoc {l : List (Int × Value)} (h : Ent l) (k : Int) (t : Tok) : Ent (l ++ [(hashInt k, Value.int k t)]) := fun e he => by
  rcases List.mem_append.mp he with z | z
  · exact h e z
  · have z' : e = (hashInt k, Value.int k t) := by simpa using z
    exact ⟨k, t, z'⟩
theorem find_none {prog : Program} {w : World} {l : List (Int × Value)} (h : Ent l) {k : Int} : l.findIdx? (fun e => (intKind prog w).is k e.2) = none ↔ k ∉ l.map val := by
  rw [List.findIdx?_eq_none_iff]
  constructor
  · intro q hm
    obtain ⟨e, he, rfl⟩ := List.mem_map.mp hm
    have := q e he
    rw [is_val (h e he)] at this
    simp at this
  · intro q e he
    rw [is_val (h e he)]
    refine decide_eq_false fun z => q ?_
    rw [z]
    exact List.mem_map.mpr ⟨e, he, rfl⟩
section
variable {prog : Program} {w : World} {A : Around} {E : Value → Shared → Prop} {s : Shared} {a : Addr} {ns : List Int} {k : Int} {tk : Tok}
theorem fits_line {n : Nat} (h : n < scanBound) : n ≤ sizeLine := by
  have h1 : scanBound = 4096 := rfl
  rw [h1] at h; rw [sizeLine_eq]; omega
theorem store_at {h : Heap} {o : Obj} {es es' : Array (Int × Value)} {ep : Nat} {t t' : SetTable} (ho : h.get? a = some o) (hd : o.data = .set es ep t) :
    (h.update a (Obj.putSet es' t')).get? a = some { o with data := .set es' (ep + 1) t' } := by
  have z := Heap.get?_update_self (Obj.putSet es' t') ho (by rw [putSet_of es' t' hd]; rfl)
  rw [putSet_of es' t' hd] at z; exact z
theorem find_int {x : Value} (hx : x = .int k tk) {Q : Option Nat → Shared → Prop} (hS : SetAt w s.heap a ns) (h : ∀ r : Option Nat, r.isSome = decide (k ∈ ns) → Q r s) : wpAny (model prog w) A (setFind a x (hashInt k)) Q E s := by
  subst hx
  obtain ⟨o, es, ep, t, ho, hex, hd, he, rfl, hn, hb, hf, ht⟩ := hS
  have hz : es.size < scanBound := by simpa using hb
  unfold setFind setFindIn
  refine wpAny_bind (wpAny_setState_of ho hd hf ?_); dsimp only
  rw [byScan_of (knd := intKind prog w) rfl hz he.elems]; simp only [↓reduceIte]; refine wpAny_bind (wpAny_rule ?_)
  refine wpAny_bind (wpAny_setScan_of (knd := intKind prog w) (k := k) (intKind_is prog w k tk) ho hd hf he.elems ?_)
  cases hr : List.findIdx? (fun e => (intKind prog w).is k e.2) es.toList with
  | none =>
    dsimp only
    refine wpAny_pure (h none ?_)
    have := (find_none he).mp hr
    rw [decide_eq_false this]; rfl
  | some j =>
    dsimp only
    refine wpAny_pure (h (some (0 + j)) ?_)
    have : k ∈ es.toList.map val := by
      refine Decidable.byContradiction fun z => ?_
      rw [(find_none (prog := prog) (w := w) he).mpr z] at hr
      cases hr
    rw [decide_eq_true this]; rfl
theorem add_int {x : Value} (hx : x = .int k tk) {Q : Bool → Shared → Prop} (hS : SetAt w s.heap a ns) (hroom : ns.length + 1 < scanBound)
    (h : ∀ h' ns', Heap.SameBut a s.heap h' → SetAt w h' a ns' → (∀ y, y ∈ ns' ↔ y ∈ ns ∨ y = k) → ns'.length ≤ ns.length + 1 → Q (!decide (k ∈ ns)) { s with heap := h' }) : wpAny (model prog w) A (setAddHashed a x (hashInt k)) Q E s := by
  subst hx
  obtain ⟨o, es, ep, t, ho, hex, hd, he, rfl, hn, hb, hf, ht⟩ := hS
  have hz : es.size < scanBound := by simpa using hb
  have hz1 : es.size + 1 < scanBound := by simpa using hroom
  have ie : (es.toList.map val).length = es.size := by simp
  unfold setAddHashed setAddHashedIn; refine wpAny_holding (wpAny_bind (wpAny_setState_of ho hd hf ?_)); dsimp only
  rw [byScan_of (knd := intKind prog w) rfl hz he.elems]; simp only [↓reduceIte]
  unfold setAddByScan; refine wpAny_bind ?_; refine wpAny_bind (wpAny_rule ?_)
  refine wpAny_bind (wpAny_setScan_of (knd := intKind prog w) (k := k) (intKind_is prog w k tk) ho hd hf he.elems ?_)
  cases hr : List.findIdx? (fun e => (intKind prog w).is k e.2) es.toList with
  | some j =>
    have hk : k ∈ es.toList.map val := by
      refine Decidable.byContradiction fun z => ?_
      rw [(find_none (prog := prog) (w := w) he).mpr z] at hr
      cases hr
    dsimp only
    refine wpAny_pure (wpAny_pure ?_)
    have q := h s.heap (es.toList.map val) (Heap.SameBut.refl a s.heap) ⟨o, es, ep, t, ho, hex, hd, he, rfl, hn, hb, hf, ht⟩ (fun y => ⟨.inl, fun z => z.elim id fun z => z ▸ hk⟩) (Nat.le_succ _)
    rw [decide_eq_true hk] at q
    exact q
  | none =>
    have hk : k ∉ es.toList.map val := (find_none he).mp hr
    dsimp only
    have hgw : ∀ (c : Bool) {s₁ : Shared} {Q' : Unit → Shared → Prop}, Q' () s₁ → wpAny (model prog w) A (match c with | true => rule "set.scan.the-table-gave-way" | false => pure ()) Q' E s₁ := fun c s₁ Q' hq => by
      cases c <;> first | exact wpAny_pure hq | exact wpAny_rule hq
    have hperm := layNew_perm t es (hashInt k) (.int k tk)
    have hfits := layNew_fits t es (hashInt k) (.int k tk)
    have hok := layNew_ok ht es (hashInt k) (.int k tk)
    generalize hL : layNew t es (hashInt k) (.int k tk) = L at hperm hfits hok ⊢
    have hL' : layNew t es ((intKind prog w).hash k) (.int k tk) = L := hL
    obtain ⟨es1, t1, wd, gave⟩ := L
    first | rw [hL'] | skip
    dsimp only at hperm hfits hok ⊢
    rw [Array.toList_push] at hperm
    have he1 : Ent es1.toList := (he.snoc k tk).perm hperm
    have mem1 : ∀ y, y ∈ es1.toList.map val ↔ y ∈ es.toList.map val ∨ y = k := fun y => by
      rw [(hperm.map val).mem_iff, List.map_append, List.mem_append]
      show _ ∨ y ∈ [k] ↔ _
      rw [List.mem_singleton]
    have nd1 : (es1.toList.map val).Nodup := by
      refine (hperm.map val).nodup_iff.mpr ?_
      rw [List.map_append]
      refine List.nodup_append.mpr ⟨hn, by simp, fun p hp q hq z => ?_⟩
      have hq' : q = k := by simpa [val] using hq
      exact hk (hq' ▸ z ▸ hp)
    have sz1 : es1.size = es.size + 1 := by
      have := hperm.length_eq
      simpa using this
    have hb1 : (es1.toList.map val).length < scanBound := by simpa [sz1] using hz1
    have hend : ∀ h', Heap.SameBut a s.heap h' → ∀ es2 : Array (Int × Value), SetAt w h' a (es2.toList.map val) → List.Perm es2.toList es1.toList → Q true { s with heap := h' } := fun h' sb es2 S2 p2 => by
      have q := h h' (es2.toList.map val) sb S2 (fun y => by rw [(p2.map val).mem_iff]; exact mem1 y) (by rw [(p2.map val).length_eq]; simp [sz1])
      rw [decide_eq_false hk] at q
      exact q
    have tail : ∀ t2 : SetTable, t2.fits es1.size = true → TabOk (ledOf w) t2 → ∀ R : Option Bool → Shared → Prop, (∀ h', Heap.SameBut a s.heap h' → ∀ es2 : Array (Int × Value), SetAt w h' a (es2.toList.map val) → List.Perm es2.toList es1.toList → R (some true) { s with heap := h' }) →
        ∀ g : Bool → Sem Unit, (∀ (c : Bool) (s₁ : Shared) (Q' : Unit → Shared → Prop), Q' () s₁ → wpAny (model prog w) A (g c) Q' E s₁) → wpAny (model prog w) A (do
          storeSet a es1 t2
          if (!wd && t2.tooFull) = true then do
              g (relayAll t2 es1 (SetTable.grown es1.size)).2.2
              storeSet a (relayAll t2 es1 (SetTable.grown es1.size)).1 (relayAll t2 es1 (SetTable.grown es1.size)).2.1
              pure (some true)
            else pure (some true)) R E s := by
      intro t2 hf2 hk2 R hR g hg
      refine wpAny_bind (wpAny_storeSet_of ho hd ?_ (fits_line (by rw [sz1]; exact hz1)))
      have e1 := store_at (es' := es1) (t' := t2) ho hd
      have sb1 := Heap.SameBut.update s.heap a (Obj.putSet es1 t2)
      split
      · have p2 := relayAll_perm t2 es1 (SetTable.grown es1.size)
        have f2 := relayAll_fits t2 es1 (SetTable.grown es1.size)
        have k2 := relayAll_ok hk2 es1 (SetTable.grown es1.size)
        generalize relayAll t2 es1 (SetTable.grown es1.size) = Rl at p2 f2 k2 ⊢
        obtain ⟨es2, t3, gave2⟩ := Rl
        dsimp only at p2 f2 k2 ⊢
        have sz2 : es2.size = es1.size := by rw [← Array.length_toList, p2.length_eq, Array.length_toList]
        refine wpAny_bind (hg _ _ _ ?_)
        refine wpAny_bind (wpAny_storeSet_of e1 rfl ?_ (fits_line (by rw [sz2, sz1]; exact hz1)))
        have e2 := store_at (es' := es2) (t' := t3) e1 rfl
        exact wpAny_pure (hR _ (sb1.trans (Heap.SameBut.update _ a _)) es2 ⟨_, es2, _, t3, e2, hex, rfl, he1.perm p2, rfl, (p2.map val).nodup_iff.mpr nd1, by rw [(p2.map val).length_eq]; exact hb1, f2, k2⟩ p2)
      · exact wpAny_pure (hR _ sb1 es1 ⟨_, es1, _, t2, e1, hex, rfl, he1, rfl, nd1, hb1, hf2, hk2⟩ .rfl)
    refine wpAny_bind (hgw _ ?_)
    split
    · refine wpAny_bind ?_
      rw [hashByValue_scannable 8 rfl]
      refine wpAny_pure ?_
      refine tail _ ?_ ?_ _ ?_ _ ?_
      · exact hfits
      · exact hok
      · intro h' sb es2 S2 p2; dsimp only; exact wpAny_pure (hend h' sb es2 S2 p2)
      · intro c s₁ Q' hq; cases c <;> first | exact wpAny_pure hq | exact wpAny_rule hq
    · refine wpAny_bind (wpAny_pure ?_)
      simp only [↓reduceIte]
      refine tail _ hfits hok _ ?_ _ ?_
      · intro h' sb es2 S2 p2; dsimp only; exact wpAny_pure (hend h' sb es2 S2 p2)
      · intro c s₁ Q' hq; cases c <;> first | exact wpAny_pure hq | exact wpAny_rule hq
end
end SetX
namespace SetX
open PySem PyProof.Rows
section
variable {prog : Program} {w : World} {A : Around} {R : Result → Shared → Prop} {I : Addr} {fp wr : List Addr} {G : Array GenState → Array GenState → Prop} {n : Nat} {P : Nat → Value → Prop} {St : Nat → Shared → Prop}
theorem update_loopX (W : WalksS prog w A.in1 I fp wr G n P St) (S : Addr) (hSf : S ∉ fp) (vl : Nat → Int) (hval : ∀ i v, P i v → ∃ t, v = .int (vl i) t) (hb : n + 1 < scanBound) :
    ∀ (k i : Nat) (s : Shared) (ns : List Int), n - i = k → i ≤ n → St i s → SetAt w s.heap S ns → (∀ y, y ∈ ns ↔ ∃ j, j < i ∧ y = vl j) → ns.length ≤ i →
      (∀ s' ns', Moved (S :: wr) G s s' → SetAt w s'.heap S ns' → (∀ y, y ∈ ns' ↔ ∃ j, j < n ∧ y = vl j) → R (.ok (.ret .none)) s') → codeAny (model prog w) A (.builtin "set.update.loop" ⟨[.ref S, .ref I], []⟩) R s := by
  have nw : S ∉ wr := fun z => hSf (W.sub _ z)
  have up : ∀ b ∈ wr, b ∈ S :: wr := fun b z => List.mem_cons_of_mem _ z
  intro k
  induction k with
  | zero =>
    intro i s ns hk hi hst hS hm hl hR
    have e : i = n := by omega
    subst e
    refine codeAny_builtin F.entry_set_update_loop ?_; rw [Around.under_plainId F.plain_set_update_loop _]; show wpAny _ A.in1 (pyNext (.ref I) >>= _) _ _ s
    refine wpAny_bind (W.done s _ _ hst fun s' mv => ?_); show wpAny _ A.in1 (ret Value.none) _ _ s'
    exact wpAny_pure (hR s' ns (mv.mono up) (hS.keeps fun o ho => mv.heap S o nw ho) hm)
  | succ k ih =>
    intro i s ns hk hi hst hS hm hl hR
    have lt : i < n := by omega
    refine codeAny_builtin F.entry_set_update_loop ?_; rw [Around.under_plainId F.plain_set_update_loop _]; show wpAny _ A.in1 (pyNext (.ref I) >>= _) _ _ s
    refine wpAny_bind (W.item i s _ _ lt hst fun v s' hP hst' mv => ?_)
    obtain ⟨t, rfl⟩ := hval i v hP
    have hS' : SetAt w s'.heap S ns := hS.keeps fun o ho => mv.heap S o nw ho
    show wpAny _ A.in1 (holding [Value.int (vl i) t] (setAdd S (.int (vl i) t)) >>= _) _ _ s'
    refine wpAny_bind (wpAny_holding ?_); unfold setAdd; refine wpAny_holding ?_
    refine wpAny_bind ((intKind prog w).pyHash (k := vl i) (intKind_is _ _ _ _) ?_)
    refine add_int (s := { s' with toks := s'.toks + 1 }) (k := vl i) (tk := t) rfl hS' (by omega) fun h' ns' sb S2 m2 l2 => ?_
    refine wpAny_pure ⟨plainId_quiet F.plain_set_update_loop _, ih (i + 1) _ ns' (by omega) lt (W.frame _ s' _ _ hst' (Nat.le_succ _) fun b hb o e => ?_) S2 (fun y => ?_) (by omega) fun s'' ns'' mv2 S3 m3 => ?_⟩
    · rw [sb.2 b (fun z : b = S => hSf (by rw [← z]; exact hb))]; exact e
    · rw [m2, hm]
      constructor
      · rintro (⟨j, hj, e⟩ | e)
        · exact ⟨j, by omega, e⟩
        · exact ⟨i, by omega, e⟩
      · rintro ⟨j, hj, e⟩
        by_cases z : j = i
        · exact .inr (by rw [e, z])
        · exact .inl ⟨j, by omega, e⟩
    · refine hR s'' ns'' (Moved.trans W.gtrans ((mv.mono up).then_heap (Nat.le_succ _) fun b o hb e => ?_) mv2) S3 m3
      rw [sb.2 b (fun z : b = S => hb (by rw [z]; exact List.mem_cons_self))]; exact e
end
section
variable {prog : Program} {w : World} {A : Around} {E : Value → Shared → Prop} {s : Shared}
abbrev newSetObj (w : World) : Obj := { cls := .type "set", dict := none, data := .set #[] 0 (.fresh 0 0 (ledOf w)) }
theorem fresh_ok (b : Bool) : TabOk b (.fresh 0 0 b) := ⟨rfl, fun a c h1 h2 => absurd h2 (by show ¬ c < 0; omega)⟩
theorem setAt_new {h : Heap} {a : Addr} (e : h.get? a = some (newSetObj w)) : SetAt w h a [] := ⟨_, #[], 0, _, e, ⟨rfl, rfl, rfl⟩, rfl, fun e he => by simp at he, rfl, List.nodup_nil, by decide, rfl, fresh_ok _⟩
theorem set_new_led (a : Value) {Q₁ : Value → Shared → Prop} (h : Q₁ (.ref s.heap.objs.size) { s with heap := s.heap.push (newSetObj w) }) :
    codeAny (model prog w) A (.call (.builtin "set.__new__") ⟨[.type "set", a], []⟩) (wants Q₁ E) s := by
  refine codeAny_of_tree ?_
  show wpAny _ A.in1 (do checkBuiltinCall "set.__new__" ⟨[.type "set", a], []⟩; again (.builtin "set.__new__" ⟨[.type "set", a], []⟩)) _ _ s
  refine wpAny_bind (wpAny_of_eq (F.newCall_set_1 a) (wpAny_pure ⟨plainId_quiet F.plain_set_new _, codeAny_builtin F.entry_set_new ?_⟩))
  rw [Around.under_plainId F.plain_set_new _]; unfold Builtin.«set.__new__» Builtin.Frozenset.newClass
  have hsub := sub_set_self
  obtain ⟨hp, g, d, tk, os⟩ := s
  dsimp only
  wp_walk
  refine wpAny_askSetting (wpAny_pure ?_); dsimp only; simp only [newObj]; refine wpAny_bind (wpAny_alloc (wpAny_pure ?_))
  exact wpAny_pure h
theorem call_set_listX {l : Addr} {items : Array Value} {ns : List Int} {Q : Value → Shared → Prop} (hh : A.handled = none) (hl : s.heap.IsList l items) (hi : PyProof.Rows.IntsAre items.toList ns) (hb : items.size + 1 < scanBound)
    (h : ∀ (h' : Heap) (tk : Nat) (ms : List Int), SetAt w h' s.heap.objs.size ms → (∀ y, y ∈ ms ↔ y ∈ ns) → (∀ b o, b < s.heap.objs.size → s.heap.get? b = some o → h'.get? b = some o) → Q (.ref s.heap.objs.size) { s with heap := h', toks := tk }) :
    wpAny (model prog w) A (call (.type "set") [.ref l]) Q E s := by
  obtain ⟨c, tl, hmro⟩ := F.called_set.mro
  have hmade := F.called_set.made
  have hsub := F.called_set.sub
  refine wpAny_call (codeAny_of_tree ?_); show wpAny _ _ (callAny (.type "set") _) _ _ _
  refine wpAny_pure ⟨Code.quiet_builtin _ (by decide +kernel), codeAny_builtin F.entry_type_call ?_⟩
  rw [Around.under_plain (weight_type_call_type "set" [.ref l] []) rfl]
  have h1 := F.called_set.notType
  have h2 := F.called_set.canCreate
  have hct := F.typeCall_set_1 (.ref l)
  repeat (any_goals (first | assumption | wp_step))
  refine codeAny_mono (set_new_led (.ref l) (E := E) (Q₁ := fun obj s₁ => obj = .ref s.heap.objs.size ∧ s₁ = { s with heap := s.heap.push (newSetObj w) }) ⟨rfl, rfl⟩) fun r s₁ hr => ?_
  cases r with
  | error e => exact hr
  | ok fl =>
    cases fl with
    | ret obj =>
      obtain ⟨rfl, rfl⟩ := hr
      have hS : (s.heap.push (newSetObj w)).get? s.heap.objs.size = some (newSetObj w) := Heap.get?_push_size _ rfl
      have hT : Shared.TypeIs { s with heap := s.heap.push (newSetObj w) } (.ref s.heap.objs.size) "set" := ⟨_, hS, rfl⟩
      have hli := F.called_set.init.lookup
      have hbi := F.called_set.init.bind (.ref s.heap.objs.size)
      repeat (any_goals (first | assumption | wp_step))
      refine codeAny_mono (codeAny_call_builtin (R := wants (fun r s₂ => r = .none ∧ ∃ h' tk ms, s₂ = { s with heap := h', toks := tk } ∧ SetAt w h' s.heap.objs.size ms ∧ (∀ y, y ∈ ms ↔ y ∈ ns) ∧ (∀ b o, b < s.heap.objs.size → s.heap.get? b = some o → h'.get? b = some o)) E)
        F.called_set.init.plain F.entry_set_init (check_set_init_1 hT ?_)) fun r₂ s₂ hr₂ => ?_
      · obtain ⟨ol, hol, hcl, nl, hdl⟩ := hl
        obtain ⟨ocls, odict, odata, oslots⟩ := ol
        simp only at hcl hdl
        subst hcl; subst hdl
        have hol' : (s.heap.push (newSetObj w)).get? l = some { cls := .type "list", dict := odict, data := .seq items nl, slots := oslots } := Heap.get?_push_of_some _ hol
        have hsls := F.sub_list_set
        have hslf := F.sub_list_frozenset
        have hne : (Value.type "list" == Value.type "dict") = false := by decide
        have hl1 : (s.heap.push (newSetObj w)).IsList l items := ⟨_, hol', rfl, nl, rfl⟩
        unfold Builtin.«set.__init__» noKeywords Builtin.Frozenset.updateFrom
        generalize hPI : pyIter = PI
        wp_walk
        subst hPI
        refine wpAny_pyIter_list hl1 ?_; refine wpAny_bind (wpAny_runValue ?_)
        have hlS : l < s.heap.objs.size := Heap.lt_size hol
        have hh3 : A.in1.in1.in1.handled = none := by simp [hh]
        have zs : (s.heap.push (newSetObj w)).objs.size = s.heap.objs.size + 1 := Heap.size_push ..
        have hval : ∀ (i : Nat) (v : Value), items[i]? = some v → ∃ t, v = .int ((fun i => ns.getD i 0) i) t := fun i v hv => PyProof.Rows.IntsAre.int_at hi i v (by rw [Array.getElem?_toList]; exact hv)
        have zn : items.size = ns.length := by have := IntsAre.length hi; simpa using this
        refine update_loopX ((Walks.list hh3 _ l (by rw [zs]; exact Nat.ne_of_lt (Nat.lt_succ_of_lt hlS)) items).toS) s.heap.objs.size (by rw [zs]; simp only [List.mem_cons, List.mem_singleton, List.not_mem_nil, or_false, not_or]; exact ⟨Nat.ne_of_lt (Nat.lt_succ_self _), Nat.ne_of_gt hlS⟩) (fun i => ns.getD i 0) hval hb (items.size - 0) 0 _ [] (by omega) (Nat.zero_le _)
          ⟨⟨_, Heap.get?_push_size _ rfl, rfl, rfl⟩, (hl1.push _)⟩ (setAt_new (Heap.get?_push_of_some _ hS)) (fun y => by simp) (Nat.zero_le _) ?_
        intro s' ms mv S2 m2
        obtain ⟨h', g', d', tk', os'⟩ := s'
        have eg : g' = s.gens := mv.gens
        have ed : d' = s.drawn := mv.drawn
        have eo : os' = s.os := mv.os
        subst eg; subst ed; subst eo
        show wpAny _ _ _ _ _ _
        refine wpAny_pure ?_
        show wpAny _ _ (ret Value.none) _ _ _
        refine wpAny_pure ⟨rfl, h', tk', ms, rfl, S2, fun y => ?_, fun b o hb e => ?_⟩
        · rw [m2 y, zn]
          constructor
          · rintro ⟨j, hj, rfl⟩
            have : ns.getD j 0 = ns[j] := by simp [List.getD, hj]
            show ns.getD j 0 ∈ ns
            rw [this]; exact List.getElem_mem hj
          · intro hy
            obtain ⟨j, hj, rfl⟩ := List.mem_iff_getElem.mp hy
            exact ⟨j, hj, by simp [List.getD, hj]⟩
        · have hb1 : b ≠ s.heap.objs.size := Nat.ne_of_lt hb
          have hb2 : b ≠ (s.heap.push (newSetObj w)).objs.size := by rw [zs]; exact Nat.ne_of_lt (Nat.lt_succ_of_lt hb)
          exact mv.heap b o (by simp only [List.mem_cons, List.mem_singleton, List.not_mem_nil, or_false, not_or]; exact ⟨hb1, hb2⟩) (Heap.get?_push_of_some _ (Heap.get?_push_of_some _ e))
      · cases r₂ with
        | error e => exact hr₂
        | ok fl₂ =>
          cases fl₂ with
          | ret r =>
            obtain ⟨rfl, h', tk, ms, rfl, S2, m2, hk'⟩ := hr₂
            repeat (any_goals (first | assumption | wp_step))
            exact h _ _ _ S2 m2 hk'
          | _ => exact hr₂.elim
    | _ => exact hr.elim
end
end SetX
end
section
namespace SetX
open PySem PyProof.Rows
theorem perm_erase {α : Type} : ∀ (l : List α) (i : Nat) (h : i < l.length), List.Perm (l[i] :: l.eraseIdx i) l
  | [], i, h => absurd h (by simp)
  | x :: l, 0, h => .rfl
  | x :: l, i + 1, h => by
    have h' : i < l.length := by simpa using h
    show List.Perm (l[i] :: x :: l.eraseIdx i) (x :: l)
    exact (List.Perm.swap x l[i] _).trans ((perm_erase l i h').cons x)
theorem pick_go {α : Type} (next : Nat → Nat) : ∀ (fuel k : Nat) (left : List α) (out : Array α), left.length = fuel → List.Perm (pickOrder.go next fuel k left out).toList (out.toList ++ left)
  | 0, k, left, out, h => by
    have e : left = [] := List.length_eq_zero_iff.mp h
    subst e
    show List.Perm out.toList (out.toList ++ [])
    rw [List.append_nil]
  | fuel + 1, k, left, out, h => by
    show List.Perm (match left[next k % left.length]? with
      | some x => pickOrder.go next fuel (k + 1) (left.eraseIdx (next k % left.length)) (out.push x)
      | none => out).toList _
    have hlt : next k % left.length < left.length := Nat.mod_lt _ (by omega)
    rw [List.getElem?_eq_getElem hlt]
    dsimp only
    have hz : (left.eraseIdx (next k % left.length)).length = fuel := by rw [List.length_eraseIdx_of_lt hlt]; omega
    refine (pick_go next fuel (k + 1) _ _ hz).trans ?_
    rw [Array.toList_push, List.append_assoc]
    refine List.Perm.append_left _ ?_
    exact perm_erase _ _ hlt
theorem pickOrder_perm {α : Type} (next : Nat → Nat) (xs : Array α) : List.Perm (pickOrder next xs).toList xs.toList := by
  unfold pickOrder
  have := pick_go next xs.size 0 xs.toList #[] (by simp)
  simpa using this
section
variable {prog : Program} {w : World} {A : Around} {E : Value → Shared → Prop} {s : Shared} {a : Addr} {ns : List Int}
theorem wpAny_choose {src : Source} {n : Nat} {Q : Nat → Shared → Prop} (hn : n ≠ 0) (h : ∀ k d, k < n → Q k { s with drawn := d }) : wpAny (model prog w) A (choose src n) Q E s := by
  intro Γ p hΓ
  exact ⟨hn, h _ _ (Nat.mod_lt _ (Nat.pos_of_ne_zero hn))⟩
theorem drawOrder_of {α : Type} : ∀ (n : Nat) (xs : List α) (s : Shared) (Q : List α → Shared → Prop), xs.length = n → (∀ ys d, List.Perm ys xs → Q ys { s with drawn := d }) → wpAny (model prog w) A (drawOrder n xs) Q E s
  | 0, xs, s, Q, hl, h => by
    have e : xs = [] := List.length_eq_zero_iff.mp hl
    subst e
    exact wpAny_pure (h [] s.drawn .nil)
  | n + 1, [], s, Q, hl, h => by simp at hl
  | n + 1, x :: xs, s, Q, hl, h => by
    unfold drawOrder
    refine wpAny_bind (wpAny_choose (by simp) fun k d hk => ?_)
    rw [List.getElem?_eq_getElem hk]
    dsimp only
    refine wpAny_bind (drawOrder_of n _ _ _ (by rw [List.length_eraseIdx_of_lt hk]; omega) fun ys d' p => ?_)
    refine wpAny_pure (h _ d' ?_)
    exact (p.cons _).trans (perm_erase _ _ hk)
theorem setWalk_of {o : Obj} {es : Array (Int × Value)} {ep : Nat} {t : SetTable} {Q : Array (Int × Value) → Shared → Prop} (ho : s.heap.get? a = some o) (hd : o.data = .set es ep t) (hf : t.fits es.size = true) (hl : t.led = ledOf w)
    (h : ∀ es' d, List.Perm es'.toList es.toList → Q es' { s with drawn := d }) : wpAny (model prog w) A (setWalk a) Q E s := by
  unfold setWalk setsByText
  refine wpAny_bind (wpAny_setState_of ho hd hf ?_); dsimp only
  refine wpAny_bind (wpAny_bind (wpAny_askSetting (wpAny_pure ?_)))
  by_cases hb : (model prog w).w.params.followText "set-order" = true
  · dsimp only
    rw [if_pos hb]
    refine wpAny_bind (wpAny_askSetting (wpAny_pure ?_))
    exact h _ s.drawn (pickOrder_perm _ _)
  · dsimp only
    rw [if_neg hb]
    have hb' : ¬ w.params.followText "set-order" = true := hb
    have hl' : t.led = true := by rw [hl]; unfold ledOf; simp [hb']
    split
    · refine wpAny_bind (drawOrder_of _ _ _ _ (by simp) fun ys d p => ?_)
      exact wpAny_pure (h _ d (by simpa using p))
    · refine wpAny_bind ?_
      show wpAny _ _ (if (!t.led && decide (es.size > 1)) = true then _ else _) _ _ _
      rw [hl']
      simp only [Bool.not_true, Bool.false_and, Bool.false_eq_true, if_false]
      exact wpAny_pure (wpAny_pure (h es s.drawn .rfl))
end
end SetX
namespace SetX
open PySem PyProof.Rows
section
variable {prog : Program} {w : World} {A : Around} {E : Value → Shared → Prop} {s : Shared} {a b : Addr} {ns ms : List Int}
theorem forIn_arr {M : Model} {α β : Type} {s : Shared} (f : α → β → Sem (ForInStep β)) (I : List α → β → Shared → Prop) (Q : β → Shared → Prop)
    (turn : ∀ x rest c s, I (x :: rest) c s → wpAny M A (f x c) (fun r s' => match r with | .yield c' => I rest c' s' | .done c' => Q c' s') E s) (fin : ∀ c s, I [] c s → Q c s) (xs : Array α) (c : β) (h : I xs.toList c s) : wpAny M A (forIn xs c f) Q E s := by
  rw [← Array.forIn_toList]; exact wpAny_forIn_list f I Q turn fin _ c h
theorem setsQuiet_of : ∀ (l : List Addr) {Q : Bool → Shared → Prop}, (∀ c ∈ l, ∃ ks, SetAt w s.heap c ks) → Q true s → wpAny (model prog w) A (setsQuiet l) Q E s := by
  intro l Q hl hQ
  unfold setsQuiet
  refine wpAny_bind ?_
  refine wpAny_forIn_list _ (fun rest r s' => r = ⟨none, ()⟩ ∧ s' = s ∧ ∀ c ∈ rest, ∃ ks, SetAt w s.heap c ks) _ ?_ ?_ l _ ⟨rfl, rfl, hl⟩
  · rintro c rest r s' ⟨rfl, rfl, hc⟩
    obtain ⟨ks, o, es, ep, t, ho, hex, hd, he, _, _, _, hf, _⟩ := hc c List.mem_cons_self
    refine wpAny_bind (wpAny_setEntries_of ho hd hf ?_)
    refine wpAny_bind ?_
    refine forIn_arr _ (fun rest' r' s'' => r' = ⟨none, ()⟩ ∧ s'' = s' ∧ ∀ e ∈ rest', e ∈ es.toList) _ ?_ ?_ es _ ⟨rfl, rfl, fun e z => z⟩
    · rintro ⟨hv, x⟩ rest' r' s'' ⟨rfl, rfl, hm⟩
      obtain ⟨n, tk, e⟩ := he _ (hm _ List.mem_cons_self)
      have e2 : x = .int n tk := congrArg Prod.snd e
      subst e2
      exact wpAny_pure ⟨rfl, rfl, fun e z => hm e (List.mem_cons_of_mem _ z)⟩
    · rintro r' s'' ⟨rfl, rfl, _⟩
      exact wpAny_pure ⟨rfl, rfl, fun c' z => hc c' (List.mem_cons_of_mem _ z)⟩
  · rintro r s' ⟨rfl, rfl, _⟩
    exact wpAny_pure hQ
theorem walkUnseen_of {others : List Addr} {r : Addr} {o : Obj} {es : Array (Int × Value)} {ep : Nat} {t : SetTable} {Q : Array (Int × Value) → Shared → Prop} (ho : s.heap.get? a = some o) (hex : o.ExactSet) (hd : o.data = .set es ep t) (he : Ent es.toList) (hnd : (es.toList.map val).Nodup)
    (hb : (es.toList.map val).length < scanBound) (hf : t.fits es.size = true) (ht : TabOk (ledOf w) t) (hoth : ∀ c ∈ others, ∃ ks, SetAt w s.heap c ks) (hr : SetAt w s.heap r [])
    (h : ∀ es' h' d, List.Perm es'.toList es.toList → Heap.SameBut r s.heap h' → SetAt w h' r [] → Q es' { s with heap := h', drawn := d }) : wpAny (model prog w) A (setWalkUnseen a others (some r)) Q E s := by
  unfold setWalkUnseen setsByText
  refine wpAny_bind (wpAny_setState_of ho hd hf ?_); dsimp only
  refine wpAny_bind (wpAny_bind (wpAny_askSetting (wpAny_pure ?_)))
  dsimp only
  have plainW : ∀ (Q' : Array (Int × Value) → Shared → Prop), (∀ es' d, List.Perm es'.toList es.toList → Q' es' { s with drawn := d }) → wpAny (model prog w) A (setWalk a) Q' E s := fun Q' q => setWalk_of ho hd hf ht.led q
  split
  · exact plainW _ fun es' d p => h es' s.heap d p (.refl ..) hr
  · refine wpAny_bind (setsQuiet_of (a :: others) (fun c hc => ?_) ?_)
    · rcases List.mem_cons.mp hc with z | z
      · subst z; exact ⟨_, o, es, ep, t, ho, hex, hd, he, rfl, hnd, hb, hf, ht⟩
      · exact hoth c z
    · simp only [Bool.not_true, Bool.false_eq_true, if_false]
      refine wpAny_bind (wpAny_rule ?_)
      obtain ⟨o2, es2, ep2, t2, ho2, hex2, hd2, he2, m2, nd2, hb2, hf2, ht2⟩ := id hr
      refine wpAny_bind (wpAny_setState_of ho2 hd2 hf2 ?_); dsimp only
      have z2 : es2.toList = [] := List.map_eq_nil_iff.mp m2
      have z2' : es2.size = 0 := by rw [← Array.length_toList, z2]; rfl
      split
      · refine wpAny_bind (wpAny_storeSet_of ho2 hd2 ?_ (by rw [z2']; exact Nat.zero_le _))
        have e1 := store_at (es' := es2) (t' := { t2 with led := t2.led && t.led, plain := t2.plain && t.plain }) ho2 hd2
        refine wpAny_pure (h es _ s.drawn .rfl (Heap.SameBut.update ..) ⟨_, es2, _, _, e1, hex2, rfl, he2, m2, nd2, hb2, hf2, ?_, ht2.rise⟩)
        show (t2.led && t.led) = ledOf w
        rw [ht2.led, ht.led]; simp
      · exact wpAny_pure (h es s.heap s.drawn .rfl (.refl ..) hr)
theorem entry_set_and : entryFor table "set.__and__" = some Builtin.«frozenset.__and__» := entryFor_alias (id' := "frozenset.__and__") (by kernel_rfl) rfl (by decide +kernel) (by kernel_rfl)
theorem SetAt.ty {s : Shared} (S : SetAt w s.heap a ns) : s.TypeIs (.ref a) "set" := let ⟨o, _, _, _, ho, hex, _⟩ := S; ⟨o, ho, hex.1⟩
theorem anySet_of {Q : Bool → Shared → Prop} (S : SetAt w s.heap a ns) (h : Q true s) : wpAny (model prog w) A (Builtin.Frozenset.isAnySet (.ref a)) Q E s := by
  unfold Builtin.Frozenset.isAnySet
  show wpAny _ _ (isInstance (.ref a) (.type "set") >>= _) _ _ _
  refine wpAny_bind (wpAny_isInstance S.ty sub_set_self ?_)
  exact wpAny_pure h
theorem newSet_led {Q : Value → Shared → Prop} (h : Q (.ref s.heap.objs.size) { s with heap := s.heap.push (newSetObj w) }) : wpAny (model prog w) A (newSet (.type "set")) Q E s := by
  unfold newSet setsByText
  refine wpAny_bind (wpAny_bind (wpAny_askSetting (wpAny_pure ?_))); dsimp only; simp only [newObj]
  exact wpAny_bind (wpAny_alloc (wpAny_pure h))
theorem inter_of {Q : Value → Shared → Prop} {idn : String} (hab : b ≠ a) (S : SetAt w s.heap a ns) (T : SetAt w s.heap b ms)
    (h : ∀ h' d ks, SetAt w h' s.heap.objs.size ks → (∀ y, y ∈ ks ↔ y ∈ ns ∧ y ∈ ms) → (∀ c o, s.heap.get? c = some o → h'.get? c = some o) → Q (.ref s.heap.objs.size) { s with heap := h', drawn := d }) :
    wpAny (model prog w) A (Builtin.Frozenset.intersection idn a (.ref b)) Q E s := by
  unfold Builtin.Frozenset.intersection
  have hne : (Value.ref b == Value.ref a) = false := by
    rw [beq_eq_false_iff_ne]; intro z; exact hab (Value.ref.inj z)
  rw [if_neg (by rw [hne]; simp)]
  unfold Builtin.Frozenset.baseOf
  refine wpAny_bind (wpAny_bind (wpAny_isInstance S.ty sub_set_self (wpAny_pure ?_)))
  simp only [if_true]
  refine wpAny_bind (newSet_led ?_)
  have k1 : ∀ c o, s.heap.get? c = some o → (s.heap.push (newSetObj w)).get? c = some o := fun c o e => Heap.get?_push_of_some _ e
  have S1 : SetAt w (s.heap.push (newSetObj w)) a ns := S.keeps fun o e => k1 a o e
  have T1 : SetAt w (s.heap.push (newSetObj w)) b ms := T.keeps fun o e => k1 b o e
  have R1 : SetAt w (s.heap.push (newSetObj w)) s.heap.objs.size [] := setAt_new (Heap.get?_push_size _ rfl)
  have la : a < s.heap.objs.size := by obtain ⟨o, _, _, _, e, _⟩ := S; exact Heap.lt_size e
  have lb : b < s.heap.objs.size := by obtain ⟨o, _, _, _, e, _⟩ := T; exact Heap.lt_size e
  generalize hs1 : ({ s with heap := s.heap.push (newSetObj w) } : Shared) = s1
  have ks1 : ∀ c o, s.heap.get? c = some o → s1.heap.get? c = some o := fun c o e => by rw [← hs1]; exact k1 c o e
  have S1' : SetAt w s1.heap a ns := by rw [← hs1]; exact S1
  have T1' : SetAt w s1.heap b ms := by rw [← hs1]; exact T1
  have R1' : SetAt w s1.heap s.heap.objs.size [] := by rw [← hs1]; exact R1
  have fin1 : ∀ h' d ks, SetAt w h' s.heap.objs.size ks → (∀ y, y ∈ ks ↔ y ∈ ns ∧ y ∈ ms) → (∀ c o, c ≠ s.heap.objs.size → s1.heap.get? c = some o → h'.get? c = some o) → Q (.ref s.heap.objs.size) { s1 with heap := h', drawn := d } := fun h' d ks q1 q2 q3 => by
    have := h h' d ks q1 q2 fun c o e => q3 c o (Nat.ne_of_lt (Heap.lt_size e)) (ks1 c o e)
    rw [← hs1]; exact this
  show wpAny _ _ (Builtin.Frozenset.addrOf (.ref s.heap.objs.size) >>= _) _ _ _
  refine wpAny_bind (wpAny_pure ?_)
  refine wpAny_bind (wpAny_holding ?_)
  refine wpAny_bind (anySet_of T1' ?_)
  simp only [if_true]
  show wpAny _ _ (Builtin.Frozenset.addrOf (.ref b) >>= _) _ _ _
  refine wpAny_bind (wpAny_pure ?_)
  unfold Builtin.Frozenset.sizeOf
  obtain ⟨oa, ea, pa, ta, hoa, hxa, hda, hea, hma, hna, hba, hfa, hta⟩ := id S1'
  obtain ⟨ob, eb, pb, tb, hob, hxb, hdb, heb, hmb, hnb, hbb, hfb, htb⟩ := id T1'
  refine wpAny_bind (wpAny_bind (wpAny_setEntries_of hob hdb hfb (wpAny_pure ?_)))
  refine wpAny_bind (wpAny_bind (wpAny_setEntries_of hoa hda hfa (wpAny_pure ?_)))
  have core : ∀ (ad wk : Addr) (as ws : List Int) (R' : Unit → Shared → Prop), ad < s.heap.objs.size → wk < s.heap.objs.size → SetAt w s1.heap ad as → SetAt w s1.heap wk ws →
      (∀ h' d ks, SetAt w h' s.heap.objs.size ks → (∀ y, y ∈ ks ↔ y ∈ as ∧ y ∈ ws) → (∀ c o, c ≠ s.heap.objs.size → s1.heap.get? c = some o → h'.get? c = some o) → R' () { s1 with heap := h', drawn := d }) →
      wpAny (model prog w) A (do
        let was ← setEpoch wk
        let lst ← setWalkUnseen wk [ad, s.heap.objs.size] (some s.heap.objs.size)
        forIn lst PUnit.unit fun x _ => do
          holding [x.snd] do
            let fd ← setFind ad x.snd x.fst
            if fd.isSome = true then do
                let _ ← setAddHashed s.heap.objs.size x.snd x.fst
                pure ()
              else pure ()
          Builtin.Frozenset.unchanged idn wk was
          pure (ForInStep.yield PUnit.unit)
        pure ()) R' E s1 := by
    intro ad wk as ws R' lad lwk SA SW q
    obtain ⟨ow, ew, pw, tw, how, hxw, hdw, hew, hmw, hnw, hbw, hfw, htw⟩ := id SW
    refine wpAny_bind (wpAny_setEpoch_of how hdw hfw ?_)
    refine wpAny_bind (walkUnseen_of how hxw hdw hew (by rw [hmw]; exact hnw) (by rw [hmw]; exact hbw) hfw htw (fun c hc => ?_) R1' fun es' h2 d2 p2 sb2 R2 => ?_)
    · rcases List.mem_cons.mp hc with z | z
      · subst z; exact ⟨_, SA⟩
      · have z' : c = s.heap.objs.size := by simpa using z
        subst z'; exact ⟨_, R1'⟩
    · refine wpAny_bind ?_
      refine forIn_arr _ (fun rest _ s' => ∃ h' ks, s' = { s1 with heap := h', drawn := d2 } ∧ SetAt w h' s.heap.objs.size ks ∧ (∀ c o, c ≠ s.heap.objs.size → s1.heap.get? c = some o → h'.get? c = some o) ∧ (∀ e ∈ rest, e ∈ ew.toList) ∧
          (∀ y, y ∈ ks ↔ y ∈ as ∧ y ∈ ws ∧ y ∉ rest.map val) ∧ (rest.map val).Nodup ∧ ks.length + rest.length ≤ ew.size) _ ?_ ?_ es' _ ⟨h2, [], rfl, R2, fun c o hc e => (sb2.2 c hc).trans e, fun e he => p2.mem_iff.mp he, fun y => ?_, (p2.map val).nodup_iff.mpr (by rw [hmw]; exact hnw), ?_⟩
      · rintro ⟨hv, x⟩ rest r s' ⟨h', ks, rfl, SK, kk, hm, hks, hnd, hlen⟩
        obtain ⟨n, tk, e⟩ := hew _ (hm _ List.mem_cons_self)
        have e1 : hv = hashInt n := congrArg Prod.fst e
        have e2 : x = .int n tk := congrArg Prod.snd e
        subst e1; subst e2
        have SA' : SetAt w h' ad as := SA.keeps fun o z => kk ad o (Nat.ne_of_lt lad) z
        have hwk : ∀ g : Heap, (∀ c o, c ≠ s.heap.objs.size → s1.heap.get? c = some o → g.get? c = some o) → g.get? wk = some ow := fun g kg => kg wk ow (Nat.ne_of_lt lwk) how
        have hnw' : n ∈ ws := by
          rw [← hmw]; exact List.mem_map.mpr ⟨_, hm _ List.mem_cons_self, rfl⟩
        have hvn : (((hashInt n, Value.int n tk) :: rest).map val) = n :: rest.map val := rfl
        rw [hvn] at hnd hks
        obtain ⟨hn1, hn2⟩ := List.nodup_cons.mp hnd
        have unch : ∀ (g : Heap) (R'' : ForInStep PUnit → Shared → Prop), (∀ c o, c ≠ s.heap.objs.size → s1.heap.get? c = some o → g.get? c = some o) → R'' (.yield ⟨⟩) { s1 with heap := g, drawn := d2 } →
            wpAny (model prog w) A (do Builtin.Frozenset.unchanged idn wk pw; pure (ForInStep.yield PUnit.unit)) R'' E { s1 with heap := g, drawn := d2 } := fun g R'' kg hR => by
          unfold Builtin.Frozenset.unchanged
          refine wpAny_bind (wpAny_bind (wpAny_setEpoch_of (hwk g kg) hdw hfw ?_))
          rw [if_neg (by simp)]
          exact wpAny_pure (wpAny_pure hR)
        refine wpAny_bind (wpAny_holding ?_)
        refine wpAny_bind (find_int (k := n) (tk := tk) rfl SA' fun fr hfr => ?_)
        by_cases hin : n ∈ as
        · have e3 : fr.isSome = true := by rw [hfr]; exact decide_eq_true hin
          rw [if_pos e3]
          have hroom : ks.length + 1 < scanBound := by
            have z : ew.size < scanBound := by have := hbw; rw [← hmw] at this; simpa using this
            simp only [List.length_cons] at hlen
            have hz : ks.length + 1 ≤ ew.size := by omega
            rcases Nat.lt_or_eq_of_le hz with q1 | q1
            · exact Nat.lt_trans q1 z
            · rw [q1]; exact z
          refine wpAny_bind (add_int (k := n) (tk := tk) (s := { s1 with heap := h', drawn := d2 }) rfl SK hroom fun h3 ks3 sb3 SK3 m3 l3 => ?_)
          refine wpAny_pure ?_
          have kk3 : ∀ c o, c ≠ s.heap.objs.size → s1.heap.get? c = some o → h3.get? c = some o := fun c o hc z => (sb3.2 c hc).trans (kk c o hc z)
          refine unch h3 _ kk3 ⟨h3, ks3, rfl, SK3, kk3, fun e z => hm e (List.mem_cons_of_mem _ z), fun y => ?_, hn2, ?_⟩
          · rw [m3, hks]
            constructor
            · rintro (⟨q1, q2, q3⟩ | rfl)
              · exact ⟨q1, q2, fun z => q3 (List.mem_cons_of_mem _ z)⟩
              · exact ⟨hin, hnw', hn1⟩
            · rintro ⟨q1, q2, q3⟩
              by_cases z : y = n
              · exact .inr z
              · exact .inl ⟨q1, q2, fun z' => (List.mem_cons.mp z').elim z q3⟩
          · simp only [List.length_cons] at hlen; omega
        · have e3 : fr.isSome = false := by rw [hfr]; exact decide_eq_false hin
          rw [if_neg (by rw [e3]; simp)]
          refine wpAny_pure ?_
          refine unch h' _ kk ⟨h', ks, rfl, SK, kk, fun e z => hm e (List.mem_cons_of_mem _ z), fun y => ?_, hn2, ?_⟩
          · rw [hks]
            constructor
            · rintro ⟨q1, q2, q3⟩
              exact ⟨q1, q2, fun z => q3 (List.mem_cons_of_mem _ z)⟩
            · rintro ⟨q1, q2, q3⟩
              exact ⟨q1, q2, fun z' => (List.mem_cons.mp z').elim (fun z => hin (z ▸ q1)) q3⟩
          · simp only [List.length_cons] at hlen; omega
      · rintro _ s' ⟨h', ks, rfl, SK, kk, _, hks, _, _⟩
        exact wpAny_pure (q h' d2 ks SK (fun y => by rw [hks]; simp) kk)
      · constructor
        · intro z; exact absurd z (by simp)
        · rintro ⟨_, z1, z2⟩
          exfalso
          apply z2
          rw [(p2.map val).mem_iff, hmw]; exact z1
      · have := p2.length_eq; simp at this; simp [this]
  by_cases hc : eb.size > ea.size
  · simp only [hc, if_true]
    refine core b a ms ns _ lb la T1' S1' fun h' d ks q1 q2 q3 => ?_
    exact wpAny_pure (fin1 h' d ks q1 (fun y => by rw [q2]; exact And.comm) q3)
  · simp only [hc, if_false]
    refine core a b ns ms _ la lb S1' T1' fun h' d ks q1 q2 q3 => ?_
    exact wpAny_pure (fin1 h' d ks q1 q2 q3)
end
end SetX
namespace SetX
open PySem PyProof.Rows
theorem slot_si_next : Slot "set_iterator" "__next__" "set_iterator.__next__" :=
  .of (owner := "set_iterator") (n := "__next__") (by rw [typeLookup_type, builtinLookup_eq_fast]; kernel_rfl) (by decide +kernel) (by decide +kernel) (by decide +kernel) (by first | exact .inl (by decide +kernel) | exact .inr (by decide +kernel)) (by rw [isSubtype_type]; kernel_rfl)
theorem slot_si_iter : Slot "set_iterator" "__iter__" "set_iterator.__iter__" :=
  .of (owner := "set_iterator") (n := "__iter__") (by rw [typeLookup_type, builtinLookup_eq_fast]; kernel_rfl) (by decide +kernel) (by decide +kernel) (by decide +kernel) (by first | exact .inl (by decide +kernel) | exact .inr (by decide +kernel)) (by rw [isSubtype_type]; kernel_rfl)
theorem entry_si_next : entryFor table "set_iterator.__next__" = some Builtin.«set_iterator.__next__» := by first | exact entryFor_of_tree (by kernel_rfl) | exact entryFor_of_fast (by kernel_rfl)
theorem entry_si_iter : entryFor table "set_iterator.__iter__" = some Builtin.«dict_keyiterator.__iter__» := entryFor_alias (id' := "dict_keyiterator.__iter__") (by kernel_rfl) rfl (by decide +kernel) (by kernel_rfl)
theorem args_si_next (a : Value) : argsOk "set_iterator.__next__" ⟨[a], []⟩ := by unfold argsOk; kernel_rfl
theorem args_si_iter (a : Value) : argsOk "set_iterator.__iter__" ⟨[a], []⟩ := by unfold argsOk; kernel_rfl
theorem entry_set_iter : entryFor table "set.__iter__" = some Builtin.«frozenset.__iter__» := entryFor_alias (id' := "frozenset.__iter__") (by kernel_rfl) rfl (by decide +kernel) (by kernel_rfl)
theorem set_len_lookup : typeLookup (.type "set") "__len__" = pure (some (.builtin "set.__len__")) := by rw [typeLookup_type, builtinLookup_eq_fast]; kernel_rfl
end SetX
end
section
namespace SetX
open PySem PyProof.Rows
section
variable {prog : Program} {w : World} {A : Around} {E : Value → Shared → Prop} {s : Shared}
def SIter (h : Heap) (it : Addr) (first : Value) (i : Nat) (a : Addr) (n ep : Nat) : Prop :=
  h.get? it = some { cls := .type "set_iterator", dict := none, data := .fields #[first, rawInt i, .ref a, rawInt n, rawInt ep], slots := #[] }
theorem siter_self {it a : Addr} {first : Value} {i n ep : Nat} {Q : Value → Shared → Prop} (hit : SIter s.heap it first i a n ep) (h : Q (.ref it) s) : wpAny (model prog w) A (pyIter (.ref it)) Q E s := by
  have hT : s.TypeIs (.ref it) "set_iterator" := ⟨_, hit, rfl⟩
  refine wpAny_pyIter_slot hT slot_si_iter (wpAny_call_entry slot_si_iter hT entry_si_iter ?_ (args_si_iter _))
  show wpAny _ _ (ret (.ref it)) _ _ s
  exact wpAny_pure ⟨_, rfl, "set_iterator", _, hT, slot_si_next.lookup, h⟩
theorem next_slot {it a : Addr} {o : Obj} {es : Array (Int × Value)} {ep : Nat} {t : SetTable} {sl : Int} {i : Nat} {x : Value} {nx : Nat} {Q : Option Value → Shared → Prop} (ho : s.heap.get? a = some o) (hd : o.data = .set es ep t) (hf : t.fits es.size = true)
    (hit : SIter s.heap it (rawInt sl) i a es.size ep) (hn : ∀ (s : Shared) (A : Around) (Q : Option (Value × Nat) → Shared → Prop) (E : Value → Shared → Prop), s.heap.get? a = some o → Q (some (x, nx)) s → wpAny (model prog w) A (setNext a sl.toNat i ep) Q E s)
    (h : ∀ h', SIter h' it (rawInt nx) (i + 1) a es.size ep → Heap.SameBut it s.heap h' → Q (some x) { s with heap := h' }) : wpAny (model prog w) A (pyNext (.ref it)) Q E s := by
  have hT : s.TypeIs (.ref it) "set_iterator" := ⟨_, hit, rfl⟩
  unfold pyNext
  refine wpAny_bind (wpAny_attempt (wpAny_callSpecial?_slot (name := Str.ofString "__next__") hT slot_si_next (wpAny_call_entry slot_si_next hT entry_si_next ?_ (args_si_next _))))
  unfold Builtin.«set_iterator.__next__»
  refine wpAny_bind (wpAny_pure ?_)
  refine wpAny_bind (wpAny_fieldsOf hit rfl ?_)
  show wpAny _ _ (setEntries a >>= _) _ _ _
  refine wpAny_bind (wpAny_setEntries_of ho hd hf ?_)
  rw [if_neg (by simp)]
  show wpAny _ _ (setNext a sl.toNat ((i : Nat) : Int).toNat ((ep : Nat) : Int).toNat >>= _) _ _ _
  simp only [Int.toNat_natCast]
  refine wpAny_bind (hn _ _ _ _ ho ?_)
  dsimp only
  refine wpAny_bind (wpAny_setField_rec hit (by simp) fun h1 e1 sb1 => ?_)
  refine wpAny_bind (wpAny_setField_rec (s := { s with heap := h1 }) e1 (by simp) fun h2 e2 sb2 => ?_)
  have sb2' : Heap.SameBut it h1 h2 := sb2
  refine wpAny_pure ⟨x, rfl, wpAny_pure (h h2 ?_ (sb1.trans sb2'))⟩
  have e2' : h2.get? it = some { cls := .type "set_iterator", dict := none, data := .fields ((#[rawInt sl, rawInt i, .ref a, rawInt es.size, rawInt ep].setIfInBounds 0 (rawInt nx)).setIfInBounds 1 (rawInt ((i : Int) + 1))), slots := #[] } := e2
  unfold SIter
  rw [e2']
  simp [rawInt]
theorem stop_tail {it : Addr} {cls : Value} {vs : Array Value} {Q : Option Value → Shared → Prop} (hh : A.handled = none) (hit : s.heap.get? it = some { cls := cls, dict := none, data := .fields vs, slots := #[] }) (hk : 2 < vs.size) {R : Fin → Shared → Prop} {E' : Value → Shared → Prop}
    (h : ∀ h' e, Heap.ExtBut it s.heap h' → (∃ o, h'.get? e = some o ∧ o.cls = .type "StopIteration") → E' (.ref e) { s with heap := h' }) : wpAny (model prog w) A (do setField (.ref it) 2 .none; raiseNew (← newExc (.type "StopIteration") [])) R E' s := by
  refine wpAny_bind (wpAny_setField_rec hit hk fun h1 e1 sb1 => ?_)
  show wpAny _ _ (newExc (.type "StopIteration") [] >>= _) _ _ _
  refine wpAny_bind ?_; simp only [newExc, newTuple]; refine wpAny_bind (wpAny_newObj_type ?_ (by size_fits))
  refine wpAny_bind (m := firstArgMember _ _) (wpAny_of_eq (a := Value.none) (by first | rfl | (simp only [firstArgMember]; rfl)) ?_); refine wpAny_newObj_type ?_ (by size_fits)
  simp only [raiseNew]; refine wpAny_bind (wpAny_handled ?_); rw [hh]
  refine wpAny_bind (wpAny_pure (wpAny_throw ?_)); exact h _ _ ((sb1.extBut.push _).push _) ⟨_, Heap.get?_push_size _ rfl, rfl⟩
theorem end_slot {it a : Addr} {o : Obj} {es : Array (Int × Value)} {ep : Nat} {t : SetTable} {sl : Int} {i : Nat} {Q : Option Value → Shared → Prop} (hh : A.handled = none) (ho : s.heap.get? a = some o) (hd : o.data = .set es ep t) (hf : t.fits es.size = true)
    (hit : SIter s.heap it (rawInt sl) i a es.size ep) (hn : ∀ (s : Shared) (A : Around) (Q : Option (Value × Nat) → Shared → Prop) (E : Value → Shared → Prop), s.heap.get? a = some o → Q none s → wpAny (model prog w) A (setNext a sl.toNat i ep) Q E s)
    (h : ∀ h', Heap.ExtBut it s.heap h' → Q none { s with heap := h' }) : wpAny (model prog w) A (pyNext (.ref it)) Q E s := by
  have hT : s.TypeIs (.ref it) "set_iterator" := ⟨_, hit, rfl⟩
  unfold pyNext
  refine wpAny_bind (wpAny_attempt (wpAny_callSpecial?_slot (name := Str.ofString "__next__") hT slot_si_next (wpAny_call_entry slot_si_next hT entry_si_next ?_ (args_si_next _))))
  unfold Builtin.«set_iterator.__next__»
  refine wpAny_bind (wpAny_pure ?_)
  refine wpAny_bind (wpAny_fieldsOf hit rfl ?_)
  show wpAny _ _ (setEntries a >>= _) _ _ _
  refine wpAny_bind (wpAny_setEntries_of ho hd hf ?_)
  rw [if_neg (by simp)]
  show wpAny _ _ (setNext a sl.toNat ((i : Nat) : Int).toNat ((ep : Nat) : Int).toNat >>= _) _ _ _
  simp only [Int.toNat_natCast]
  refine wpAny_bind (hn _ _ _ _ ho ?_)
  dsimp only
  refine stop_tail (Q := Q) (A := A.in1) hh hit (by simp) fun h' e eb ⟨oe, q1, q2⟩ => ?_
  refine wpAny_bind (wpAny_isInstance (T := "StopIteration") (b := true) ⟨oe, q1, q2⟩ isSubtype_stop ?_)
  exact wpAny_pure (h _ eb)
theorem next_drawn {it a p : Addr} {o : Obj} {es : Array (Int × Value)} {ep : Nat} {t : SetTable} {ys : List Nat} {i j : Nat} {hx : Int} {x : Value} {Q : Option Value → Shared → Prop} (ho : s.heap.get? a = some o) (hd : o.data = .set es ep t) (hf : t.fits es.size = true)
    (hp : s.heap.get? p = some { cls := .type "tuple", data := .seq (ys.map fun (k : Nat) => rawInt k).toArray }) (hit : SIter s.heap it (.ref p) i a es.size ep) (hy : ys[i]? = some j) (hj : es[j]? = some (hx, x))
    (h : ∀ h', SIter h' it (.ref p) (i + 1) a es.size ep → Heap.SameBut it s.heap h' → Q (some x) { s with heap := h' }) : wpAny (model prog w) A (pyNext (.ref it)) Q E s := by
  have hT : s.TypeIs (.ref it) "set_iterator" := ⟨_, hit, rfl⟩
  unfold pyNext
  refine wpAny_bind (wpAny_attempt (wpAny_callSpecial?_slot (name := Str.ofString "__next__") hT slot_si_next (wpAny_call_entry slot_si_next hT entry_si_next ?_ (args_si_next _))))
  unfold Builtin.«set_iterator.__next__»
  refine wpAny_bind (wpAny_pure ?_)
  refine wpAny_bind (wpAny_fieldsOf hit rfl ?_)
  show wpAny _ _ (setEntries a >>= _) _ _ _
  refine wpAny_bind (wpAny_setEntries_of ho hd hf ?_)
  rw [if_neg (by simp)]
  show wpAny _ _ (seqItems? (.ref p) >>= _) _ _ _
  refine wpAny_bind (wpAny_seqItems hp rfl ?_)
  have e0 : (ys.map fun (k : Nat) => rawInt k).toArray[((i : Nat) : Int).toNat]? = some (rawInt (j : Int)) := by
    rw [Int.toNat_natCast]; simp [hy]
  dsimp only
  show wpAny _ _ (match (ys.map fun (k : Nat) => rawInt k).toArray[((i : Nat) : Int).toNat]? with | some (.int place _) => _ | some _ => _ | none => _) _ _ _
  rw [e0]
  show wpAny _ _ (setNextDrawn a ((j : Nat) : Int).toNat ((ep : Nat) : Int).toNat >>= _) _ _ _
  simp only [Int.toNat_natCast]
  unfold setNextDrawn
  refine wpAny_bind (wpAny_bind (wpAny_setState_of ho hd hf ?_))
  dsimp only
  rw [if_neg (by simp), hj]
  refine wpAny_pure ?_
  refine wpAny_bind (wpAny_setField_rec hit (by simp) fun h2 e2 sb2 => ?_)
  refine wpAny_pure ⟨x, rfl, wpAny_pure (h h2 ?_ sb2)⟩
  unfold SIter
  rw [e2]
  simp [rawInt]
theorem end_drawn {it a p : Addr} {o : Obj} {es : Array (Int × Value)} {ep : Nat} {t : SetTable} {ys : List Nat} {i : Nat} {Q : Option Value → Shared → Prop} (hh : A.handled = none) (ho : s.heap.get? a = some o) (hd : o.data = .set es ep t) (hf : t.fits es.size = true)
    (hp : s.heap.get? p = some { cls := .type "tuple", data := .seq (ys.map fun (k : Nat) => rawInt k).toArray }) (hit : SIter s.heap it (.ref p) i a es.size ep) (hy : ys[i]? = none)
    (h : ∀ h', Heap.ExtBut it s.heap h' → Q none { s with heap := h' }) : wpAny (model prog w) A (pyNext (.ref it)) Q E s := by
  have hT : s.TypeIs (.ref it) "set_iterator" := ⟨_, hit, rfl⟩
  unfold pyNext
  refine wpAny_bind (wpAny_attempt (wpAny_callSpecial?_slot (name := Str.ofString "__next__") hT slot_si_next (wpAny_call_entry slot_si_next hT entry_si_next ?_ (args_si_next _))))
  unfold Builtin.«set_iterator.__next__»
  refine wpAny_bind (wpAny_pure ?_)
  refine wpAny_bind (wpAny_fieldsOf hit rfl ?_)
  show wpAny _ _ (setEntries a >>= _) _ _ _
  refine wpAny_bind (wpAny_setEntries_of ho hd hf ?_)
  rw [if_neg (by simp)]
  show wpAny _ _ (seqItems? (.ref p) >>= _) _ _ _
  refine wpAny_bind (wpAny_seqItems hp rfl ?_)
  have e0 : (ys.map fun (k : Nat) => rawInt k).toArray[((i : Nat) : Int).toNat]? = none := by
    rw [Int.toNat_natCast]; simpa using hy
  dsimp only
  show wpAny _ _ (match (ys.map fun (k : Nat) => rawInt k).toArray[((i : Nat) : Int).toNat]? with | some (.int place _) => _ | some _ => _ | none => _) _ _ _
  rw [e0]
  dsimp only
  refine wpAny_bind (wpAny_setField_rec hit (by simp) fun h2 e2 sb2 => ?_)
  refine stop_tail (Q := Q) (A := A.in1) (s := { s with heap := h2 }) hh e2 (by simp) fun h' e eb ⟨oe, q1, q2⟩ => ?_
  have eb' : Heap.ExtBut it h2 h' := eb
  refine wpAny_bind (wpAny_isInstance (s := { s with heap := h' }) (T := "StopIteration") (b := true) ⟨oe, q1, q2⟩ isSubtype_stop ?_)
  exact wpAny_pure (h _ fun b ob hb z => eb' b ob hb ((sb2.2 b hb).trans z))
end
end SetX
end
section
namespace SetX
open PySem PyProof.Rows
section
variable {prog : Program} {w : World} {A : Around} {E : Value → Shared → Prop} {s : Shared}
theorem setNext_text {a : Addr} {o : Obj} {es : Array (Int × Value)} {ep : Nat} {t : SetTable} {sl i : Nat} {Q : Option (Value × Nat) → Shared → Prop} (ho : s.heap.get? a = some o) (hd : o.data = .set es ep t) (hf : t.fits es.size = true)
    (hb : w.params.followText "set-order" = true) (h : Q (((pickOrder (w.params.setOrder a ep) es)[i]?).map fun e => (e.2, sl)) s) : wpAny (model prog w) A (setNext a sl i ep) Q E s := by
  unfold setNext setsByText
  refine wpAny_bind (wpAny_setState_of ho hd hf ?_); dsimp only
  refine wpAny_bind (wpAny_bind (wpAny_askSetting (wpAny_pure ?_)))
  have hb' : (model prog w).w.params.followText "set-order" = true := hb
  dsimp only
  rw [if_pos hb', if_neg (by simp)]
  unfold setWalk setsByText
  refine wpAny_bind (wpAny_bind (wpAny_setState_of ho hd hf ?_)); dsimp only
  refine wpAny_bind (wpAny_bind (wpAny_askSetting (wpAny_pure ?_)))
  dsimp only
  rw [if_pos hb']
  exact wpAny_bind (wpAny_askSetting (wpAny_pure (wpAny_pure h)))
theorem setNext_led {a : Addr} {o : Obj} {es : Array (Int × Value)} {ep : Nat} {t : SetTable} {sl i : Nat} {Q : Option (Value × Nat) → Shared → Prop} (ho : s.heap.get? a = some o) (hd : o.data = .set es ep t) (hf : t.fits es.size = true)
    (hb : ¬ w.params.followText "set-order" = true) (hl : t.led = true) (hdr : ¬ (!t.plain && decide (es.size > 1)) = true) (h : Q (match es[SetTable.below t.place sl]?, t.place[SetTable.below t.place sl]? with | some (_, x), some j => some (x, j + 1) | _, _ => none) s) :
    wpAny (model prog w) A (setNext a sl i ep) Q E s := by
  unfold setNext setsByText
  refine wpAny_bind (wpAny_setState_of ho hd hf ?_); dsimp only
  refine wpAny_bind (wpAny_bind (wpAny_askSetting (wpAny_pure ?_)))
  have hb' : ¬ (model prog w).w.params.followText "set-order" = true := hb
  dsimp only
  rw [if_neg hb']
  show wpAny _ _ (if (!t.plain && decide (es.size > 1)) = true then _ else _) _ _ _
  rw [if_neg hdr]
  refine wpAny_bind ?_
  show wpAny _ _ (if (!t.led && !es.isEmpty) = true then _ else _) _ _ _
  rw [hl]
  simp only [Bool.not_true, Bool.false_and, Bool.false_eq_true, if_false]
  exact wpAny_pure (wpAny_pure h)
def slotAt (t : SetTable) (i : Nat) : Nat := if i = 0 then 0 else t.place.getD (i - 1) 0 + 1
theorem below_slotAt {t : SetTable} (R : Rise t.place) {i : Nat} (hi : i ≤ t.place.size) : SetTable.below t.place (slotAt t i) = i := by
  obtain ⟨h1, h2, h3⟩ := below_spec R (slotAt t i)
  by_cases h0 : i = 0
  · subst h0
    have e : slotAt t 0 = 0 := by simp [slotAt]
    rw [e] at h2 ⊢
    by_cases z : SetTable.below t.place 0 = 0
    · exact z
    · have := h2 0 (by omega)
      omega
  · have e : slotAt t i = t.place.getD (i - 1) 0 + 1 := by simp [slotAt, h0]
    rw [e] at h1 h2 h3 ⊢
    rcases Nat.lt_trichotomy (SetTable.below t.place (t.place.getD (i - 1) 0 + 1)) i with z | z | z
    · have q := h3 (i - 1) (by omega) (by omega)
      omega
    · exact z
    · have q := h2 i z
      have q2 := R (i - 1) i (by omega) (by omega)
      omega
theorem fits_size {t : SetTable} {n : Nat} (h : t.fits n = true) : t.place.size = n := by
  unfold SetTable.fits at h
  simp only [Bool.and_eq_true, beq_iff_eq] at h
  exact h.1
abbrev Gid : Array GenState → Array GenState → Prop := fun a b => b = a
theorem moved_of {I : Addr} {h' : Heap} (hk : ∀ b o, b ≠ I → s.heap.get? b = some o → h'.get? b = some o) : Moved [I] Gid s { s with heap := h' } := ⟨fun b o hb e => hk b o (fun z => hb (by simp [z])) e, rfl, rfl, rfl, Nat.le_refl _⟩
theorem set_iter {Q : Value → Shared → Prop} {a : Addr} {ns : List Int} (S : SetAt w s.heap a ns)
    (h : ∀ (it : Addr) (fp : List Addr) (P : Nat → Value → Prop) (St : Nat → Shared → Prop) (ord : List (Int × Value)) (s1 : Shared), (∀ A' : Around, A'.handled = none → WalksS prog w A' it fp [it] Gid ord.length P St) → St 0 s1 → (∀ i v, P i v → ∃ e, ord[i]? = some e ∧ v = e.2) → Ent ord → List.Perm (ord.map val) ns →
      (∀ b ∈ fp, b < s1.heap.objs.size) → it ∈ fp → (∀ b o, s.heap.get? b = some o → s1.heap.get? b = some o) → s1.gens = s.gens → s1.os = s.os → s.toks ≤ s1.toks → (∀ i s', St i s' → s'.TypeIs (.ref it) "set_iterator") → (∀ b ∈ fp, b = a ∨ s.heap.objs.size ≤ b) → s.heap.objs.size ≤ it → Q (.ref it) s1) :
    wpAny (model prog w) A (pyIter (.ref a)) Q E s := by
  obtain ⟨o, es, ep, t, ho, hex, hd, he, rfl, hn, hb, hf, ht⟩ := id S
  have hT := S.ty
  have hsz := fits_size hf
  refine wpAny_pyIter_slot hT F.slot_set_iter (wpAny_call_entry F.slot_set_iter hT entry_set_iter ?_ (F.args_set_iter_1 _))
  unfold Builtin.«frozenset.__iter__»
  refine wpAny_bind (m := Builtin.Frozenset.slot0 "__iter__" _) (wpAny_pure ?_)
  unfold Builtin.Frozenset.sizeOf
  refine wpAny_bind (wpAny_bind (wpAny_setEntries_of ho hd hf (wpAny_pure ?_)))
  unfold setDrawn setsByText
  refine wpAny_bind (wpAny_bind (wpAny_setState_of ho hd hf ?_)); dsimp only
  refine wpAny_bind (wpAny_bind (wpAny_askSetting (wpAny_pure ?_)))
  refine wpAny_pure ?_
  show wpAny _ _ (if (!((model prog w).w.params.followText "set-order") && (!t.plain && decide (es.size > 1))) = true then _ else _) _ _ _
  have la : a < s.heap.objs.size := Heap.lt_size ho
  by_cases hdr : (!(w.params.followText "set-order") && (!t.plain && decide (es.size > 1))) = true
  · rw [if_pos (show (!((model prog w).w.params.followText "set-order") && (!t.plain && decide (es.size > 1))) = true from hdr)]
    refine wpAny_bind (drawOrder_of _ _ _ _ (by simp) fun ys d p => ?_)
    have hyl : ys.length = es.size := by have := p.length_eq; simpa using this
    have hz64 : es.size ≤ sizeLine := fits_line (by simpa using hb)
    have hy : ∀ (i : Nat), i < es.size → ∃ j e, ys[i]? = some j ∧ es[j]? = some e := fun i hi => by
      have h1 : i < ys.length := by omega
      have hm : ys[i] ∈ List.range es.size := p.mem_iff.mp (List.getElem_mem h1)
      have hm' : ys[i] < es.size := by simpa using hm
      exact ⟨ys[i], es[ys[i]], by simp [h1], by simp [hm']⟩
    refine wpAny_bind (wpAny_newTuple (items := ys.map fun (i : Nat) => rawInt (i : Int)) ?_ (by rw [List.length_map, hyl]; exact hz64))
    refine wpAny_bind (wpAny_setEpoch_of (o := o) (Heap.get?_push_of_some _ ho) hd hf ?_)
    show wpAny _ _ (newFields "set_iterator" _ >>= _) _ _ _
    refine wpAny_bind (wpAny_newObj_type ?_)
    refine wpAny_pure ⟨_, rfl, ?_⟩
    generalize hh1 : s.heap.push { cls := .type "tuple", data := .seq (List.map (fun (i : Nat) => rawInt (i : Int)) ys).toArray } = h1
    have e1 : h1.objs.size = s.heap.objs.size + 1 := by rw [← hh1]; exact Heap.size_push ..
    have hp1 : h1.get? s.heap.objs.size = some { cls := .type "tuple", data := .seq (ys.map fun (k : Nat) => rawInt k).toArray } := by rw [← hh1]; exact Heap.get?_push_size _ rfl
    have k1 : ∀ b o, s.heap.get? b = some o → h1.get? b = some o := fun b ob z => by rw [← hh1]; exact Heap.get?_push_of_some _ z
    generalize hh2 : h1.push { cls := .type "set_iterator", dict := none, data := .fields [Value.ref s.heap.objs.size, rawInt 0, .ref a, rawInt es.size, rawInt ep].toArray } = h2
    have k2 : ∀ b o, h1.get? b = some o → h2.get? b = some o := fun b ob z => by rw [← hh2]; exact Heap.get?_push_of_some _ z
    have hit : SIter h2 h1.objs.size (.ref s.heap.objs.size) 0 a es.size ep := by rw [← hh2]; exact Heap.get?_push_size _ rfl
    refine ⟨"set_iterator", _, ⟨_, hit, rfl⟩, slot_si_next.lookup, ?_⟩
    have nia : a ≠ h1.objs.size := by rw [e1]; exact Nat.ne_of_lt (Nat.lt_succ_of_lt la)
    have nip : s.heap.objs.size ≠ h1.objs.size := by rw [e1]; exact Nat.ne_of_lt (Nat.lt_succ_self _)
    refine h h1.objs.size [h1.objs.size, a, s.heap.objs.size] (fun i v => ∃ e, (ys.filterMap (es[·]?))[i]? = some e ∧ v = e.2) (fun i s' => SIter s'.heap h1.objs.size (.ref s.heap.objs.size) i a es.size ep ∧ s'.heap.get? a = some o ∧ s'.heap.get? s.heap.objs.size = some { cls := .type "tuple", data := .seq (ys.map fun (k : Nat) => rawInt k).toArray })
      (ys.filterMap (es[·]?)) _ (fun A' hA' => ?_) ⟨hit, k2 _ _ (k1 _ _ ho), k2 _ _ hp1⟩ (fun i v z => z) ?_ ?_ (fun b hb' => ?_) (by simp) (fun b ob z => k2 _ _ (k1 _ _ z)) rfl rfl (Nat.le_refl _) (fun i s' st => ⟨_, st.1, rfl⟩) (fun b hb' => ?_) (by rw [e1]; exact Nat.le_succ _)
    · have hfm : ∀ (i : Nat), (ys.filterMap (es[·]?))[i]? = (ys[i]?).bind (es[·]?) := by
        have all : ∀ l : List Nat, (∀ j ∈ l, j < es.size) → ∀ (i : Nat), (l.filterMap (es[·]?))[i]? = (l[i]?).bind (es[·]?) := by
          intro l
          induction l with
          | nil => intro _ i; simp
          | cons j r ih =>
            intro hl i
            have hj : j < es.size := hl j List.mem_cons_self
            rw [List.filterMap_cons, Array.getElem?_eq_getElem hj]
            dsimp only
            cases i with
            | zero => simp [hj]
            | succ i => simpa using ih (fun j' z => hl j' (List.mem_cons_of_mem _ z)) i
        exact all ys fun j z => by simpa using p.mem_iff.mp z
      have hlen : (ys.filterMap (es[·]?)).length = es.size := by
        have q : List.Perm (ys.filterMap (es[·]?)) es.toList := (p.filterMap _).trans (by rw [filterMap_getElem?_range])
        simpa using q.length_eq
      rw [hlen]
      exact { sub := fun b z => by simp at z; simp [z], grefl := fun _ => rfl, gtrans := fun _ _ _ z1 z2 => z2.trans z1,
              frame := fun i s' h' tk st _ hk => ⟨hk _ (by simp) _ st.1, hk _ (by simp) _ st.2.1, hk _ (by simp) _ st.2.2⟩,
              item := fun i s' Q' E' hi st hQ => by
                obtain ⟨j, e, hj, hej⟩ := hy i hi
                obtain ⟨hx, x⟩ := e
                refine next_drawn st.2.1 hd hf st.2.2 st.1 hj hej fun h' st' sb => hQ x { s' with heap := h' } ⟨(hx, x), by rw [hfm, hj]; exact hej, rfl⟩ ⟨st', (sb.2 _ nia).trans st.2.1, (sb.2 _ nip).trans st.2.2⟩ (moved_of fun b ob hb' z => (sb.2 b hb').trans z),
              done := fun s' Q' E' st hQ => end_drawn hA' st.2.1 hd hf st.2.2 st.1 (by simp [hyl]) fun h' eb => hQ { s' with heap := h' } (moved_of fun b ob hb' z => eb b ob hb' z),
              self := fun i s' Q' E' st hQ => siter_self st.1 hQ }
    · intro e z
      obtain ⟨j, _, hj⟩ := List.mem_filterMap.mp z
      exact he e (by obtain ⟨hj1, hj2⟩ := Array.getElem?_eq_some_iff.mp hj; rw [← hj2]; exact Array.getElem_mem_toList hj1)
    · have q : List.Perm (ys.filterMap (es[·]?)) es.toList := (p.filterMap _).trans (by rw [filterMap_getElem?_range])
      exact q.map val
    · have z2 : h2.objs.size = h1.objs.size + 1 := by rw [← hh2]; exact Heap.size_push ..
      show b < h2.objs.size
      rw [z2, e1]
      simp only [List.mem_cons, List.mem_singleton, List.not_mem_nil, or_false] at hb'
      rcases hb' with z | z | z
      · rw [z, e1]; exact Nat.lt_succ_self _
      · rw [z]; exact Nat.lt_succ_of_lt (Nat.lt_succ_of_lt la)
      · rw [z]; exact Nat.lt_succ_of_lt (Nat.lt_succ_self _)
    · simp only [List.mem_cons, List.mem_singleton, List.not_mem_nil, or_false] at hb'
      rcases hb' with z | z | z
      · right; rw [z, e1]; exact Nat.le_succ _
      · exact .inl z
      · right; rw [z]; exact Nat.le_refl _
  · rw [if_neg (show ¬ (!((model prog w).w.params.followText "set-order") && (!t.plain && decide (es.size > 1))) = true from hdr)]
    refine wpAny_bind (wpAny_pure ?_)
    refine wpAny_bind (wpAny_setEpoch_of ho hd hf ?_)
    show wpAny _ _ (newFields "set_iterator" _ >>= _) _ _ _
    refine wpAny_bind (wpAny_newObj_type ?_)
    refine wpAny_pure ⟨_, rfl, ?_⟩
    generalize hh2 : s.heap.push { cls := .type "set_iterator", dict := none, data := .fields [rawInt 0, rawInt 0, .ref a, rawInt es.size, rawInt ep].toArray } = h2
    have k2 : ∀ b o, s.heap.get? b = some o → h2.get? b = some o := fun b ob z => by rw [← hh2]; exact Heap.get?_push_of_some _ z
    have hit : SIter h2 s.heap.objs.size (rawInt 0) 0 a es.size ep := by rw [← hh2]; exact Heap.get?_push_size _ rfl
    have nia : a ≠ s.heap.objs.size := Nat.ne_of_lt la
    refine ⟨"set_iterator", _, ⟨_, hit, rfl⟩, slot_si_next.lookup, ?_⟩
    have lts : ∀ b ∈ [s.heap.objs.size, a], b < h2.objs.size := fun b hb' => by
      have z2 : h2.objs.size = s.heap.objs.size + 1 := by rw [← hh2]; exact Heap.size_push ..
      rw [z2]
      simp only [List.mem_cons, List.mem_singleton, List.not_mem_nil, or_false] at hb'
      rcases hb' with z | z
      · rw [z]; exact Nat.lt_succ_self _
      · rw [z]; exact Nat.lt_succ_of_lt la
    have go : ∀ (ord : List (Int × Value)) (sl : Nat → Nat), ord.length = es.size → sl 0 = 0 → List.Perm ord es.toList →
        (∀ (i : Nat) (e : Int × Value), ord[i]? = some e → ∀ (s : Shared) (A : Around) (Q : Option (Value × Nat) → Shared → Prop) (E : Value → Shared → Prop), s.heap.get? a = some o → Q (some (e.2, sl (i + 1))) s → wpAny (model prog w) A (setNext a ((sl i : Nat) : Int).toNat i ep) Q E s) →
        (∀ (s : Shared) (A : Around) (Q : Option (Value × Nat) → Shared → Prop) (E : Value → Shared → Prop), s.heap.get? a = some o → Q none s → wpAny (model prog w) A (setNext a ((sl es.size : Nat) : Int).toNat es.size ep) Q E s) →
        Q (.ref s.heap.objs.size) { s with heap := h2 } := by
      intro ord sl hol hsl0 hop hnx hend
      refine h s.heap.objs.size [s.heap.objs.size, a] (fun i v => ∃ e, ord[i]? = some e ∧ v = e.2) (fun i s' => SIter s'.heap s.heap.objs.size (rawInt (sl i)) i a es.size ep ∧ s'.heap.get? a = some o) ord _ (fun A' hA' => ?_) ⟨by rw [hsl0]; exact hit, k2 _ _ ho⟩ (fun i v z => z)
        (he.perm hop) (hop.map val) lts (by simp) (fun b ob z => k2 _ _ z) rfl rfl (Nat.le_refl _) (fun i s' st => ⟨_, st.1, rfl⟩) (fun b hb' => (by
          simp only [List.mem_cons, List.mem_singleton, List.not_mem_nil, or_false] at hb'
          rcases hb' with z | z
          · right; rw [z]; exact Nat.le_refl _
          · exact .inl z)) (Nat.le_refl _)
      rw [hol]
      exact { sub := fun b z => by simp at z; simp [z], grefl := fun _ => rfl, gtrans := fun _ _ _ z1 z2 => z2.trans z1,
              frame := fun i s' h' tk st _ hk => ⟨hk _ (by simp) _ st.1, hk _ (by simp) _ st.2⟩,
              item := fun i s' Q' E' hi st hQ => by
                have hi' : i < ord.length := by omega
                have hoi : ord[i]? = some ord[i] := by simp [hi']
                refine next_slot (x := ord[i].2) (nx := sl (i + 1)) st.2 hd hf st.1 (hnx i _ hoi) fun h' st' sb => hQ _ { s' with heap := h' } ⟨_, hoi, rfl⟩ ⟨st', (sb.2 _ nia).trans st.2⟩ (moved_of fun b ob hb' z => (sb.2 b hb').trans z),
              done := fun s' Q' E' st hQ => end_slot hA' st.2 hd hf st.1 hend fun h' eb => hQ { s' with heap := h' } (moved_of fun b ob hb' z => eb b ob hb' z),
              self := fun i s' Q' E' st hQ => siter_self st.1 hQ }
    by_cases hbt : w.params.followText "set-order" = true
    · have hpp := pickOrder_perm (w.params.setOrder a ep) es
      have hpl : (pickOrder (w.params.setOrder a ep) es).size = es.size := by have := hpp.length_eq; simpa using this
      refine go (pickOrder (w.params.setOrder a ep) es).toList (fun _ => 0) (by simpa using hpl) rfl hpp (fun i e hie s' A' Q' E' ho' q => ?_) fun s' A' Q' E' ho' q => ?_
      · refine setNext_text ho' hd hf hbt ?_
        have : (pickOrder (w.params.setOrder a ep) es)[i]? = some e := by simpa using hie
        rw [this]; exact q
      · refine setNext_text ho' hd hf hbt ?_
        have : (pickOrder (w.params.setOrder a ep) es)[es.size]? = none := by simp [hpl]
        rw [this]; exact q
    · have hl : t.led = true := by rw [ht.led]; unfold ledOf; simp [hbt]
      have hdr' : ¬ (!t.plain && decide (es.size > 1)) = true := fun z => hdr (by rw [z]; simp [hbt])
      refine go es.toList (slotAt t) (by simp) rfl .rfl (fun i e hie s' A' Q' E' ho' q => ?_) fun s' A' Q' E' ho' q => ?_
      · refine setNext_led ho' hd hf hbt hl hdr' ?_
        have hi : i < es.size := by have := (List.getElem?_eq_some_iff.mp hie).1; simpa using this
        rw [Int.toNat_natCast, below_slotAt ht.rise (by omega)]
        have e1 : es[i]? = some e := by simpa using hie
        have e2 : t.place[i]? = some (t.place.getD i 0) := by rw [getD_nat t.place i 0 (by omega)]; simp [show i < t.place.size by omega]
        rw [e1, e2]
        obtain ⟨hx, x⟩ := e
        have e3 : slotAt t (i + 1) = t.place.getD i 0 + 1 := by simp [slotAt]
        rw [e3] at q
        exact q
      · refine setNext_led ho' hd hf hbt hl hdr' ?_
        rw [Int.toNat_natCast, below_slotAt ht.rise (by omega)]
        have e1 : es[es.size]? = none := by simp
        rw [e1]
        exact q
end
end SetX
end
section
namespace L2
open PySem PySem.Spec PyProof.Rows
abbrev Key := Sum Int Str
def keyIs : Key → Value → Bool
  | .inl k, v => Value.isInt k v
  | .inr x, v => Value.isStrOf x v
def keyH (w : World) : Key → Int
  | .inl k => hashInt k
  | .inr x => hashStr w x
theorem keyIs_shape : ∀ {k : Key} {v : Value}, keyIs k v = true → (∃ i t, k = Sum.inl i ∧ v = Value.int i t) ∨ (∃ x t, k = Sum.inr x ∧ v = Value.str x t)
  | .inl i, v, h => by
    obtain ⟨t, e⟩ := Value.isInt_shape (k := i) (v := v) h
    exact .inl ⟨i, t, rfl, e⟩
  | .inr x, v, h => by
    obtain ⟨t, e⟩ := Value.isStrOf_shape (x := x) (v := v) h
    exact .inr ⟨x, t, rfl, e⟩
theorem keyIs_int (i : Int) (t : Tok) : keyIs (.inl i) (.int i t) = true := by simp [keyIs, Value.isInt]
theorem keyIs_str (x : Str) (t : Tok) : keyIs (.inr x) (.str x t) = true := by simp [keyIs, Value.isStrOf]
theorem key_ll (a b : Int) : decide ((Sum.inl a : Key) = Sum.inl b) = (a == b) := by
  by_cases e : a = b
  · subst e; simp
  · have h : ¬ (Sum.inl a : Key) = Sum.inl b := fun q => e (Sum.inl.inj q)
    rw [decide_eq_false h]
    exact (beq_eq_false_iff_ne.mpr e).symm
theorem key_rr (a b : Str) : decide ((Sum.inr a : Key) = Sum.inr b) = decide (a = b) := by
  by_cases e : a = b
  · subst e; simp
  · have h : ¬ (Sum.inr a : Key) = Sum.inr b := fun q => e (Sum.inr.inj q)
    rw [decide_eq_false h, decide_eq_false e]
theorem key_lr (a : Int) (b : Str) : decide ((Sum.inl a : Key) = Sum.inr b) = false := decide_eq_false (fun q => nomatch q)
theorem key_rl (a : Str) (b : Int) : decide ((Sum.inr a : Key) = Sum.inl b) = false := decide_eq_false (fun q => nomatch q)
def mixKind (prog : Program) (w : World) : PySem.KeyKind prog w Key where
  is := keyIs
  hash := keyH w
  inj := fun v a b ha hb => by
    rcases keyIs_shape ha with ⟨i, t, rfl, rfl⟩ | ⟨x, t, rfl, rfl⟩
    · rcases keyIs_shape hb with ⟨j, u, rfl, e⟩ | ⟨y, u, rfl, e⟩
      · injection e with e1 _; rw [e1]
      · exact nomatch e
    · rcases keyIs_shape hb with ⟨j, u, rfl, e⟩ | ⟨y, u, rfl, e⟩
      · exact nomatch e
      · injection e with e1 _; rw [e1]
  byValue := fun k v h => by
    rcases keyIs_shape h with ⟨i, t, rfl, rfl⟩ | ⟨x, t, rfl, rfl⟩ <;> rfl
  pyHash := fun hv h => by
    rcases keyIs_shape hv with ⟨i, t, rfl, rfl⟩ | ⟨x, t, rfl, rfl⟩
    · exact wpAny_pyHash_int h
    · exact wpAny_pyHash_str h
  eqBool := fun hu hv h => by
    rcases keyIs_shape hu with ⟨i, t, rfl, rfl⟩ | ⟨x, t, rfl, rfl⟩
    · rcases keyIs_shape hv with ⟨j, u, rfl, rfl⟩ | ⟨y, u, rfl, rfl⟩
      · rw [key_ll] at h; exact wpAny_eqBool_int h
      · rw [key_lr] at h; exact SeqAt.EqAt.int_str i t y u _ _ _ _ h
    · rcases keyIs_shape hv with ⟨j, u, rfl, rfl⟩ | ⟨y, u, rfl, rfl⟩
      · rw [key_rl] at h; exact SeqAt.EqAt.str_int x t j u _ _ _ _ h
      · rw [key_rr] at h; exact wpAny_eqBool_str h
  «strs» := fun k x t v h => by
    rcases keyIs_shape h with ⟨i, u, rfl, e⟩ | ⟨y, u, rfl, e⟩
    · exact nomatch e
    · injection e with e1 _
      subst e1
      cases v <;> rfl
theorem mixKind_int (prog : Program) (w : World) (i : Int) (t : Tok) : (mixKind prog w).is (.inl i) (.int i t) = true := keyIs_int i t
theorem mixKind_str (prog : Program) (w : World) (x : Str) (t : Tok) : (mixKind prog w).is (.inr x) (.str x t) = true := keyIs_str x t
end L2
namespace L2
open PySem PySem.Spec PyProof.Rows
inductive V where
  | non | bl (b : Bool) | int (i : Int) | str (x : Str) | byt (b : Array UInt8) | flt (b : UInt64) | ref (a : Addr) | ty (n : String)
  deriving DecidableEq
def RelV : V → Value → Prop
  | .non, u => u = Value.none
  | .bl b, u => u = Value.bool b
  | .int i, u => ∃ t, u = Value.int i t
  | .str x, u => ∃ t, u = Value.str x t
  | .byt b, u => ∃ t, u = Value.bytes b t
  | .flt b, u => ∃ t, u = Value.float b t
  | .ref a, u => u = Value.ref a
  | .ty n, u => u = Value.type n
abbrev Vals : List V → List Value → Prop := Paired RelV
theorem Vals.length {xs : List V} {us : List Value} (r : Vals xs us) : xs.length = us.length := Paired.length r
theorem Vals.get : ∀ {xs : List V} {us : List Value} {i : Nat} {x : V}, Vals xs us → xs[i]? = some x → ∃ u, us[i]? = some u ∧ RelV x u
  | _, _, _, _, .nil, e => by simp at e
  | _, _, 0, _, .cons r _, e => by simp at e; subst e; exact ⟨_, rfl, r⟩
  | _, _, i + 1, x, .cons _ t, e => by
    obtain ⟨u, h1, h2⟩ := Vals.get (i := i) (x := x) t (by simpa using e)
    exact ⟨u, by simpa using h1, h2⟩
theorem Vals.append : ∀ {xs ys : List V} {us ws : List Value}, Vals xs us → Vals ys ws → Vals (xs ++ ys) (us ++ ws)
  | _, _, _, _, .nil, s => s
  | _, _, _, _, .cons r t, s => .cons r (Vals.append t s)
theorem Vals.take : ∀ {xs : List V} {us : List Value} (n : Nat), Vals xs us → Vals (xs.take n) (us.take n)
  | _, _, 0, _ => .nil
  | _, _, _ + 1, .nil => .nil
  | _, _, n + 1, .cons r t => .cons r (Vals.take n t)
theorem Vals.drop : ∀ {xs : List V} {us : List Value} (n : Nat), Vals xs us → Vals (xs.drop n) (us.drop n)
  | _, _, 0, r => r
  | _, _, _ + 1, .nil => .nil
  | _, _, n + 1, .cons _ t => Vals.drop n t
def RelO : Option V → Option Value → Prop
  | some v, some u => RelV v u
  | none, none => True
  | _, _ => False
def KV {κ : Type} : List (κ × V) → List (κ × Value) → Prop := Paired fun (p : κ × V) (q : κ × Value) => p.1 = q.1 ∧ RelV p.2 q.2
def kV : Key → V
  | .inl i => .int i
  | .inr x => .str x
inductive HO where
  | lst (xs : List V)
  | tup (xs : List V)
  | dK (kvs : List (Key × V)) | dT (kvs : List (List Key × V))
  | set (S : Int → Bool) (n : Nat)
  | ins (C dx : Addr) (fs : List (Str × V))
  | own (x : Addr)
  | xd (fs : List (Str × V))
  | met (f x : Addr)
  | rng (lo hi : Int)
  | frz (o : Obj) (u : HO)
  | tbl (ps : Array Value)
  | ext (φ : Heap → Prop)
abbrev Hp := Addr → Option HO
def upd (H : Hp) (a : Addr) (o : HO) : Hp := fun b => if b = a then some o else H b
theorem upd_same {H : Hp} {a : Addr} {o : HO} : upd H a o a = some o := by unfold upd; rw [if_pos rfl]
theorem upd_ne {H : Hp} {a b : Addr} {o : HO} (h : b ≠ a) : upd H a o b = H b := by unfold upd; rw [if_neg h]
theorem upd_upd {H : Hp} {a : Addr} {o u : HO} : upd (upd H a o) a u = upd H a u := by
  funext b; unfold upd; split <;> rfl
theorem ne_of {H : Hp} {a b : Addr} {o u : HO} (h : H a = some o) (h' : H b = some u) (d : o ≠ u) : a ≠ b := by
  intro e; subst e; rw [h] at h'; exact d (Option.some.inj h')
theorem ne_of_none {H : Hp} {a b : Addr} {o : HO} (h : H a = some o) (h' : H b = none) : a ≠ b := by
  intro e; subst e; rw [h] at h'; cases h'
section
variable (P : Program) (w : World)
def ObjOk (H : Hp) (h : Heap) (a : Addr) : HO → Prop
  | .lst xs => xs.length ≤ sizeLine ∧ ∃ (its : List Value) (n : Nat), Vals xs its ∧ h.get? a = some { cls := .type "list", data := .seq its.toArray n }
  | .tup xs => xs.length ≤ sizeLine ∧ ∃ its : List Value, Vals xs its ∧ IsTup h a its.toArray
  | .dK kvs => kvs.length ≤ sizeLine ∧ (a == sysModules) = false ∧ ∃ vs, KV kvs vs ∧ h.DictOf (mixKind P w) a vs
  | .dT kvs => kvs.length ≤ sizeLine ∧ (a == sysModules) = false ∧ ∃ xs : List (List Key × Addr × Value),
      Paired (fun (p : List Key × V) (q : List Key × Addr × Value) => p.1 = q.1 ∧ H q.2.1 = some (.tup (p.1.map kV)) ∧ RelV p.2 q.2.2) kvs xs ∧
      ∃ o es ep, h.get? a = some o ∧ o.ExactDict ∧ o.data = .dict es ep ∧ es.toList = xs.map (entryOfKey (tupleKind (mixKind P w))) ∧ (xs.map (·.1)).Nodup
  | .set S n => h.SetOf (intKind P w) a S n
  | .ins C dx fs => H dx = some (.own a) ∧ fs.length ≤ 1000 ∧ dx ≠ a ∧ h.get? a = some (PySem.W.instObj C dx) ∧
      ∃ mA, h.Ns1 dx mA ∧ (∀ f, RelO (fs.lookup f) (mA f)) ∧ PySem.Within mA (fs.map (·.1))
  | .own _ => ∃ o, h.get? a = some o
  | .xd fs => ∃ mA, h.Ns1 a mA ∧ ∀ f, RelO (fs.lookup f) (mA f)
  | .rng lo hi => ∃ t u v, h.get? a = some { cls := .type "range", data := .fields #[.int lo t, .int hi u, .int 1 v] }
  | .frz o u => h.get? a = some o ∧ ObjOk H h a u
  | .tbl ps => h.get? a = some { cls := .none, data := .fields ps }
  | .met f x => h.get? a = some (PySem.W.methodObj (.ref f) (.ref x))
  | .ext φ => φ h ∧ (∃ o, h.get? a = some o) ∧ ∀ h1 h2 : Heap, φ h1 → (∀ o, h1.get? a = some o → h2.get? a = some o) → φ h2
def HOk (H : Hp) (h : Heap) : Prop := ∀ a o, H a = some o → ObjOk P w H h a o
end
section
variable {P : Program} {w : World} {H H' : Hp} {h h' : Heap} {a : Addr} {o : HO}
theorem ObjOk.lt (x : ObjOk P w H h a o) : a < h.objs.size := by
  cases o with
  | lst xs => obtain ⟨_, _, _, _, e⟩ := x; exact Heap.lt_size e
  | tup xs => obtain ⟨_, _, _, p⟩ := x; exact p.lt
  | dK kvs => obtain ⟨_, _, _, _, o, _, _, e, _⟩ := x; exact Heap.lt_size e
  | dT kvs => obtain ⟨_, _, _, _, o, _, _, e, _⟩ := x; exact Heap.lt_size e
  | set S n => obtain ⟨o, _, _, _, e, _⟩ := x; exact Heap.lt_size e
  | ins C dx fs => obtain ⟨_, _, _, e, _⟩ := x; exact Heap.lt_size e
  | own y => obtain ⟨_, e⟩ := x; exact Heap.lt_size e
  | xd fs => obtain ⟨_, ⟨_, _, _, e, _⟩, _⟩ := x; exact Heap.lt_size e
  | rng lo hi => obtain ⟨_, _, _, e⟩ := x; exact Heap.lt_size e
  | frz ob u => obtain ⟨e, _⟩ := x; exact Heap.lt_size e
  | tbl ps => exact Heap.lt_size (show h.get? a = some _ from x)
  | met f y => exact Heap.lt_size (show h.get? a = some _ from x)
  | ext φ => obtain ⟨_, ⟨_, e⟩, _⟩ := x; exact Heap.lt_size e
theorem Paired.mapP {α β : Type} {F G : α → β → Prop} : ∀ {l₁ : List α} {l₂ : List β}, Paired F l₁ l₂ → (∀ a b, F a b → G a b) → Paired G l₁ l₂
  | _, _, .nil, _ => .nil
  | _, _, .cons r t, f => .cons (f _ _ r) (Paired.mapP t f)
theorem ObjOk.stay (x : ObjOk P w H h a o) (k : ∀ b u, (b = a ∨ H b = some (.own a)) → h.get? b = some u → h'.get? b = some u)
    (ho : ∀ b, H b = some (.own a) → H' b = some (.own a)) (ht : ∀ b xs, H b = some (.tup xs) → H' b = some (.tup xs)) : ObjOk P w H' h' a o := by
  induction o with
  | lst xs => obtain ⟨z, its, n, r, e⟩ := x; exact ⟨z, its, n, r, k _ _ (.inl rfl) e⟩
  | tup xs => obtain ⟨z, its, r, ob, e, c⟩ := x; exact ⟨z, its, r, ob, k _ _ (.inl rfl) e, c⟩
  | dK kvs => obtain ⟨z, y, vs, r, ob, es, ep, e, c⟩ := x; exact ⟨z, y, vs, r, ob, es, ep, k _ _ (.inl rfl) e, c⟩
  | dT kvs =>
    obtain ⟨z, y, xs, r, ob, es, ep, e, c⟩ := x
    exact ⟨z, y, xs, Paired.mapP r fun p q z => ⟨z.1, ht _ _ z.2.1, z.2.2⟩, ob, es, ep, k _ _ (.inl rfl) e, c⟩
  | set S n => obtain ⟨ob, es, ep, t, e, c⟩ := x; exact ⟨ob, es, ep, t, k _ _ (.inl rfl) e, c⟩
  | ins C dx fs =>
    obtain ⟨d, z, ne, e, mA, ⟨od, es, ep, e2, c⟩, r⟩ := x
    exact ⟨ho _ d, z, ne, k _ _ (.inl rfl) e, mA, ⟨od, es, ep, k _ _ (.inr d) e2, c⟩, r⟩
  | own y => obtain ⟨ob, e⟩ := x; exact ⟨ob, k _ _ (.inl rfl) e⟩
  | xd fs => obtain ⟨mA, ⟨od, es, ep, e, c⟩, r⟩ := x; exact ⟨mA, ⟨od, es, ep, k _ _ (.inl rfl) e, c⟩, r⟩
  | rng lo hi => obtain ⟨t, u, v, e⟩ := x; exact ⟨t, u, v, k _ _ (.inl rfl) e⟩
  | frz ob u ih => obtain ⟨e, q⟩ := x; exact ⟨k _ _ (.inl rfl) e, ih q⟩
  | tbl ps =>
    have e : h.get? a = some { cls := .none, data := .fields ps } := x
    show h'.get? a = some { cls := .none, data := .fields ps }
    exact k a _ (.inl rfl) e
  | met f y =>
    have e : h.get? a = some (PySem.W.methodObj (.ref f) (.ref y)) := x
    show h'.get? a = some (PySem.W.methodObj (.ref f) (.ref y))
    exact k a _ (.inl rfl) e
  | ext φ => obtain ⟨p, ⟨o, e⟩, st⟩ := x; exact ⟨st _ _ p fun o q => k _ _ (.inl rfl) q, ⟨o, k _ _ (.inl rfl) e⟩, st⟩
theorem HOk.lt (x : HOk P w H h) (e : H a = some o) : a < h.objs.size := (x a o e).lt
theorem HOk.fresh (x : HOk P w H h) (e : h.objs.size ≤ a) : H a = none := by
  cases q : H a with
  | none => rfl
  | some u => exact absurd (Nat.lt_of_lt_of_le (x.lt q) e) (Nat.lt_irrefl _)
theorem HOk.kept (x : HOk P w H h) (k : ∀ b u, h.get? b = some u → h'.get? b = some u) : HOk P w H h' := fun a o e =>
  (x a o e).stay (fun b u _ q => k b u q) (fun _ q => q) fun _ _ q => q
theorem HOk.laid (x : HOk P w H h) (k : ∀ b u, h.get? b = some u → h'.get? b = some u) (hp : h.objs.size ≤ a) (new : ObjOk P w (upd H a o) h' a o) : HOk P w (upd H a o) h' := fun b u e => by
  have hn := x.fresh hp
  by_cases hb : b = a
  · subst hb; rw [upd_same] at e; cases e; exact new
  · rw [upd_ne hb] at e
    exact (x b u e).stay (fun c v _ q => k c v q) (fun c q => by rw [upd_ne (ne_of_none q hn)]; exact q) fun c xs q => by rw [upd_ne (ne_of_none q hn)]; exact q
end
def Rd (H : Hp) (a : Addr) (u : HO) : Prop := H a = some u ∨ ∃ o, H a = some (.frz o u)
theorem Rd.ok {P : Program} {w : World} {H : Hp} {h : Heap} {a : Addr} {u : HO} (r : Rd H a u) (x : HOk P w H h) : ObjOk P w H h a u := by
  rcases r with r | ⟨o, r⟩
  · exact x a u r
  · obtain ⟨_, q⟩ := x a _ r
    exact q
def Mut : Option HO → Prop
  | some (.lst _) => True
  | some (.dK _) => True
  | some (.dT _) => True
  | some (.set _ _) => True
  | some (.ins _ _ _) => True
  | some (.ext _) => True
  | _ => False
section
variable {P : Program} {w : World} {H : Hp} {h h' : Heap} {x e : Addr} {o' : HO}
theorem HOk.write (ok : HOk P w H h) (mu : Mut (H x)) (he : e = x ∨ H e = some (.own x)) (k : ∀ b u, b ≠ e → h.get? b = some u → h'.get? b = some u) (heo : ∃ u, h'.get? e = some u)
    (new : ObjOk P w (upd H x o') h' x o') : HOk P w (upd H x o') h' := fun b u q => by
  have nown : ∀ c y, H c = some (.own y) → c ≠ x := fun c y r z => by subst z; rw [r] at mu; exact mu
  have ntup : ∀ c xs, H c = some (.tup xs) → c ≠ x := fun c xs r z => by subst z; rw [r] at mu; exact mu
  by_cases hb : b = x
  · subst hb; rw [upd_same] at q; cases q; exact new
  · rw [upd_ne hb] at q
    by_cases hbe : b = e
    · have q' : H b = some (.own x) := by
        rcases he with z | z
        · exact absurd (hbe.trans z) hb
        · rw [hbe]; exact z
      rw [q] at q'; cases q'
      obtain ⟨v, hv⟩ := heo
      exact ⟨v, by rw [hbe]; exact hv⟩
    · refine (ok b u q).stay (fun c v hc r => k c v ?_ r) (fun c r => by rw [upd_ne (nown c b r)]; exact r) fun c xs r => by rw [upd_ne (ntup c xs r)]; exact r
      rcases hc with rfl | hc
      · exact hbe
      · rintro rfl
        rcases he with z | z
        · exact nown c b hc z
        · rw [hc] at z; cases z; exact hb rfl
end
structure Un (fs ex : List Addr) (H H' : Hp) (h h' : Heap) : Prop where
  keep : ∀ b o, h.get? b = some o → H b = none → b ∉ fs → b ∉ ex → h'.get? b = some o
  slot : ∀ b o, h.get? b = some o → H b = none → b ∈ fs → b ∉ ex → ∃ sl, h'.get? b = some { o with slots := sl }
  free : ∀ b o, h.get? b = some o → H b = none → b ∉ ex → H' b = none
  there : ∀ b o, h.get? b = some o → b ∉ ex → ∃ o', h'.get? b = some o'
  tups : ∀ b xs, H b = some (.tup xs) → H' b = some (.tup xs)
  frzs : ∀ b o u, H b = some (.frz o u) → H' b = some (.frz o u)
  tbls : ∀ b ps, H b = some (.tbl ps) → ∃ more, H' b = some (.tbl (ps ++ more))
section
variable {fs fs' ex ex' : List Addr} {H H1 H2 : Hp} {h h1 h2 h' : Heap} {a x e : Addr} {o : HO}
theorem Un.any (u : Un fs ex H H1 h h1) {b : Addr} {ob : Obj} (q : h.get? b = some ob) (n : H b = none) (hx : b ∉ ex) : ∃ sl, h1.get? b = some { ob with slots := sl } := by
  by_cases hb : b ∈ fs
  · exact u.slot b ob q n hb hx
  · exact ⟨ob.slots, u.keep b ob q n hb hx⟩
theorem Un.kept (k : ∀ b u, h.get? b = some u → h'.get? b = some u) : Un fs ex H H h h' :=
  ⟨fun b ob q _ _ _ => k b ob q, fun b ob q _ _ _ => ⟨ob.slots, k b ob q⟩, fun _ _ _ n _ => n, fun b ob q _ => ⟨ob, k b ob q⟩, fun _ _ q => q, fun _ _ _ q => q, fun _ ps q => ⟨#[], by rw [q]; simp⟩⟩
theorem Un.refl : Un fs ex H H h h := Un.kept fun _ _ q => q
theorem Un.laid (k : ∀ b u, h.get? b = some u → h'.get? b = some u) (hp : h.objs.size ≤ a) (hn : H a = none) : Un fs ex H (upd H a o) h h' where
  keep := fun b u q _ _ _ => k b u q
  slot := fun b u q _ _ _ => ⟨u.slots, k b u q⟩
  free := fun b u q n _ => by rw [upd_ne (Nat.ne_of_lt (Nat.lt_of_lt_of_le (Heap.lt_size q) hp))]; exact n
  there := fun b u q _ => ⟨u, k b u q⟩
  tups := fun b xs q => by rw [upd_ne (ne_of_none q hn)]; exact q
  frzs := fun b u xs q => by rw [upd_ne (ne_of_none q hn)]; exact q
  tbls := fun b ps q => ⟨#[], by rw [upd_ne (ne_of_none q hn), q]; simp⟩
theorem Un.write (mu : Mut (H x)) (he : e = x ∨ H e = some (.own x)) (k : ∀ b u, b ≠ e → h.get? b = some u → h'.get? b = some u) (heo : ∃ u, h'.get? e = some u) : Un fs ex H (upd H x o) h h' := by
  have hx : ∀ b, H b = none → b ≠ x := fun b n z => by subst z; rw [n] at mu; exact mu
  have hb : ∀ b, H b = none → b ≠ e := fun b n z => by
    subst z
    rcases he with r | r
    · exact hx b n r
    · rw [n] at r; cases r
  have hm : ∀ b u, H b = some u → ¬ Mut (some u) → b ≠ x := fun b u q nm z => by subst z; rw [q] at mu; exact nm mu
  refine ⟨fun b u q n _ _ => k b u (hb b n) q, fun b u q n _ _ => ⟨u.slots, k b u (hb b n) q⟩, fun b u q n _ => by rw [upd_ne (hx b n)]; exact n, fun b u q _ => ?_,
    fun b xs q => by rw [upd_ne (hm b _ q fun z => z)]; exact q, fun b u xs q => by rw [upd_ne (hm b _ q fun z => z)]; exact q, fun b ps q => ⟨#[], by rw [upd_ne (hm b _ q fun z => z), q]; simp⟩⟩
  by_cases hbe : b = e
  · subst hbe; exact heo
  · exact ⟨u, k b u hbe q⟩
end
def trk (h : Heap) (H : Hp) : List Addr := (List.range h.objs.size).filter fun a => (H a).isSome
def hidT (h : Heap) (H : Hp) : Heap := PySem.W.hideAll h (trk h H)
theorem hidT_size (h : Heap) (H : Hp) : (hidT h H).objs.size = h.objs.size := PySem.W.hideAll_size _ _
theorem hidT_get {h : Heap} {H : Hp} {b : Addr} {o : Obj} (e : h.get? b = some o) (n : H b = none) : (hidT h H).get? b = some o :=
  PySem.W.hideAll_get _ e fun hm => by
    have q : (H b).isSome = true := (List.mem_filter.mp hm).2
    rw [n] at q; simp at q
theorem of_hidT {h : Heap} {H : Hp} {b : Addr} {o : Obj} (e : (hidT h H).get? b = some o) : h.get? b = some o ∧ H b = none := by
  have e' : h.get? b = some o := PySem.W.of_hideAll (trk h H) e
  refine ⟨e', ?_⟩
  cases q : H b with
  | none => rfl
  | some x =>
    have hm : b ∈ trk h H := List.mem_filter.mpr ⟨List.mem_range.mpr (Heap.lt_size e'), by simp [q]⟩
    have z : (hidT h H).get? b = none := PySem.W.hideAll_none (trk h H) hm
    rw [z] at e; cases e
def allNews (g h : Heap) (L : Addr) : List (Addr × Obj) := (List.range h.objs.size).filterMap fun a => if a = L ∨ (g.get? a).isSome = true then none else (h.get? a).map fun o => (a, o)
def rest (g h : Heap) (L d : Addr) : List (Addr × Obj) := (allNews g h L).filter fun p => decide (p.1 ≠ d)
end L2
namespace L2
open PySem PySem.Spec PyProof.Rows
structure Mod (K : PySem.W.Frag) (mg : Str → Option Value) (base : Heap) : Prop where
  kin : K.In base
  glob : base.Ns mainGlobals mg
  blt : ∃ mb, base.Ns builtinsNs mb ∧ ∀ x : Str, x ≠ "__name__" → mb x = bootBuiltins x
  nolimit : base.NoLimit
structure Cx where
  prog : Program
  w : World
  K : PySem.W.Frag
  mg : Str → Option Value
  base : Heap
  A : Around
  N : List Str
  s₀ : Shared
  H₀ : Hp
  env : Env
  outer : List Env
  stack : List Env
  ex : List Addr
  fn : Str → Bool
  calm : Bool
  pn : List (Addr × Obj)
  xe : Value → Shared → Prop
def frs (l : List Env) : List Addr := l.filterMap (·.frame)
abbrev Cx.fs (X : Cx) : List Addr := frs X.outer
def Vis (sc : Scope) (x : Str) : Prop := sc.names.lookup x = some .local ∨ sc.names.lookup x = some .cell ∨ sc.names.lookup x = some .free
def Loc (sc : Scope) (x : Str) : Prop := sc.names.lookup x = some .local ∨ sc.names.lookup x = some .cell
def Look (env : Env) (h : Heap) (m : Str → Option Value) (x : Str) (u : Value) : Prop :=
  (env.kindOf x = some .local ∧ m x = some u) ∨ ((env.kindOf x = some .cell ∨ env.kindOf x = some .free) ∧ ∃ c, env.cells.lookup x = some c ∧ h.IsCell c (some u))
structure Cx.Ok (X : Cx) : Prop where
  mod : Mod X.K X.mg X.base
  kind : X.env.scope.kind = .function
  glob : X.env.globals = mainGlobals
  blt : X.env.builtins = builtinsNs
  above : X.s₀.heap.objs.size ≤ X.env.locals
  inj : ∀ x y c, X.env.cells.lookup x = some c → X.env.cells.lookup y = some c → x = y
  has : ∀ x, (X.env.kindOf x = some .cell ∨ X.env.kindOf x = some .free) → ∃ c, X.env.cells.lookup x = some c
  cab : ∀ x c, X.fn x = true → X.env.cells.lookup x = some c → X.s₀.heap.objs.size ≤ c
  hd : X.calm = true → X.A.handled = none
  frames : X.A.frames = some X.stack
  stk : X.stack = X.outer ∨ (X.stack = X.env :: X.outer ∧ X.env.frame = some X.env.locals)
  exf : ∀ b ∈ X.ex, b ≠ X.env.locals ∧ ∀ x c, X.env.cells.lookup x = some c → c ≠ b
  bs : ∀ b o, X.base.get? b = some o → X.s₀.heap.get? b = some o ∧ X.H₀ b = none
  bsz : X.base.objs.size ≤ X.s₀.heap.objs.size
  noex : ∀ b o, X.base.get? b = some o → b ∉ X.ex
  exfs : ∀ b ∈ X.ex, b ∉ X.fs
  funs : X.s₀.heap.FunFrames X.base X.outer
  frf : ∀ b ∈ X.fs, X.H₀ b = none
structure Inv (X : Cx) (pins : List (Addr × Obj)) (σ : List (Option V)) (H : Hp) (s : Shared) : Prop where
  ok : X.Ok
  os : s.os = X.s₀.os
  bare : AllBare s.gens
  base : Un X.fs X.ex X.H₀ H X.s₀.heap s.heap
  loc : ∃ m, s.heap.Ns X.env.locals m ∧ ∀ (i : Nat) (x : Str) (v : V), X.N[i]? = some x → σ[i]? = some (some v) → Vis X.env.scope x → ∃ u, RelV v u ∧ Look X.env s.heap m x u
  cell : ∀ x c, X.env.cells.lookup x = some c → ∃ v, s.heap.IsCell c v
  free : H X.env.locals = none
  freeC : ∀ x c, X.env.cells.lookup x = some c → H c = none
  pin : ∀ p ∈ X.pn ++ pins, s.heap.get? p.1 = some p.2 ∧ H p.1 = none ∧ p.1 ≠ X.env.locals ∧ p.1 ∉ X.fs ∧ ∀ v, p.2.data ≠ .cell v
  hok : HOk X.prog X.w H s.heap
  len : σ.length = X.N.length
section
variable {X : Cx} {pins : List (Addr × Obj)} {σ : List (Option V)} {H H' : Hp} {s : Shared} {h' : Heap}
theorem Cx.Ok.nofr (ok : X.Ok) {b : Addr} {o : Obj} (e : X.base.get? b = some o) : b ∉ X.fs := fun hb => by
  have := (ok.funs.mem hb).1
  rw [e] at this; cases this
theorem Inv.bs (I : Inv X pins σ H s) : ∀ b o, X.base.get? b = some o → s.heap.get? b = some o ∧ H b = none := fun b o e =>
  ⟨I.base.keep b o (I.ok.bs b o e).1 (I.ok.bs b o e).2 (I.ok.nofr e) (I.ok.noex b o e), I.base.free b o (I.ok.bs b o e).1 (I.ok.bs b o e).2 (I.ok.noex b o e)⟩
theorem Inv.bk (I : Inv X pins σ H s) : ∀ b o, X.base.get? b = some o → s.heap.get? b = some o := fun b o e => (I.bs b o e).1
theorem Inv.mod (I : Inv X pins σ H s) : Mod X.K X.mg X.base := I.ok.mod
theorem Inv.kIn (I : Inv X pins σ H s) : X.K.In s.heap := I.ok.mod.kin.keeps I.bk
theorem Inv.fr (I : Inv X pins σ H s) : ∃ m, Fr X.base X.env.locals s.heap m :=
  let ⟨m, hn, _⟩ := I.loc
  ⟨m, hn, I.bk, Nat.le_trans I.ok.bsz I.ok.above⟩
theorem Inv.lt (I : Inv X pins σ H s) : X.env.locals < s.heap.objs.size := let ⟨_, hn, _⟩ := I.loc; hn.lt
theorem Inv.sz (I : Inv X pins σ H s) : X.s₀.heap.objs.size ≤ s.heap.objs.size := Nat.le_trans I.ok.above (Nat.le_of_lt I.lt)
theorem Inv.nofs (I : Inv X pins σ H s) {a : Addr} (h : s.heap.objs.size ≤ a) : a ∉ X.fs := fun hb => by
  obtain ⟨_, o, ho, _⟩ := I.ok.funs.mem hb
  exact absurd (Nat.lt_of_lt_of_le (Heap.lt_size ho) (Nat.le_trans I.sz h)) (Nat.lt_irrefl _)
theorem Inv.cne (I : Inv X pins σ H s) : ∀ x c, X.env.cells.lookup x = some c → c ≠ X.env.locals := fun x c e z => by
  obtain ⟨v, o, ho, hd⟩ := I.cell x c e
  obtain ⟨m, ⟨o', es, ep, ho', hd', _⟩, _⟩ := I.loc
  rw [z, ho'] at ho; cases ho; rw [hd'] at hd; cases hd
theorem Inv.funs (I : Inv X pins σ H s) : s.heap.FunFrames X.base X.outer := by
  have all : ∀ (l : List Env), (∀ b ∈ frs l, b ∈ X.fs) → X.s₀.heap.FunFrames X.base l → s.heap.FunFrames X.base l := by
    intro l
    induction l with
    | nil => intro _ _; trivial
    | cons env r ih =>
      intro hs hl
      obtain ⟨hk, ⟨L, o, hf, hn, ho, hd⟩, hr⟩ := hl
      have hL : L ∈ X.fs := hs L (by unfold frs; rw [List.filterMap_cons, hf]; exact List.mem_cons_self)
      obtain ⟨sl, e⟩ := I.base.slot L o ho (I.ok.frf L hL) hL fun z => I.ok.exfs L z hL
      exact ⟨hk, ⟨L, _, hf, hn, e, hd⟩, ih (fun b hb => hs b (by unfold frs; rw [List.filterMap_cons, hf]; exact List.mem_cons_of_mem _ hb)) hr⟩
  exact all X.outer (fun _ hb => hb) I.ok.funs
theorem Inv.stack (I : Inv X pins σ H s) : s.heap.FunFrames X.base X.stack := by
  rcases I.ok.stk with e | ⟨e, hf⟩
  · rw [e]; exact I.funs
  · rw [e]
    obtain ⟨m, hn, _⟩ := I.loc
    refine .cons (by rw [I.ok.kind]; decide) hf hn ?_ I.funs
    exact Heap.get?_none_of_le (Nat.le_trans I.ok.bsz I.ok.above)
theorem Inv.stkSub (I : Inv X pins σ H s) : ∀ b ∈ frs X.stack, b ∈ X.env.locals :: X.fs := fun b hb => by
  rcases I.ok.stk with e | ⟨e, hf⟩
  · rw [e] at hb; exact List.mem_cons_of_mem _ hb
  · rw [e] at hb
    unfold frs at hb
    rw [List.filterMap_cons, hf] at hb
    exact hb
theorem Inv.stkFree (I : Inv X pins σ H s) : ∀ b ∈ frs X.stack, H b = none := fun b hb => by
  rcases List.mem_cons.mp (I.stkSub b hb) with e | hb
  · rw [e]; exact I.free
  · obtain ⟨_, o, ho, _⟩ := I.ok.funs.mem hb
    exact I.base.free b o ho (I.ok.frf b hb) fun z => I.ok.exfs b z hb
theorem Inv.step {g' : Array GenState} {t' : Nat} {d' : Drawn} {ch : List Addr} (I : Inv X pins σ H s)
    (hch : ∀ b ∈ ch, (b ∈ X.ex ∨ X.s₀.heap.objs.size ≤ b) ∧ b ≠ X.env.locals ∧ (∀ x c, X.env.cells.lookup x = some c → c ≠ b) ∧ ∀ p ∈ X.pn ++ pins, p.1 ≠ b)
    (keep : ∀ b o, b ≠ X.env.locals → b ∉ X.fs → b ∉ ch → s.heap.get? b = some o → H b = none → h'.get? b = some o)
    (slot : ∀ b o, b ≠ X.env.locals → b ∈ X.fs → b ∉ ch → s.heap.get? b = some o → H b = none → ∃ sl, h'.get? b = some { o with slots := sl }) (free : ∀ b o, b ∉ ch → s.heap.get? b = some o → H b = none → H' b = none)
    (there : ∀ b o, b ∉ ch → s.heap.get? b = some o → ∃ o', h'.get? b = some o')
    (tups : ∀ b xs, H b = some (.tup xs) → H' b = some (.tup xs)) (frzs : ∀ b o u, H b = some (.frz o u) → H' b = some (.frz o u)) (tbls : ∀ b ps, H b = some (.tbl ps) → ∃ more, H' b = some (.tbl (ps ++ more)))
    (ns : ∀ m, s.heap.Ns X.env.locals m → h'.Ns X.env.locals m) (hok : HOk X.prog X.w H' h') (hg : AllBare g') :
    Inv X pins σ H' { s with heap := h', gens := g', drawn := d', toks := t' } := by
  have neL : ∀ b o, X.s₀.heap.get? b = some o → b ≠ X.env.locals := fun b o e => Nat.ne_of_lt (Nat.lt_of_lt_of_le (Heap.lt_size e) I.ok.above)
  have neC : ∀ b o, X.s₀.heap.get? b = some o → b ∉ X.ex → b ∉ ch := fun b o e hx hb => by
    rcases (hch b hb).1 with z | z
    · exact hx z
    · exact absurd (Nat.lt_of_lt_of_le (Heap.lt_size e) z) (Nat.lt_irrefl _)
  have cellK : ∀ x c, X.env.cells.lookup x = some c → ∀ v, s.heap.IsCell c v → h'.IsCell c v := fun x c e v ⟨o, ho, hd⟩ => by
    have nch : c ∉ ch := fun z => (hch c z).2.2.1 x c e rfl
    by_cases hc : c ∈ X.fs
    · obtain ⟨sl, q⟩ := slot c o (I.cne x c e) hc nch ho (I.freeC x c e)
      exact ⟨_, q, hd⟩
    · exact ⟨o, keep c o (I.cne x c e) hc nch ho (I.freeC x c e), hd⟩
  refine ⟨I.ok, I.os, hg, ⟨fun b o e n hb hx => ?_, fun b o e n hb hx => ?_, fun b o e n hx => ?_, fun b o e hx => ?_, fun b xs e => tups b xs (I.base.tups b xs e), fun b o xs e => frzs b o xs (I.base.frzs b o xs e), fun b ps e => ?_⟩, ?_, fun x c e => ?_, ?_, fun x c e => ?_, fun p hp => ?_, hok, I.len⟩
  · exact keep b o (neL b o e) hb (neC b o e hx) (I.base.keep b o e n hb hx) (I.base.free b o e n hx)
  · obtain ⟨sl, e1⟩ := I.base.slot b o e n hb hx
    obtain ⟨sl', e2⟩ := slot b _ (neL b o e) hb (neC b o e hx) e1 (I.base.free b o e n hx)
    exact ⟨sl', e2⟩
  · obtain ⟨o', e1⟩ := I.base.there b o e hx
    exact free b o' (neC b o e hx) e1 (I.base.free b o e n hx)
  · obtain ⟨o', e1⟩ := I.base.there b o e hx
    exact there b o' (neC b o e hx) e1
  · obtain ⟨m1, e1⟩ := I.base.tbls b ps e
    obtain ⟨m2, e2⟩ := tbls b _ e1
    exact ⟨m1 ++ m2, by rw [e2, Array.append_assoc]⟩
  · obtain ⟨m, hn, hl⟩ := I.loc
    refine ⟨m, ns m hn, fun i x v e1 e2 e3 => ?_⟩
    obtain ⟨u, r, l⟩ := hl i x v e1 e2 e3
    refine ⟨u, r, ?_⟩
    rcases l with l | ⟨k, c, e, z⟩
    · exact .inl l
    · exact .inr ⟨k, c, e, cellK x c e _ z⟩
  · obtain ⟨v, z⟩ := I.cell x c e
    exact ⟨v, cellK x c e v z⟩
  · obtain ⟨m, ⟨o, _, _, ho, _⟩, _⟩ := I.loc
    exact free _ o (fun z => (hch _ z).2.1 rfl) ho I.free
  · obtain ⟨v, o, ho, hd⟩ := I.cell x c e
    exact free c o (fun z => (hch c z).2.2.1 x c e rfl) ho (I.freeC x c e)
  · obtain ⟨e, n, ne, nf, d⟩ := I.pin p hp
    have nch : p.1 ∉ ch := fun z => (hch p.1 z).2.2.2 p hp rfl
    exact ⟨keep p.1 p.2 ne nf nch e n, free p.1 p.2 nch e n, ne, nf, d⟩
theorem Inv.un {t' : Nat} (I : Inv X pins σ H s) (u : Un X.fs [] H H' s.heap h') (hok : HOk X.prog X.w H' h') : Inv X pins σ H' { s with heap := h', toks := t' } := by
  obtain ⟨m, ⟨o, es, ep, ho, r⟩, _⟩ := id I.loc
  obtain ⟨sl, hL⟩ := u.any ho I.free (by simp)
  exact I.step (g' := s.gens) (d' := s.drawn) (ch := []) (fun _ z => nomatch z) (fun b o _ hb _ e n => u.keep b o e n hb (by simp)) (fun b o _ hb _ e n => u.slot b o e n hb (by simp)) (fun b o _ e n => u.free b o e n (by simp)) (fun b o _ e => u.there b o e (by simp)) u.tups u.frzs u.tbls (fun m' hm => by
    obtain ⟨o', es', ep', ho', r'⟩ := hm
    rw [ho] at ho'; cases ho'
    exact ⟨_, es', ep', hL, r'⟩) hok I.bare
theorem Inv.call {g' : Array GenState} {t' : Nat} {d' : Drawn} {ch : List Addr} (I : Inv X pins σ H s) (u : Un (frs X.stack) ch H H' s.heap h') (hok : HOk X.prog X.w H' h') (hg : AllBare g')
    (hch : ∀ b ∈ ch, (b ∈ X.ex ∨ X.s₀.heap.objs.size ≤ b) ∧ b ≠ X.env.locals ∧ (∀ x c, X.env.cells.lookup x = some c → c ≠ b) ∧ ∀ p ∈ X.pn ++ pins, p.1 ≠ b) :
    Inv X pins σ H' { s with heap := h', gens := g', drawn := d', toks := t' } := by
  obtain ⟨m, ⟨o, es, ep, ho, r⟩, _⟩ := id I.loc
  obtain ⟨sl, hL⟩ := u.any ho I.free fun z => (hch _ z).2.1 rfl
  exact I.step (ch := ch) hch (fun b o hL hb hc e n => u.keep b o e n (fun z => (List.mem_cons.mp (I.stkSub b z)).elim hL hb) hc) (fun b o _ _ hc e n => u.any e n hc) (fun b o hc e n => u.free b o e n hc) (fun b o hc e => u.there b o e hc) u.tups u.frzs u.tbls (fun m' hm => by
    obtain ⟨o', es', ep', ho', r'⟩ := hm
    rw [ho] at ho'; cases ho'
    exact ⟨_, es', ep', hL, r'⟩) hok hg
theorem Inv.turned {t' : Nat} {it : Addr} (I : Inv X pins σ H s) (k : ∀ b o, b ≠ it → s.heap.get? b = some o → h'.get? b = some o) (hn : H it = none) (hL : it ≠ X.env.locals)
    (h1 : it ∈ X.ex ∨ X.s₀.heap.objs.size ≤ it) (h2 : ∀ x c, X.env.cells.lookup x = some c → c ≠ it) (h3 : ∀ p ∈ X.pn ++ pins, p.1 ≠ it) : Inv X pins σ H { s with heap := h', toks := t' } := by
  have nit : ∀ b u, H b = some u → b ≠ it := fun b u e z => by rw [z, hn] at e; cases e
  refine I.step (g' := s.gens) (d' := s.drawn) (ch := [it]) (fun b hb => ?_) (fun b o _ _ hc e _ => k b o (fun z => hc (by simp [z])) e) (fun b o _ _ hc e _ => ⟨o.slots, k b o (fun z => hc (by simp [z])) e⟩) (fun _ _ _ _ n => n)
    (fun b o hc e => ⟨o, k b o (fun z => hc (by simp [z])) e⟩) (fun _ _ e => e) (fun _ _ _ e => e) (fun b ps e => ⟨#[], by rw [e]; simp⟩) (fun m hm => ?_) (fun b u e => ?_) I.bare
  · have e : b = it := by simpa using hb
    subst e
    exact ⟨h1, hL, h2, h3⟩
  · obtain ⟨o, es, ep, ho, r⟩ := hm
    exact ⟨o, es, ep, k _ o (Ne.symm hL) ho, r⟩
  · refine (I.hok b u e).stay (fun c v hc q => k c v ?_ q) (fun _ q => q) fun _ _ q => q
    rcases hc with z | z
    · rw [z]; exact nit b u e
    · exact nit c _ z
theorem Inv.tok (I : Inv X pins σ H s) (t : Nat) : Inv X pins σ H { s with toks := t } := I.un (h' := s.heap) (t' := t) Un.refl I.hok
theorem Inv.kept {t' : Nat} (I : Inv X pins σ H s) (k : ∀ b u, s.heap.get? b = some u → h'.get? b = some u) : Inv X pins σ H { s with heap := h', toks := t' } := I.un (Un.kept k) (I.hok.kept k)
theorem Inv.laid {a : Addr} {o : HO} {t' : Nat} (I : Inv X pins σ H s) (k : ∀ b u, s.heap.get? b = some u → h'.get? b = some u) (hp : s.heap.objs.size ≤ a) (new : ObjOk X.prog X.w (upd H a o) h' a o) :
    Inv X pins σ (upd H a o) { s with heap := h', toks := t' } := I.un (Un.laid k hp (I.hok.fresh hp)) (I.hok.laid k hp new)
theorem Inv.write {x e : Addr} {o : HO} {t' : Nat} (I : Inv X pins σ H s) (mu : Mut (H x)) (he : e = x ∨ H e = some (.own x)) (k : ∀ b u, b ≠ e → s.heap.get? b = some u → h'.get? b = some u) (heo : ∃ u, h'.get? e = some u)
    (new : ObjOk X.prog X.w (upd H x o) h' x o) : Inv X pins σ (upd H x o) { s with heap := h', toks := t' } := I.un (Un.write mu he k heo) (I.hok.write mu he k heo new)
theorem Inv.weak {σ' : List (Option V)} (I : Inv X pins σ H s) (hl : σ'.length = σ.length) (w : ∀ (i : Nat) v, σ'[i]? = some (some v) → σ[i]? = some (some v)) : Inv X pins σ' H s :=
  ⟨I.ok, I.os, I.bare, I.base, let ⟨m, hn, hl'⟩ := I.loc; ⟨m, hn, fun i x v e1 e2 e3 => hl' i x v e1 (w i v e2) e3⟩, I.cell, I.free, I.freeC, I.pin, I.hok, hl.trans I.len⟩
theorem Inv.pins_of {pins' : List (Addr × Obj)} (I : Inv X pins σ H s) (h : ∀ p ∈ pins', s.heap.get? p.1 = some p.2 ∧ H p.1 = none ∧ p.1 ≠ X.env.locals ∧ p.1 ∉ X.fs ∧ ∀ v, p.2.data ≠ .cell v) : Inv X pins' σ H s :=
  ⟨I.ok, I.os, I.bare, I.base, I.loc, I.cell, I.free, I.freeC, fun p hp => (List.mem_append.mp hp).elim (fun z => I.pin p (List.mem_append_left _ z)) (h p), I.hok, I.len⟩
theorem nodup_ix {N : List Str} (hN : N.Nodup) {i j : Nat} {x : Str} (a : N[i]? = some x) (b : N[j]? = some x) : i = j := by
  obtain ⟨h1, e1⟩ := List.getElem?_eq_some_iff.mp a
  obtain ⟨h2, e2⟩ := List.getElem?_eq_some_iff.mp b
  exact (List.getElem_inj hN).mp (e1.trans e2.symm)
theorem store_ok2 {M : Model} {A : Around} {E : Value → Shared → Prop} {i : Nat} {x : Str} {v : V} {u : Value} {Q : Unit → Shared → Prop} (I : Inv X pins σ H s) (hN : X.N.Nodup) (hi : X.N[i]? = some x) (hx : Loc X.env.scope x) (r : RelV v u)
    (h : ∀ s', Inv X pins (σ.set i (some v)) H s' → (∃ a, Heap.SameBut a s.heap s'.heap ∧ (a = X.env.locals ∨ X.env.cells.lookup x = some a)) → Q () s') (hf : X.fn x = true ∨ X.env.scope.names.lookup x = some .local := by first | exact .inl rfl | exact .inr rfl | assumption) : wpAny M A (storeName X.env x u) Q E s := by
  obtain ⟨m, hn, hl⟩ := id I.loc
  have hcls : (X.env.scope.kind == .class || (X.env.scope.kind == .module && X.env.locals != X.env.globals)) = false := by rw [I.ok.kind]; rfl
  have hiσ : i < σ.length := by rw [I.len]; exact (List.getElem?_eq_some_iff.mp hi).1
  have cne := I.cne
  have tracked : ∀ {a : Addr} {h' : Heap}, (∃ o, s.heap.get? a = some o ∧ H a = none) → Heap.SameBut a s.heap h' → HOk X.prog X.w H h' := fun {a h'} ha hs b ob e => by
    obtain ⟨_, _, hfree⟩ := ha
    refine (I.hok b ob e).stay (fun c w' hc q => (hs.2 c ?_).trans q) (fun _ q => q) fun _ _ q => q
    rintro rfl
    rcases hc with rfl | hc
    · rw [hfree] at e; cases e
    · rw [hfree] at hc; cases hc
  rcases hx with hk | hk
  · refine wpAny_storeName_local hk hn (fun h' hn' hs => ?_) hcls
    obtain ⟨oL, _, _, hoL, _⟩ := id hn
    refine h _ ⟨I.ok, I.os, I.bare, ⟨fun b o e n hb hx => ?_, fun b o e n hb hx => ?_, I.base.free, fun b o e hx => ?_, I.base.tups, I.base.frzs, I.base.tbls⟩, ⟨_, hn', fun j y v' e1 e2 e3 => ?_⟩, fun y c e => ?_, I.free, I.freeC, fun p hp => ?_, tracked ⟨oL, hoL, I.free⟩ hs, by simpa using I.len⟩ ⟨_, hs, .inl rfl⟩
    · exact (hs.2 b (Nat.ne_of_lt (Nat.lt_of_lt_of_le (Heap.lt_size e) I.ok.above))).trans (I.base.keep b o e n hb hx)
    · obtain ⟨sl, e1⟩ := I.base.slot b o e n hb hx
      exact ⟨sl, (hs.2 b (Nat.ne_of_lt (Nat.lt_of_lt_of_le (Heap.lt_size e) I.ok.above))).trans e1⟩
    · obtain ⟨o', e1⟩ := I.base.there b o e hx
      exact ⟨o', (hs.2 b (Nat.ne_of_lt (Nat.lt_of_lt_of_le (Heap.lt_size e) I.ok.above))).trans e1⟩
    · by_cases hj : j = i
      · subst hj
        rw [hi] at e1; cases e1
        rw [List.getElem?_set_self hiσ] at e2
        cases e2
        exact ⟨u, r, .inl ⟨hk, by simp⟩⟩
      · rw [List.getElem?_set_ne (Ne.symm hj)] at e2
        obtain ⟨u', r', q⟩ := hl j y v' e1 e2 e3
        refine ⟨u', r', ?_⟩
        rcases q with ⟨k, e⟩ | ⟨k, c, e, z⟩
        · refine .inl ⟨k, ?_⟩
          have : y ≠ x := fun e => hj (nodup_ix hN e1 (e ▸ hi))
          simp [this, e]
        · exact .inr ⟨k, c, e, z.sameBut hs (cne y c e)⟩
    · obtain ⟨w', z⟩ := I.cell y c e
      exact ⟨w', z.sameBut hs (cne y c e)⟩
    · obtain ⟨e, n, ne, nf, d⟩ := I.pin p hp
      exact ⟨(hs.2 p.1 ne).trans e, n, ne, nf, d⟩
  · have hfn : X.fn x = true := by
      rcases hf with z | z
      · exact z
      · rw [z] at hk; cases hk
    obtain ⟨c, hc⟩ := I.ok.has x (.inl hk)
    obtain ⟨w', z⟩ := I.cell x c hc
    refine wpAny_storeName_cell I.ok.kind hk hc z (fun h' hc' hs => ?_)
    obtain ⟨oc, hoc, hocd⟩ := id z
    refine h { s with heap := h' } ⟨I.ok, I.os, I.bare, ⟨fun b o e n hb hx => ?_, fun b o e n hb hx => ?_, I.base.free, fun b o e hx => ?_, I.base.tups, I.base.frzs, I.base.tbls⟩, ⟨m, hn.sameBut hs (Ne.symm (cne x c hc)), fun j y v' e1 e2 e3 => ?_⟩, fun y c' e => ?_, I.free, I.freeC, fun p hp => ?_, tracked ⟨oc, hoc, I.freeC x c hc⟩ hs, by simpa using I.len⟩ ⟨c, hs, .inr hc⟩
    · exact (hs.2 b (Nat.ne_of_lt (Nat.lt_of_lt_of_le (Heap.lt_size e) (I.ok.cab x c hfn hc)))).trans (I.base.keep b o e n hb hx)
    · obtain ⟨sl, e1⟩ := I.base.slot b o e n hb hx
      exact ⟨sl, (hs.2 b (Nat.ne_of_lt (Nat.lt_of_lt_of_le (Heap.lt_size e) (I.ok.cab x c hfn hc)))).trans e1⟩
    · obtain ⟨o', e1⟩ := I.base.there b o e hx
      exact ⟨o', (hs.2 b (Nat.ne_of_lt (Nat.lt_of_lt_of_le (Heap.lt_size e) (I.ok.cab x c hfn hc)))).trans e1⟩
    · by_cases hj : j = i
      · subst hj
        rw [hi] at e1; cases e1
        rw [List.getElem?_set_self hiσ] at e2
        cases e2
        exact ⟨u, r, .inr ⟨.inl hk, c, hc, hc'⟩⟩
      · rw [List.getElem?_set_ne (Ne.symm hj)] at e2
        obtain ⟨u', r', q⟩ := hl j y v' e1 e2 e3
        refine ⟨u', r', ?_⟩
        rcases q with q | ⟨k, c', e, z'⟩
        · exact .inl q
        · refine .inr ⟨k, c', e, z'.sameBut hs ?_⟩
          rintro rfl
          exact hj (nodup_ix hN e1 (I.ok.inj _ _ _ e hc ▸ hi))
    · by_cases hcc : c' = c
      · subst hcc; exact ⟨_, hc'⟩
      · obtain ⟨w2, z2⟩ := I.cell y c' e
        exact ⟨w2, z2.sameBut hs hcc⟩
    · obtain ⟨e, n, ne, nf, d⟩ := I.pin p hp
      refine ⟨(hs.2 p.1 ?_).trans e, n, ne, nf, d⟩
      intro q
      rw [q, hoc] at e
      have q' : oc = p.2 := Option.some.inj e
      exact d w' (by rw [← q']; exact hocd)
theorem store_ok {M : Model} {A : Around} {E : Value → Shared → Prop} {i : Nat} {x : Str} {v : V} {u : Value} {Q : Unit → Shared → Prop} (I : Inv X pins σ H s) (hN : X.N.Nodup) (hi : X.N[i]? = some x) (hx : Loc X.env.scope x) (r : RelV v u)
    (h : ∀ s', Inv X pins (σ.set i (some v)) H s' → Q () s') (hf : X.fn x = true ∨ X.env.scope.names.lookup x = some .local := by first | exact .inl rfl | exact .inr rfl | assumption) : wpAny M A (storeName X.env x u) Q E s :=
  store_ok2 I hN hi hx r (fun s' I' _ => h s' I') hf
theorem Inv.call' {s' : Shared} {ch : List Addr} (I : Inv X pins σ H s) (ho : s'.os = s.os) (u : Un (frs X.stack) ch H H' s.heap s'.heap) (hok : HOk X.prog X.w H' s'.heap) (hg : AllBare s'.gens)
    (hch : ∀ b ∈ ch, (b ∈ X.ex ∨ X.s₀.heap.objs.size ≤ b) ∧ b ≠ X.env.locals ∧ (∀ x c, X.env.cells.lookup x = some c → c ≠ b) ∧ ∀ p ∈ X.pn ++ pins, p.1 ≠ b) : Inv X pins σ H' s' := by
  obtain ⟨h', g', d', t', o'⟩ := s'
  have e : o' = s.os := ho
  subst e
  exact I.call (g' := g') (t' := t') (d' := d') u hok hg hch
end
abbrev XK := Value → Option Addr → Hp → Prop
abbrev St := List (Option V)
abbrev VK := V → Hp → Prop
abbrev TE := St → Hp → VK → Prop
abbrev TT := St → Hp → (Bool → Hp → Prop) → Prop
abbrev TA := St → Hp → (List V → Hp → Prop) → Prop
structure Ends where
  nx : St → Hp → Prop
  rt : VK
  bk : St → Hp → Prop := fun _ _ => False
  ct : St → Hp → Prop := fun _ _ => False
abbrev TS := Ends → St → Hp → Prop
def EP (X : Cx) (pins : List (Addr × Obj)) (σ : St) (Q : VK) (u : Value) (s' : Shared) : Prop := ∃ v H', Inv X pins σ H' s' ∧ RelV v u ∧ Q v H'
def TP (X : Cx) (pins : List (Addr × Obj)) (σ : St) (Q : Bool → Hp → Prop) (b : Bool) (s' : Shared) : Prop := ∃ H', Inv X pins σ H' s' ∧ Q b H'
def AP (X : Cx) (pins : List (Addr × Obj)) (σ : St) (Q : List V → Hp → Prop) (us : List Value) (s' : Shared) : Prop := ∃ vs H', Inv X pins σ H' s' ∧ Vals vs us ∧ Q vs H'
def SP (X : Cx) (pins : List (Addr × Obj)) (D : Ends) (f : Flow) (s' : Shared) : Prop :=
  match f with
  | .next => ∃ σ' H', Inv X pins σ' H' s' ∧ D.nx σ' H'
  | .brk => ∃ σ' H', Inv X pins σ' H' s' ∧ D.bk σ' H'
  | .cont => ∃ σ' H', Inv X pins σ' H' s' ∧ D.ct σ' H'
  | .ret u => ∃ v σ' H', Inv X pins σ' H' s' ∧ RelV v u ∧ D.rt v H'
def PE (X : Cx) (e : Expr) (t : TE) : Prop :=
  ∀ (pins : List (Addr × Obj)) (s : Shared) (σ : St) (H : Hp) (Q : VK), Inv X pins σ H s → t σ H Q → wpAny (model X.prog X.w) X.A (eval e X.env) (EP X pins σ Q) X.xe s
def PT (X : Cx) (e : Expr) (t : TT) : Prop :=
  ∀ (pins : List (Addr × Obj)) (s : Shared) (σ : St) (H : Hp) (Q : Bool → Hp → Prop), Inv X pins σ H s → t σ H Q → wpAny (model X.prog X.w) X.A (isTrue e X.env (eval e X.env)) (TP X pins σ Q) X.xe s
def PW (X : Cx) (e : Expr) (t : TT) : Prop :=
  ∀ (whole : Sem Value) (pins : List (Addr × Obj)) (s : Shared) (σ : St) (H : Hp) (Q : Bool → Hp → Prop), Inv X pins σ H s → t σ H Q → wpAny (model X.prog X.w) X.A (isTrue e X.env whole) (TP X pins σ Q) X.xe s
theorem PW.pt {X : Cx} {e : Expr} {t : TT} (h : PW X e t) : PT X e t := h _
def PA (X : Cx) (es : List Expr) (t : TA) : Prop :=
  ∀ (pos : Pos) (pins : List (Addr × Obj)) (s : Shared) (σ : St) (H : Hp) (Q : List V → Hp → Prop), Inv X pins σ H s → t σ H Q → wpAny (model X.prog X.w) X.A (spliced (backTo pos (starEach es X.env))) (AP X pins σ Q) X.xe s
def PS (X : Cx) (st : Stmt) (t : TS) : Prop :=
  ∀ (pins : List (Addr × Obj)) (s : Shared) (σ : St) (H : Hp) (D : Ends), Inv X pins σ H s → t D σ H → wpAny (model X.prog X.w) X.A (exec st X.env) (SP X pins D) X.xe s
def PSs (X : Cx) (st : List Stmt) (t : TS) : Prop :=
  ∀ (pins : List (Addr × Obj)) (s : Shared) (σ : St) (H : Hp) (D : Ends), Inv X pins σ H s → t D σ H → wpAny (model X.prog X.w) X.A (execs st X.env) (SP X pins D) X.xe s
theorem thn {α : Type} {t : Sem α} {Q Q' : α → Shared → Prop} {M : Model} {A : Around} {E : Value → Shared → Prop} {s : Shared} (h : wpAny M A t Q E s) (hQ : ∀ a s, Q a s → Q' a s) : wpAny M A t Q' E s := wpAny_mono h hQ fun _ _ x => x
end L2
namespace L2
open PySem PySem.Spec PyProof.Rows
section
variable {X : Cx}
theorem bin {a b : Expr} {ta tb : TE} (ha : PE X a ta) (hb : PE X b tb) {pins : List (Addr × Obj)} {s : Shared} {σ : St} {H : Hp} {R : V → V → Hp → Prop} (I : Inv X pins σ H s) (h : ta σ H fun x H1 => tb σ H1 fun y H2 => R x y H2)
    {α : Type} {Q : α → Shared → Prop} {f : Value → Value → Sem α}
    (hf : ∀ v u s2 x y H2, Inv X pins σ H2 s2 → RelV x v → RelV y u → R x y H2 → wpAny (model X.prog X.w) X.A (f v u) Q X.xe s2) :
    wpAny (model X.prog X.w) X.A (eval a X.env) (fun v s₁ => wpAny (model X.prog X.w) X.A (eval b X.env) (fun u s₂ => wpAny (model X.prog X.w) X.A (f v u) Q X.xe s₂) X.xe s₁) X.xe s := by
  refine thn (ha pins s σ H _ I h) fun v s1 ⟨x, H1, I1, r1, q1⟩ => ?_
  refine thn (hb pins s1 σ H1 _ I1 q1) fun u s2 ⟨y, H2, I2, r2, q2⟩ => ?_
  exact hf v u s2 x y H2 I2 r1 r2 q2
def tVar (i : Nat) : TE := fun σ H Q => ∃ v, σ[i]? = some (some v) ∧ Q v H
def tC (v : V) : TE := fun _ H Q => Q v H
theorem pe_var {i : Nat} {x : Str} {pos : Pos} (hN : X.N[i]? = some x) (hv : Vis X.env.scope x) (hd : (x == ("__debug__" : Str)) = false := by decide) (hcd : (x == ("__classdict__" : Str)) = false := by decide) : PE X (.Name x pos) (tVar i) := by
  intro pins s σ H Q I h
  obtain ⟨v, e, h⟩ := h
  obtain ⟨m, hn, hl⟩ := I.loc
  obtain ⟨u, r, l⟩ := hl i x v hN e hv
  have fin : EP X pins σ Q u s := ⟨v, H, I, r, h⟩
  rcases l with ⟨hk, hm⟩ | ⟨hk, c, hc, hcell⟩
  · exact wpAny_Name (wpAny_loadName_local I.ok.kind hk hn hm fin) hd
  · rcases hk with hk | hk
    · exact wpAny_Name (wpAny_loadName_cell I.ok.kind hk hc hcell fin) hd
    · exact wpAny_Name (wpAny_loadName_free I.ok.kind hk hc hcell fin hcd) hd
theorem pe_int {i j pos} : PE X (.Constant (.int i) j pos) (tC (.int i)) := fun _ _ _ H _ I h => wpAny_Constant_int ⟨.int i, H, I.tok _, ⟨_, rfl⟩, h⟩
theorem pe_bl {b j pos} : PE X (.Constant (.bool b) j pos) (tC (.bl b)) := fun _ _ _ H _ I h => Constant_bool ⟨.bl b, H, I, rfl, h⟩
theorem pe_non {j pos} : PE X (.Constant .none j pos) (tC .non) := fun _ _ _ H _ I h => Constant_none ⟨.non, H, I, rfl, h⟩
theorem pe_str {x j pos} : PE X (.Constant (.str x) j pos) (tC (.str x)) := fun _ _ _ H _ I h => Calls.Constant_str ⟨.str x, H, I.tok _, ⟨_, rfl⟩, h⟩
def Gl (X : Cx) (x : Str) : Prop := X.env.kindOf x = some .globalImplicit
theorem ld_glob {E : Value → Shared → Prop} {pins : List (Addr × Obj)} {s : Shared} {σ : St} {H : Hp} {x : Str} {u : Value} {pos : Pos} {Q : Value → Shared → Prop} (I : Inv X pins σ H s) (hg : Gl X x) (hm : X.mg x = some u) (h : Q u s)
    (hd : (x == ("__debug__" : Str)) = false := by decide) : wpAny (model X.prog X.w) X.A (eval (.Name x pos) X.env) Q E s :=
  Calls.Name_function_global I.ok.kind hg (Calls.loadGlobal_global (by rw [I.ok.glob]; exact I.mod.glob.keeps I.bk) hm h) hd
theorem ld_blt {E : Value → Shared → Prop} {pins : List (Addr × Obj)} {s : Shared} {σ : St} {H : Hp} {x : Str} {u : Value} {pos : Pos} {Q : Value → Shared → Prop} (I : Inv X pins σ H s) (hg : Gl X x) (hm : X.mg x = none) (hv : bootBuiltins x = some u) (h : Q u s)
    (hn : x ≠ "__name__" := by decide) (hd : (x == ("__debug__" : Str)) = false := by decide) : wpAny (model X.prog X.w) X.A (eval (.Name x pos) X.env) Q E s := by
  obtain ⟨mb, h1, h2⟩ := I.mod.blt
  exact Calls.Name_function_global I.ok.kind hg (Calls.loadGlobal_builtin (by rw [I.ok.glob]; exact I.mod.glob.keeps I.bk) hm (by rw [I.ok.blt]; exact h1.keeps I.bk) ((h2 x hn).trans hv) h) hd
theorem pe_glob {x : Str} {v : V} {u : Value} {pos : Pos} (hg : Gl X x) (hm : X.mg x = some u) (r : RelV v u) (hd : (x == ("__debug__" : Str)) = false := by decide) : PE X (.Name x pos) (tC v) :=
  fun _ _ _ H _ I h => ld_glob I hg hm ⟨v, H, I, r, h⟩ hd
theorem pe_bltn {x : Str} {v : V} {u : Value} {pos : Pos} (hg : Gl X x) (hm : X.mg x = none) (hv : bootBuiltins x = some u) (r : RelV v u) (hn : x ≠ "__name__" := by decide) (hd : (x == ("__debug__" : Str)) = false := by decide) : PE X (.Name x pos) (tC v) :=
  fun _ _ _ H _ I h => ld_blt I hg hm hv ⟨v, H, I, r, h⟩ hn hd
def t2I (ta tb : TE) (k : Int → Int → Hp → Prop) : St → Hp → Prop := fun σ H => ta σ H fun x H1 => tb σ H1 fun y H2 => ∃ i j, x = .int i ∧ y = .int j ∧ k i j H2
def tAdd (ta tb : TE) : TE := fun σ H Q => t2I ta tb (fun i j H2 => Q (.int (i + j)) H2) σ H
def tSub (ta tb : TE) : TE := fun σ H Q => t2I ta tb (fun i j H2 => Q (.int (i - j)) H2) σ H
def tMul (ta tb : TE) : TE := fun σ H Q => t2I ta tb (fun i j H2 => (-(2 ^ 64) < i ∧ i < 2 ^ 64) ∧ Q (.int (i * j)) H2) σ H
variable {a b : Expr} {ta tb : TE} {pos : Pos}
def PC (X : Cx) (op : CmpOp) (a b : Expr) (t : TE) : Prop :=
  ∀ (pins : List (Addr × Obj)) (s : Shared) (σ : St) (H : Hp) (Q : VK), Inv X pins σ H s → t σ H Q →
    wpAny (model X.prog X.w) X.A (eval a X.env) (fun v s₁ => wpAny (model X.prog X.w) X.A (eval b X.env) (fun u s₂ => wpAny (model X.prog X.w) X.A (compareOp op v u) (EP X pins σ Q) X.xe s₂) X.xe s₁) X.xe s
def tCmp (p : Int → Int → Bool) (ta tb : TE) : TE := fun σ H Q => t2I ta tb (fun i j H2 => Q (.bl (p i j)) H2) σ H
abbrev tLt : TE → TE → TE := tCmp fun i j => decide (i < j)
abbrev tLe : TE → TE → TE := tCmp fun i j => decide (i ≤ j)
abbrev tGt : TE → TE → TE := tCmp fun i j => decide (j < i)
abbrev tGe : TE → TE → TE := tCmp fun i j => decide (j ≤ i)
abbrev tEqI : TE → TE → TE := tCmp fun i j => decide (i = j)
abbrev tNeI : TE → TE → TE := tCmp fun i j => !decide (i = j)
def tIsN (ta : TE) : TE := fun σ H Q => ta σ H fun x H1 => Q (.bl (decide (x = .non))) H1
def tNotN (ta : TE) : TE := fun σ H Q => ta σ H fun x H1 => Q (.bl (!decide (x = .non))) H1
def tB (t : TE) : TT := fun σ H Q => t σ H fun x H1 => ∃ c, x = .bl c ∧ Q c H1
theorem pt_cmp {op : CmpOp} {t : TE} (h : PC X op a b t) (h1 : behindInMarks op b = false := by first | exact nobehind _ (by decide) (by decide) | rfl) : PT X (.Compare a [op] [b] pos) (tB t) := by
  intro pins s σ H Q I hw
  refine wpAny_isTrue_Compare1 (thn (h pins s σ H _ I hw) fun v s1 h1 => thn h1 fun u s2 h2 => thn h2 fun c s3 ⟨x, H1, I1, r1, q1⟩ => ?_) h1
  obtain ⟨d, rfl, q⟩ := q1
  cases r1
  exact wpAny_truthy_bool ⟨H1, I1, q⟩
theorem pt_val {e : Expr} {t : TE} (h : PE X e t) (he : ∀ whole, isTrue e X.env whole = (do let v ← whole; standAt e.pos; holding [v] (truthy v)) := by intro _; rfl) : PT X e (tB t) := by
  intro pins s σ H Q I hw
  refine isTrue_plain (thn (h pins s σ H _ I hw) fun v s1 ⟨x, H1, I1, r1, q1⟩ => ?_) (he _)
  obtain ⟨d, rfl, q⟩ := q1
  cases r1
  exact wpAny_truthy_bool ⟨H1, I1, q⟩
variable {tA tB' : TT} {rest : List Expr}
def tAnd (t u : TT) : TT := fun σ H Q => t σ H fun c H1 => if c = true then u σ H1 Q else Q false H1
def tOr (t u : TT) : TT := fun σ H Q => t σ H fun c H1 => if c = true then Q true H1 else u σ H1 Q
def tNot (t : TT) : TT := fun σ H Q => t σ H fun c H1 => Q (!c) H1
theorem pw_and1 (ha : PT X a tA) : PW X (.BoolOp .And [a] pos) tA := by
  intro wh pins s σ H Q I h
  refine isTrue_and (thn (ha pins s σ H Q I h) fun c s1 e => ?_)
  cases c with
  | true => exact isTrue_and_nil e
  | false => exact e
theorem pw_or1 (ha : PT X a tA) : PW X (.BoolOp .Or [a] pos) tA := by
  intro wh pins s σ H Q I h
  refine isTrue_or (thn (ha pins s σ H Q I h) fun c s1 e => ?_)
  cases c with
  | false => exact isTrue_or_nil e
  | true => exact e
theorem pw_and (ha : PT X a tA) (hb : PW X (.BoolOp .And (b :: rest) pos) tB') : PW X (.BoolOp .And (a :: b :: rest) pos) (tAnd tA tB') := by
  intro wh pins s σ H Q I h
  refine isTrue_and (thn (ha pins s σ H _ I h) fun c s1 ⟨H1, I1, q1⟩ => ?_)
  cases c with
  | true => exact hb wh pins s1 σ H1 Q I1 q1
  | false => exact ⟨H1, I1, q1⟩
theorem pw_or (ha : PT X a tA) (hb : PW X (.BoolOp .Or (b :: rest) pos) tB') : PW X (.BoolOp .Or (a :: b :: rest) pos) (tOr tA tB') := by
  intro wh pins s σ H Q I h
  refine isTrue_or (thn (ha pins s σ H _ I h) fun c s1 ⟨H1, I1, q1⟩ => ?_)
  cases c with
  | true => exact ⟨H1, I1, q1⟩
  | false => exact hb wh pins s1 σ H1 Q I1 q1
theorem pt_not (ha : PT X a tA) : PT X (.UnaryOp .Not a pos) (tNot tA) := by
  intro pins s σ H Q I h
  exact isTrue_not (ha pins s σ H (fun c H1 => Q (!c) H1) I h)
def tAndV (ta tb : TE) : TE := fun σ H Q => ta σ H fun x H1 => ∃ c, x = .bl c ∧ if c = true then tb σ H1 Q else Q (.bl false) H1
def tOrV (ta tb : TE) : TE := fun σ H Q => ta σ H fun x H1 => ∃ c, x = .bl c ∧ if c = true then Q (.bl true) H1 else tb σ H1 Q
def tNotV (ta : TE) : TE := fun σ H Q => ta σ H fun x H1 => ∃ c, x = .bl c ∧ Q (.bl (!c)) H1
theorem pe_one {op} {t : TE} (h : PE X a t) : PE X (.BoolOp op [a] pos) t := fun pins s σ H Q I hw => BoolOp_one (h pins s σ H Q I hw)
theorem pe_and (ha : PE X a ta) (hb : PE X (.BoolOp .And (b :: rest) pos) tb) : PE X (.BoolOp .And (a :: b :: rest) pos) (tAndV ta tb) := by
  intro pins s σ H Q I h
  refine BoolOp_and (thn (ha pins s σ H _ I h) fun v s1 ⟨x, H1, I1, r1, q1⟩ => ?_)
  obtain ⟨c, rfl, q1⟩ := q1
  cases r1
  refine wpAny_truthy_bool ?_
  cases c with
  | true => exact hb pins s1 σ H1 Q I1 q1
  | false => exact ⟨.bl false, H1, I1, rfl, q1⟩
theorem pe_not (ha : PE X a ta) : PE X (.UnaryOp .Not a pos) (tNotV ta) := by
  intro pins s σ H Q I h
  refine UnaryOp_ (thn (ha pins s σ H _ I h) fun v s1 ⟨x, H1, I1, r1, q1⟩ => ?_)
  obtain ⟨c, rfl, q1⟩ := q1
  cases r1
  exact not_of (wpAny_truthy_bool ⟨.bl (!c), H1, I1, rfl, q1⟩)
def tIf (t : TT) (ta tb : TE) : TE := fun σ H Q => t σ H fun c H1 => if c = true then ta σ H1 Q else tb σ H1 Q
theorem pe_ifExp {c : Expr} (hc : PT X c tA) (ha : PE X a ta) (hb : PE X b tb) : PE X (.IfExp c a b pos) (tIf tA ta tb) := by
  intro pins s σ H Q I h
  refine wpAny_IfExp (thn (hc pins s σ H _ I h) fun d s1 ⟨H1, I1, q1⟩ => ?_)
  cases d with
  | true => exact ha pins s1 σ H1 Q I1 q1
  | false => exact hb pins s1 σ H1 Q I1 q1
end
end L2
namespace L2
open PySem PySem.Spec PyProof.Rows
def SqL (K : PySem.W.Frag) (H : Hp) (a : Addr) (xs : List V) : Prop :=
  Rd H a (.lst xs) ∨
    ∃ (o : Obj) (its : Array Value) (n : Nat), K.lookup a = some o ∧ o.cls = .type "list" ∧ o.dict = none ∧ o.data = .seq its n ∧ its.size ≤ sizeLine ∧ Vals xs its.toList
def SqT (K : PySem.W.Frag) (H : Hp) (a : Addr) (xs : List V) : Prop :=
  Rd H a (.tup xs) ∨
    ∃ (o : Obj) (its : Array Value) (n : Nat), K.lookup a = some o ∧ o.cls = .type "tuple" ∧ o.data = .seq its n ∧ its.size ≤ sizeLine ∧ Vals xs its.toList
def absV : Value → Option V
  | .none => some .non
  | .bool b => some (.bl b)
  | .int i _ => some (.int i)
  | .str x _ => some (.str x)
  | .bytes b _ => some (.byt b)
  | .float b _ => some (.flt b)
  | .ref a => some (.ref a)
  | .type n => some (.ty n)
  | _ => none
theorem RelV.abs {x : V} {u : Value} (r : RelV x u) : absV u = some x := by
  cases x with
  | non => cases r; rfl
  | bl _ => cases r; rfl
  | int _ => obtain ⟨t, rfl⟩ := r; rfl
  | str _ => obtain ⟨t, rfl⟩ := r; rfl
  | byt _ => obtain ⟨t, rfl⟩ := r; rfl
  | flt _ => obtain ⟨t, rfl⟩ := r; rfl
  | ref _ => cases r; rfl
  | ty _ => cases r; rfl
theorem RelV.inj {x y : V} {u : Value} (r : RelV x u) (q : RelV y u) : x = y := Option.some.inj (r.abs.symm.trans q.abs)
theorem Vals.inj : ∀ {xs ys : List V} {us : List Value}, Vals xs us → Vals ys us → xs = ys
  | _, _, _, .nil, .nil => rfl
  | _, _, _, .cons r t, .cons r' t' => by rw [r.inj r', Vals.inj t t']
section
variable {X : Cx} {pins : List (Addr × Obj)} {σ : St} {H : Hp} {s : Shared} {a : Addr} {xs ys : List V}
theorem SqL.of {K : PySem.W.Frag} (h : H a = some (.lst xs)) : SqL K H a xs := .inl (.inl h)
theorem SqT.of {K : PySem.W.Frag} (h : H a = some (.tup xs)) : SqT K H a xs := .inl (.inl h)
theorem Inv.list (I : Inv X pins σ H s) (h : SqL X.K H a xs) : ∃ its : List Value, Vals xs its ∧ PlainL s.heap a its.toArray ∧ xs.length ≤ sizeLine := by
  rcases h with h | ⟨o, its, n, hk, hc, hd, hs, hz, r⟩
  · obtain ⟨z, its, n, r, e⟩ := h.ok I.hok
    exact ⟨its, r, ⟨_, n, e, rfl, rfl, rfl⟩, z⟩
  · refine ⟨its.toList, r, ⟨o, n, I.kIn a o hk, hc, hd, by simpa using hs⟩, ?_⟩
    have e := r.length
    simp only [Array.length_toList] at e
    omega
theorem Inv.tuple (I : Inv X pins σ H s) (h : SqT X.K H a xs) : ∃ its : List Value, Vals xs its ∧ IsTup s.heap a its.toArray ∧ xs.length ≤ sizeLine := by
  rcases h with h | ⟨o, its, n, hk, hc, hs, hz, r⟩
  · obtain ⟨z, its, r, p⟩ := h.ok I.hok
    exact ⟨its, r, p, z⟩
  · refine ⟨its.toList, r, ⟨o, I.kIn a o hk, hc, n, by simpa using hs⟩, ?_⟩
    have e := r.length
    simp only [Array.length_toList] at e
    omega
theorem Inv.list_inj (I : Inv X pins σ H s) (h : SqL X.K H a xs) (h' : SqL X.K H a ys) : xs = ys := by
  obtain ⟨its, r, ⟨o, n, e, _, _, d⟩, _⟩ := I.list h
  obtain ⟨its', r', ⟨o', n', e', _, _, d'⟩, _⟩ := I.list h'
  rw [e] at e'; cases e'
  rw [d] at d'
  injection d' with d1 _
  have : its = its' := by simpa using congrArg Array.toList d1
  subst this
  exact r.inj r'
theorem Inv.tuple_inj (I : Inv X pins σ H s) (h : SqT X.K H a xs) (h' : SqT X.K H a ys) : xs = ys := by
  obtain ⟨its, r, ⟨o, e, _, n, d⟩, _⟩ := I.tuple h
  obtain ⟨its', r', ⟨o', e', _, n', d'⟩, _⟩ := I.tuple h'
  rw [e] at e'; cases e'
  rw [d] at d'
  injection d' with d1 _
  have : its = its' := by simpa using congrArg Array.toList d1
  subst this
  exact r.inj r'
end
abbrev Cx.wish (X : Cx) (E : Value → Shared → Prop) : Cx := { X with xe := E }
abbrev Cx.nox (X : Cx) : Cx := X.wish fun _ _ => False
theorem Cx.Ok.wish {X : Cx} (ok : X.Ok) (E : Value → Shared → Prop) : (X.wish E).Ok :=
  ⟨ok.mod, ok.kind, ok.glob, ok.blt, ok.above, ok.inj, ok.has, ok.cab, ok.hd, ok.frames, ok.stk, ok.exf, ok.bs, ok.bsz, ok.noex, ok.exfs, ok.funs, ok.frf⟩
theorem Cx.Ok.unwish {X : Cx} {E : Value → Shared → Prop} (ok : (X.wish E).Ok) : X.Ok :=
  ⟨ok.mod, ok.kind, ok.glob, ok.blt, ok.above, ok.inj, ok.has, ok.cab, ok.hd, ok.frames, ok.stk, ok.exf, ok.bs, ok.bsz, ok.noex, ok.exfs, ok.funs, ok.frf⟩
section
variable {X : Cx} {pins : List (Addr × Obj)} {σ : St} {H : Hp} {s : Shared} {E : Value → Shared → Prop}
theorem Inv.wish (I : Inv X pins σ H s) (E : Value → Shared → Prop) : Inv (X.wish E) pins σ H s := ⟨I.ok.wish E, I.os, I.bare, I.base, I.loc, I.cell, I.free, I.freeC, I.pin, I.hok, I.len⟩
theorem Inv.unwish (I : Inv (X.wish E) pins σ H s) : Inv X pins σ H s := ⟨I.ok.unwish, I.os, I.bare, I.base, I.loc, I.cell, I.free, I.freeC, I.pin, I.hok, I.len⟩
theorem SP.unwish {D : Ends} {f : Flow} {s' : Shared} (h : SP (X.wish E) pins D f s') : SP X pins D f s' := by
  cases f with
  | next => obtain ⟨σ', H', I, q⟩ := h; exact ⟨σ', H', I.unwish, q⟩
  | brk => obtain ⟨σ', H', I, q⟩ := h; exact ⟨σ', H', I.unwish, q⟩
  | cont => obtain ⟨σ', H', I, q⟩ := h; exact ⟨σ', H', I.unwish, q⟩
  | ret u => obtain ⟨v, σ', H', I, r, q⟩ := h; exact ⟨v, σ', H', I.unwish, r, q⟩
theorem PSs.nox {st : List Stmt} {t : TS} (h : PSs X.nox st t) : PSs X st t := fun pins s σ H D I hw =>
  wpAny_mono (h pins s σ H D (I.wish _) hw) (fun _ _ q => q.unwish) fun _ _ z => False.elim z
end
section
variable {X : Cx} {st : Stmt} {rest : List Stmt} {t u : TS} {e : Expr} {te : TE} {pos : Pos}
def tNext : TS := fun D σ H => D.nx σ H
def tSeq (t u : TS) : TS := fun D σ H => t { D with nx := u D } σ H
theorem pss_nil : PSs X [] tNext := fun _ _ σ H _ I h => wpAny_execs_nil ⟨σ, H, I, h⟩
theorem pss_cons (h1 : PS X st t) (h2 : PSs X rest u) : PSs X (st :: rest) (tSeq t u) := by
  intro pins s σ H D I h
  refine wpAny_execs_cons (thn (h1 pins s σ H { D with nx := u D } I h) fun f s1 q => ?_)
  cases f with
  | next =>
    obtain ⟨σ', H', I', q⟩ := q
    exact h2 pins s1 σ' H' D I' q
  | ret v => exact q
  | brk => exact q
  | cont => exact q
theorem pss_one (h1 : PS X st t) : PSs X [st] t := by
  intro pins s σ H D I h
  refine wpAny_execs_cons (thn (h1 pins s σ H D I h) fun f s1 q => ?_)
  cases f with
  | next => exact wpAny_execs_nil q
  | ret v => exact q
  | brk => exact q
  | cont => exact q
def tBreak : TS := fun D σ H => D.bk σ H
def tCont : TS := fun D σ H => D.ct σ H
theorem Inv.quiet {pins : List (Addr × Obj)} {σ : St} {H : Hp} {s : Shared} (I : Inv X pins σ H s) : interactive X.env = false := by simp [interactive, I.ok.kind]
def tDrop (te : TE) : TS := fun D σ H => te σ H fun _ H1 => D.nx σ H1
theorem ps_expr (he : PE X e te) (hs : swapsWith e none pos.line X.env = pure false := by rfl) : PS X (.Expr e pos) (tDrop te) := by
  intro pins s σ H D I h
  exact wpAny_Expr_any (thn (he pins s σ H _ I h) fun v s1 ⟨x, H1, I1, r1, q1⟩ => ⟨σ, H1, I1, q1⟩) I.quiet hs
def tRet (te : TE) : TS := fun D σ H => te σ H D.rt
theorem ps_ret (he : PE X e te) : PS X (.Return (some e) pos) (tRet te) := by
  intro pins s σ H D I h
  exact wpAny_Return_some (thn (he pins s σ H _ I h) fun v s1 ⟨x, H1, I1, r1, q1⟩ => ⟨x, σ, H1, I1, r1, q1⟩)
def tRetN : TS := fun D _ H => D.rt .non H
def tIfS (c : TT) (t u : TS) : TS := fun D σ H => c σ H fun b H1 => if b = true then t D σ H1 else u D σ H1
theorem ps_if {c : Expr} {a b : List Stmt} {tc : TT} (hc : PT X c tc) (ha : PSs X a t) (hb : PSs X b u) : PS X (.If c a b pos) (tIfS tc t u) := by
  intro pins s σ H D I h
  refine wpAny_If (thn (hc pins s σ H _ I h) fun d s1 ⟨H1, I1, q1⟩ => ?_)
  cases d with
  | true => exact ha pins s1 σ H1 D I1 q1
  | false => exact hb pins s1 σ H1 D I1 q1
def tNever : TS := fun _ _ _ => False
theorem pss_never {sts : List Stmt} : PSs X sts tNever := fun _ _ _ _ _ _ h => h.elim
end
abbrev TG := V → St → Hp → (St → Hp → Prop) → Prop
abbrev TGs := List V → St → Hp → (St → Hp → Prop) → Prop
def PG (X : Cx) (target : Expr) (t : TG) : Prop :=
  ∀ (pins : List (Addr × Obj)) (s : Shared) (σ : St) (H : Hp) (v : V) (u : Value) (Q : St → Hp → Prop), Inv X pins σ H s → RelV v u → t v σ H Q →
    wpAny (model X.prog X.w) X.A (assign target X.env u) (fun _ s' => ∃ σ' H', Inv X pins σ' H' s' ∧ Q σ' H') X.xe s
def PGs (X : Cx) (ts : List Expr) (t : TGs) : Prop :=
  ∀ (pins : List (Addr × Obj)) (s : Shared) (σ : St) (H : Hp) (vs : List V) (us : List Value) (Q : St → Hp → Prop), Inv X pins σ H s → Vals vs us → t vs σ H Q →
    wpAny (model X.prog X.w) X.A (assignInOrder ((assignEach ts X.env).map (·.2)) us) (fun _ s' => ∃ σ' H', Inv X pins σ' H' s' ∧ Q σ' H') X.xe s
abbrev TSet := V → V → V → Hp → (Hp → Prop) → Prop
def PSet (X : Cx) (t : TSet) : Prop :=
  ∀ (pins : List (Addr × Obj)) (s : Shared) (σ : St) (H : Hp) (o i v : V) (ov iv u : Value) (Q : Hp → Prop), Inv X pins σ H s → RelV o ov → RelV i iv → RelV v u → t o i v H Q →
    wpAny (model X.prog X.w) X.A (setItem ov iv u) (fun _ s' => ∃ H', Inv X pins σ H' s' ∧ Q H') X.xe s
abbrev TIp := V → V → Hp → VK → Prop
def PIp (X : Cx) (op : Operator) (t : TIp) : Prop :=
  ∀ (pins : List (Addr × Obj)) (s : Shared) (σ : St) (H : Hp) (x y : V) (v u : Value) (Q : VK), Inv X pins σ H s → RelV x v → RelV y u → t x y H Q →
    wpAny (model X.prog X.w) X.A (inplaceOp op v u) (EP X pins σ Q) X.xe s
section
variable {X : Cx} {pos : Pos}
def gName (i : Nat) : TG := fun v σ H Q => Q (σ.set i (some v)) H
theorem pg_name {i : Nat} {x : Str} (hN : X.N.Nodup) (hi : X.N[i]? = some x) (hx : Loc X.env.scope x) (hf : X.fn x = true ∨ X.env.scope.names.lookup x = some .local := by first | exact .inl rfl | exact .inr rfl | assumption) : PG X (.Name x pos) (gName i) := by
  intro pins s σ H v u Q I r h
  exact wpAny_assign_Name (store_ok I hN hi hx r (fun s' I' => ⟨_, H, I', h⟩) hf)
def gNil : TGs := fun vs σ H Q => vs = [] ∧ Q σ H
def gCons (t : TG) (u : TGs) : TGs := fun vs σ H Q => ∃ v r, vs = v :: r ∧ t v σ H fun σ' H' => u r σ' H' Q
theorem pgs_nil : PGs X [] gNil := by
  intro pins s σ H vs us Q I r h
  obtain ⟨e, h⟩ := h
  subst e
  cases r
  exact assignInOrder_nil ⟨σ, H, I, h⟩
theorem pgs_cons {e : Expr} {es : List Expr} {t : TG} {u : TGs} (h1 : PG X e t) (h2 : PGs X es u)
    (hs : (assignEach (e :: es) X.env).map (·.2) = assign e X.env :: (assignEach es X.env).map (·.2) := by rfl) : PGs X (e :: es) (gCons t u) := by
  intro pins s σ H vs us Q I r h
  obtain ⟨v, vr, e1, h⟩ := h
  subst e1
  cases r with
  | cons r rr =>
    rw [hs]
    refine assignInOrder_cons (thn (h1 pins s σ H _ _ _ I r h) fun _ s1 ⟨σ1, H1, I1, q1⟩ => ?_)
    exact h2 pins s1 σ1 H1 _ _ Q I1 rr q1
def gTup (K : PySem.W.Frag) (n : Nat) (t : TGs) : TG := fun v σ H Q => ∃ a xs, v = .ref a ∧ SqT K H a xs ∧ xs.length = n ∧ t xs σ H Q
theorem pg_tup {es : List Expr} {k : Nat} {t : TGs} {n : Nat} (hc : X.calm = true) (h : PGs X es t)
    (hn : (assignEach es X.env).length = n := by rfl) (hst : (assignEach es X.env).findIdx? (·.1) = none := by rfl) : PG X (.Tuple es k pos) (gTup X.K n t) := by
  intro pins s σ H v u Q I r hw
  obtain ⟨a, xs, e1, hq, hl, hw⟩ := hw
  subst e1
  cases r
  obtain ⟨its, rv, ht, hz⟩ := I.tuple hq
  refine assign_Tuple_tuple (I.ok.hd hc) ht (by simp [hn, ← hl, rv.length]) hst fun h' hx => ?_
  have I1 : Inv X pins σ H { s with heap := h' } := I.kept (t' := s.toks) fun b o e => hx b o (Nat.ne_of_lt (Heap.lt_size e)) e
  exact h pins _ σ H xs _ Q I1 (by simpa using rv) hw
def gSub (to ti : TE) (t : TSet) : TG := fun v σ H Q => to σ H fun o H1 => ti σ H1 fun i H2 => t o i v H2 fun H3 => Q σ H3
def tAsg (te : TE) (g : TG) : TS := fun D σ H => te σ H fun x H1 => g x σ H1 D.nx
theorem ps_asg {tg e : Expr} {te : TE} {g : TG} (he : PE X e te) (hg : PG X tg g) (hs : swapsWithSole [tg] e pos.line X.env = pure false := by rfl) (hw : swappedStores [tg] e X.env = pure none := by rfl)
    (h1 : (assignEach [tg] X.env).map (·.2) = [assign tg X.env] := by rfl) : PS X (.Assign [tg] e pos) (tAsg te g) := by
  intro pins s σ H D I h
  refine wpAny_Assign_stores (thn (he pins s σ H _ I h) fun v s1 ⟨x, H1, I1, r1, q1⟩ => ?_) hs hw
  rw [h1]
  exact thn (hg pins s1 σ H1 x v _ I1 r1 q1) fun _ s2 q => q
theorem ps_set {i : Nat} {x : Str} {e : Expr} {te : TE} {pos' : Pos} (hN : X.N.Nodup) (hi : X.N[i]? = some x) (hx : Loc X.env.scope x) (he : PE X e te) (hs : swapsWith e (some (.Name x pos')) pos.line X.env = pure false := by rfl) (hf : X.fn x = true ∨ X.env.scope.names.lookup x = some .local := by first | exact .inl rfl | exact .inr rfl | assumption) :
    PS X (.Assign [.Name x pos'] e pos) (tAsg te (gName i)) := by
  intro pins s σ H D I h
  refine wpAny_Assign_Name (thn (he pins s σ H _ I h) fun v s1 ⟨y, H1, I1, r1, q1⟩ => ?_) hs
  exact store_ok I1 hN hi hx r1 (fun s2 I2 => ⟨_, H1, I2, q1⟩) hf
def tPar (i j : Nat) (ta : TA) : TS := fun D σ H => ta σ H fun vs H1 => ∃ v w, vs = [v, w] ∧ D.nx ((σ.set i (some v)).set j (some w)) H1
theorem ps_par {i j : Nat} {x y : Str} {a b : Expr} {ta : TA} {px py pt : Pos} {kt k2 pt2} (hc : X.calm = true) (hN : X.N.Nodup) (hi : X.N[i]? = some x) (hj : X.N[j]? = some y) (hij : i ≠ j)
    (hx : X.env.scope.names.lookup x = some .local) (hy : X.env.scope.names.lookup y = some .local) (ha : PA X [a, b] ta)
    (hw : swappedStores [.Tuple [.Name x px, .Name y py] kt pt] (.Tuple [a, b] k2 pt2) X.env = pure (some [x, y]))
    (hs : swapsWithSole [.Tuple [.Name x px, .Name y py] kt pt] (.Tuple [a, b] k2 pt2) pos.line X.env = pure false := by rfl) :
    PS X (.Assign [.Tuple [.Name x px, .Name y py] kt pt] (.Tuple [a, b] k2 pt2) pos) (tPar i j ta) := by
  intro pins s σ H D I h
  rw [exec_Assign_arm]
  refine wpAny_bind (wpAny_standAt ?_)
  rw [hs]
  refine wpAny_bind (wpAny_pure ?_)
  rw [if_neg (by decide)]
  refine wpAny_bind (Tuple_ (thn (ha _ pins s σ H _ I h) fun us s1 ⟨vs, H1, I1, r1, q1⟩ => ?_))
  obtain ⟨v, w, e1, q1⟩ := q1
  subst e1
  obtain ⟨u1, u2, rfl, rv, rw'⟩ : ∃ u1 u2, us = [u1, u2] ∧ RelV v u1 ∧ RelV w u2 := by
    cases r1 with
    | cons p q =>
      cases q with
      | cons p' q' =>
        cases q'
        exact ⟨_, _, rfl, p, p'⟩
  refine wpAny_newObj_type ?_ (by show 2 ≤ sizeLine; decide)
  have I2 : Inv X pins σ H1 { s1 with heap := s1.heap.push { cls := .type "tuple", data := .seq [u1, u2].toArray } } := I1.kept (t' := s1.toks) fun b o e => Heap.get?_push_of_some _ e
  rw [hw]
  refine wpAny_bind (wpAny_pure ?_)
  show wpAny (model X.prog X.w) X.A (do rule "assign.swapped-stores"; let items ← unpackItems (.ref s1.heap.objs.size) 2 none; assignInOrder [fun v => bindName X.env y v, fun v => bindName X.env x v] items.reverse; pure Flow.next) _ _ _
  refine wpAny_bind (wpAny_rule (wpAny_bind (unpackItems_tuple (items := #[u1, u2]) (I.ok.hd hc) (IsTup.new s1.heap _) fun h' hx' => ?_)))
  have I3 := I2.kept (h' := h') (t' := s1.toks) fun b o e => hx' b o (Nat.ne_of_lt (Heap.lt_size e)) e
  show wpAny _ _ (assignInOrder [fun v => bindName X.env y v, fun v => bindName X.env x v] [u2, u1] >>= fun _ => pure Flow.next) _ _ _
  refine wpAny_bind (assignInOrder_cons (wpAny_bindName (store_ok I3 hN hj (.inl hy) rw' (fun s2 I4 => ?_) (.inr hy))))
  refine assignInOrder_cons (wpAny_bindName (store_ok I4 hN hi (.inl hx) rv (fun s3 I5 => assignInOrder_nil (wpAny_pure ?_)) (.inr hx)))
  rw [List.set_comm _ _ (Ne.symm hij)] at I5
  exact ⟨_, H1, I5, q1⟩
def tAug (i : Nat) (te : TE) (ti : TIp) : TS := fun D σ H => ∃ x, σ[i]? = some (some x) ∧ te σ H fun y H1 => ti x y H1 fun z H2 => D.nx (σ.set i (some z)) H2
def tAugS (to ti te : TE) (tget : V → V → Hp → VK → Prop) (tip : TIp) (tset : TSet) : TS := fun D σ H => to σ H fun o H1 => ti σ H1 fun i H2 => tget o i H2 fun x H3 => te σ H3 fun y H4 => tip x y H4 fun z H5 => tset o i z H5 fun H6 => D.nx σ H6
def PGet (X : Cx) (t : V → V → Hp → VK → Prop) : Prop :=
  ∀ (pins : List (Addr × Obj)) (s : Shared) (σ : St) (H : Hp) (o i : V) (ov iv : Value) (Q : VK), Inv X pins σ H s → RelV o ov → RelV i iv → t o i H Q →
    wpAny (model X.prog X.w) X.A (getItem ov iv) (EP X pins σ Q) X.xe s
def ipI (f : Int → Int → Int) : TIp := fun x y H Q => ∃ i j, x = .int i ∧ y = .int j ∧ Q (.int (f i j)) H
end
section
variable {X : Cx} {pos : Pos}
def tWhile (c : TT) (tb : TS) : TS := fun D σ H => ∃ W : Nat → St → Hp → Prop, (∃ m, W m σ H) ∧ ∀ m σ H, W m σ H →
  c σ H fun b H1 => if b = true then ∃ N : St → Hp → Prop, (∀ σ' H', N σ' H' → ∃ m', m' < m ∧ W m' σ' H') ∧ tb { D with nx := N, ct := N, bk := D.nx } σ H1 else D.nx σ H1
end
structure It where
  go : Nat → Hp → Prop
  yld : Nat → Hp → V → Hp → Prop
  stop : Nat → Hp → Prop
def FpOk (X : Cx) (pins : List (Addr × Obj)) (H : Hp) (b : Addr) : Prop :=
  H b = none ∧ b ≠ X.env.locals ∧ b ∉ X.fs ∧ (b ∈ X.ex ∨ X.s₀.heap.objs.size ≤ b) ∧ (∀ x c, X.env.cells.lookup x = some c → c ≠ b) ∧ ∀ p ∈ X.pn ++ pins, p.1 ≠ b
theorem Inv.fpOk {X : Cx} {pins : List (Addr × Obj)} {σ : St} {H H' : Hp} {s : Shared} {b : Addr} (I : Inv X pins σ H s) (hb : s.heap.objs.size ≤ b) (hn : H' b = none) : FpOk X pins H' b := by
  refine ⟨hn, Nat.ne_of_gt (Nat.lt_of_lt_of_le I.lt hb), I.nofs hb, .inr (Nat.le_trans I.sz hb), fun x c e z => ?_, fun p hp z => ?_⟩
  · obtain ⟨v, q⟩ := I.cell x c e
    exact absurd (Nat.lt_of_lt_of_le q.lt (by rw [z]; exact hb)) (Nat.lt_irrefl _)
  · exact absurd (Nat.lt_of_lt_of_le (Heap.lt_size (I.pin p hp).1) (by rw [z]; exact hb)) (Nat.lt_irrefl _)
structure Turn (P : Program) (w : World) (K : PySem.W.Frag) (tg : Expr) (J : It) (fp : List Addr) (it : Addr) (tn : Nat → Heap → Prop) : Prop where
  mem : it ∈ fp
  obj : ∀ i h, tn i h → ∀ b ∈ fp, ∃ o, h.get? b = some o ∧ ∀ v, o.data ≠ .cell v
  keep : ∀ i h h', tn i h → (∀ b ∈ fp, ∀ o, h.get? b = some o → h'.get? b = some o) → tn i h'
  item : ∀ (X : Cx), X.prog = P → X.w = w → X.K = K → X.calm = true → ∀ (i : Nat) (pins : List (Addr × Obj)) (s : Shared) (σ : St) (H : Hp) (E : Value → Shared → Prop), Inv X pins σ H s → (∀ b ∈ fp, FpOk X pins H b) → tn i s.heap → J.go i H →
    wpAny (model P w) X.A (pyNext (.ref it)) (fun r s1 => ∃ u, r = some u ∧
      wpAny (model P w) X.A (letOwnedTupleGo tg (.ref it) u) (fun _ s2 => ∃ x H', Inv X pins σ H' s2 ∧ RelV x u ∧ J.yld i H x H' ∧ tn (i + 1) s2.heap ∧ ∀ b ∈ fp, H' b = none) E s1) E s
  done : ∀ (X : Cx), X.prog = P → X.w = w → X.K = K → X.calm = true → ∀ (i : Nat) (pins : List (Addr × Obj)) (s : Shared) (σ : St) (H : Hp) (E : Value → Shared → Prop), Inv X pins σ H s → (∀ b ∈ fp, FpOk X pins H b) → tn i s.heap → J.stop i H →
    wpAny (model P w) X.A (pyNext (.ref it)) (fun r s1 => r = none ∧ Inv X pins σ H s1) E s
  self : ∀ (A : Around) (i : Nat) (s : Shared) (Q : Value → Shared → Prop) (E : Value → Shared → Prop), tn i s.heap → Q (.ref it) s → wpAny (model P w) A (pyIter (.ref it)) Q E s
abbrev TI := St → Hp → (It → Hp → Prop) → Prop
def PIE (X : Cx) (pins : List (Addr × Obj)) (σ : St) (tg : Expr) (R : It → Hp → Prop) (itv : Value) (s2 : Shared) : Prop :=
  ∃ (it : Addr) (fp : List Addr) (tn : Nat → Heap → Prop) (J : It) (H' : Hp), itv = .ref it ∧ Inv X pins σ H' s2 ∧ Turn X.prog X.w X.K tg J fp it tn ∧ tn 0 s2.heap ∧ (∀ b ∈ fp, FpOk X pins H' b) ∧ R J H'
def PI (X : Cx) (tg iter : Expr) (wi : TI) : Prop :=
  ∀ (pins : List (Addr × Obj)) (s : Shared) (σ : St) (H : Hp) (R : It → Hp → Prop), Inv X pins σ H s → wi σ H R →
    wpAny (model X.prog X.w) X.A (eval iter X.env) (fun v s1 => wpAny (model X.prog X.w) X.A (pyIter v) (PIE X pins σ tg R) X.xe s1) X.xe s
theorem go_of {M : Model} {A : Around} {E : Value → Shared → Prop} {s : Shared} {tg : Expr} {it : Addr} {u : Value} {o : Obj} {n : String} {vs : Array Value} {Q : Unit → Shared → Prop} (ho : s.heap.get? it = some o) (hc : o.cls = .type n) (hd : o.data = .fields vs)
    (hn : ["enumerate", "zip", "dict_itemiterator", "dict_reverseitemiterator", "odict_iterator", "itertools.zip_longest", "itertools.pairwise"].contains n = false) (hQ : Q () s) : wpAny M A (letOwnedTupleGo tg (.ref it) u) Q E s := by
  unfold letOwnedTupleGo
  cases tg <;> first
    | exact wpAny_pure hQ
    | (cases u <;> first
        | exact wpAny_pure hQ
        | (refine wpAny_bind (wpAny_load ho ?_)
           rw [hc, hd]
           show wpAny M A (if (["enumerate", "zip", "dict_itemiterator", "dict_reverseitemiterator", "odict_iterator", "itertools.zip_longest", "itertools.pairwise"].contains n && vs[0]? == some (rawInt _)) = true then _ else _) Q E s
           rw [if_neg (by intro h; rw [hn, Bool.false_and] at h; cases h)]
           exact wpAny_pure hQ))
def Itl (K : PySem.W.Frag) (a : Addr) : It :=
  ⟨fun i H => ∃ xs x, SqL K H a xs ∧ xs[i]? = some x, fun i H x H' => H' = H ∧ ∀ xs, SqL K H a xs → xs[i]? = some x, fun i H => ∃ xs, SqL K H a xs ∧ xs.length ≤ i⟩
def Itt (K : PySem.W.Frag) (a : Addr) : It :=
  ⟨fun i H => ∃ xs x, SqT K H a xs ∧ xs[i]? = some x, fun i H x H' => H' = H ∧ ∀ xs, SqT K H a xs → xs[i]? = some x, fun i H => ∃ xs, SqT K H a xs ∧ xs.length ≤ i⟩
def Itr (lo : Int) (n : Nat) : It := ⟨fun i _ => i < n, fun i H x H' => H' = H ∧ x = .int (lo + i), fun i _ => n ≤ i⟩
theorem turn_list {P : Program} {w : World} {K : PySem.W.Frag} {tg : Expr} (a it : Addr) : Turn P w K tg (Itl K a) [it] it (fun i h => h.IsListIter it a i) where
  mem := by simp
  obj := fun i h st b hb => by
    have e : b = it := by simpa using hb
    subst e
    obtain ⟨o, e, c, d⟩ := st
    exact ⟨o, e, fun v z => by rw [d] at z; cases z⟩
  keep := fun i h h' st k => st.at fun o e => k it (by simp) o e
  item := by
    intro X hP hw hK hc i pins s σ H E I hf st hg
    subst hP hw hK
    obtain ⟨xs, x, hq, hx⟩ := hg
    obtain ⟨its, rv, p, hz⟩ := I.list hq
    obtain ⟨u, hu, ru⟩ := rv.get hx
    obtain ⟨f0, f1, f2, f3, f4, f5⟩ := hf it (by simp)
    refine wpAny_pyNext_list_item st p.isList (x := u) (by simpa using hu) fun h' st' sb => ?_
    have I1 : Inv X pins σ H { s with heap := h' } := I.turned (t' := s.toks) (fun b o hb e => (sb.2 b hb).trans e) f0 f1 f3 f4 f5
    obtain ⟨o, e, c, d⟩ := id st'
    exact ⟨u, rfl, go_of (s := { s with heap := h' }) e c d (by decide) ⟨x, H, I1, ru, ⟨rfl, fun ys hy => by rw [I.list_inj hy hq]; exact hx⟩, st', fun b hb => (hf b hb).1⟩⟩
  done := by
    intro X hP hw hK hc i pins s σ H E I hf st hg
    subst hP hw hK
    obtain ⟨xs, hq, hx⟩ := hg
    obtain ⟨its, rv, p, hz⟩ := I.list hq
    obtain ⟨f0, f1, f2, f3, f4, f5⟩ := hf it (by simp)
    have hl := rv.length
    exact wpAny_pyNext_list_end (I.ok.hd hc) st p.isList (by simp; omega) fun h' eb => ⟨rfl, I.turned (t' := s.toks) (fun b o hb e => eb b o hb e) f0 f1 f3 f4 f5⟩
  self := fun _ _ _ _ _ st h => wpAny_pyIter_listiter st h
theorem turn_tuple {P : Program} {w : World} {K : PySem.W.Frag} {tg : Expr} (a it : Addr) : Turn P w K tg (Itt K a) [it] it (fun i h => h.IsTupleIter it a i) where
  mem := by simp
  obj := fun i h st b hb => by
    have e : b = it := by simpa using hb
    subst e
    obtain ⟨o, e, c, d⟩ := st
    exact ⟨o, e, fun v z => by rw [d] at z; cases z⟩
  keep := fun i h h' st k => st.at fun o e => k it (by simp) o e
  item := by
    intro X hP hw hK hc i pins s σ H E I hf st hg
    subst hP hw hK
    obtain ⟨xs, x, hq, hx⟩ := hg
    obtain ⟨its, rv, p, hz⟩ := I.tuple hq
    obtain ⟨u, hu, ru⟩ := rv.get hx
    obtain ⟨f0, f1, f2, f3, f4, f5⟩ := hf it (by simp)
    refine wpAny_pyNext_tuple_item st (show s.heap.IsTuple a its.toArray from p) (x := u) (by simpa using hu) fun h' st' sb => ?_
    have I1 : Inv X pins σ H { s with heap := h' } := I.turned (t' := s.toks) (fun b o hb e => (sb.2 b hb).trans e) f0 f1 f3 f4 f5
    obtain ⟨o, e, c, d⟩ := id st'
    exact ⟨u, rfl, go_of (s := { s with heap := h' }) e c d (by decide) ⟨x, H, I1, ru, ⟨rfl, fun ys hy => by rw [I.tuple_inj hy hq]; exact hx⟩, st', fun b hb => (hf b hb).1⟩⟩
  done := by
    intro X hP hw hK hc i pins s σ H E I hf st hg
    subst hP hw hK
    obtain ⟨xs, hq, hx⟩ := hg
    obtain ⟨its, rv, p, hz⟩ := I.tuple hq
    obtain ⟨f0, f1, f2, f3, f4, f5⟩ := hf it (by simp)
    have hl := rv.length
    exact wpAny_pyNext_tuple_end (I.ok.hd hc) st (show s.heap.IsTuple a its.toArray from p) (by simp; omega) fun h' eb => ⟨rfl, I.turned (t' := s.toks) (fun b o hb e => eb b o hb e) f0 f1 f3 f4 f5⟩
  self := fun _ _ _ _ _ st h => wpAny_pyIter_tupleiter st h
theorem turn_range {P : Program} {w : World} {K : PySem.W.Frag} {tg : Expr} (it : Addr) (lo : Int) (n : Nat) : Turn P w K tg (Itr lo n) [it] it (fun i h => IsRangeIter h it (lo + (i : Nat) * 1) ((n : Int) - (i : Nat)) 1) where
  mem := by simp
  obj := fun i h st b hb => by
    have e : b = it := by simpa using hb
    subst e
    exact ⟨_, st, fun v z => by
      have z' : Data.fields _ = Data.cell v := z
      cases z'⟩
  keep := fun i h h' st k => k it (by simp) _ st
  item := by
    intro X hP hw hK hc i pins s σ H E I hf st hg
    subst hP hw hK
    obtain ⟨f0, f1, f2, f3, f4, f5⟩ := hf it (by simp)
    have W := Walks.range (prog := X.prog) (w := X.w) (I.ok.hd hc) it lo 1 n
    refine W.item i s _ _ hg st fun v h' tk hv st' kk => ?_
    obtain ⟨t, rfl⟩ := hv
    have I1 : Inv X pins σ H { s with heap := h', toks := tk } := I.turned (fun b o hb e => kk b o (by simpa using hb) e) f0 f1 f3 f4 f5
    refine ⟨_, rfl, go_of (s := { s with heap := h', toks := tk }) (n := "range_iterator") st' rfl rfl (by decide) ⟨.int (lo + i), H, I1, ⟨t, ?_⟩, ⟨rfl, rfl⟩, st', fun b hb => (hf b hb).1⟩⟩
    rw [Int.mul_one]
  done := by
    intro X hP hw hK hc i pins s σ H E I hf st hg
    subst hP hw hK
    obtain ⟨f0, f1, f2, f3, f4, f5⟩ := hf it (by simp)
    exact wpAny_pyNext_range_end (I.ok.hd hc) st (by have : n ≤ i := hg; omega) fun h' eb => ⟨rfl, I.turned (t' := s.toks) (fun b o hb e => eb b o hb e) f0 f1 f3 f4 f5⟩
  self := fun _ _ _ _ _ st h => wpAny_pyIter_rangeiter st h
end L2
namespace L2
open PySem PySem.Spec PyProof.Rows
section
variable {X : Cx} {tg : Expr}
def iList (K : PySem.W.Frag) (tl : TE) : TI := fun σ H R => tl σ H fun x H1 => ∃ a, x = .ref a ∧ (∃ xs, SqL K H1 a xs) ∧ R (Itl K a) H1
def iTup (K : PySem.W.Frag) (tl : TE) : TI := fun σ H R => tl σ H fun x H1 => ∃ a, x = .ref a ∧ (∃ xs, SqT K H1 a xs) ∧ R (Itt K a) H1
theorem pi_list {l : Expr} {tl : TE} (hl : PE X l tl) : PI X tg l (iList X.K tl) := by
  intro pins s σ H R I h
  refine thn (hl pins s σ H _ I h) fun v s1 ⟨x, H1, I1, r1, q1⟩ => ?_
  obtain ⟨a, e, ⟨xs, hq⟩, q⟩ := q1
  subst e
  cases r1
  obtain ⟨its, rv, p, hz⟩ := I1.list hq
  refine wpAny_pyIter_list p.isList ?_
  refine ⟨s1.heap.objs.size, [s1.heap.objs.size], _, _, H1, rfl, I1.kept (t' := s1.toks) fun b o e => Heap.get?_push_of_some _ e, turn_list a _, ⟨_, Heap.get?_push_size _ rfl, rfl, rfl⟩, fun b hb => ?_, q⟩
  have e : b = s1.heap.objs.size := by simpa using hb
  subst e
  exact I1.fpOk (Nat.le_refl _) (I1.hok.fresh (Nat.le_refl _))
theorem pi_tup {l : Expr} {tl : TE} (hl : PE X l tl) : PI X tg l (iTup X.K tl) := by
  intro pins s σ H R I h
  refine thn (hl pins s σ H _ I h) fun v s1 ⟨x, H1, I1, r1, q1⟩ => ?_
  obtain ⟨a, e, ⟨xs, hq⟩, q⟩ := q1
  subst e
  cases r1
  obtain ⟨its, rv, p, hz⟩ := I1.tuple hq
  refine wpAny_pyIter_tuple (show s1.heap.IsTuple a its.toArray from p) ?_
  refine ⟨s1.heap.objs.size, [s1.heap.objs.size], _, _, H1, rfl, I1.kept (t' := s1.toks) fun b o e => Heap.get?_push_of_some _ e, turn_tuple a _, ⟨_, Heap.get?_push_size _ rfl, rfl, rfl⟩, fun b hb => ?_, q⟩
  have e : b = s1.heap.objs.size := by simpa using hb
  subst e
  exact I1.fpOk (Nat.le_refl _) (I1.hok.fresh (Nat.le_refl _))
theorem range_it {pins : List (Addr × Obj)} {σ : St} {H : Hp} {s : Shared} {R : It → Hp → Prop} {E : Value → Shared → Prop} {lo hi : Int} {t u v : Tok} {tk : Nat} (I : Inv X pins σ H s) (h1 : -(2 ^ 62) ≤ lo) (h2 : lo < 2 ^ 62) (h3 : -(2 ^ 62) ≤ hi) (h4 : hi < 2 ^ 62)
    (q : R (Itr lo (hi - lo).toNat) H) : wpAny (model X.prog X.w) X.A (pyIter (.ref s.heap.objs.size)) (PIE X pins σ tg R) E { s with heap := s.heap.push { cls := .type "range", data := .fields #[.int lo t, .int hi u, .int 1 v] }, toks := tk } := by
  refine wpAny_pyIter_range (IsRange.new ..) (small_one h1 h2 h3 h4) ?_
  have I1 : Inv X pins σ H { s with heap := s.heap.push { cls := .type "range", data := .fields #[.int lo t, .int hi u, .int 1 v] }, toks := tk } := I.kept fun b o e => Heap.get?_push_of_some _ e
  refine ⟨(s.heap.push { cls := .type "range", data := .fields #[.int lo t, .int hi u, .int 1 v] }).objs.size, [(s.heap.push { cls := .type "range", data := .fields #[.int lo t, .int hi u, .int 1 v] }).objs.size], _, _, H, rfl,
    I1.kept (t' := tk) fun b o e => Heap.get?_push_of_some _ e, turn_range _ lo (hi - lo).toNat, ?_, fun b hb => ?_, q⟩
  · have e1 : lo + ((0 : Nat) : Int) * 1 = lo := by simp
    have e2 : (((hi - lo).toNat : Nat) : Int) - ((0 : Nat) : Int) = Builtin.Range.rangeSize lo hi 1 := by rw [rangeSize_one]; split <;> omega
    show IsRangeIter _ _ (lo + ((0 : Nat) : Int) * 1) ((((hi - lo).toNat : Nat) : Int) - ((0 : Nat) : Int)) 1
    rw [e1, e2]
    exact Heap.get?_push_size _ rfl
  · have e : b = (s.heap.push { cls := .type "range", data := .fields #[.int lo t, .int hi u, .int 1 v] }).objs.size := by simpa using hb
    subst e
    exact I1.fpOk (Nat.le_refl _) (I1.hok.fresh (Nat.le_refl _))
def iRng1 (ta : TA) : TI := fun σ H R => ta σ H fun vs H1 => ∃ j : Int, vs = [.int j] ∧ -(2 ^ 62) ≤ j ∧ j < 2 ^ 62 ∧ R (Itr 0 j.toNat) H1
def iRng2 (ta : TA) : TI := fun σ H R => ta σ H fun vs H1 => ∃ i j : Int, vs = [.int i, .int j] ∧ (-(2 ^ 62) ≤ i ∧ i < 2 ^ 62 ∧ -(2 ^ 62) ≤ j ∧ j < 2 ^ 62) ∧ R (Itr i (j - i).toNat) H1
theorem pi_range1 {a : Expr} {ta : TA} {p pos : Pos} (hg : Gl X "range") (hm : X.mg "range" = none) (ha : PA X [a] ta) (hs : starEach [a] X.env = [(false, eval a X.env)] := by rfl) : PI X tg (.Call (.Name "range" p) [a] [] pos) (iRng1 ta) := by
  intro pins s σ H R I h
  refine Call_ (ld_blt I hg hm boot_range (PyProof.Rows.callWith_type1 (thn (ha pos pins s σ H _ I h) fun us s1 ⟨vs, H1, I1, r1, q1⟩ => ?_) hs rfl))
  obtain ⟨j, e, q1, q2, q⟩ := q1
  subst e
  cases r1 with
  | cons r rr =>
    cases rr
    obtain ⟨t, rfl⟩ := r
    exact call_range_1 (range_it I1 (by omega) (by omega) q1 q2 (by simpa using q))
def tFor (wi : TI) (g : TG) (tb : TS) : TS := fun D σ H => wi σ H fun J H1 => ∃ W : Nat → Nat → St → Hp → Prop, (∃ m, W 0 m σ H1) ∧ ∀ i m σ H, W i m σ H →
  (J.stop i H ∧ D.nx σ H) ∨ (J.go i H ∧ ∃ N : St → Hp → Prop, (∀ σ' H', N σ' H' → ∃ m', m' < m ∧ W (i + 1) m' σ' H') ∧ ∀ x H', J.yld i H x H' → g x σ H' fun σ2 H2 => tb { D with nx := N, ct := N, bk := D.nx } σ2 H2)
def pinsAt (fp : List Addr) (h : Heap) : List (Addr × Obj) := fp.filterMap fun b => (h.get? b).map fun o => (b, o)
theorem mem_pinsAt {fp : List Addr} {h : Heap} {b : Addr} {o : Obj} (hb : b ∈ fp) (e : h.get? b = some o) : (b, o) ∈ pinsAt fp h := List.mem_filterMap.mpr ⟨b, hb, by rw [e]; rfl⟩
theorem of_pinsAt {fp : List Addr} {h : Heap} {p : Addr × Obj} (hp : p ∈ pinsAt fp h) : p.1 ∈ fp ∧ h.get? p.1 = some p.2 := by
  obtain ⟨b, hb, e⟩ := List.mem_filterMap.mp hp
  cases q : h.get? b with
  | none => rw [q] at e; cases e
  | some o =>
    rw [q] at e
    have e' : (b, o) = p := Option.some.inj e
    subst e'
    exact ⟨hb, q⟩
theorem Inv.pinned {pins : List (Addr × Obj)} {σ : St} {H : Hp} {s : Shared} {fp : List Addr} (I : Inv X pins σ H s) (hf : ∀ b ∈ fp, FpOk X pins H b) (ho : ∀ b ∈ fp, ∃ o, s.heap.get? b = some o ∧ ∀ v, o.data ≠ .cell v) : Inv X (pins ++ pinsAt fp s.heap) σ H s :=
  I.pins_of fun p hp => (List.mem_append.mp hp).elim (fun z => I.pin p (List.mem_append_right _ z)) fun z => by
    obtain ⟨hb, e⟩ := of_pinsAt z
    obtain ⟨f0, f1, f2, _⟩ := hf p.1 hb
    obtain ⟨o, e', d⟩ := ho p.1 hb
    rw [e] at e'; cases e'
    exact ⟨e, f0, f1, f2, d⟩
theorem Inv.unpinned {pins pl : List (Addr × Obj)} {σ : St} {H : Hp} {s : Shared} (I : Inv X (pins ++ pl) σ H s) : Inv X pins σ H s := I.pins_of fun p hp => I.pin p (List.mem_append_right _ (List.mem_append_left _ hp))
theorem ps_for {iter : Expr} {body : List Stmt} {wi : TI} {g : TG} {tb : TS} {pos : Pos} (hp : PassesOwn (model X.prog X.w) X.A X.env X.xe) (hc : X.calm = true) (hi : PI X tg iter wi) (hg : PG X tg g) (hb : PSs X body tb)
    (hs : ∀ x, foldedSetIterable iter X.env x = pure x := by intro _; rfl) : PS X (.For tg iter body [] pos) (tFor wi g tb) := by
  intro pins s σ H D I h
  refine wpAny_For (thn (hi pins s σ H _ I h) fun v s1 h1 => thn h1 fun itv s2 h2 => ?_) hs
  obtain ⟨it, fp, tn, J, H2, e, I2, T, st2, f2, W, ⟨m0, w0⟩, turn⟩ := h2
  subst e
  have stat : ∀ {H' : Hp}, (∀ b ∈ fp, H' b = none) → ∀ b ∈ fp, FpOk X pins H' b := fun hn b hb => ⟨hn b hb, (f2 b hb).2⟩
  refine codeAny_forLoop_any (fun n s' => ∃ i σ' H', Inv X pins σ' H' s' ∧ tn i s'.heap ∧ (∀ b ∈ fp, H' b = none) ∧ W i n σ' H') ?_ m0 ⟨0, σ, H2, I2, st2, fun b hb => (f2 b hb).1, w0⟩
  rintro n s3 ⟨i, σ3, H3, I3, st3, fr3, w3⟩
  rcases turn i n σ3 H3 w3 with ⟨stop, qn⟩ | ⟨go, N, hN, step⟩
  · refine wpAny_passesOwn hp (thn (T.done X rfl rfl rfl hc i pins s3 σ3 H3 X.xe I3 (stat fr3) st3 stop) fun r s4 ⟨hr, I4⟩ => ?_)
    subst hr
    exact wpAny_execs_nil ⟨σ3, H3, I4, qn⟩
  · refine wpAny_passesOwn hp (thn (T.item X rfl rfl rfl hc i pins s3 σ3 H3 X.xe I3 (stat fr3) st3 go) fun r s4 ⟨u, hr, h4⟩ => ?_)
    subst hr
    refine wpAny_passesOwn hp (thn h4 fun _ s5 ⟨x, H5, I5, r5, y5, st5, fr5⟩ => ?_)
    have I5' := I5.pinned (stat fr5) (T.obj _ _ st5)
    refine wpAny_passesOwn hp (thn (hg _ s5 σ3 H5 x u _ I5' r5 (step x H5 y5)) fun _ s6 ⟨σ6, H6, I6, q6⟩ => ?_)
    refine wpAny_passesOwn hp (thn (hb _ s6 σ6 H6 _ I6 q6) fun f s7 q7 => ?_)
    have again : ∀ {σ7 : St} {H7 : Hp}, Inv X (pins ++ pinsAt fp s5.heap) σ7 H7 s7 → N σ7 H7 → ∃ m, m < n ∧ ∃ i σ' H', Inv X pins σ' H' s7 ∧ tn i s7.heap ∧ (∀ b ∈ fp, H' b = none) ∧ W i m σ' H' := fun {σ7 H7} I7 n7 => by
      obtain ⟨m', hm, w7⟩ := hN σ7 H7 n7
      refine ⟨m', hm, i + 1, σ7, H7, I7.unpinned, T.keep _ _ _ st5 fun b hb o e => (I7.pin (b, o) (List.mem_append_right _ (List.mem_append_right _ (mem_pinsAt hb e)))).1, fun b hb => ?_, w7⟩
      obtain ⟨o, e, d⟩ := T.obj _ _ st5 b hb
      exact (I7.pin (b, o) (List.mem_append_right _ (List.mem_append_right _ (mem_pinsAt hb e)))).2.1
    cases f with
    | next => obtain ⟨σ7, H7, I7, n7⟩ := q7; exact again I7 n7
    | cont => obtain ⟨σ7, H7, I7, n7⟩ := q7; exact again I7 n7
    | brk => obtain ⟨σ7, H7, I7, q7⟩ := q7; exact ⟨σ7, H7, I7.unpinned, q7⟩
    | ret v => obtain ⟨x7, σ7, H7, I7, r7, q7⟩ := q7; exact ⟨x7, σ7, H7, I7.unpinned, r7, q7⟩
end
theorem for_list {K : PySem.W.Frag} {a : Addr} {xs : List V} {g : TG} {tb : TS} {D : Ends} {σ : St} {H : Hp} (Pv : Nat → St → Hp → Prop) (h0 : Pv 0 σ H) (hl : ∀ i σ H, i ≤ xs.length → Pv i σ H → SqL K H a xs)
    (hs : ∀ i x σ H, xs[i]? = some x → Pv i σ H → g x σ H fun σ2 H2 => tb { D with nx := Pv (i + 1), ct := Pv (i + 1), bk := D.nx } σ2 H2) (hd : ∀ σ H, Pv xs.length σ H → D.nx σ H) :
    ∃ W : Nat → Nat → St → Hp → Prop, (∃ m, W 0 m σ H) ∧ ∀ i m σ H, W i m σ H →
      ((Itl K a).stop i H ∧ D.nx σ H) ∨ ((Itl K a).go i H ∧ ∃ N : St → Hp → Prop, (∀ σ' H', N σ' H' → ∃ m', m' < m ∧ W (i + 1) m' σ' H') ∧ ∀ x H', (Itl K a).yld i H x H' → g x σ H' fun σ2 H2 => tb { D with nx := N, ct := N, bk := D.nx } σ2 H2) := by
  refine ⟨fun i m σ H => m = xs.length - i ∧ i ≤ xs.length ∧ Pv i σ H, ⟨xs.length, by simp, Nat.zero_le _, h0⟩, ?_⟩
  rintro i m σ H ⟨rfl, hi, p⟩
  have q := hl i σ H hi p
  by_cases hlt : i < xs.length
  · refine .inr ⟨⟨xs, xs[i], q, by simp [hlt]⟩, Pv (i + 1), fun σ' H' p' => ⟨xs.length - (i + 1), by omega, rfl, hlt, p'⟩, fun x H' y => ?_⟩
    obtain ⟨e, y⟩ := y
    subst e
    exact hs i x σ _ (y xs q) p
  · have e : i = xs.length := by omega
    subst e
    exact .inl ⟨⟨xs, q, Nat.le_refl _⟩, hd σ H p⟩
theorem for_tup {K : PySem.W.Frag} {a : Addr} {xs : List V} {g : TG} {tb : TS} {D : Ends} {σ : St} {H : Hp} (Pv : Nat → St → Hp → Prop) (h0 : Pv 0 σ H) (hl : ∀ i σ H, i ≤ xs.length → Pv i σ H → SqT K H a xs)
    (hs : ∀ i x σ H, xs[i]? = some x → Pv i σ H → g x σ H fun σ2 H2 => tb { D with nx := Pv (i + 1), ct := Pv (i + 1), bk := D.nx } σ2 H2) (hd : ∀ σ H, Pv xs.length σ H → D.nx σ H) :
    ∃ W : Nat → Nat → St → Hp → Prop, (∃ m, W 0 m σ H) ∧ ∀ i m σ H, W i m σ H →
      ((Itt K a).stop i H ∧ D.nx σ H) ∨ ((Itt K a).go i H ∧ ∃ N : St → Hp → Prop, (∀ σ' H', N σ' H' → ∃ m', m' < m ∧ W (i + 1) m' σ' H') ∧ ∀ x H', (Itt K a).yld i H x H' → g x σ H' fun σ2 H2 => tb { D with nx := N, ct := N, bk := D.nx } σ2 H2) := by
  refine ⟨fun i m σ H => m = xs.length - i ∧ i ≤ xs.length ∧ Pv i σ H, ⟨xs.length, by simp, Nat.zero_le _, h0⟩, ?_⟩
  rintro i m σ H ⟨rfl, hi, p⟩
  have q := hl i σ H hi p
  by_cases hlt : i < xs.length
  · refine .inr ⟨⟨xs, xs[i], q, by simp [hlt]⟩, Pv (i + 1), fun σ' H' p' => ⟨xs.length - (i + 1), by omega, rfl, hlt, p'⟩, fun x H' y => ?_⟩
    obtain ⟨e, y⟩ := y
    subst e
    exact hs i x σ _ (y xs q) p
  · have e : i = xs.length := by omega
    subst e
    exact .inl ⟨⟨xs, q, Nat.le_refl _⟩, hd σ H p⟩
theorem for_range {lo : Int} {n : Nat} {g : TG} {tb : TS} {D : Ends} {σ : St} {H : Hp} (Pv : Nat → St → Hp → Prop) (h0 : Pv 0 σ H)
    (hs : ∀ i σ H, i < n → Pv i σ H → g (.int (lo + i)) σ H fun σ2 H2 => tb { D with nx := Pv (i + 1), ct := Pv (i + 1), bk := D.nx } σ2 H2) (hd : ∀ σ H, Pv n σ H → D.nx σ H) :
    ∃ W : Nat → Nat → St → Hp → Prop, (∃ m, W 0 m σ H) ∧ ∀ i m σ H, W i m σ H →
      ((Itr lo n).stop i H ∧ D.nx σ H) ∨ ((Itr lo n).go i H ∧ ∃ N : St → Hp → Prop, (∀ σ' H', N σ' H' → ∃ m', m' < m ∧ W (i + 1) m' σ' H') ∧ ∀ x H', (Itr lo n).yld i H x H' → g x σ H' fun σ2 H2 => tb { D with nx := N, ct := N, bk := D.nx } σ2 H2) := by
  refine ⟨fun i m σ H => m = n - i ∧ i ≤ n ∧ Pv i σ H, ⟨n, by simp, Nat.zero_le _, h0⟩, ?_⟩
  rintro i m σ H ⟨rfl, hi, p⟩
  by_cases hlt : i < n
  · refine .inr ⟨hlt, Pv (i + 1), fun σ' H' p' => ⟨n - (i + 1), by omega, rfl, hlt, p'⟩, fun x H' y => ?_⟩
    obtain ⟨e, y⟩ := y
    subst e y
    exact hs i σ _ hlt p
  · have e : i = n := by omega
    subst e
    exact .inl ⟨Nat.le_refl _, hd σ H p⟩
end L2
namespace L2
open PySem PySem.Spec PyProof.Rows
abbrev R2 := V → V → Hp → VK → Prop
def OpR (X : Cx) (f : Value → Value → Sem Value) (r : R2) : Prop :=
  ∀ (pins : List (Addr × Obj)) (s : Shared) (σ : St) (H : Hp) (x y : V) (v u : Value) (Q : VK), Inv X pins σ H s → RelV x v → RelV y u → r x y H Q →
    wpAny (model X.prog X.w) X.A (f v u) (EP X pins σ Q) X.xe s
def UnR (X : Cx) (f : Value → Sem Value) (r : V → Hp → VK → Prop) : Prop :=
  ∀ (pins : List (Addr × Obj)) (s : Shared) (σ : St) (H : Hp) (x : V) (v : Value) (Q : VK), Inv X pins σ H s → RelV x v → r x H Q →
    wpAny (model X.prog X.w) X.A (f v) (EP X pins σ Q) X.xe s
def CallR (X : Cx) (f : Value) (r : List V → Hp → VK → Prop) : Prop :=
  ∀ (pins : List (Addr × Obj)) (s : Shared) (σ : St) (H : Hp) (xs : List V) (us : List Value) (Q : VK), Inv X pins σ H s → Vals xs us → r xs H Q →
    wpAny (model X.prog X.w) X.A (call f us) (EP X pins σ Q) X.xe s
def TruR (X : Cx) (r : V → Hp → (Bool → Hp → Prop) → Prop) : Prop :=
  ∀ (pins : List (Addr × Obj)) (s : Shared) (σ : St) (H : Hp) (x : V) (v : Value) (Q : Bool → Hp → Prop), Inv X pins σ H s → RelV x v → r x H Q →
    wpAny (model X.prog X.w) X.A (truthy v) (TP X pins σ Q) X.xe s
def tOp (r : R2) (ta tb : TE) : TE := fun σ H Q => ta σ H fun x H1 => tb σ H1 fun y H2 => r x y H2 Q
def tUn (r : V → Hp → VK → Prop) (ta : TE) : TE := fun σ H Q => ta σ H fun x H1 => r x H1 Q
def rI (C : Int → Int → Prop) (g : Int → Int → V) : R2 := fun x y H Q => ∃ i j, x = .int i ∧ y = .int j ∧ C i j ∧ Q (g i j) H
def rI0 (g : Int → Int → V) : R2 := fun x y H Q => ∃ i j, x = .int i ∧ y = .int j ∧ Q (g i j) H
def rU (g : Int → V) : V → Hp → VK → Prop := fun x H Q => ∃ i, x = .int i ∧ Q (g i) H
section
variable {X : Cx} {a b c : Expr} {ta tb tc : TE} {pos : Pos}
theorem binT (ha : PE X a ta) (hb : PE X b tb) {pins : List (Addr × Obj)} {s : Shared} {σ : St} {H : Hp} {R : V → V → Hp → Prop} (I : Inv X pins σ H s)
    (h : ta σ H fun x H1 => tb σ H1 fun y H2 => R x y H2) {Q : Value → Shared → Prop} {f : Value → Value → Sem Value}
    (hf : ∀ v u s2 x y H2, Inv X pins σ H2 s2 → RelV x v → RelV y u → R x y H2 → wpAny (model X.prog X.w) X.A (f v u) Q X.xe s2) :
    wpAny (model X.prog X.w) X.A (eval a X.env) (fun v s₁ => wpAny (model X.prog X.w) X.A (eval b X.env) (fun u s₂ => wpAny (model X.prog X.w) X.A (f v u) Q X.xe s₂) X.xe s₁) X.xe s := by
  refine thn (ha pins s σ H _ I h) fun v s1 ⟨x, H1, I1, r1, q1⟩ => ?_
  refine thn (hb pins s1 σ H1 _ I1 q1) fun u s2 ⟨y, H2, I2, r2, q2⟩ => ?_
  exact hf v u s2 x y H2 I2 r1 r2 q2
theorem pe_op {op : Operator} {r : R2} (ho : OpR X (binaryOp op) r) (ha : PE X a ta) (hb : PE X b tb) : PE X (.BinOp a op b pos) (tOp r ta tb) := by
  intro pins s σ H Q I h
  exact wpAny_BinOp (binT ha hb I h fun v u s2 x y H2 I2 rx ry q => ho pins s2 σ H2 x y v u Q I2 rx ry q)
theorem pe_un {op : UnaryOp} {r : V → Hp → VK → Prop} (ho : UnR X (unaryOp op) r) (ha : PE X a ta) : PE X (.UnaryOp op a pos) (tUn r ta) := by
  intro pins s σ H Q I h
  exact UnaryOp_ (thn (ha pins s σ H _ I h) fun v s1 ⟨x, H1, I1, r1, q1⟩ => ho pins s1 σ H1 x v Q I1 r1 q1)
theorem opI {f : Value → Value → Sem Value} {C : Int → Int → Prop} {g : Int → Int → Int}
    (rule : ∀ (i j : Int) (t u : Tok) (s : Shared) (Q : Value → Shared → Prop) (E : Value → Shared → Prop), C i j → Q (.int (g i j) s.toks) { s with toks := s.toks + 1 } → wpAny (model X.prog X.w) X.A (f (.int i t) (.int j u)) Q E s) :
    OpR X f (rI C fun i j => .int (g i j)) := by
  intro pins s σ H x y v u Q I rx ry h
  obtain ⟨i, j, rfl, rfl, hc, q⟩ := h
  obtain ⟨t, rfl⟩ := rx
  obtain ⟨t', rfl⟩ := ry
  exact rule i j t t' s _ _ hc ⟨.int (g i j), H, I.tok _, ⟨_, rfl⟩, q⟩
theorem opI0 {f : Value → Value → Sem Value} {g : Int → Int → Int}
    (rule : ∀ (i j : Int) (t u : Tok) (s : Shared) (Q : Value → Shared → Prop) (E : Value → Shared → Prop), Q (.int (g i j) s.toks) { s with toks := s.toks + 1 } → wpAny (model X.prog X.w) X.A (f (.int i t) (.int j u)) Q E s) :
    OpR X f (rI0 fun i j => .int (g i j)) := by
  intro pins s σ H x y v u Q I rx ry h
  obtain ⟨i, j, rfl, rfl, q⟩ := h
  obtain ⟨t, rfl⟩ := rx
  obtain ⟨t', rfl⟩ := ry
  exact rule i j t t' s _ _ ⟨.int (g i j), H, I.tok _, ⟨_, rfl⟩, q⟩
theorem opB0 {f : Value → Value → Sem Value} {g : Int → Int → Bool}
    (rule : ∀ (i j : Int) (t u : Tok) (s : Shared) (Q : Value → Shared → Prop) (E : Value → Shared → Prop), Q (.bool (g i j)) s → wpAny (model X.prog X.w) X.A (f (.int i t) (.int j u)) Q E s) :
    OpR X f (rI0 fun i j => .bl (g i j)) := by
  intro pins s σ H x y v u Q I rx ry h
  obtain ⟨i, j, rfl, rfl, q⟩ := h
  obtain ⟨t, rfl⟩ := rx
  obtain ⟨t', rfl⟩ := ry
  exact rule i j t t' s _ _ ⟨.bl (g i j), H, I, rfl, q⟩
def CDiv (i j : Int) : Prop := 0 < j ∧ j < 1073741824
def CDivN (i j : Int) : Prop := j ≠ 0 ∧ j.natAbs < 1073741824
def CPow (i j : Int) : Prop := 0 ≤ j ∧ j ≤ 1000000 ∧ i.natAbs < 2 ^ 64
def CMul (i j : Int) : Prop := (-(2 ^ 64) < i ∧ i < 2 ^ 64) ∨ (-(2 ^ 64) < j ∧ j < 2 ^ 64)
theorem CMul.ok {i j : Int} (h : CMul i j) : IntMulOk i j := by
  rcases h with ⟨h1, h2⟩ | ⟨h1, h2⟩
  · exact .of_left (intBits_le_64 h1 h2)
  · exact .of_right (intBits_le_64 h1 h2)
theorem op_add : OpR X (binaryOp .Add) (rI0 fun i j => .int (i + j)) := opI0 fun _ _ _ _ _ _ _ q => add_int q
theorem op_sub : OpR X (binaryOp .Sub) (rI0 fun i j => .int (i - j)) := opI0 fun _ _ _ _ _ _ _ q => sub_int q
theorem op_mul : OpR X (binaryOp .Mult) (rI CMul fun i j => .int (i * j)) := opI fun _ _ _ _ _ _ _ hc q => mul_int q hc.ok
theorem op_mod : OpR X (binaryOp .Mod) (rI (fun _ j => 0 < j) fun i j => .int (i % j)) := opI fun i j _ _ _ _ _ hc q => by
  have h1 : (0 : Int) < j := hc
  exact mod_int' (by omega) (by rw [Int.fmod_eq_emod_of_nonneg i (by omega)]; exact q)
theorem unI {f : Value → Sem Value} {g : Int → Int}
    (rule : ∀ (i : Int) (t : Tok) (s : Shared) (Q : Value → Shared → Prop) (E : Value → Shared → Prop), Q (.int (g i) s.toks) { s with toks := s.toks + 1 } → wpAny (model X.prog X.w) X.A (f (.int i t)) Q E s) :
    UnR X f (rU fun i => .int (g i)) := by
  intro pins s σ H x v Q I rx h
  obtain ⟨i, rfl, q⟩ := h
  obtain ⟨t, rfl⟩ := rx
  exact rule i t s _ _ ⟨.int (g i), H, I.tok _, ⟨_, rfl⟩, q⟩
theorem un_neg : UnR X (unaryOp .USub) (rU fun i => .int (-i)) := unI fun _ _ _ _ _ q => neg_int q
end
def scal : V → V → Bool
  | .non, .non => true | .non, .int _ => true | .int _, .non => true | .non, .bl _ => true | .bl _, .non => true | .non, .str _ => true | .str _, .non => true
  | .int _, .int _ => true | .bl _, .bl _ => true | .str _, .str _ => true | .byt _, .byt _ => true
  | .int _, .str _ => true | .str _, .int _ => true | .bl _, .str _ => true | .str _, .bl _ => true
  | _, _ => false
def rEq : R2 := fun x y H Q => scal x y = true ∧ Q (.bl (decide (x = y))) H
def rNe : R2 := fun x y H Q => scal x y = true ∧ Q (.bl (!decide (x = y))) H
theorem dec_int {i j : Int} : decide (V.int i = V.int j) = (i == j) := by
  rw [Bool.eq_iff_iff]
  simp
theorem dec_bl {i j : Bool} : decide (V.bl i = V.bl j) = (i == j) := by
  rw [Bool.eq_iff_iff]
  simp
theorem dec_str {i j : Str} : decide (V.str i = V.str j) = (i == j) := by
  rw [Bool.eq_iff_iff]
  simp
theorem dec_byt {i j : Array UInt8} : decide (V.byt i = V.byt j) = (i.toList == j.toList) := by
  rw [Bool.eq_iff_iff]
  cases i
  cases j
  simp
section
variable {X : Cx} {a b c : Expr} {ta tb tc : TE} {pos : Pos}
theorem fin_bl {pins : List (Addr × Obj)} {σ : St} {H : Hp} {s : Shared} {Q : VK} {k k' : Bool} (I : Inv X pins σ H s) (q : Q (.bl k) H) (e : k = k') : EP X pins σ Q (.bool k') s := by
  subst e
  exact ⟨.bl k, H, I, rfl, q⟩
theorem op_eq : OpR X (compareOp .Eq) rEq := by
  intro pins s σ H x y v u Q I rx ry h
  obtain ⟨hs, q⟩ := h
  cases x with
  | non =>
    cases rx
    cases y with
    | non => cases ry; exact PySem.EqNone.eq_none_none (fin_bl I q (by simp))
    | bl j => cases ry; exact PySem.EqNone.eq_none_bool (fin_bl I q (by simp))
    | int j => obtain ⟨t', rfl⟩ := ry; exact PySem.EqNone.eq_none_int (fin_bl I q (by simp))
    | str j => obtain ⟨t', rfl⟩ := ry; exact PySem.EqNone.eq_none_str (fin_bl I q (by simp))
    | _ => exact absurd (show false = true from hs) Bool.false_ne_true
  | bl i =>
    cases rx
    cases y with
    | non => cases ry; exact PySem.EqNone.eq_bool_none (fin_bl I q (by simp))
    | bl j => cases ry; exact eq_bool (fin_bl I q dec_bl)
    | str j => obtain ⟨t', rfl⟩ := ry; exact PySem.EqMixed.eq_bool_str (fin_bl I q (by simp))
    | _ => exact absurd (show false = true from hs) Bool.false_ne_true
  | int i =>
    obtain ⟨t, rfl⟩ := rx
    cases y with
    | non => cases ry; exact PySem.EqNone.eq_int_none (fin_bl I q (by simp))
    | int j => obtain ⟨t', rfl⟩ := ry; exact eq_int (fin_bl I q dec_int)
    | str j => obtain ⟨t', rfl⟩ := ry; exact PySem.EqMixed.eq_int_str (fin_bl I q (by simp))
    | _ => exact absurd (show false = true from hs) Bool.false_ne_true
  | str i =>
    obtain ⟨t, rfl⟩ := rx
    cases y with
    | non => cases ry; exact PySem.EqNone.eq_str_none (fin_bl I q (by simp))
    | bl j => cases ry; exact PySem.EqMixed.eq_str_bool (fin_bl I q (by simp))
    | int j => obtain ⟨t', rfl⟩ := ry; exact PySem.EqMixed.eq_str_int (fin_bl I q (by simp))
    | str j => obtain ⟨t', rfl⟩ := ry; exact eq_str (fin_bl I q dec_str)
    | _ => exact absurd (show false = true from hs) Bool.false_ne_true
  | byt i =>
    obtain ⟨t, rfl⟩ := rx
    cases y with
    | byt j => obtain ⟨t', rfl⟩ := ry; exact PySem.W.eq_bytes (fin_bl I q dec_byt)
    | _ => exact absurd (show false = true from hs) Bool.false_ne_true
  | _ => cases y <;> exact absurd (show false = true from hs) Bool.false_ne_true
theorem op_ne : OpR X (compareOp .NotEq) rNe := by
  intro pins s σ H x y v u Q I rx ry h
  obtain ⟨hs, q⟩ := h
  cases x with
  | non =>
    cases rx
    cases y with
    | non => cases ry; exact PySem.EqNone.ne_none_none (fin_bl I q (by simp))
    | bl j => cases ry; exact PySem.EqNone.ne_none_bool (fin_bl I q (by simp))
    | int j => obtain ⟨t', rfl⟩ := ry; exact PySem.EqNone.ne_none_int (fin_bl I q (by simp))
    | str j => obtain ⟨t', rfl⟩ := ry; exact PySem.EqNone.ne_none_str (fin_bl I q (by simp))
    | _ => exact absurd (show false = true from hs) Bool.false_ne_true
  | bl i =>
    cases rx
    cases y with
    | non => cases ry; exact PySem.EqNone.ne_bool_none (fin_bl I q (by simp))
    | bl j => cases ry; exact ne_bool (fin_bl I q (congrArg not dec_bl))
    | str j => obtain ⟨t', rfl⟩ := ry; exact PySem.EqMixed.ne_bool_str (fin_bl I q (by simp))
    | _ => exact absurd (show false = true from hs) Bool.false_ne_true
  | int i =>
    obtain ⟨t, rfl⟩ := rx
    cases y with
    | non => cases ry; exact PySem.EqNone.ne_int_none (fin_bl I q (by simp))
    | int j => obtain ⟨t', rfl⟩ := ry; exact ne_int (fin_bl I q (congrArg not dec_int))
    | str j => obtain ⟨t', rfl⟩ := ry; exact PySem.EqMixed.ne_int_str (fin_bl I q (by simp))
    | _ => exact absurd (show false = true from hs) Bool.false_ne_true
  | str i =>
    obtain ⟨t, rfl⟩ := rx
    cases y with
    | non => cases ry; exact PySem.EqNone.ne_str_none (fin_bl I q (by simp))
    | bl j => cases ry; exact PySem.EqMixed.ne_str_bool (fin_bl I q (by simp))
    | int j => obtain ⟨t', rfl⟩ := ry; exact PySem.EqMixed.ne_str_int (fin_bl I q (by simp))
    | str j => obtain ⟨t', rfl⟩ := ry; exact ne_str (fin_bl I q (congrArg not dec_str))
    | _ => exact absurd (show false = true from hs) Bool.false_ne_true
  | byt i =>
    obtain ⟨t, rfl⟩ := rx
    cases y with
    | byt j => obtain ⟨t', rfl⟩ := ry; exact PySem.W.ne_bytes (fin_bl I q (congrArg not dec_byt))
    | _ => exact absurd (show false = true from hs) Bool.false_ne_true
  | _ => cases y <;> exact absurd (show false = true from hs) Bool.false_ne_true
theorem op_lt : OpR X (compareOp .Lt) (rI0 fun i j => .bl (decide (i < j))) := opB0 fun _ _ _ _ _ _ _ q => lt_int q
theorem op_le : OpR X (compareOp .LtE) (rI0 fun i j => .bl (decide (i ≤ j))) := opB0 fun _ _ _ _ _ _ _ q => le_int q
theorem op_gt : OpR X (compareOp .Gt) (rI0 fun i j => .bl (decide (j < i))) := opB0 fun _ _ _ _ _ _ _ q => gt_int q
theorem op_ge : OpR X (compareOp .GtE) (rI0 fun i j => .bl (decide (j ≤ i))) := opB0 fun _ _ _ _ _ _ _ q => ge_int q
theorem op_in_str : OpR X (compareOp .In) (fun x y H Q => ∃ i j, x = .str i ∧ y = .str j ∧ Q (.bl (!(Builtin.Str.occurrences j i 0 j.length 1).isEmpty)) H) := by
  intro pins s σ H x y v u Q I rx ry h
  obtain ⟨i, j, rfl, rfl, q⟩ := h
  obtain ⟨t, rfl⟩ := rx
  obtain ⟨t', rfl⟩ := ry
  exact in_str (fin_bl I q rfl)
theorem op_notin_str : OpR X (compareOp .NotIn) (fun x y H Q => ∃ i j, x = .str i ∧ y = .str j ∧ Q (.bl (!(!(Builtin.Str.occurrences j i 0 j.length 1).isEmpty))) H) := by
  intro pins s σ H x y v u Q I rx ry h
  obtain ⟨i, j, rfl, rfl, q⟩ := h
  obtain ⟨t, rfl⟩ := rx
  obtain ⟨t', rfl⟩ := ry
  exact notIn_str (fin_bl I q rfl)
def isObj : HO → Bool
  | .lst _ => true
  | .ins _ _ _ => true
  | _ => false
theorem nomark (b : Expr) {op : CmpOp} (h : op ≠ .In := by decide) (h2 : op ≠ .NotIn := by decide) : behindInMarks op b = false := by
  have e1 : (op == CmpOp.In) = false := by cases op <;> first | rfl | exact absurd rfl h
  have e2 : (op == CmpOp.NotIn) = false := by cases op <;> first | rfl | exact absurd rfl h2
  cases b <;> simp [behindInMarks, e1, e2]
theorem pe_cmpR {op : CmpOp} {r : R2} (ho : OpR X (compareOp op) r) (ha : PE X a ta) (hb : PE X b tb) (hm : behindInMarks op b = false) : PE X (.Compare a [op] [b] pos) (tOp r ta tb) := by
  intro pins s σ H Q I h
  exact wpAny_Compare1 (binT ha hb I h fun v u s2 x y H2 I2 rx ry q => ho pins s2 σ H2 x y v u Q I2 rx ry q) hm
def tTest (t : TE) : TT := fun σ H Q => t σ H fun x H' => ∃ k, x = .bl k ∧ Q k H'
theorem pt_cmpR {op : CmpOp} {r : R2} (ho : OpR X (compareOp op) r) (ha : PE X a ta) (hb : PE X b tb) (hm : behindInMarks op b = false) : PT X (.Compare a [op] [b] pos) (tTest (tOp r ta tb)) := by
  intro pins s σ H Q I h
  refine wpAny_isTrue_Compare1 (thn (ha pins s σ H _ I h) fun v s1 ⟨x, H1, I1, r1, q1⟩ => thn (hb pins s1 σ H1 _ I1 q1) fun u s2 ⟨y, H2, I2, r2, q2⟩ =>
    thn (ho pins s2 σ H2 x y v u _ I2 r1 r2 q2) fun c s3 ⟨z, H3, I3, r3, k, e, q3⟩ => ?_) hm
  subst e
  cases r3
  exact wpAny_truthy_bool ⟨H3, I3, q3⟩
def tChain (r r' : R2) (ta tb tc : TE) : TE := fun σ H Q => ta σ H fun x H1 => tb σ H1 fun y H2 => r x y H2 fun z H3 => ∃ k, z = .bl k ∧
  (if k = true then tc σ H3 fun w' H4 => r' y w' H4 Q else Q (.bl false) H3)
theorem pe_chain {op op' : CmpOp} {r r' : R2} (ho : OpR X (compareOp op) r) (ho' : OpR X (compareOp op') r') (ha : PE X a ta) (hb : PE X b tb) (hc : PE X c tc)
    (hm : lastMarks [op, op'] [b, c] = false := by with_unfolding_all rfl) : PE X (.Compare a [op, op'] [b, c] pos) (tChain r r' ta tb tc) := by
  intro pins s σ H Q I h
  refine Compare_chain (thn (ha pins s σ H _ I h) fun v s1 ⟨x, H1, I1, r1, q1⟩ => chain_link (thn (hb pins s1 σ H1 _ I1 q1) fun u s2 ⟨y, H2, I2, r2, q2⟩ =>
    thn (ho pins s2 σ H2 x y v u _ I2 r1 r2 q2) fun d s3 ⟨z, H3, I3, r3, k, e, q3⟩ => ?_)) hm
  subst e
  cases r3
  refine wpAny_truthy_bool ?_
  cases k with
  | false => exact ite_ff ⟨.bl false, H3, I3, rfl, q3⟩
  | true => exact ite_tt (chain_last (thn (hc pins s3 σ H3 _ I3 q3) fun w' s4 ⟨z', H4, I4, r4, q4⟩ => ho' pins s4 σ H4 y z' u w' Q I4 r2 r4 q4))
def TruV (K : PySem.W.Frag) (x : V) (H : Hp) (k : Bool) : Prop :=
  match x with
  | .non => k = false
  | .bl b => k = b
  | .int i => k = (i != 0)
  | .str y => y.length ≤ sizeLine ∧ k = ((y.length : Int) != 0)
  | .byt y => y.size ≤ sizeLine ∧ k = ((y.size : Int) != 0)
  | .ref p => (∃ xs, SqL K H p xs ∧ k = !xs.isEmpty) ∨ (∃ xs, SqT K H p xs ∧ k = !xs.isEmpty) ∨ ∃ kvs, H p = some (.dK kvs) ∧ k = !kvs.isEmpty
  | _ => False
theorem line63 : (sizeLine : Nat) < 2 ^ 63 := by rw [sizeLine_eq]; decide
theorem op_add_str : OpR X (binaryOp .Add) (fun x y H Q => ∃ i j, x = .str i ∧ y = .str j ∧ i.length + j.length ≤ sizeLine ∧ Q (.str (i ++ j)) H) := by
  intro pins s σ H x y v u Q I rx ry h
  obtain ⟨i, j, rfl, rfl, hz, q⟩ := h
  obtain ⟨t, rfl⟩ := rx
  obtain ⟨t', rfl⟩ := ry
  exact add_str (fun t' tk => ⟨.str (i ++ j), H, I.tok _, ⟨_, rfl⟩, q⟩) hz
def PlainIxT (b : Expr) : Prop := ∀ o i, subscripted b false o i = operate [o, i] (getItem o i)
theorem vals1 {x : V} {us : List Value} (r : Vals [x] us) : ∃ u, us = [u] ∧ RelV x u := by
  cases r with
  | cons r1 r2 => cases r2; exact ⟨_, rfl, r1⟩
theorem vals2 {x y : V} {us : List Value} (r : Vals [x, y] us) : ∃ u w', us = [u, w'] ∧ RelV x u ∧ RelV y w' := by
  cases r with
  | cons r1 r2 =>
    cases r2 with
    | cons r3 r4 => cases r4; exact ⟨_, _, rfl, r1, r3⟩
theorem call_max2 (hc : X.calm = true) : CallR X (.builtin "max") (fun xs H Q => ∃ i j, xs = [.int i, .int j] ∧ Q (.int (if j > i then j else i)) H) := by
  intro pins s σ H xs us Q I r h
  obtain ⟨i, j, rfl, q⟩ := h
  obtain ⟨u, w', rfl, ⟨t, rfl⟩, ⟨t', rfl⟩⟩ := vals2 r
  refine max_two_ints (I.ok.hd hc) fun h' tk k => ⟨_, H, I.kept k, ?_, q⟩
  by_cases hj : j > i
  · rw [if_pos hj, if_pos hj]; exact ⟨_, rfl⟩
  · rw [if_neg hj, if_neg hj]; exact ⟨_, rfl⟩
theorem call_min2 (hc : X.calm = true) : CallR X (.builtin "min") (fun xs H Q => ∃ i j, xs = [.int i, .int j] ∧ Q (.int (if j < i then j else i)) H) := by
  intro pins s σ H xs us Q I r h
  obtain ⟨i, j, rfl, q⟩ := h
  obtain ⟨u, w', rfl, ⟨t, rfl⟩, ⟨t', rfl⟩⟩ := vals2 r
  refine min_two_ints (I.ok.hd hc) fun h' tk k => ⟨_, H, I.kept k, ?_, q⟩
  by_cases hj : j < i
  · rw [if_pos hj, if_pos hj]; exact ⟨_, rfl⟩
  · rw [if_neg hj, if_neg hj]; exact ⟨_, rfl⟩
def LenV (K : PySem.W.Frag) (x : V) (H : Hp) (n : Nat) : Prop :=
  match x with
  | .str y => y.length ≤ sizeLine ∧ n = y.length
  | .byt y => y.size ≤ sizeLine ∧ n = y.size
  | .ref p => (∃ xs, SqL K H p xs ∧ n = xs.length) ∨ ∃ xs, SqT K H p xs ∧ n = xs.length
  | _ => False
end
end L2
namespace L2
open PySem PySem.Spec PyProof.Rows
structure ObjM (h : Heap) (x dx C : Addr) (mA : Str → Option Value) : Prop where
  obj : h.get? x = some (PySem.W.instObj C dx)
  ns : h.Ns1 dx mA
  ne : dx ≠ x
theorem lookIn_ns {h : Heap} {dx : Addr} {mA : Str → Option Value} (n : h.Ns1 dx mA) : ∃ od, h.get? dx = some od ∧ ∀ name, PySem.W.lookIn name od = some (mA name) := by
  obtain ⟨o, es, ep, ho, hd, hk, _, hm⟩ := n
  refine ⟨o, ho, fun name => ?_⟩
  have e := hm name
  unfold nsFind findBy at e
  rw [← Array.find?_toList] at e
  unfold PySem.W.lookIn
  rw [hd]
  dsimp only
  split
  · rename_i y q
    rw [q] at e
    exact congrArg some e
  · rename_i q
    rw [q] at e
    have a : es.toList.any (·.refKey) = false := by
      rw [List.any_eq_false]
      intro y hy
      obtain ⟨z, t, hkey⟩ := hk y (Array.mem_toList_iff.mp hy)
      simp [DictEntry.refKey, hkey]
    have a' : ¬ es.toList.any (·.refKey) = true := by rw [a]; exact Bool.false_ne_true
    rw [if_neg a']
    exact congrArg some e
theorem ObjM.look {h : Heap} {x dx C : Addr} {mA : Str → Option Value} (I : ObjM h x dx C mA) : ∃ od, PySem.W.InstAt h x (PySem.W.instObj C dx) C (some od) ∧ ∀ name, PySem.W.lookIn name od = some (mA name) :=
  let ⟨od, ho, hl⟩ := lookIn_ns I.ns
  ⟨od, ⟨I.obj, rfl, rfl, ho⟩, hl⟩
section
variable {prog : Program} {w : World} {A : Around} {E : Value → Shared → Prop} {s : Shared} {K : PySem.W.Frag} {x dx C f : Addr} {mA : Str → Option Value} {name : Str} {v : Value}
end
def putF (f : Str) (v : V) : List (Str × V) → List (Str × V)
  | [] => [(f, v)]
  | (g, x) :: r => if g = f then (g, v) :: r else (g, x) :: putF f v r
theorem RelO.some_of {v : V} {o : Option Value} (r : RelO (some v) o) : ∃ u, o = some u ∧ RelV v u := by
  cases o with
  | none => exact (show False from r).elim
  | some u => exact ⟨u, rfl, r⟩
section
variable {P : Program} {w : World} {H H' : Hp} {h h' : Heap} {a C dx : Addr} {fs fs' : List (Str × V)}
theorem ins_get (hok : HOk P w H h) (e : H a = some (.ins C dx fs)) : ∃ mA, ObjM h a dx C mA ∧ (∀ f, RelO (fs.lookup f) (mA f)) ∧ PySem.Within mA (fs.map (·.1)) ∧ fs.length ≤ 1000 ∧ H dx = some (.own a) := by
  obtain ⟨d, z, ne, ob, mA, n, r, q⟩ := (show ObjOk P w H h a (.ins C dx fs) from hok a _ e)
  exact ⟨mA, ⟨ob, n, ne⟩, r, q, z, d⟩
end
structure Cls (K : PySem.W.Frag) (C : Addr) : Prop where
  pg : PySem.W.plainGet K C Str.empty = true
  hd : PySem.W.hasDictIn K C = true
  po : PySem.W.plainOver K C = true
  sa : PySem.W.findIn K (.ref C) "__setattr__" = some (some (.builtin "object.__setattr__"))
theorem Cls.get {K : PySem.W.Frag} {C : Addr} (c : Cls K C) (f : Str) : PySem.W.plainGet K C f = true := c.pg
def NoAttr (K : PySem.W.Frag) (C : Addr) (f : Str) : Prop := PySem.W.findIn K (.ref C) f = some none
structure Con (K : PySem.W.Frag) (C : Addr) (f : Str) (v : V) (u : Value) : Prop where
  at_ : PySem.W.findIn K (.ref C) f = some (some u)
  rel : RelV v u
  get : PySem.W.specialIn K u "__get__" = some none
  cp : PySem.W.copiedNames.contains f = false
structure Meth (K : PySem.W.Frag) (C : Addr) (m : Str) (f : Addr) : Prop where
  at_ : PySem.W.findIn K (.ref C) m = some (some (.ref f))
  fn : PySem.W.isFn K (.ref f) = true
  kp : PySem.W.keepIn K (.ref f) = true
section
variable {X : Cx} {pins : List (Addr × Obj)} {σ : St} {H : Hp} {s : Shared} {a C dx : Addr} {fs : List (Str × V)} {f : Str} {v : V} {A : Around} {E : Value → Shared → Prop}
end
def tFld (K : PySem.W.Frag) (ta : TE) (f : Str) : TE := fun σ H Q => ta σ H fun x H1 => ∃ a C dx fs v, x = .ref a ∧ H1 a = some (.ins C dx fs) ∧ Cls K C ∧ NoAttr K C f ∧ fs.lookup f = some v ∧ Q v H1
def tCon (K : PySem.W.Frag) (ta : TE) (f : Str) : TE := fun σ H Q => ta σ H fun x H1 => ∃ a C dx fs v u, x = .ref a ∧ H1 a = some (.ins C dx fs) ∧ Cls K C ∧ Con K C f v u ∧ fs.lookup f = none ∧ Q v H1
def sFld (K : PySem.W.Frag) (ta tv : TE) (f : Str) : TS := fun D σ H => tv σ H fun y H1 => ta σ H1 fun x H2 => ∃ a C dx fs, x = .ref a ∧ H2 a = some (.ins C dx fs) ∧ Cls K C ∧ NoAttr K C f ∧ fs.length < 1000 ∧
  D.nx σ (upd H2 a (.ins C dx (putF f y fs)))
def InOp (X : Cx) (op : Operator) (rd : V → V → Hp → VK → Prop) : Prop :=
  ∀ (pins : List (Addr × Obj)) (s : Shared) (σ : St) (H : Hp) (x y : V) (u v : Value) (Q : VK), Inv X pins σ H s → RelV x u → RelV y v → rd x y H Q → wpAny (model X.prog X.w) X.A (inplaceOp op u v) (EP X pins σ Q) X.xe s
def sFldAug (K : PySem.W.Frag) (ta tv : TE) (rd : V → V → Hp → VK → Prop) (f : Str) : TS := fun D σ H => ta σ H fun x H1 => ∃ a C dx fs v, x = .ref a ∧ H1 a = some (.ins C dx fs) ∧ Cls K C ∧ NoAttr K C f ∧ fs.lookup f = some v ∧
  tv σ H1 fun y H2 => rd v y H2 fun z H3 => ∃ dx' fs', H3 a = some (.ins C dx' fs') ∧ fs'.length < 1000 ∧ D.nx σ (upd H3 a (.ins C dx' (putF f z fs')))
section
variable {X : Cx} {o e value : Expr} {f : Str} {pos pos' tpos : Pos} {ta tv : TE}
def rAdd : V → V → Hp → VK → Prop := fun x y H Q => ∃ i j, x = .int i ∧ y = .int j ∧ Q (.int (i + j)) H
def rSub : V → V → Hp → VK → Prop := fun x y H Q => ∃ i j, x = .int i ∧ y = .int j ∧ Q (.int (i - j)) H
end
section
variable {X : Cx} {pins : List (Addr × Obj)} {σ : St} {H : Hp} {s : Shared} {A : Around} {E : Value → Shared → Prop} {Q : Value → Shared → Prop} {c : Value} {b : Bool}
inductive TyOf (K : PySem.W.Frag) (H : Hp) : V → Value → Prop where
  | non : TyOf K H .non (.type "NoneType")
  | bl (x : Bool) : TyOf K H (.bl x) (.type "bool")
  | int (i : Int) : TyOf K H (.int i) (.type "int")
  | str (x : Str) : TyOf K H (.str x) (.type "str")
  | flt (x : UInt64) : TyOf K H (.flt x) (.type "float")
  | lst {a : Addr} {xs : List V} (e : H a = some (.lst xs)) : TyOf K H (.ref a) (.type "list")
  | frz {a : Addr} {o : Obj} {xs : List V} (e : H a = some (.frz o (.lst xs))) : TyOf K H (.ref a) (.type "list")
  | tup {a : Addr} {xs : List V} (e : H a = some (.tup xs)) : TyOf K H (.ref a) (.type "tuple")
  | dK {a : Addr} {kvs : List (Key × V)} (e : H a = some (.dK kvs)) : TyOf K H (.ref a) (.type "dict")
  | dT {a : Addr} {kvs : List (List Key × V)} (e : H a = some (.dT kvs)) : TyOf K H (.ref a) (.type "dict")
  | ins {a C dx : Addr} {fs : List (Str × V)} (e : H a = some (.ins C dx fs)) (cl : Cls K C) (ha : PySem.W.findIn K (.ref C) "__class__" = some (some (.builtin "object.__class__")))
      (hn : PySem.W.specialIn K (.builtin "object.__class__") "__get__" = some (some (.builtin "getset_descriptor.__get__"))) (htk : PySem.W.takesIn K (.builtin "object.__class__") = some true)
      (hm : PySem.W.mroIn K C (.type "object") = some true) : TyOf K H (.ref a) (.ref C)
theorem isinst_ok {x : V} {u t : Value} (I : Inv X pins σ H s) (rx : RelV x u) (ty : TyOf X.K H x t) (e : PySem.W.kitOne X.K t c = some b) (h : ∀ tk, Q (.bool b) { s with toks := tk }) :
    wpAny (model X.prog X.w) A (call (.builtin "isinstance") [u, c]) Q E s := by
  cases ty with
  | non => cases (show u = Value.none from rx); exact PySem.W.kia_one PySem.W.kitx_none I.kIn True.intro e (fun z => nomatch z) h
  | bl y => cases (show u = Value.bool y from rx); exact PySem.W.kia_one PySem.W.kitx_bool I.kIn True.intro e (fun z => nomatch z) h
  | int i => obtain ⟨t, q⟩ := (show ∃ t, u = Value.int i t from rx); cases q; exact PySem.W.kia_one PySem.W.kitx_int I.kIn True.intro e (fun z => nomatch z) h
  | str y => obtain ⟨t, q⟩ := (show ∃ t, u = Value.str y t from rx); cases q; exact PySem.W.kia_one PySem.W.kitx_str I.kIn True.intro e (fun z => nomatch z) h
  | flt y => obtain ⟨t, q⟩ := (show ∃ t, u = Value.float y t from rx); cases q; exact PySem.W.kia_one PySem.W.kitx_float I.kIn True.intro e (fun z => nomatch z) h
  | @lst a xs ea =>
    cases (show u = Value.ref a from rx)
    obtain ⟨_, _, n, _, h1⟩ := (show ObjOk X.prog X.w H s.heap a (.lst xs) from I.hok a _ ea)
    exact PySem.W.kia_one PySem.W.kitx_list I.kIn ⟨_, h1, rfl⟩ e (fun z => nomatch z) h
  | @frz a ob xs ea =>
    cases (show u = Value.ref a from rx)
    obtain ⟨_, _, _, n, _, h1⟩ := (show ObjOk X.prog X.w H s.heap a (.frz ob (.lst xs)) from I.hok a _ ea)
    exact PySem.W.kia_one PySem.W.kitx_list I.kIn ⟨_, h1, rfl⟩ e (fun z => nomatch z) h
  | @tup a xs ea =>
    cases (show u = Value.ref a from rx)
    obtain ⟨_, _, _, p⟩ := (show ObjOk X.prog X.w H s.heap a (.tup xs) from I.hok a _ ea)
    obtain ⟨o, h1, h2, _⟩ := p
    exact PySem.W.kia_one PySem.W.kitx_tuple I.kIn ⟨o, h1, h2⟩ e (fun z => nomatch z) h
  | @dK a kvs ea =>
    cases (show u = Value.ref a from rx)
    obtain ⟨_, _, vs, _, p⟩ := (show ObjOk X.prog X.w H s.heap a (.dK kvs) from I.hok a _ ea)
    obtain ⟨o, es, ep, h1, h2, _⟩ := p
    exact PySem.W.kia_one PySem.W.kitx_dict I.kIn ⟨o, h1, h2.1⟩ e (fun z => nomatch z) h
  | @dT a kvs ea =>
    cases (show u = Value.ref a from rx)
    obtain ⟨_, _, xs, _, o, es, ep, h1, h2, _⟩ := (show ObjOk X.prog X.w H s.heap a (.dT kvs) from I.hok a _ ea)
    exact PySem.W.kia_one PySem.W.kitx_dict I.kIn ⟨o, h1, h2.1⟩ e (fun z => nomatch z) h
  | @ins a C dx fs ea cl ha hn htk hm =>
    cases (show u = Value.ref a from rx)
    obtain ⟨mA, O, _⟩ := ins_get I.hok ea
    obtain ⟨od, J, _⟩ := O.look
    exact PySem.W.kia_one (PySem.W.kitx_own (cl.get _) cl.hd ha hn htk hm) I.kIn J e (fun z => nomatch z) h
end
end L2
namespace L2
open PySem PySem.Spec PyProof.Rows
structure Room (k : Nat) (A : Around) : Prop where
  hd : A.handled = none
  dp : A.depth + 3 * k + 5 < recursionLimit
  un : A.units + 16 * k + 200 < cLine
theorem Room.mono {j k : Nat} {A : Around} (r : Room k A) (h : j ≤ k) : Room j A := ⟨r.hd, by have := r.dp; omega, by have := r.un; omega⟩
theorem Room.deeper {k : Nat} {A : Around} (r : Room (k + 1) A) (env : Env) : Room k (A.deeper env) :=
  ⟨r.hd, by have := r.dp; show A.depth + 1 + 3 * k + 5 < _; omega, by have := r.un; show A.units + 3 + 16 * k + 200 < _; omega⟩
theorem Room.depth {k : Nat} {A : Around} (r : Room k A) : A.depth < recursionLimit := by have := r.dp; omega
theorem Room.units {k : Nat} {A : Around} (r : Room k A) : A.units + 64 < cLine := by have := r.un; omega
def tNil : TA := fun _ H Q => Q [] H
def tCons (ta : TE) (tr : TA) : TA := fun σ H Q => ta σ H fun x H1 => tr σ H1 fun xs H2 => Q (x :: xs) H2
section
variable {X : Cx} {e : Expr} {es : List Expr} {te : TE} {t : TA} {pos : Pos}
theorem pa_nil : PA X [] tNil := fun _ _ _ _ H Q I h => Calls.spliced_nil ⟨[], H, I, .nil, h⟩
theorem pa_cons (ha : PE X e te) (hr : PA X es t) (hs : starEach (e :: es) X.env = (false, eval e X.env) :: starEach es X.env := by rfl) : PA X (e :: es) (tCons te t) := by
  intro pos pins s σ H Q I h
  rw [hs]
  show wpAny _ _ (spliced ((false, eval e X.env) :: backTo pos (starEach es X.env))) _ _ s
  refine Calls.spliced_cons (thn (ha pins s σ H _ I h) fun u s1 ⟨x, H1, I1, r1, q1⟩ => ?_)
  exact thn (hr pos pins s1 σ H1 _ I1 q1) fun us s2 ⟨xs, H2, I2, r2, q2⟩ => ⟨x :: xs, H2, I2, .cons r1 r2, q2⟩
def tTup (t : TA) : TE := fun σ H Q => t σ H fun xs H1 => xs.length ≤ sizeLine ∧ ∀ p, H1 p = none → Q (.ref p) (upd H1 p (.tup xs))
def tLst (t : TA) : TE := fun σ H Q => t σ H fun xs H1 => xs.length ≤ sizeLine ∧ ∀ p, H1 p = none → Q (.ref p) (upd H1 p (.lst xs))
theorem pe_tup {x1} (h : PA X es t) : PE X (.Tuple es x1 pos) (tTup t) := by
  intro pins s σ H Q I hq
  refine wpAny_Tuple_spliced (thn (h pos pins s σ H _ I hq) fun us s1 ⟨xs, H1, I1, r, z, q⟩ => ⟨by rw [← r.length]; exact z, ?_⟩)
  have hf : H1 s1.heap.objs.size = none := I1.hok.fresh (Nat.le_refl _)
  refine ⟨.ref s1.heap.objs.size, upd H1 s1.heap.objs.size (.tup xs), I1.laid (t' := s1.toks) (fun b u e => Heap.get?_push_of_some _ e) (Nat.le_refl _) ?_, rfl, q _ hf⟩
  exact ⟨z, us, r, ⟨_, Heap.get?_push_size _ rfl, rfl, _, rfl⟩⟩
theorem pe_lst (h : PA X es t) : PE X (.List es pos) (tLst t) := by
  intro pins s σ H Q I hq
  refine wpAny_List_spliced (thn (h pos pins s σ H _ I hq) fun us s1 ⟨xs, H1, I1, r, z, q⟩ => ⟨by rw [← r.length]; exact z, ?_⟩)
  have hf : H1 s1.heap.objs.size = none := I1.hok.fresh (Nat.le_refl _)
  refine ⟨.ref s1.heap.objs.size, upd H1 s1.heap.objs.size (.lst xs), I1.laid (t' := s1.toks) (fun b u e => Heap.get?_push_of_some _ e) (Nat.le_refl _) ?_, rfl, q _ hf⟩
  exact ⟨z, us, 0, r, Heap.get?_push_size _ rfl⟩
end
abbrev Sp := List V → Hp → VK → XK → Prop
abbrev CXT := List Env → Hp → Shared → XK → Value → Shared → Prop
structure Env0 (P : Program) (w : World) (K : PySem.W.Frag) (mg : Str → Option Value) (base : Heap) (A : Around) (outer : List Env) (s : Shared) (H : Hp) : Prop where
  frames : A.frames = some outer
  mod : Mod K mg base
  bs : ∀ b o, base.get? b = some o → s.heap.get? b = some o ∧ H b = none
  bsz : base.objs.size ≤ s.heap.objs.size
  funs : s.heap.FunFrames base outer
  frf : ∀ b ∈ frs outer, H b = none
  hok : HOk P w H s.heap
  bare : AllBare s.gens
def CE (outer : List Env) (P : Program) (w : World) (H : Hp) (s : Shared) (Q : VK) (u : Value) (s' : Shared) : Prop :=
  ∃ v H', s'.os = s.os ∧ AllBare s'.gens ∧ Un (frs outer) [] H H' s.heap s'.heap ∧ HOk P w H' s'.heap ∧ RelV v u ∧ Q v H'
def CR (CX : CXT) (outer : List Env) (P : Program) (w : World) (H : Hp) (s : Shared) (Q : VK) (E : XK) (r : Result) (s' : Shared) : Prop :=
  match r with
  | .ok (.ret u) => CE outer P w H s Q u s'
  | .ok _ => False
  | .error e => CX outer H s E e s'
structure FnOk (P : Program) (w : World) (K : PySem.W.Frag) (mg : Str → Option Value) (base : Heap) (CX : CXT) (k : Nat) (f : Addr) (fd : FuncData) (ps : List Str) (sp : Sp) : Prop where
  len : ∀ vs H Q E, sp vs H Q E → vs.length = ps.length
  run : ∀ (A : Around) (outer : List Env) (s : Shared) (H : Hp) (args : Args) (us : List Value) (vs : List V) (Q : VK) (E : XK), Room k A → Env0 P w K mg base A outer s H → BindsTo s fd args (ps.zip us) → Vals vs us → sp vs H Q E →
    codeAny (model P w) A (.call (.ref f) args) (CR CX outer P w H s Q E) s
section
variable {X : Cx} {pins : List (Addr × Obj)} {σ : St} {H : Hp} {s s' : Shared}
theorem Inv.env0 (I : Inv X pins σ H s) : Env0 X.prog X.w X.K X.mg X.base X.A X.stack s H :=
  ⟨I.ok.frames, I.ok.mod, I.bs, Nat.le_trans I.ok.bsz I.sz, I.stack, I.stkFree, I.hok, I.bare⟩
theorem Inv.after {Q : VK} {u : Value} (I : Inv X pins σ H s) (h : CE X.stack X.prog X.w H s Q u s') : EP X pins σ Q u s' := by
  obtain ⟨v, H', os, bare, un, hok, r, q⟩ := h
  obtain ⟨hh, g, d, t, os'⟩ := s'
  obtain rfl : os' = s.os := os
  exact ⟨v, H', I.call (h' := hh) (g' := g) (d' := d) (t' := t) (ch := []) un hok bare (fun b z => absurd z (by simp)), r, q⟩
end
def tCall (sp : Sp) (dvs : List V) (E : XK) (t : TA) : TE := fun σ H Q => t σ H fun vs H1 => sp (vs ++ dvs) H1 Q E
def tMeth (C : Addr) (m : Str) (sp : Sp) (dvs : List V) (E : XK) (ta : TE) (t : TA) : TE := fun σ H Q => ta σ H fun x H1 => ∃ a dx fs, x = .ref a ∧ H1 a = some (.ins C dx fs) ∧ fs.lookup m = none ∧
  t σ H1 fun vs H2 => sp (x :: (vs ++ dvs)) H2 Q E
def tMake (C : Addr) (sp : Sp) (dvs : List V) (E : XK) (t : TA) : TE := fun σ H Q => t σ H fun vs H1 => ∀ x dx, H1 x = none → H1 dx = none → dx ≠ x →
  sp (.ref x :: (vs ++ dvs)) (upd (upd H1 dx (.own x)) x (.ins C dx [])) (fun v H2 => v = .non ∧ Q (.ref x) H2) E
def Binds (K : PySem.W.Frag) (fd : FuncData) (ps : List Str) (ds : List Value) : Prop :=
  ∀ (s : Shared) (us : List Value), K.In s.heap → (us ++ ds).length = ps.length → BindsTo s fd ⟨us, []⟩ (ps.zip (us ++ ds))
theorem Binds.all {K : PySem.W.Frag} {fd : FuncData} {ps : List Str} (h : ∀ us : List Value, us.length = ps.length → bindArgs fd ⟨us, []⟩ = pure (ps.zip us)) : Binds K fd ps [] := fun s us _ hl => by
  rw [List.append_nil] at hl ⊢
  exact .of_eq (h us hl)
def Passes (CX : CXT) (X : Cx) (E : XK) : Prop := ∀ (pins : List (Addr × Obj)) (σ : St) (H : Hp) (s : Shared) (e : Value) (s' : Shared), Inv X pins σ H s → CX X.stack H s E e s' → X.xe e s'
section
variable {X : Cx} {CX : CXT} {k : Nat} {f C : Addr} {fd : FuncData} {ps : List Str} {sp : Sp} {dvs : List V} {ds : List Value} {E : XK} {x m : Str} {p pos apos : Pos} {e o : Expr} {es : List Expr} {ta : TE} {t : TA}
theorem run_fn {pins : List (Addr × Obj)} {σ : St} {H : Hp} {s : Shared} {Q : VK} {us : List Value} {vs : List V} (F : FnOk X.prog X.w X.K X.mg X.base CX k f fd ps sp) (hr : Room k X.A) (hb : Binds X.K fd ps ds) (hd : Vals dvs ds) (hx : Passes CX X E)
    (I : Inv X pins σ H s) (r : Vals vs us) (h : sp (vs ++ dvs) H Q E) : wpAny (model X.prog X.w) X.A (call (.ref f) us) (EP X pins σ Q) X.xe s := by
  have r2 : Vals (vs ++ dvs) (us ++ ds) := r.append hd
  have hl : (us ++ ds).length = ps.length := by rw [← r2.length]; exact F.len _ _ _ _ h
  refine wpAny_call (codeAny_mono (F.run X.A X.stack s H ⟨us, []⟩ (us ++ ds) (vs ++ dvs) Q E hr I.env0 (hb s us I.kIn hl) r2 h) fun r s' hq => ?_)
  cases r with
  | error e => exact hx pins σ H s e s' I hq
  | ok fl =>
    cases fl with
    | ret u => exact I.after hq
    | next => exact False.elim hq
    | brk => exact False.elim hq
    | cont => exact False.elim hq
theorem pe_call (F : FnOk X.prog X.w X.K X.mg X.base CX k f fd ps sp) (hr : Room k X.A) (hg : Gl X x) (hm : X.mg x = some (.ref f)) (hk : PySem.W.keepIn X.K (.ref f) = true) (hb : Binds X.K fd ps ds) (hd : Vals dvs ds) (hx : Passes CX X E)
    (ha : PA X (e :: es) t) (hdb : (x == ("__debug__" : Str)) = false := by decide) (he : starEach (e :: es) X.env = (false, eval e X.env) :: starEach es X.env := by rfl) (hpl : (backTo pos (starEach es X.env)).any (·.1) = false := by rfl) :
    PE X (.Call (.Name x p) (e :: es) [] pos) (tCall sp dvs E t) := by
  intro pins s σ H Q I h
  refine wpAny_Call_Name_kw (ld_glob I hg hm ?_ hdb)
  refine PySem.W.callWith_K (h₀ := X.base) I.ok.mod.kin hk (thn (ha pos pins s σ H _ I h) fun us s1 ⟨vs, H1, I1, r, q⟩ => ⟨I1.kIn, ?_⟩) he hpl
  exact run_fn F hr hb hd hx I1 r q
structure Mk (K : PySem.W.Frag) (C f : Addr) : Prop where
  makes : PySem.W.makesIn K C = true
  init : PySem.W.findIn K (.ref C) "__init__" = some (some (.ref f))
  fn : PySem.W.isFn K (.ref f) = true
  kp : PySem.W.keepIn K (.ref C) = true
end
def PK (X : Cx) (kws : List Keyword) (t : TA) : Prop :=
  ∀ (pos : Pos) (pins : List (Addr × Obj)) (s : Shared) (σ : St) (H : Hp) (Q : List V → Hp → Prop), Inv X pins σ H s → t σ H Q → wpAny (model X.prog X.w) X.A (evalAll ((backToKw pos (keywordEach kws X.env)).map (·.2))) (AP X pins σ Q) X.xe s
section
variable {X : Cx} {CX : CXT} {k : Nat} {f C : Addr} {fd : FuncData} {ps ks : List Str} {sp : Sp} {E : XK} {x m : Str} {p pos apos kpos : Pos} {e o : Expr} {es : List Expr} {kws : List Keyword} {te ta : TE} {t tk : TA} {nm : Option Str}
structure KBinds (K : PySem.W.Frag) (fd : FuncData) (ps ks : List Str) (g : List Value → List Value → List Value) (gV : List V → List V → List V) : Prop where
  to : ∀ (s : Shared) (us ws : List Value), K.In s.heap → (g us ws).length = ps.length → BindsTo s fd ⟨us, ks.zip ws⟩ (ps.zip (g us ws))
  rel : ∀ {vs : List V} {us : List Value} {zs : List V} {ws : List Value}, Vals vs us → Vals zs ws → Vals (gV vs zs) (g us ws)
def tCallK (sp : Sp) (gV : List V → List V → List V) (E : XK) (t tk : TA) : TE := fun σ H Q => t σ H fun vs H1 => tk σ H1 fun zs H2 => sp (gV vs zs) H2 Q E
variable {g : List Value → List Value → List Value} {gV : List V → List V → List V}
end
structure FnScope (N P : List Str) (sc : Scope) : Prop where
  kind : sc.kind = .function
  co : sc.isCoroutine = false
  gen : sc.isGenerator = false
  nd : N.Nodup
  pre : N.take P.length = P
  par : ∀ x ∈ P, sc.names.lookup x = some .local ∨ sc.names.lookup x = some .cell
  nofree : ∀ y ∈ sc.names, y.2 ≠ .free
theorem bindL_out {kindOf : Str → Option NameKind} {x : Str} : ∀ {binds : List (Str × Value)} {m : Str → Option Value}, (∀ v, (x, v) ∉ binds) → bindL kindOf binds m x = m x
  | [], _, _ => rfl
  | (n, v) :: r, m, h => by
    unfold bindL
    rw [bindL_out fun w hw => h w (List.mem_cons_of_mem _ hw)]
    split
    · have : x ≠ n := by rintro rfl; exact h v List.mem_cons_self
      simp [this]
    · rfl
theorem bindC_out {kindOf : Str → Option NameKind} {x : Str} : ∀ {binds : List (Str × Value)} {m : Str → Option Value}, (∀ v, (x, v) ∉ binds) → bindC kindOf binds m x = m x
  | [], _, _ => rfl
  | (n, v) :: r, m, h => by
    unfold bindC
    rw [bindC_out fun w hw => h w (List.mem_cons_of_mem _ hw)]
    split
    · rfl
    · have : x ≠ n := by rintro rfl; exact h v List.mem_cons_self
      simp [this]
theorem bindL_get {kindOf : Str → Option NameKind} {x : Str} {v : Value} : ∀ {P : List Str} {vs : List Value} {i : Nat} {m : Str → Option Value}, P.Nodup → P[i]? = some x → vs[i]? = some v → kindOf x = some .local →
    bindL kindOf (P.zip vs) m x = some v
  | [], _, _, _, _, h, _, _ => by simp at h
  | _ :: _, [], _, _, _, _, h, _ => by simp at h
  | p :: P, w :: vs, 0, m, nd, h1, h2, hk => by
    simp at h1 h2; subst h1; subst h2
    show bindL kindOf ((p, w) :: P.zip vs) m p = _
    unfold bindL
    rw [bindL_out fun v hv => (List.nodup_cons.mp nd).1 (List.of_mem_zip hv).1, if_pos hk]
    simp
  | p :: P, w :: vs, i + 1, m, nd, h1, h2, hk => by
    show bindL kindOf ((p, w) :: P.zip vs) m x = _
    unfold bindL
    exact bindL_get (i := i) (List.nodup_cons.mp nd).2 (by simpa using h1) (by simpa using h2) hk
theorem bindC_get {kindOf : Str → Option NameKind} {x : Str} {v : Value} : ∀ {P : List Str} {vs : List Value} {i : Nat} {m : Str → Option Value}, P.Nodup → P[i]? = some x → vs[i]? = some v → kindOf x ≠ some .local →
    bindC kindOf (P.zip vs) m x = some v
  | [], _, _, _, _, h, _, _ => by simp at h
  | _ :: _, [], _, _, _, _, h, _ => by simp at h
  | p :: P, w :: vs, 0, m, nd, h1, h2, hk => by
    simp at h1 h2; subst h1; subst h2
    show bindC kindOf ((p, w) :: P.zip vs) m p = _
    unfold bindC
    rw [bindC_out fun v hv => (List.nodup_cons.mp nd).1 (List.of_mem_zip hv).1, if_neg hk]
    simp
  | p :: P, w :: vs, i + 1, m, nd, h1, h2, hk => by
    show bindC kindOf ((p, w) :: P.zip vs) m x = _
    unfold bindC
    exact bindC_get (i := i) (List.nodup_cons.mp nd).2 (by simpa using h1) (by simpa using h2) hk
def start (N : List Str) (vs : List V) : St := vs.map some ++ List.replicate (N.length - vs.length) none
def cxOf (CX : CXT) (P : Program) (w : World) (K : PySem.W.Frag) (mg : Str → Option Value) (base : Heap) (N : List Str) (qual : Str) (scope : Scope) (f : Addr) (cd : Value) (A : Around) (outer : List Env) (s : Shared) (H : Hp) (E : XK) : Cx where
  prog := P
  w := w
  K := K
  mg := mg
  base := base
  A := A.deeper (envOfC qual scope s.heap.objs.size f cd)
  N := N
  s₀ := s
  H₀ := H
  env := envOfC qual scope s.heap.objs.size f cd
  outer := outer
  stack := envOfC qual scope s.heap.objs.size f cd :: outer
  ex := []
  calm := true
  fn := fun _ => true
  pn := []
  xe := fun e s' => wpAny (model P w) (A.deeper (envOfC qual scope s.heap.objs.size f cd)) (leaving (envOfC qual scope s.heap.objs.size f cd) e) (fun _ s'' => CX outer H s E e s'') (fun e' s'' => CX outer H s E e' s'') s'
theorem cell_has {sc : Scope} {n : Nat} {x : Str} (h : sc.names.lookup x = some .cell) : ∃ c, (cellsFrom n sc.names []).lookup x = some c := by
  have q := PySem.W.cellsFrom_some sc.names n [] (.inl h)
  exact Option.isSome_iff_exists.mp q
theorem inv_start {CX : CXT} {P : Program} {w : World} {K : PySem.W.Frag} {mg : Str → Option Value} {base : Heap} {N ps : List Str} {qual : Str} {scope : Scope} {f : Addr} {cd : Value} {A : Around} {outer : List Env} {s s1 : Shared} {H : Hp} {E : XK} {us : List Value} {vs : List V}
    (S : FnScope N ps scope) (hd : A.handled = none) (e0 : Env0 P w K mg base A outer s H) (hl : vs.length = ps.length) (r : Vals vs us)
    (x : InCallC s s.heap.objs.size (bindL (envOfC qual scope s.heap.objs.size f cd).kindOf (ps.zip us) fun _ => none) (cellsFrom (s.heap.objs.size + 1) scope.names []) (bindC (envOfC qual scope s.heap.objs.size f cd).kindOf (ps.zip us) fun _ => none) s1) :
    Inv (cxOf CX P w K mg base N qual scope f cd A outer s H E) [] (start N vs) H s1 := by
  have hpl : ps.length ≤ N.length := by have := congrArg List.length S.pre; rw [List.length_take] at this; omega
  obtain ⟨h1, tk, rfl, hk⟩ := x.done
  have noA : ∀ b : Addr, b ∉ (cxOf CX P w K mg base N qual scope f cd A outer s H E).ex := fun b z => absurd (show b ∈ ([] : List Addr) from z) (by simp)
  refine ⟨⟨e0.mod, S.kind, rfl, rfl, Nat.le_refl _, fun y z c h1 h2 => ?_, fun y hy => ?_, fun y c _ h => ?_, fun _ => hd, Around.frames_deeper e0.frames, .inr ⟨rfl, rfl⟩, fun b z => absurd z (noA b), e0.bs, e0.bsz, fun b _ _ => noA b, fun b z => absurd z (noA b), e0.funs, e0.frf⟩,
    rfl, e0.bare, Un.kept hk, ⟨_, x.toInCall.ns, fun i y v h1 h2 h3 => ?_⟩, fun y c h => ⟨_, x.cell y c h⟩, e0.hok.fresh (Nat.le_refl _), fun y c h => ?_, fun p hp => absurd (show p ∈ ([] : List (Addr × Obj)) from hp) (by simp), e0.hok.kept hk, ?_⟩
  · exact name_of_addr x.apart (PySem.mem_of_lookup h1) (PySem.mem_of_lookup h2)
  · have hy : scope.names.lookup y = some .cell ∨ scope.names.lookup y = some .free := hy
    rcases hy with hy | hy
    · exact cell_has hy
    · exact absurd rfl (S.nofree _ (PySem.mem_of_lookup hy))
  · exact Nat.le_of_lt (x.above y c (PySem.mem_of_lookup h))
  · have hi : i < vs.length := by
      unfold start at h2
      by_cases hi : i < vs.length
      · exact hi
      · rw [List.getElem?_append_right (by simpa using hi)] at h2
        rw [List.getElem?_replicate] at h2
        split at h2 <;> cases h2
    have ha : vs[i]? = some v := by
      unfold start at h2
      rw [List.getElem?_append_left (by simpa using hi), List.getElem?_map] at h2
      cases e : vs[i]? with
      | none => rw [e] at h2; cases h2
      | some a => rw [e] at h2; cases h2; rfl
    obtain ⟨u, hu, rv⟩ := r.get ha
    have hp : ps[i]? = some y := by
      rw [← S.pre, List.getElem?_take_of_lt (by omega)]; exact h1
    have ndP : ps.Nodup := by rw [← S.pre]; exact S.nd.sublist (List.take_sublist _ _)
    refine ⟨u, rv, ?_⟩
    rcases S.par y (List.mem_of_getElem? hp) with k | k
    · exact .inl ⟨k, bindL_get ndP hp hu k⟩
    · obtain ⟨c, e⟩ := cell_has (n := s.heap.objs.size + 1) k
      refine .inr ⟨.inl k, c, e, ?_⟩
      have q := x.cell y c e
      rw [bindC_get ndP hp hu (by show scope.names.lookup y ≠ _; rw [k]; decide)] at q
      exact q
  · exact e0.hok.fresh (Nat.le_of_lt (x.above y c (PySem.mem_of_lookup h)))
  · unfold start
    show _ = N.length
    rw [List.length_append, List.length_map, List.length_replicate]
    omega
theorem fn_of {CX : CXT} {P : Program} {w : World} {K : PySem.W.Frag} {mg : Str → Option Value} {base : Heap} {k : Nat} {f : Addr} {name qual : Str} {params : Arguments} {body : List Stmt} {scope : Scope} {dV kV doc pm cdv ct oc : Value} {an od : Option Addr}
    {osl : Array (Option Value)} {N ps : List Str} {sp : Sp} (lk : K.lookup f = some ⟨oc, od, .func (PySem.W.fnOf name qual params body scope dV kV doc pm an cdv ct), osl⟩) (hcd : PySem.W.codeIn K cdv qual = true) (S : FnScope N ps scope)
    (len : ∀ vs H Q E, sp vs H Q E → vs.length = ps.length)
    (hbody : ∀ (A : Around) (outer : List Env) (s : Shared) (H : Hp) (vs : List V) (Q : VK) (E : XK), Room k (A.deeper (envOfC qual scope s.heap.objs.size f cdv)) → sp vs H Q E →
      ∃ t, PSs (cxOf CX P w K mg base N qual scope f cdv A outer s H E) body t ∧ t { nx := fun _ H' => Q .non H', rt := Q } (start N vs) H) :
    FnOk P w K mg base CX (k + 1) f (PySem.W.fnOf name qual params body scope dV kV doc pm an cdv ct) ps sp := by
  refine ⟨len, fun A outer s H args us vs Q E hr e0 hb r hsp => ?_⟩
  have hl := len _ _ _ _ hsp
  have KX : K.In s.heap := e0.mod.kin.keeps fun b o e => (e0.bs b o e).1
  have lim : s.heap.NoLimit := e0.mod.nolimit.keeps fun b o e => (e0.bs b o e).1
  have hkind : ∀ y ∈ ps.zip us, scope.names.lookup y.1 = some .local ∨ (scope.names.lookup y.1 = some .cell ∧ ((cellsFrom (s.heap.objs.size + 1) scope.names []).lookup y.1).isSome = true) := fun ⟨n, v⟩ hy => by
    rcases S.par n (List.of_mem_zip hy).1 with q | q
    · exact .inl q
    · exact .inr ⟨q, PySem.W.cellsFrom_some _ _ _ (.inl q)⟩
  refine codeAny_call_function hr.depth (KX _ _ lk) rfl S.co S.gen rfl (PySem.W.codeRec_of KX hcd) (hb _ _ _ _ ?_)
  refine wpAny_newFunctionEnv_cells S.kind hkind fun env he s1 x => ?_
  subst he
  refine ⟨lim.keeps x.toInCall.keep, codeAny_func ?_⟩
  obtain ⟨t, ht, hq⟩ := hbody A outer s H vs Q E (hr.deeper _) hsp
  have I : Inv (cxOf CX P w K mg base N qual scope f cdv A outer s H E) [] (start N vs) H s1 := inv_start S hr.hd e0 hl r x
  refine wpAny_mono (ht [] s1 (start N vs) H _ I hq) (fun fl s' hs => ?_) fun e s' hs => hs
  have fin : ∀ {σ' : St} {H' : Hp} {v : V} {u : Value}, Inv (cxOf CX P w K mg base N qual scope f cdv A outer s H E) [] σ' H' s' → RelV v u → Q v H' → CE outer P w H s Q u s' :=
    fun {σ' H' v u} J rv q => ⟨v, H', J.os, J.bare, J.base, J.hok, rv, q⟩
  cases fl with
  | ret u =>
    obtain ⟨v, σ', H', J, rv, q⟩ := hs
    exact fin J rv q
  | next =>
    obtain ⟨σ', H', J, q⟩ := hs
    exact fin (v := V.non) (u := Value.none) J rfl q
  | brk =>
    obtain ⟨_, _, _, q⟩ := hs
    exact False.elim q
  | cont =>
    obtain ⟨_, _, _, q⟩ := hs
    exact False.elim q
end L2
namespace L2
open PySem PySem.Spec PyProof.Rows
section
variable {X : Cx} {x : Str} {p pos : Pos} {e : Expr} {es : List Expr} {t : TA} {id T : String} {r : List V → Hp → VK → Prop}
def tCB (r : List V → Hp → VK → Prop) (t : TA) : TE := fun σ H Q => t σ H fun vs H1 => r vs H1 Q
theorem pe_callB (hc : CallR X (.builtin id) r) (hg : Gl X x) (hm : X.mg x = none) (hv : bootBuiltins x = some (.builtin id)) (ha : PA X (e :: es) t) (hn : x ≠ "__name__" := by decide) (hdb : (x == ("__debug__" : Str)) = false := by decide)
    (he : starEach (e :: es) X.env = (false, eval e X.env) :: starEach es X.env := by rfl) (hpl : (backTo pos (starEach es X.env)).any (·.1) = false := by rfl) : PE X (.Call (.Name x p) (e :: es) [] pos) (tCB r t) := by
  intro pins s σ H Q I h
  refine wpAny_Call_Name_kw (ld_blt I hg hm hv ?_ hn hdb)
  exact PyProof.Rows.callWith_builtin1 (thn (ha pos pins s σ H _ I h) fun us s1 ⟨vs, H1, I1, r1, q1⟩ => hc pins s1 σ H1 vs us Q I1 r1 q1) he hpl
theorem pe_callTy (hc : CallR X (.type T) r) (hg : Gl X x) (hm : X.mg x = none) (hv : bootBuiltins x = some (.type T)) (ha : PA X (e :: es) t) (hn : x ≠ "__name__" := by decide) (hdb : (x == ("__debug__" : Str)) = false := by decide)
    (he : starEach (e :: es) X.env = (false, eval e X.env) :: starEach es X.env := by rfl) (hpl : (backTo pos (starEach es X.env)).any (·.1) = false := by rfl) : PE X (.Call (.Name x p) (e :: es) [] pos) (tCB r t) := by
  intro pins s σ H Q I h
  refine wpAny_Call_Name_kw (ld_blt I hg hm hv ?_ hn hdb)
  exact PyProof.Rows.callWith_type1 (thn (ha pos pins s σ H _ I h) fun us s1 ⟨vs, H1, I1, r1, q1⟩ => hc pins s1 σ H1 vs us Q I1 r1 q1) he hpl
end
end L2
namespace HT
open PySem PyProof.Rows
def lexLt : List Int → List Int → Bool
  | [], [] => false
  | [], _ :: _ => true
  | _ :: _, [] => false
  | x :: xs, y :: ys => if x = y then lexLt xs ys else decide (x < y)
section
open PySem.SeqAt
open PySem.AutoSeq1 (wpAny_loadPart')
open PySem.MeetsSeq PySem.MeetsSeq2 PySem.MeetsSeq3
end
section
variable {prog : Program} {w : World} {A : Around} {E : Value → Shared → Prop} {s : Shared}
def sIx (n d : Nat) : Option Int → Nat
  | none => d
  | some v => if v < 0 then (v + (n : Int)).toNat else min v.toNat n
theorem sIx_none (n d : Nat) : sIx n d none = d := rfl
theorem sIx_nat (n d k : Nat) : sIx n d (some (k : Int)) = min k n := by
  show (if (k : Int) < 0 then ((k : Int) + (n : Int)).toNat else min (k : Int).toNat n) = min k n
  rw [if_neg (by omega), Int.toNat_natCast]
end
end HT
namespace L2
open PySem PySem.Spec PyProof.Rows
abbrev TO := St → Hp → (Option Int → Hp → Prop) → Prop
def PO (X : Cx) (e : Option Expr) (t : TO) : Prop :=
  ∀ (pins : List (Addr × Obj)) (s : Shared) (σ : St) (H : Hp) (Q : Option Int → Hp → Prop), Inv X pins σ H s → t σ H Q →
    wpAny (model X.prog X.w) X.A (evalPart e X.env) (fun u s' => ∃ o H', Inv X pins σ H' s' ∧ IsPart u o ∧ Q o H') X.xe s
def tNoPart : TO := fun _ H Q => Q none H
def tPart (t : TE) : TO := fun σ H Q => t σ H fun x H1 => ∃ i, x = .int i ∧ Q (some i) H1
theorem intsAre_of {ns : List Int} : ∀ {us : List Value}, Vals (ns.map V.int) us → IntsAre us ns := by
  induction ns with
  | nil => intro us r; rw [List.map_nil] at r; cases r; exact .nil
  | cons n ns ih =>
    intro us r
    rw [List.map_cons] at r
    cases r with
    | cons r1 r2 =>
      obtain ⟨t, e⟩ := r1
      subst e
      exact .cons n t (ih r2)
section
variable {X : Cx} {e : Expr} {te : TE} {lo hi : Option Expr} {tl th : TO} {pos p2 : Pos}
theorem po_none : PO X none tNoPart := by
  intro pins s σ H Q I h
  rw [evalPart_none]
  exact wpAny_pure ⟨none, H, I, .none, h⟩
theorem po_some (h : PE X e te) : PO X (some e) (tPart te) := by
  intro pins s σ H Q I hw
  rw [evalPart_some]
  refine thn (h pins s σ H _ I hw) fun u s1 ⟨x, H1, I1, r1, q1⟩ => ?_
  obtain ⟨i, rfl, q⟩ := q1
  obtain ⟨t, rfl⟩ := r1
  exact ⟨some i, H1, I1, .int i t, q⟩
def SlR (X : Cx) (r : V → Option Int → Option Int → Hp → VK → Prop) : Prop :=
  ∀ (pins : List (Addr × Obj)) (s : Shared) (σ : St) (H : Hp) (x : V) (v vl vu : Value) (lo hi : Option Int) (sl : Addr) (Q : VK), Inv X pins σ H s → RelV x v → s.heap.IsSliceOf sl vl vu .none → IsPart vl lo → IsPart vu hi → r x lo hi H Q →
    ∃ T id, typeLookup (.type T) "__getitem__" = pure (some (.builtin id)) ∧ s.TypeIs v T ∧ wpAny (model X.prog X.w) X.A (getItem v (.ref sl)) (EP X pins σ Q) X.xe s
def tSl (r : V → Option Int → Option Int → Hp → VK → Prop) (te : TE) (tl th : TO) : TE := fun σ H Q => te σ H fun x H1 => tl σ H1 fun l H2 => th σ H2 fun u H3 => r x l u H3 Q
theorem pe_slice {r : V → Option Int → Option Int → Hp → VK → Prop} (hr : SlR X r) (he : PE X e te) (hl : PO X lo tl) (hu : PO X hi th) : PE X (.Subscript e (.Slice lo hi none p2) pos) (tSl r te tl th) := by
  intro pins s σ H Q I h
  refine Subscript_ (thn (he pins s σ H _ I h) fun v s1 ⟨x, H1, I1, r1, q1⟩ => ?_)
  refine wpAny_Slice (thn (hl pins s1 σ H1 _ I1 q1) fun vl s2 ⟨l, H2, I2, pl, q2⟩ => thn (hu pins s2 σ H2 _ I2 q2) fun vu s3 ⟨u, H3, I3, pu, q3⟩ => ?_)
  rw [evalPart_none]
  refine wpAny_pure ?_
  have I4 : Inv X pins σ H3 { s3 with heap := s3.heap.push { cls := .type "slice", data := .fields #[vl, vu, .none] } } := I3.kept (t' := s3.toks) fun b ob q => Heap.get?_push_of_some _ q
  obtain ⟨T, id, hT, ht, hg⟩ := hr pins { s3 with heap := s3.heap.push { cls := .type "slice", data := .fields #[vl, vu, .none] } } σ H3 x v vl vu l u s3.heap.objs.size Q I4 r1 (Heap.IsSliceOf.new ..) pl pu q3
  show wpAny (model X.prog X.w) X.A (subscriptTail e (.Slice lo hi none p2) v (.ref s3.heap.objs.size)) (EP X pins σ Q) X.xe { s3 with heap := s3.heap.push { cls := .type "slice", data := .fields #[vl, vu, .none] } }
  exact tail_any (ops := [.ref s3.heap.objs.size, v]) ht hT hg (by with_unfolding_all rfl)
def cutV (xs : List V) (lo hi : Option Int) : List V := (xs.drop (HT.sIx xs.length 0 lo)).take (HT.sIx xs.length xs.length hi - HT.sIx xs.length 0 lo)
theorem cutV_length (xs : List V) (lo hi : Option Int) : (cutV xs lo hi).length ≤ xs.length := by
  unfold cutV
  rw [List.length_take, List.length_drop]
  omega
def rSlT (K : PySem.W.Frag) : V → Option Int → Option Int → Hp → VK → Prop := fun x lo hi H Q => ∃ a xs, x = .ref a ∧ SqT K H a xs ∧
  ¬ (HT.sIx xs.length 0 lo = 0 ∧ HT.sIx xs.length xs.length hi = xs.length) ∧ ∀ p, H p = none → Q (.ref p) (upd H p (.tup (cutV xs lo hi)))
def rLtT (K : PySem.W.Frag) : R2 := fun x y H Q => ∃ a b ns ms, x = .ref a ∧ y = .ref b ∧ SqT K H a (ns.map V.int) ∧ SqT K H b (ms.map V.int) ∧ Q (.bl (HT.lexLt ns ms)) H
def rCatT (K : PySem.W.Frag) : R2 := fun x y H Q => ∃ a b xs ys, x = .ref a ∧ y = .ref b ∧ SqT K H a xs ∧ SqT K H b ys ∧ xs ≠ [] ∧ xs.length + ys.length ≤ sizeLine ∧
  (ys = [] → Q (.ref a) H) ∧ (ys ≠ [] → ∀ p, H p = none → Q (.ref p) (upd H p (.tup (xs ++ ys))))
end
end L2
namespace L2
open PySem PySem.Spec PyProof.Rows
def ixN (n : Nat) (i : Int) : Option Nat := if 0 ≤ i then (if i < n then some i.toNat else none) else if -(n : Int) ≤ i then some (i + n).toNat else none
def atI {α : Type} (xs : List α) (i : Int) : Option α := (ixN xs.length i).bind fun j => xs[j]?
theorem ixN_seq {n : Nat} {i : Int} {j : Nat} (h : ixN n i = some j) : seqIndex? i n = some j ∧ j < n ∧ -(n : Int) ≤ i ∧ i < n := by
  unfold ixN at h
  by_cases h0 : 0 ≤ i
  · rw [if_pos h0] at h
    by_cases h1 : i < n
    · rw [if_pos h1] at h
      have e : i.toNat = j := Option.some.inj h
      exact ⟨by rw [seqIndex_of h0 h1, e], by omega, by omega, h1⟩
    · rw [if_neg h1] at h; cases h
  · rw [if_neg h0] at h
    by_cases h1 : -(n : Int) ≤ i
    · rw [if_pos h1] at h
      have e : (i + n).toNat = j := Option.some.inj h
      exact ⟨by rw [seqIndex_neg (by omega) h1, e], by omega, h1, by omega⟩
    · rw [if_neg h1] at h; cases h
theorem atI_get {α : Type} {xs : List α} {i : Int} {v : α} (h : atI xs i = some v) : ∃ j, seqIndex? i xs.length = some j ∧ xs[j]? = some v ∧ j < xs.length ∧ -(xs.length : Int) ≤ i ∧ i < xs.length := by
  unfold atI at h
  cases e : ixN xs.length i with
  | none => rw [e] at h; cases h
  | some j =>
    rw [e] at h
    obtain ⟨h1, h2, h3, h4⟩ := ixN_seq e
    exact ⟨j, h1, h, h2, h3, h4⟩
theorem atI_nat {α : Type} {xs : List α} {j : Nat} {v : α} (h : xs[j]? = some v) : atI xs (j : Int) = some v := by
  have hj : j < xs.length := (List.getElem?_eq_some_iff.mp h).1
  have e : ixN xs.length (j : Int) = some j := by
    unfold ixN
    rw [if_pos (by omega), if_pos (by omega)]; simp
  unfold atI; rw [e]; exact h
def PlainIx (b : Expr) : Prop := ∀ o i, subscripted b false o i = operate [o, i] (getItem o i)
def IxR (X : Cx) (r : R2) : Prop :=
  ∀ (value slice : Expr) (pins : List (Addr × Obj)) (s : Shared) (σ : St) (H : Hp) (x y : V) (v u : Value) (Q : VK), Inv X pins σ H s → RelV x v → RelV y u → r x y H Q →
    subscripted slice false v u = operate [v, u] (getItem v u) → wpAny (model X.prog X.w) X.A (subscriptTail value slice v u) (EP X pins σ Q) X.xe s
def MtR (X : Cx) (id : String) (r : V → List V → Hp → VK → Prop) : Prop :=
  ∀ (pins : List (Addr × Obj)) (s : Shared) (σ : St) (H : Hp) (x : V) (xs : List V) (v : Value) (us : List Value) (Q : VK), Inv X pins σ H s → RelV x v → Vals xs us → r x xs H Q →
    wpAny (model X.prog X.w) X.A (call (.builtin id) (v :: us)) (EP X pins σ Q) X.xe s
section
variable {X : Cx} {a b : Expr} {ta tb : TE} {pos : Pos}
theorem pe_ix {r : R2} (hr : IxR X r) (ha : PE X a ta) (hb : PE X b tb) (hs : PlainIx b) : PE X (.Subscript a b pos) (tOp r ta tb) := by
  intro pins s σ H Q I h
  exact Subscript_ (binT ha hb I h fun v u s2 x y H2 I2 rx ry q => hr a b pins s2 σ H2 x y v u Q I2 rx ry q (hs _ _))
def rIxL (K : PySem.W.Frag) : R2 := fun x y H Q => ∃ p xs i v, x = .ref p ∧ y = .int i ∧ SqL K H p xs ∧ atI xs i = some v ∧ Q v H
def rIxT (K : PySem.W.Frag) : R2 := fun x y H Q => ∃ p xs i v, x = .ref p ∧ y = .int i ∧ SqT K H p xs ∧ atI xs i = some v ∧ Q v H
def rIxS : R2 := fun x y H Q => ∃ z i c, x = .str z ∧ y = .int i ∧ z.length ≤ sizeLine ∧ atI z.cps.toList i = some c ∧ Q (.str ⟨#[c]⟩) H
theorem ix_list : IxR X (rIxL X.K) := by
  intro value slice pins s σ H x y v u Q I rx ry h hs
  obtain ⟨p, xs, i, z, rfl, rfl, hq, he, q⟩ := h
  cases rx
  obtain ⟨t, rfl⟩ := ry
  obtain ⟨its, r, pl, hz⟩ := I.list hq
  obtain ⟨j, h1, h2, h3, h4, h5⟩ := atI_get he
  obtain ⟨w, ew, rw'⟩ := r.get h2
  have hl := r.length
  have hn := line63
  have fin : EP X pins σ Q w s := ⟨z, H, I, rw', q⟩
  by_cases h0 : 0 ≤ i
  · have hj : i.toNat = j := by
      rw [seqIndex_of h0 h5] at h1
      exact Option.some.inj h1
    exact item_listR pl.isList h0 (by omega) (by rw [hj]; simpa using ew) fin hs
  · have hj : (i + (its.toArray.size : Int)).toNat = j := by
      rw [seqIndex_neg (by omega) h4] at h1
      rw [List.size_toArray, ← hl]
      exact Option.some.inj h1
    exact subscriptTail_builtinR (x := w) pl.isList.typeIs slot_list_getitem.lookup
      (wpAny_getItem_list_neg (Q := fun r s' => r = w ∧ EP X pins σ Q r s') pl.isList (by omega) (by rw [List.size_toArray] <;> omega) (by omega) (by rw [hj]; simpa using ew) ⟨rfl, fin⟩) hs
theorem ix_tup : IxR X (rIxT X.K) := by
  intro value slice pins s σ H x y v u Q I rx ry h hs
  obtain ⟨p, xs, i, z, rfl, rfl, hq, he, q⟩ := h
  cases rx
  obtain ⟨t, rfl⟩ := ry
  obtain ⟨its, r, pl, hz⟩ := I.tuple hq
  obtain ⟨j, h1, h2, h3, h4, h5⟩ := atI_get he
  obtain ⟨w, ew, rw'⟩ := r.get h2
  have hl := r.length
  have hn := line63
  have fin : EP X pins σ Q w s := ⟨z, H, I, rw', q⟩
  exact subscriptTail_builtinR (x := w) pl.typeIs slot_tuple_getitem.lookup
    (getItem_tuple (j := j) (Q := fun r s' => r = w ∧ EP X pins σ Q r s') pl (by omega) (by omega) (by rw [List.size_toArray, ← hl]; exact h1) (by simpa using ew) ⟨rfl, fin⟩) hs
theorem ix_str : IxR X rIxS := by
  intro value slice pins s σ H x y v u Q I rx ry h hs
  obtain ⟨z, i, c, rfl, rfl, hz, he, q⟩ := h
  obtain ⟨t, rfl⟩ := rx
  obtain ⟨t', rfl⟩ := ry
  obtain ⟨j, h1, h2, h3, h4, h5⟩ := atI_get he
  have hl : z.cps.toList.length = z.length := by simp [Str.length]
  rw [hl] at h1 h4 h5
  have hn := line63
  exact tail_any (typeIs_str s z t) slot_str_getitem.lookup (getItem_str (c := c) (by
    have e1 : decide (i < -(2 ^ 63 : Int)) = false := decide_eq_false (by omega)
    have e2 : decide (i ≥ 2 ^ 63) = false := decide_eq_false (by omega)
    rw [e1, e2, Bool.or_false]) (by rw [h1]; simpa using h2) ⟨.str ⟨#[c]⟩, H, I.tok _, ⟨_, rfl⟩, q⟩) hs
def rIx (K : PySem.W.Frag) : R2 := fun x y H Q => rIxL K x y H Q ∨ rIxT K x y H Q ∨ rIxS x y H Q
def rSetL : V → V → V → Hp → (Hp → Prop) → Prop := fun o i v H Q => ∃ p xs k j, o = .ref p ∧ i = .int k ∧ H p = some (.lst xs) ∧ ixN xs.length k = some j ∧ Q (upd H p (.lst (xs.set j v)))
theorem slice_bounds (lo hi : Option Int) (n : Nat) : (sliceBounds lo hi none n).1 = ((HT.sIx n 0 lo : Nat) : Int) ∧ (sliceBounds lo hi none n).2.1 = ((HT.sIx n n hi : Nat) : Int) ∧ (sliceBounds lo hi none n).2.2 = 1 := by
  refine ⟨?_, ?_, rfl⟩
  · cases lo with
    | none => simp [sliceBounds, HT.sIx]
    | some i =>
      simp only [sliceBounds, HT.sIx, Option.getD_none, show (1 : Int) > 0 by decide, if_true]
      by_cases h : i < 0
      · simp only [h, if_true] <;> omega
      · simp only [h, if_false] <;> omega
  · cases hi with
    | none => simp [sliceBounds, HT.sIx]
    | some i =>
      simp only [sliceBounds, HT.sIx, Option.getD_none, show (1 : Int) > 0 by decide, if_true]
      by_cases h : i < 0
      · simp only [h, if_true] <;> omega
      · simp only [h, if_false] <;> omega
theorem slicePick_cut (its : List Value) (lo hi : Option Int) : slicePick its.toArray lo hi none = ((its.drop (HT.sIx its.length 0 lo)).take (HT.sIx its.length its.length hi - HT.sIx its.length 0 lo)).toArray := by
  obtain ⟨h1, h2, h3⟩ := slice_bounds lo hi its.toArray.size
  unfold slicePick
  rw [h1, h2, h3]
  simp only [sliceRange_one, pick_run, List.size_toArray] <;> rfl
def rSlL (K : PySem.W.Frag) : V → Option Int → Option Int → Hp → VK → Prop := fun x lo hi H Q => ∃ a xs, x = .ref a ∧ SqL K H a xs ∧ ∀ p, H p = none → Q (.ref p) (upd H p (.lst (cutV xs lo hi)))
theorem sl_list : SlR X (rSlL X.K) := by
  intro pins s σ H x v vl vu lo hi sl Q I rx hs pl pu h
  obtain ⟨a, xs, rfl, hx, q⟩ := h
  cases rx
  obtain ⟨its, r, ht, hz⟩ := I.list hx
  have hlen := r.length
  refine ⟨"list", _, slot_list_getitem.lookup, ht.isList.typeIs, ?_⟩
  refine wpAny_getItem_list_slice ht.isList hs pl pu .none (by simp) ?_ (by rw [List.size_toArray] <;> omega)
  rw [slicePick_cut, ← hlen]
  refine ⟨.ref s.heap.objs.size, _, I.laid (t' := s.toks) (o := .lst (cutV xs lo hi)) (fun b ob q => Heap.get?_push_of_some _ q) (Nat.le_refl _) ?_, rfl, q _ (I.hok.fresh (Nat.le_refl _))⟩
  exact ⟨Nat.le_trans (cutV_length xs lo hi) hz, _, 0, (r.drop (HT.sIx xs.length 0 lo)).take (HT.sIx xs.length xs.length hi - HT.sIx xs.length 0 lo), Heap.get?_push_size _ rfl⟩
def flatV : V → Bool
  | .non => true
  | .bl _ => true
  | .int _ => true
  | .str _ => true
  | _ => false
def eqV : V → V → Bool
  | .non, .non => true
  | .bl a, .bl b => a == b
  | .bl a, .int b => (if a then 1 else 0) == b
  | .int a, .bl b => a == (if b then 1 else 0)
  | .int a, .int b => a == b
  | .str a, .str b => a == b
  | _, _ => false
theorem eqAt_V {A : Around} {s : Shared} {y x : V} {u v : Value} (ry : RelV y u) (rx : RelV x v) (fy : flatV y = true) (fx : flatV x = true) : SeqAt.EqAt A s u v (eqV y x) := by
  cases y with
  | non =>
    cases ry
    cases x with
    | non => cases rx; exact SeqAt.EqAt.same _
    | bl b => cases rx; exact SeqAt.EqAt.none_bool b
    | int b => obtain ⟨t, rfl⟩ := rx; exact SeqAt.EqAt.none_int b t
    | str b => obtain ⟨t, rfl⟩ := rx; exact SeqAt.EqAt.none_str b t
    | _ => exact absurd (show false = true from fx) Bool.false_ne_true
  | bl a =>
    cases ry
    cases x with
    | non => cases rx; exact SeqAt.EqAt.bool_none a
    | bl b => cases rx; exact SeqAt.EqAt.bool_bool a b
    | int b => obtain ⟨t, rfl⟩ := rx; exact SeqAt.EqAt.bool_int a b t
    | str b => obtain ⟨t, rfl⟩ := rx; exact SeqAt.EqAt.bool_str a b t
    | _ => exact absurd (show false = true from fx) Bool.false_ne_true
  | int a =>
    obtain ⟨t', rfl⟩ := ry
    cases x with
    | non => cases rx; exact SeqAt.EqAt.int_none a t'
    | bl b => cases rx; exact SeqAt.EqAt.int_bool a t' b
    | int b => obtain ⟨t, rfl⟩ := rx; exact SeqAt.EqAt.int_int a t' b t
    | str b => obtain ⟨t, rfl⟩ := rx; exact SeqAt.EqAt.int_str a t' b t
    | _ => exact absurd (show false = true from fx) Bool.false_ne_true
  | str a =>
    obtain ⟨t', rfl⟩ := ry
    cases x with
    | non => cases rx; exact SeqAt.EqAt.str_none a t'
    | bl b => cases rx; exact SeqAt.EqAt.str_bool a t' b
    | int b => obtain ⟨t, rfl⟩ := rx; exact SeqAt.EqAt.str_int a t' b t
    | str b => obtain ⟨t, rfl⟩ := rx; exact SeqAt.EqAt.str_str a t' b t
    | _ => exact absurd (show false = true from fx) Bool.false_ne_true
  | _ => exact absurd (show false = true from fy) Bool.false_ne_true
def eqU (x : V) (u : Value) : Bool := match u with
  | .none => eqV .non x
  | .bool b => eqV (.bl b) x
  | .int i _ => eqV (.int i) x
  | .str z _ => eqV (.str z) x
  | _ => false
theorem eqU_of {x y : V} {u : Value} (r : RelV y u) (f : flatV y = true) : eqU x u = eqV y x := by
  cases y with
  | non => cases r; rfl
  | bl b => cases r; rfl
  | int i => obtain ⟨t, rfl⟩ := r; rfl
  | str z => obtain ⟨t, rfl⟩ := r; rfl
  | _ => exact absurd (show false = true from f) Bool.false_ne_true
theorem any_eqU {x : V} : ∀ {xs : List V} {us : List Value}, Vals xs us → xs.all flatV = true → us.any (eqU x) = xs.any fun y => eqV y x
  | _, _, .nil, _ => rfl
  | y :: xs, u :: us, .cons r t, f => by
    rw [List.all_cons, Bool.and_eq_true] at f
    rw [List.any_cons, List.any_cons, eqU_of r f.1, any_eqU t f.2]
theorem mem_eqAt {A : Around} {s : Shared} {x : V} {v : Value} (rx : RelV x v) (fx : flatV x = true) : ∀ {xs : List V} {us : List Value}, Vals xs us → xs.all flatV = true → ∀ u ∈ us, SeqAt.EqAt A s u v (eqU x u)
  | _, _, .nil, _ => fun u hu => by cases hu
  | y :: xs, u :: us, .cons r t, f => fun u' hu => by
    rw [List.all_cons, Bool.and_eq_true] at f
    rcases List.mem_cons.mp hu with rfl | hu
    · rw [eqU_of r f.1]; exact eqAt_V r rx f.1 fx
    · exact mem_eqAt rx fx t f.2 u' hu
def inV (x : V) (xs : List V) : Bool := xs.any fun y => eqV y x
def rIn (K : PySem.W.Frag) (neg : Bool) : R2 := fun x y H Q => ∃ p xs, y = .ref p ∧ (SqL K H p xs ∨ SqT K H p xs) ∧ flatV x = true ∧ xs.all flatV = true ∧ Q (.bl (if neg then !inV x xs else inV x xs)) H
theorem op_in_seq : OpR X (compareOp .In) (rIn X.K false) := by
  intro pins s σ H x y v u Q I rx ry h
  obtain ⟨p, xs, rfl, hq, fx, fs, q⟩ := h
  cases ry
  rcases hq with hq | hq
  · obtain ⟨its, r, pl, hz⟩ := I.list hq
    refine SeqAt.in_listAt (eqU x) pl.isList (fun w hw => mem_eqAt rx fx r fs w (by simpa using hw)) ⟨.bl _, H, I, rfl, ?_⟩
    rw [show its.toArray.any (eqU x) = its.any (eqU x) by simp, any_eqU r fs]
    exact q
  · obtain ⟨its, r, pl, hz⟩ := I.tuple hq
    refine SeqAt.in_tupleAt (eqU x) pl (fun w hw => mem_eqAt rx fx r fs w (by simpa using hw)) ⟨.bl _, H, I, rfl, ?_⟩
    rw [show its.toArray.any (eqU x) = its.any (eqU x) by simp, any_eqU r fs]
    exact q
theorem op_notIn_seq : OpR X (compareOp .NotIn) (rIn X.K true) := by
  intro pins s σ H x y v u Q I rx ry h
  obtain ⟨p, xs, rfl, hq, fx, fs, q⟩ := h
  cases ry
  rcases hq with hq | hq
  · obtain ⟨its, r, pl, hz⟩ := I.list hq
    refine SeqAt.notIn_listAt (eqU x) pl.isList (fun w hw => mem_eqAt rx fx r fs w (by simpa using hw)) ⟨.bl _, H, I, rfl, ?_⟩
    rw [show its.toArray.any (eqU x) = its.any (eqU x) by simp, any_eqU r fs]
    exact q
  · obtain ⟨its, r, pl, hz⟩ := I.tuple hq
    refine SeqAt.notIn_tupleAt (eqU x) pl (fun w hw => mem_eqAt rx fx r fs w (by simpa using hw)) ⟨.bl _, H, I, rfl, ?_⟩
    rw [show its.toArray.any (eqU x) = its.any (eqU x) by simp, any_eqU r fs]
    exact q
theorem call_len_seq : CallR X (.builtin "len") (fun xs H Q => ∃ p ys, xs = [.ref p] ∧ (SqL X.K H p ys ∨ SqT X.K H p ys) ∧ Q (.int ys.length) H) := by
  intro pins s σ H xs us Q I r h
  obtain ⟨p, ys, rfl, hq, q⟩ := h
  obtain ⟨u, rfl, rx⟩ := vals1 r
  cases rx
  have hn := line63
  rcases hq with hq | hq
  · obtain ⟨its, r', pl, hz⟩ := I.list hq
    have hlen := r'.length
    exact Calls.call_len_list pl.isList (by simp only [List.size_toArray] <;> omega) ⟨.int ys.length, H, I.tok _, ⟨s.toks + 1, by rw [List.size_toArray, hlen]⟩, q⟩
  · obtain ⟨its, r', pl, hz⟩ := I.tuple hq
    have hlen := r'.length
    exact len_tuple pl (by simp only [List.size_toArray] <;> omega) ⟨.int ys.length, H, I.tok _, ⟨s.toks + 1, by rw [List.size_toArray, hlen]⟩, q⟩
theorem call_len_str : CallR X (.builtin "len") (fun xs H Q => ∃ z, xs = [.str z] ∧ z.length ≤ sizeLine ∧ Q (.int z.length) H) := by
  intro pins s σ H xs us Q I r h
  obtain ⟨z, rfl, hz, q⟩ := h
  obtain ⟨u, rfl, t, rfl⟩ := vals1 r
  have hn := line63
  exact len_str (by omega) ⟨.int z.length, H, I.tok _, ⟨_, rfl⟩, q⟩
theorem call_list_of : CallR X (.type "list") (fun xs H Q => ∃ p ys, xs = [.ref p] ∧ (SqL X.K H p ys ∨ SqT X.K H p ys) ∧ ∀ l, H l = none → Q (.ref l) (upd H l (.lst ys))) := by
  intro pins s σ H xs us Q I r h
  obtain ⟨p, ys, rfl, hq, q⟩ := h
  obtain ⟨u, rfl, rx⟩ := vals1 r
  cases rx
  have fin : ∀ (its : List Value), Vals ys its → ys.length ≤ sizeLine → ∀ (h' : Heap) (c' : Nat), (∀ b o', s.heap.get? b = some o' → h'.get? b = some o') →
      h'.get? s.heap.objs.size = some { cls := .type "list", dict := none, data := .seq its.toArray c', slots := #[] } → EP X pins σ Q (.ref s.heap.objs.size) { s with heap := h' } := fun its r' hz h' c' kp e =>
    ⟨.ref s.heap.objs.size, _, I.laid (t' := s.toks) kp (Nat.le_refl _) (show ObjOk X.prog X.w _ h' _ (.lst ys) from ⟨hz, its, c', r', e⟩), rfl, q _ (I.hok.fresh (Nat.le_refl _))⟩
  rcases hq with hq | hq
  · obtain ⟨its, r', pl, hz⟩ := I.list hq
    have hlen := r'.length
    obtain ⟨o, ho, hc, n, hd⟩ := pl.isList
    exact call_list_seq p (.inl rfl) ho hc hd (fun h' c' kp e => fin its r' hz h' c' kp e) (by simp only [List.size_toArray] <;> omega)
  · obtain ⟨its, r', pl, hz⟩ := I.tuple hq
    have hlen := r'.length
    obtain ⟨o, ho, hc, n, hd⟩ := pl
    exact call_list_seq p (.inr rfl) ho hc hd (fun h' c' kp e => fin its r' hz h' c' kp e) (by simp only [List.size_toArray] <;> omega)
def tyV (K : PySem.W.Frag) (T : String) (x : V) (H : Hp) : Prop := match x with
  | .str _ => T = "str"
  | .int _ => T = "int"
  | .ref p => (T = "list" ∧ ∃ xs, SqL K H p xs) ∨ (T = "tuple" ∧ ∃ o, K.lookup p = some o ∧ o.cls = .type "tuple" ∧ o.dict = none) ∨
      (T = "dict" ∧ ((∃ kvs, H p = some (.dK kvs)) ∨ ∃ kvs, H p = some (.dT kvs))) ∨ (T = "set" ∧ ∃ S n, H p = some (.set S n))
  | _ => False
theorem tyV_is {pins : List (Addr × Obj)} {σ : St} {H : Hp} {s : Shared} {T : String} {x : V} {v : Value} (I : Inv X pins σ H s) (r : RelV x v) (ty : tyV X.K T x H) :
    s.TypeIs v T ∧ ∀ a, v = .ref a → ∃ ob, s.heap.get? a = some ob ∧ ob.dict = none := by
  cases x with
  | str z =>
    obtain ⟨t, rfl⟩ := r
    cases (show T = "str" from ty)
    exact ⟨typeIs_str s z t, fun _ e => nomatch e⟩
  | int i =>
    obtain ⟨t, rfl⟩ := r
    cases (show T = "int" from ty)
    exact ⟨typeIs_int s i t, fun _ e => nomatch e⟩
  | ref p =>
    cases r
    rcases ty with ⟨rfl, xs, hq⟩ | ⟨rfl, o, hk, hc, hd⟩ | ⟨rfl, hk⟩ | ⟨rfl, S, n, hk⟩
    · obtain ⟨its, _, pl, _⟩ := I.list hq
      refine ⟨pl.isList.typeIs, fun a e => ?_⟩
      cases e
      obtain ⟨o, n, e, c, hd, _⟩ := pl
      exact ⟨o, e, hd⟩
    · refine ⟨⟨o, I.kIn p o hk, hc⟩, fun a e => ?_⟩
      cases e
      exact ⟨o, I.kIn _ o hk, hd⟩
    · have z : ∃ o, s.heap.get? p = some o ∧ o.ExactDict := by
        rcases hk with ⟨kvs, hk⟩ | ⟨kvs, hk⟩
        · obtain ⟨_, _, _, _, o, _, _, e, ex, _⟩ := I.hok p _ hk
          exact ⟨o, e, ex⟩
        · obtain ⟨_, _, _, _, o, _, _, e, ex, _⟩ := I.hok p _ hk
          exact ⟨o, e, ex⟩
      obtain ⟨o, e, ex⟩ := z
      refine ⟨⟨o, e, ex.1⟩, fun a e2 => ?_⟩
      cases e2
      exact ⟨o, e, ex.2.1⟩
    · obtain ⟨o, _, _, _, e, ex, _⟩ := I.hok p _ hk
      refine ⟨⟨o, e, ex.1⟩, fun a e2 => ?_⟩
      cases e2
      exact ⟨o, e, ex.2.1⟩
  | _ => exact False.elim ty
def tBM0 (K : PySem.W.Frag) (T : String) (r : V → List V → Hp → VK → Prop) (to : TE) : TE := fun σ H Q => to σ H fun x H1 => tyV K T x H1 ∧ r x [] H1 Q
def tBM (K : PySem.W.Frag) (T : String) (r : V → List V → Hp → VK → Prop) (to : TE) (t : TA) : TE := fun σ H Q => to σ H fun x H1 => tyV K T x H1 ∧ t σ H1 fun xs H2 => r x xs H2 Q
variable {o e : Expr} {es : List Expr} {to : TE} {t : TA} {name : Str} {apos cpos : Pos} {T id : String} {r : V → List V → Hp → VK → Prop}
theorem pe_bm (pa : PlainAttrs T) (slot : Slot T name id) (hty : typeOf (.builtin id) = pure (.type "method_descriptor")) (hm : MtR X id r) (ho : PE X o to) (ha : PA X (e :: es) t)
    (hbase : attributeBase o name X.env (eval o X.env) = eval o X.env := by rfl)
    (hfew : ((backTo cpos (starEach (e :: es) X.env)).all (fun x => !x.1) && (backToKw cpos (keywordEach [] X.env)).all (fun x => x.1.isSome)
      && decide ((e :: es).length + ([] : List Keyword).length + (if ([] : List Keyword).isEmpty then 0 else 1) < 30)) = true := by rfl)
    (hline : (apos.endLine == cpos.line) = true := by rfl) (hs : starEach (e :: es) X.env = (false, eval e X.env) :: starEach es X.env := by rfl) (hplain : (backTo cpos (starEach es X.env)).any (·.1) = false := by rfl) :
    PE X (.Call (.Attribute o name apos) (e :: es) [] cpos) (tBM X.K T r to t) := by
  intro pins s σ H Q I h
  refine wpAny_Call_method_late hbase hfew hline rfl (thn (ho pins s σ H _ I h) fun v s1 ⟨x, H1, I1, r1, ty, q1⟩ => ?_)
  obtain ⟨h1, h2⟩ := tyV_is I1 r1 ty
  refine ⟨T, id, pa, slot, hty, h1, h2, ?_⟩
  have hA := ha cpos pins s1 σ H1 _ I1 q1
  rw [hs] at hA ⊢
  refine Calls.callWith_builtin (by show (false || (backTo cpos (starEach es X.env)).any (·.1)) = false; rw [hplain] <;> rfl) (Calls.evalArgs_plain ?_)
  exact thn hA fun us s2 ⟨vs, H2, I2, r2, q2⟩ => hm pins s2 σ H2 x vs v us Q I2 r1 r2 q2
end
end L2
namespace L2
open PySem PySem.Spec PyProof.Rows
def MtM (X : Cx) (id : String) (r : V → List V → Hp → VK → Prop) : Prop :=
  ∀ (pins : List (Addr × Obj)) (s : Shared) (σ : St) (H : Hp) (x : V) (xs : List V) (v : Value) (us : List Value) (Q : VK), Inv X pins σ H s → RelV x v → Vals xs us → r x xs H Q →
    wpAny (model X.prog X.w) X.A (call (.builtin id) (v :: us)) (EP X pins σ Q) X.xe s
theorem Vals.one : ∀ {x : V} {us : List Value}, Vals [x] us → ∃ u, us = [u] ∧ RelV x u
  | _, _, .cons r .nil => ⟨_, rfl, r⟩
theorem Vals.two : ∀ {x y : V} {us : List Value}, Vals [x, y] us → ∃ u v, us = [u, v] ∧ RelV x u ∧ RelV y v
  | _, _, _, .cons r (.cons q .nil) => ⟨_, _, rfl, r, q⟩
section
variable {X : Cx} {pins : List (Addr × Obj)} {σ : St} {H : Hp} {s : Shared} {l b : Addr} {xs ys zs : List V}
theorem Inv.lset {its its' : List Value} {n : Nat} {f : Array Value → Array Value} {t' : Nat} (I : Inv X pins σ H s) (hH : H l = some (.lst xs))
    (e : s.heap.get? l = some { cls := .type "list", data := .seq its.toArray n }) (hf : f its.toArray = its'.toArray) (hv : Vals ys its') (hz : ys.length ≤ sizeLine) :
    Inv X pins σ (upd H l (.lst ys)) { s with heap := s.heap.update l (Obj.mapSeq f), toks := t' } := by
  have q := PySem.IsL.update e f
  rw [hf] at q
  refine I.write (x := l) (e := l) (by rw [hH]; exact trivial) (.inl rfl) (fun b' u hb hu => (Heap.get?_update_other s.heap (Obj.mapSeq f) (Ne.symm hb)).trans hu) ⟨_, q⟩ ?_
  exact ⟨hz, its', _, hv, q⟩
theorem Inv.lnew {its : List Value} {t' : Nat} (I : Inv X pins σ H s) (hv : Vals ys its) (hz : ys.length ≤ sizeLine) :
    Inv X pins σ (upd H s.heap.objs.size (.lst ys)) { s with heap := s.heap.push { cls := .type "list", data := .seq its.toArray }, toks := t' } :=
  I.laid (fun _ _ q => Heap.get?_push_of_some _ q) (Nat.le_refl _) ⟨hz, its, 0, hv, Heap.get?_push_size _ rfl⟩
theorem Inv.fresh (I : Inv X pins σ H s) : H s.heap.objs.size = none := I.hok.fresh (Nat.le_refl _)
theorem Inv.lstM (I : Inv X pins σ H s) (hH : H l = some (.lst xs)) : xs.length ≤ sizeLine ∧ ∃ (its : List Value) (n : Nat), Vals xs its ∧ xs.length = its.length ∧ s.heap.get? l = some { cls := .type "list", data := .seq its.toArray n } := by
  obtain ⟨z, its, n, r, e⟩ := I.hok l _ hH
  exact ⟨z, its, n, r, r.length, e⟩
theorem notLongL {n : Nat} (h : n ≤ sizeLine) : Builtin.List.listTooLong n = false := by
  unfold Builtin.List.listTooLong
  exact decide_eq_false (by omega)
end
section
variable {X : Cx}
def rAppend : V → List V → Hp → VK → Prop := fun x vs H Q => ∃ l xs y, x = .ref l ∧ vs = [y] ∧ H l = some (.lst xs) ∧ xs.length < sizeLine ∧ Q .non (upd H l (.lst (xs ++ [y])))
theorem mt_append : MtM X "list.append" rAppend := by
  intro pins s σ H x vs v us Q I rx rv h
  obtain ⟨l, xs, y, rfl, rfl, hH, hz, q⟩ := h
  cases rx
  obtain ⟨u, rfl, ru⟩ := rv.one
  obtain ⟨z, its, n, r, hl, e⟩ := I.lstM hH
  refine call_meets F.slot_list_append ⟨_, e, rfl⟩ F.entry_list_append (F.args_list_append_2 _ _) (PySem.list_append l its.toArray n u (by rw [List.size_toArray]; omega)) ⟨e, ?_⟩
  refine ⟨.non, _, I.lset (its' := its ++ [u]) hH e (by simp) (r.append (.cons ru .nil)) ?_, rfl, q⟩
  rw [List.length_append, List.length_singleton]
  omega
def rExtend : V → List V → Hp → VK → Prop := fun x vs H Q => ∃ l b xs zs, x = .ref l ∧ vs = [.ref b] ∧ H l = some (.lst xs) ∧ H b = some (.lst zs) ∧ xs.length + zs.length ≤ sizeLine ∧ Q .non (upd H l (.lst (xs ++ zs)))
theorem mt_extend : MtM X "list.extend" rExtend := by
  intro pins s σ H x vs v us Q I rx rv h
  obtain ⟨l, b, xs, zs, rfl, rfl, hH, hB, hz, q⟩ := h
  cases rx
  obtain ⟨u, rfl, ru⟩ := rv.one
  cases ru
  obtain ⟨z, its, n, r, hl, e⟩ := I.lstM hH
  obtain ⟨z2, its2, n2, r2, hl2, e2⟩ := I.lstM hB
  have hsz : its.toArray.size + its2.toArray.size ≤ sizeLine := by rw [List.size_toArray, List.size_toArray]; omega
  have hlong : ¬ (!its.toArray.isEmpty && Builtin.List.listTooLong (its.toArray.size + its2.toArray.size)) = true := by
    rw [notLongL hsz, Bool.and_false]
    exact Bool.false_ne_true
  refine call_meets F.slot_list_extend ⟨_, e, rfl⟩ F.entry_list_extend (F.args_list_extend_2 _ _)
    (AutoSeq1.list_extend_list_list_0 l its.toArray n b its2.toArray n2 hlong (by rw [List.size_toArray]; omega) (by omega)) ⟨e, e2, ?_⟩
  refine ⟨.non, _, I.lset (its' := its ++ its2) hH e (by simp) (r.append r2) ?_, rfl, q⟩
  rw [List.length_append]
  omega
def rPop : V → List V → Hp → VK → Prop := fun x vs H Q => ∃ l xs y, x = .ref l ∧ vs = [] ∧ H l = some (.lst xs) ∧ xs[xs.length - 1]? = some y ∧ Q y (upd H l (.lst xs.dropLast))
def rPopAt : V → List V → Hp → VK → Prop := fun x vs H Q => ∃ l xs i k y, x = .ref l ∧ vs = [.int i] ∧ H l = some (.lst xs) ∧ -(2 ^ 63) ≤ i ∧ i < 2 ^ 63 ∧ seqIndex? i xs.length = some k ∧ xs[k]? = some y ∧ Q y (upd H l (.lst (xs.eraseIdx k)))
def rReverse : V → List V → Hp → VK → Prop := fun x vs H Q => ∃ l xs, x = .ref l ∧ vs = [] ∧ H l = some (.lst xs) ∧ Q .non (upd H l (.lst xs.reverse))
def rClear : V → List V → Hp → VK → Prop := fun x vs H Q => ∃ l xs, x = .ref l ∧ vs = [] ∧ H l = some (.lst xs) ∧ Q .non (upd H l (.lst []))
def rCat : R2 := fun x y H Q => ∃ l b xs zs, x = .ref l ∧ y = .ref b ∧ H l = some (.lst xs) ∧ H b = some (.lst zs) ∧ xs.length + zs.length ≤ sizeLine ∧ ∀ p, H p = none → Q (.ref p) (upd H p (.lst (xs ++ zs)))
theorem op_cat : OpR X (binaryOp .Add) rCat := by
  intro pins s σ H x y v u Q I rx ry h
  obtain ⟨l, b, xs, zs, rfl, rfl, hH, hB, hz, q⟩ := h
  cases rx
  cases ry
  obtain ⟨z, its, n, r, hl, e⟩ := I.lstM hH
  obtain ⟨z2, its2, n2, r2, hl2, e2⟩ := I.lstM hB
  refine PySem.P.add_list e e2 ?_ (by rw [List.size_toArray, List.size_toArray]; omega)
  have ea : its.toArray ++ its2.toArray = (its ++ its2).toArray := by simp
  rw [ea]
  exact ⟨.ref _, _, I.lnew (t' := s.toks) (r.append r2) (by rw [List.length_append]; omega), rfl, q _ I.fresh⟩
def rRep : R2 := fun x y H Q => ∃ l k xs, x = .ref l ∧ y = .int k ∧ H l = some (.lst xs) ∧ -(2 ^ 63) ≤ k ∧ k < 2 ^ 63 ∧ xs.length * k.toNat ≤ sizeLine ∧
  ∀ p, H p = none → Q (.ref p) (upd H p (.lst (List.replicate k.toNat xs).flatten))
end
section
variable {prog : Program} {w : World} {A : Around} {E : Value → Shared → Prop} {s : Shared}
end
section
variable {X : Cx}
end
open PySem PySem.Spec PyProof.Rows
section
variable {κ : Type} [DecidableEq κ]
def valV (kvs : List (κ × V)) (k : κ) : Option V := (kvs.find? fun kv => decide (kv.1 = k)).map (·.2)
def putK (kvs : List (κ × V)) (k : κ) (v : V) : List (κ × V) :=
  if (kvs.any fun kv => decide (kv.1 = k)) = true then kvs.map (fun kv => if kv.1 = k then (kv.1, v) else kv) else kvs ++ [(k, v)]
def dropK (kvs : List (κ × V)) (k : κ) : List (κ × V) := kvs.filter fun kv => decide (kv.1 ≠ k)
theorem valV_nil {k : κ} : valV ([] : List (κ × V)) k = none := rfl
theorem valV_pos {p : κ × V} {r : List (κ × V)} {k : κ} (e : p.1 = k) : valV (p :: r) k = some p.2 := by simp [valV, List.find?_cons, e]
theorem valV_neg {p : κ × V} {r : List (κ × V)} {k : κ} (e : ¬ p.1 = k) : valV (p :: r) k = valV r k := by simp [valV, List.find?_cons, e]
theorem valV_any (k : κ) : ∀ kvs : List (κ × V), (kvs.any fun kv => decide (kv.1 = k)) = (valV kvs k).isSome
  | [] => rfl
  | p :: r => by
    rw [List.any_cons]
    by_cases e : p.1 = k
    · simp only [valV_pos e, decide_eq_true e, Bool.true_or, Option.isSome_some]
    · rw [valV_neg e, decide_eq_false e, Bool.false_or]; exact valV_any k r
theorem valV_map (k j : κ) (y : V) : ∀ kvs : List (κ × V), valV (kvs.map fun kv => if kv.1 = k then (kv.1, y) else kv) j = (valV kvs j).map fun x => if j = k then y else x
  | [] => rfl
  | p :: r => by
    have ih := valV_map k j y r
    rw [List.map_cons]
    by_cases h : p.1 = k
    · rw [if_pos h]
      by_cases e : p.1 = j
      · rw [valV_pos (p := (p.1, y)) e, valV_pos e, Option.map_some, if_pos (e.symm.trans h)]
      · rw [valV_neg (p := (p.1, y)) e, valV_neg e, ih]
    · rw [if_neg h]
      by_cases e : p.1 = j
      · rw [valV_pos (p := p) e, valV_pos e, Option.map_some, if_neg (fun z => h (e.trans z))]
      · rw [valV_neg (p := p) e, valV_neg e, ih]
theorem valV_snoc (k j : κ) (y : V) : ∀ kvs : List (κ × V), valV kvs k = none → valV (kvs ++ [(k, y)]) j = if j = k then some y else valV kvs j
  | [], _ => by
    by_cases e : k = j
    · rw [if_pos e.symm]; exact valV_pos (p := (k, y)) e
    · rw [if_neg (fun z => e z.symm)]; exact valV_neg (p := (k, y)) e
  | p :: r, hn => by
    rw [List.cons_append]
    have hk : ¬ p.1 = k := fun z => by rw [valV_pos z] at hn; cases hn
    rw [valV_neg hk] at hn
    have ih := valV_snoc k j y r hn
    by_cases e : p.1 = j
    · rw [valV_pos e, valV_pos e, if_neg (fun z => hk (e.trans z))]
    · rw [valV_neg e, valV_neg e, ih]
theorem valV_put (kvs : List (κ × V)) (k j : κ) (y : V) : valV (putK kvs k y) j = if j = k then some y else valV kvs j := by
  unfold putK
  by_cases a : (kvs.any fun kv => decide (kv.1 = k)) = true
  · rw [if_pos a, valV_map]
    rw [valV_any] at a
    by_cases e : j = k
    · obtain ⟨x, hx⟩ := Option.isSome_iff_exists.mp a
      rw [if_pos e, e, hx, Option.map_some, if_pos rfl]
    · rw [if_neg e]
      cases valV kvs j with
      | none => rfl
      | some x => rw [Option.map_some, if_neg e]
  · rw [if_neg a]
    refine valV_snoc k j y kvs ?_
    rw [valV_any] at a
    cases q : valV kvs k with
    | none => rfl
    | some x => rw [q] at a; exact (a rfl).elim
theorem length_putK (kvs : List (κ × V)) (k : κ) (v : V) : (putK kvs k v).length ≤ kvs.length + 1 := by
  unfold putK
  split
  · rw [List.length_map]; omega
  · rw [List.length_append, List.length_cons, List.length_nil]; omega
theorem RelO.isSome_eq {o : Option V} {u : Option Value} (r : RelO o u) : o.isSome = u.isSome := by
  cases o with
  | none => cases u with
    | none => rfl
    | some _ => exact (show False from r).elim
  | some _ => cases u with
    | none => exact (show False from r).elim
    | some _ => rfl
theorem RelO.getD {o : Option V} {u : Option Value} {d : V} {d' : Value} (r : RelO o u) (rd : RelV d d') : RelV (o.getD d) (u.getD d') := by
  cases o with
  | none => cases u with
    | none => exact rd
    | some _ => exact (show False from r).elim
  | some _ => cases u with
    | none => exact (show False from r).elim
    | some _ => exact r
theorem KV.val {kvs : List (κ × V)} {vs : List (κ × Value)} (r : KV kvs vs) (k : κ) : RelO (valV kvs k) (valueAt vs k) := by
  unfold KV at r
  induction r with
  | nil => exact True.intro
  | @cons p q ps qs h t ih =>
    obtain ⟨h1, h2⟩ := h
    by_cases e : p.1 = k
    · have e' : q.1 = k := h1.symm.trans e
      have b : valueAt (q :: qs) k = some q.2 := by simp [valueAt, List.find?_cons, e']
      rw [valV_pos e, b]; exact h2
    · have e' : ¬ q.1 = k := fun z => e (h1.trans z)
      have b : valueAt (q :: qs) k = valueAt qs k := by simp [valueAt, List.find?_cons, e']
      rw [valV_neg e, b]; exact ih
theorem KV.any {kvs : List (κ × V)} {vs : List (κ × Value)} (r : KV kvs vs) (k : κ) : (kvs.any fun kv => decide (kv.1 = k)) = vs.any fun kv => decide (kv.1 = k) := by
  unfold KV at r
  induction r with
  | nil => rfl
  | cons h t ih => rw [List.any_cons, List.any_cons, ih, h.1]
theorem KV.repl {kvs : List (κ × V)} {vs : List (κ × Value)} (r : KV kvs vs) (k : κ) {y : V} {u : Value} (ry : RelV y u) :
    KV (kvs.map fun kv => if kv.1 = k then (kv.1, y) else kv) (vs.map fun kv => if kv.1 = k then (kv.1, u) else kv) := by
  unfold KV at r ⊢
  induction r with
  | nil => exact .nil
  | @cons p q ps qs h t ih =>
    rw [List.map_cons, List.map_cons]
    refine .cons ?_ ih
    obtain ⟨h1, h2⟩ := h
    by_cases e : p.1 = k
    · rw [if_pos e, if_pos (h1.symm.trans e)]; exact ⟨h1, ry⟩
    · rw [if_neg e, if_neg (fun z => e (h1.trans z))]; exact ⟨h1, h2⟩
theorem KV.put {kvs : List (κ × V)} {vs : List (κ × Value)} (r : KV kvs vs) (k : κ) {y : V} {u : Value} (ry : RelV y u) : KV (putK kvs k y) (stored vs k u) := by
  unfold putK stored
  rw [r.any k]
  by_cases e : (vs.any fun kv => decide (kv.1 = k)) = true
  · rw [if_pos e, if_pos e]; exact r.repl k ry
  · rw [if_neg e, if_neg e]; exact Paired.snoc r ⟨rfl, ry⟩
theorem KV.length {kvs : List (κ × V)} {vs : List (κ × Value)} (r : KV kvs vs) : kvs.length = vs.length := Paired.length r
end
theorem kV_is {P : Program} {w : World} {k : Key} {u : Value} (r : RelV (kV k) u) : (mixKind P w).is k u = true := by
  cases k with
  | inl i => obtain ⟨t, e⟩ := (show ∃ t, u = Value.int i t from r); subst e; exact mixKind_int P w i t
  | inr x => obtain ⟨t, e⟩ := (show ∃ t, u = Value.str x t from r); subst e; exact mixKind_str P w x t
theorem items_are {P : Program} {w : World} : ∀ {ks : List Key} {us : List Value}, Vals (ks.map kV) us → ItemsAre (mixKind P w) ks us
  | [], _, r => by rw [List.map_nil] at r; cases r; exact .nil
  | k :: ks, _, r => by
    rw [List.map_cons] at r
    cases r with
    | cons h t => exact .cons (kV_is h) (items_are t)
abbrev KT (H : Hp) : List (List Key × V) → List (List Key × Addr × Value) → Prop := Paired fun p q => p.1 = q.1 ∧ H q.2.1 = some (.tup (p.1.map kV)) ∧ RelV p.2 q.2.2
theorem KT.val {H : Hp} {kvs : List (List Key × V)} {xs : List (List Key × Addr × Value)} (r : KT H kvs xs) (k : List Key) : RelO (valV kvs k) ((atKey xs k).map (·.2)) := by
  induction r with
  | nil => exact True.intro
  | @cons p q ps qs h t ih =>
    obtain ⟨h1, _, h2⟩ := h
    by_cases e : p.1 = k
    · have e' : q.1 = k := h1.symm.trans e
      have b : atKey (q :: qs) k = some q.2 := by simp [atKey, List.find?_cons, e']
      rw [valV_pos e, b]; exact h2
    · have e' : ¬ q.1 = k := fun z => e (h1.trans z)
      have b : atKey (q :: qs) k = atKey qs k := by simp [atKey, List.find?_cons, e']
      rw [valV_neg e, b]; exact ih
theorem KT.repl {H : Hp} {kvs : List (List Key × V)} {xs : List (List Key × Addr × Value)} (r : KT H kvs xs) (k : List Key) {y : V} {u : Value} (ry : RelV y u) :
    KT H (kvs.map fun kv => if kv.1 = k then (kv.1, y) else kv) (xs.map (putAt k u)) := by
  induction r with
  | nil => exact .nil
  | @cons p q ps qs h t ih =>
    rw [List.map_cons, List.map_cons]
    refine .cons ?_ ih
    obtain ⟨h1, h2, h3⟩ := h
    unfold putAt
    by_cases e : p.1 = k
    · rw [if_pos e, if_pos (h1.symm.trans e)]; exact ⟨h1, h2, ry⟩
    · rw [if_neg e, if_neg (fun z => e (h1.trans z))]; exact ⟨h1, h2, h3⟩
theorem KT.put {H : Hp} {kvs : List (List Key × V)} {xs : List (List Key × Addr × Value)} (r : KT H kvs xs) (k : List Key) {b : Addr} {y : V} {u : Value} (hb : H b = some (.tup (k.map kV))) (ry : RelV y u) :
    KT H (putK kvs k y) (storedH xs k b u) := by
  have e : (kvs.any fun kv => decide (kv.1 = k)) = (atKey xs k).isSome := by
    rw [valV_any, (r.val k).isSome_eq, Option.isSome_map]
  unfold putK storedH
  rw [e]
  by_cases q : (atKey xs k).isSome = true
  · rw [if_pos q, if_pos q]; exact r.repl k ry
  · rw [if_neg q, if_neg q]; exact Paired.snoc r ⟨rfl, hb, ry⟩
theorem KT.keeps {H H' : Hp} {kvs : List (List Key × V)} {xs : List (List Key × Addr × Value)} (r : KT H kvs xs) (ht : ∀ b ys, H b = some (.tup ys) → H' b = some (.tup ys)) : KT H' kvs xs :=
  Paired.mapP r fun _ _ z => ⟨z.1, ht _ _ z.2.1, z.2.2⟩
section
variable {P : Program} {w : World} {H : Hp} {h : Heap} {a : Addr}
theorem rd_of {u : HO} (ok : HOk P w H h) (e : Rd H a u) : ObjOk P w H h a u := e.ok ok
theorem dk_rd {kvs : List (Key × V)} (ok : HOk P w H h) (e : Rd H a (.dK kvs)) : kvs.length ≤ sizeLine ∧ (a == sysModules) = false ∧ ∃ vs, KV kvs vs ∧ h.DictOf (mixKind P w) a vs :=
  show ObjOk P w H h a (.dK kvs) from rd_of ok e
theorem dk_of {kvs : List (Key × V)} (ok : HOk P w H h) (e : H a = some (.dK kvs)) : kvs.length ≤ sizeLine ∧ (a == sysModules) = false ∧ ∃ vs, KV kvs vs ∧ h.DictOf (mixKind P w) a vs := dk_rd ok (.inl e)
theorem key_of {ks : List Key} (ok : HOk P w H h) (e : H a = some (.tup (ks.map kV))) : (tupleKind (mixKind P w)).is h ks a := by
  obtain ⟨_, its, r, o, h1, h2, n, h3⟩ := (show ObjOk P w H h a (.tup (ks.map kV)) from ok a _ e)
  exact ⟨o, its.toArray, n, h1, h2, h3, by simpa using items_are r⟩
theorem dt_rd {kvs : List (List Key × V)} (ok : HOk P w H h) (e : Rd H a (.dT kvs)) : kvs.length ≤ sizeLine ∧ (a == sysModules) = false ∧
    ∃ xs, KT H kvs xs ∧ h.DictOfH (tupleKind (mixKind P w)) a xs := by
  obtain ⟨z, y, xs, r, o, es, ep, h1, h2, h3, h4, h5⟩ := (show ObjOk P w H h a (.dT kvs) from rd_of ok e)
  refine ⟨z, y, xs, r, o, es, ep, h1, h2, h3, h4, fun x hx => ?_, h5⟩
  have all : ∀ {l : List (List Key × V)} {m : List (List Key × Addr × Value)}, KT H l m → ∀ x ∈ m, (tupleKind (mixKind P w)).is h x.1 x.2.1 := by
    intro l m q
    induction q with
    | nil => intro x hx; exact nomatch hx
    | @cons p q ps qs hq t ih =>
      intro x hx
      rcases List.mem_cons.mp hx with e | hx
      · subst e
        exact key_of ok (by rw [← hq.1]; exact hq.2.1)
      · exact ih x hx
  exact all r x hx
theorem dt_of {kvs : List (List Key × V)} (ok : HOk P w H h) (e : H a = some (.dT kvs)) : kvs.length ≤ sizeLine ∧ (a == sysModules) = false ∧
    ∃ xs, KT H kvs xs ∧ h.DictOfH (tupleKind (mixKind P w)) a xs := dt_rd ok (.inl e)
end
def DGet (H : Hp) (a : Addr) (y : V) (r : Option V) : Prop :=
  (∃ kvs k, Rd H a (.dK kvs) ∧ y = kV k ∧ r = valV kvs k) ∨ ∃ kvs k b, Rd H a (.dT kvs) ∧ y = .ref b ∧ H b = some (.tup (k.map kV)) ∧ r = valV kvs k
def DPut (H : Hp) (a : Addr) (y v : V) (H' : Hp) : Prop :=
  (∃ kvs k, H a = some (.dK kvs) ∧ y = kV k ∧ kvs.length < sizeLine ∧ H' = upd H a (.dK (putK kvs k v))) ∨
  ∃ kvs k b, H a = some (.dT kvs) ∧ y = .ref b ∧ H b = some (.tup (k.map kV)) ∧ kvs.length < sizeLine ∧ H' = upd H a (.dT (putK kvs k v))
theorem DGet.k {H : Hp} {a : Addr} {kvs : List (Key × V)} {k : Key} (e : H a = some (.dK kvs)) : DGet H a (kV k) (valV kvs k) := .inl ⟨kvs, k, .inl e, rfl, rfl⟩
theorem DPut.k {H : Hp} {a : Addr} {kvs : List (Key × V)} {k : Key} {v : V} (e : H a = some (.dK kvs)) (hl : kvs.length < sizeLine) : DPut H a (kV k) v (upd H a (.dK (putK kvs k v))) := .inl ⟨kvs, k, e, rfl, hl, rfl⟩
section
variable {X : Cx} {pins : List (Addr × Obj)} {σ : St} {H : Hp} {s : Shared} {a : Addr} {y v : V} {u r : Value} {o : Option V} {A : Around} {E : Value → Shared → Prop}
theorem Inv.big (I : Inv X pins σ H s) : sysModules < s.heap.objs.size := by
  have h : mainGlobals < s.heap.objs.size := (I.mod.glob.keeps I.bk).lt
  exact Nat.lt_trans (by decide) h
theorem d_getItem {Q : Value → Shared → Prop} (hu : A.units + 1 < cLine) (I : Inv X pins σ H s) (g : DGet H a y (some v)) (ry : RelV y u) (h : ∀ w' s', Inv X pins σ H s' → RelV v w' → Q w' s') :
    wpAny (model X.prog X.w) A (getItem (.ref a) u) Q E s := by
  rcases g with ⟨kvs, k, e, ey, l⟩ | ⟨kvs, k, b, e, ey, eb, l⟩
  · subst ey
    obtain ⟨z, hd, vs, rel, dd⟩ := dk_rd I.hok e
    obtain ⟨w', hw, rw'⟩ := RelO.some_of (v := v) (o := valueAt vs k) (by rw [l]; exact rel.val k)
    exact wpAny_getItem_of (kV_is ry) dd.mapOf hw (h w' _ (I.tok _) rw')
  · subst ey
    cases (show u = Value.ref b from ry)
    obtain ⟨z, hd, xs, rel, dd⟩ := dt_rd I.hok e
    obtain ⟨w', hw, rw'⟩ := RelO.some_of (v := v) (o := (atKey xs k).map (·.2)) (by rw [l]; exact rel.val k)
    obtain ⟨p, hp, hp2⟩ := Option.map_eq_some_iff.mp hw
    refine wpAny_getItem_heap (tupleKind_room_in1 hu) (key_of I.hok eb) dd hp ?_
    rw [hp2]
    exact h w' _ (I.tok _) rw'
theorem d_write {h' : Heap} {t' : Nat} {ob : HO} (I : Inv X pins σ H s) (mu : Mut (H a)) (hs : Heap.SameBut a s.heap h') (he : ∃ q, h'.get? a = some q) (new : ObjOk X.prog X.w (upd H a ob) h' a ob) :
    Inv X pins σ (upd H a ob) { s with heap := h', toks := t' } :=
  I.write (x := a) (e := a) mu (.inl rfl) (fun b q hb z => (hs.2 b hb).trans z) he new
theorem dk_new {P : Program} {w : World} {H' : Hp} {h' : Heap} {kvs : List (Key × V)} {vs : List (Key × Value)} (z : kvs.length ≤ sizeLine) (hd : (a == sysModules) = false) (rel : KV kvs vs) (dd : h'.DictOf (mixKind P w) a vs) :
    ObjOk P w H' h' a (.dK kvs) := ⟨z, hd, vs, rel, dd⟩
theorem d_setItem {H' : Hp} {Q : Unit → Shared → Prop} (hu : A.units + 1 < cLine) (I : Inv X pins σ H s) (g : DPut H a y v H') (ry : RelV y u) (rv : RelV v r) (h : ∀ s', Inv X pins σ H' s' → Q () s') :
    wpAny (model X.prog X.w) A (setItem (.ref a) u r) Q E s := by
  rcases g with ⟨kvs, k, e, ey, l, eH⟩ | ⟨kvs, k, b, e, ey, eb, l, eH⟩
  · subst ey eH
    obtain ⟨z, hd, vs, rel, dd⟩ := dk_of I.hok e
    have hz : vs.length ≤ sizeLine := by rw [← rel.length]; exact z
    have hl : (putK kvs k v).length ≤ sizeLine := by have := length_putK kvs k v; omega
    refine wpAny_setItem_pairs (hsz := hz) (kV_is ry) dd fun h' dd' hs => h _ ?_
    have he : ∃ q, h'.get? a = some q := let ⟨q, _, _, hq, _⟩ := dd'; ⟨q, hq⟩
    exact d_write I (by rw [e]; exact True.intro) hs he (dk_new hl hd (rel.put k rv) dd')
  · subst ey eH
    cases (show u = Value.ref b from ry)
    obtain ⟨z, hd, xs, rel, dd⟩ := dt_of I.hok e
    have hz : xs.length ≤ sizeLine := by rw [← Paired.length rel]; exact z
    have hl : (putK kvs k v).length ≤ sizeLine := by have := length_putK kvs k v; omega
    refine wpAny_setItem_heap (hsz := hz) (tupleKind_room_in1 hu) (key_of I.hok eb) dd fun h' dd' hs => h _ ?_
    obtain ⟨q, es, ep, hq, h2, h3, h4, _, h5⟩ := dd'
    refine d_write I (by rw [e]; exact True.intro) hs ⟨q, hq⟩ ⟨hl, hd, _, (rel.put k eb rv).keeps fun c ys ec => ?_, q, es, ep, hq, h2, h3, h4, h5⟩
    rw [upd_ne (ne_of ec e (fun z => nomatch z))]
    exact ec
end
section
variable {X : Cx} {pins : List (Addr × Obj)} {σ : St} {H : Hp} {s : Shared} {a : Addr} {kvs : List (Key × V)} {k : Key} {u : Value} {A : Around} {E : Value → Shared → Prop}
end
def NoSl (i : Expr) : Prop := ∀ ov iv, subscripted i false ov iv = operate [ov, iv] (getItem ov iv)
theorem subD_of {prog : Program} {w : World} {A : Around} {E : Value → Shared → Prop} {s : Shared} {env : Env} {value slice : Expr} {pos : Pos} {T id : String} {Q : Value → Shared → Prop}
    (hl : typeLookup (.type T) "__getitem__" = pure (some (.builtin id))) (hs : NoSl slice)
    (h : wpAny (model prog w) A (eval value env) (fun o s₁ => wpAny (model prog w) A (eval slice env) (fun i s₂ => s₂.TypeIs o T ∧ wpAny (model prog w) A (getItem o i) Q E s₂) E s₁) E s) :
    wpAny (model prog w) A (eval (.Subscript value slice pos) env) Q E s := by
  refine Subscript_ (wpAny_mono h (fun o s₁ h₁ => wpAny_mono h₁ (fun i s₂ h₂ => ?_) fun _ _ x => x) fun _ _ x => x)
  obtain ⟨hT, h₂⟩ := h₂
  unfold subscriptTail
  refine wpAny_bind ?_
  rw [getitemInPython_of_ne hT.not_modules]
  refine wpAny_bind (wpAny_specialOf hT hl ?_)
  have fin : wpAny (model prog w) A (subscripted slice false o i) (fun r s₃ => wpAny (model prog w) A (letTemporaryGo value o r >>= fun _ => pure r) Q E s₃) E s₂ := by
    rw [hs o i]
    exact wpAny_operating (wpAny_mono h₂ (fun r s₃ h₃ => wpAny_bind (wpAny_letTemporaryGo (wpAny_pure h₃))) fun _ _ x => x)
  first
    | exact wpAny_pure (wpAny_bind fin)
    | exact wpAny_bind (wpAny_pure (wpAny_bind fin))
    | exact wpAny_bind fin
theorem dict_typeIs {X : Cx} {pins : List (Addr × Obj)} {σ : St} {H : Hp} {s : Shared} {a : Addr} {y : V} {o : Option V} (I : Inv X pins σ H s) (g : DGet H a y o) : s.TypeIs (.ref a) "dict" := by
  rcases g with ⟨kvs, k, e, _, _⟩ | ⟨kvs, k, b, e, _, _, _⟩
  · obtain ⟨_, _, vs, _, dd⟩ := dk_rd I.hok e
    exact dd.typeIs
  · obtain ⟨_, _, xs, _, dd⟩ := dt_rd I.hok e
    exact dd.typeIs
def tDGet (td ty : TE) : TE := fun σ H Q => td σ H fun x H1 => ty σ H1 fun y H2 => ∃ a v, x = .ref a ∧ DGet H2 a y (some v) ∧ Q v H2
def tDIn (ty td : TE) : TE := fun σ H Q => ty σ H fun y H1 => td σ H1 fun x H2 => ∃ a o, x = .ref a ∧ DGet H2 a y o ∧ Q (.bl o.isSome) H2
def tDNotIn (ty td : TE) : TE := fun σ H Q => ty σ H fun y H1 => td σ H1 fun x H2 => ∃ a o, x = .ref a ∧ DGet H2 a y o ∧ Q (.bl (!o.isSome)) H2
def sDPut (td ty tv : TE) : TS := fun D σ H => tv σ H fun v H1 => td σ H1 fun x H2 => ty σ H2 fun y H3 => ∃ a H4, x = .ref a ∧ DPut H3 a y v H4 ∧ D.nx σ H4
def sDAug (td ty tv : TE) (rd : V → V → Hp → VK → Prop) : TS := fun D σ H => td σ H fun x H1 => ty σ H1 fun y H2 => ∃ a v, x = .ref a ∧ DGet H2 a y (some v) ∧
  tv σ H2 fun y2 H3 => rd v y2 H3 fun z H4 => ∃ H5, DPut H4 a y z H5 ∧ D.nx σ H5
def sDDel (td ty : TE) : TS := fun D σ H => td σ H fun x H1 => ty σ H1 fun y H2 => ∃ a kvs k, x = .ref a ∧ H2 a = some (.dK kvs) ∧ y = kV k ∧ (valV kvs k).isSome = true ∧ D.nx σ (upd H2 a (.dK (dropK kvs k)))
section
variable {X : Cx} {o i e value : Expr} {pos pos' tpos : Pos} {td ty tv : TE}
theorem pe_dget (hu : X.A.units + 1 < cLine) (ho : PE X o td) (hi : PE X i ty) (hs : NoSl i) : PE X (.Subscript o i pos) (tDGet td ty) := by
  intro pins s σ H Q I h
  refine subD_of PySem.F.slot_dict_getitem.lookup hs (thn (ho pins s σ H _ I h) fun u s1 ⟨x, H1, I1, rx, q1⟩ => thn (hi pins s1 σ H1 _ I1 q1) fun iv s2 ⟨y, H2, I2, ry, a, v, ex, g, q2⟩ => ?_)
  subst ex
  obtain rfl : u = Value.ref a := rx
  exact ⟨dict_typeIs I2 g, d_getItem hu I2 g ry fun w' s3 I3 rw' => ⟨v, H2, I3, rw', q2⟩⟩
theorem ps_dput (hu : X.A.units + 1 < cLine) (ho : PE X o td) (hi : PE X i ty) (hv : PE X value tv) (hs : swapsWith value (some (.Subscript o i pos')) pos.line X.env = pure false) :
    PS X (.Assign [.Subscript o i pos'] value pos) (sDPut td ty tv) := by
  intro pins s σ H D I h
  refine wpAny_Assign_Subscript (thn (hv pins s σ H _ I h) fun r s1 ⟨v, H1, I1, rv, q1⟩ => thn (ho pins s1 σ H1 _ I1 q1) fun u s2 ⟨x, H2, I2, rx, q2⟩ => thn (hi pins s2 σ H2 _ I2 q2) fun iv s3 ⟨y, H3, I3, ry, a, H4, ex, g, q3⟩ => ?_) hs
  subst ex
  obtain rfl : u = Value.ref a := rx
  exact d_setItem hu I3 g ry rv fun s4 I4 => ⟨σ, H4, I4, q3⟩
end
theorem dk_empty {P : Program} {w : World} {H : Hp} (h : Heap) (hb : sysModules < h.objs.size) : ObjOk P w H (h.push { cls := .type "dict", data := .dict #[] }) h.objs.size (.dK []) :=
  ⟨Nat.zero_le _, beq_eq_false_iff_ne.mpr (Ne.symm (Nat.ne_of_lt hb)), [], .nil, Heap.DictOf.new h⟩
def tDNewK : TE := fun _ H Q => ∀ p, H p = none → Q (.ref p) (upd H p (.dK []))
def tDNewT : TE := fun _ H Q => ∀ p, H p = none → Q (.ref p) (upd H p (.dT []))
section
variable {X : Cx} {pos : Pos}
theorem pe_dnewK : PE X (.Dict [] [] pos) tDNewK := fun pins s σ H Q I h =>
  wpAny_Dict_empty ⟨.ref s.heap.objs.size, _, I.laid (a := s.heap.objs.size) (o := .dK []) (t' := s.toks) (fun _ _ q => Heap.get?_push_of_some _ q) (Nat.le_refl _) (dk_empty s.heap I.big), rfl, h _ (I.hok.fresh (Nat.le_refl _))⟩
end
def tPairs : List (TE × TE) → St → Hp → (List (V × V) → Hp → Prop) → Prop
  | [], _, H, Q => Q [] H
  | (tk, tv) :: r, σ, H, Q => tk σ H fun x H1 => tv σ H1 fun y H2 => tPairs r σ H2 fun ps H3 => Q ((x, y) :: ps) H3
abbrev VV : List (V × V) → List (Value × Value) → Prop := Paired fun p q => RelV p.1 q.1 ∧ RelV p.2 q.2
def PPs (X : Cx) (pos : Pos) (keys : List (Option Expr)) (values : List Expr) (trs : List (TE × TE)) : Prop :=
  ∀ (pins : List (Addr × Obj)) (s : Shared) (σ : St) (H : Hp) (Q : List (V × V) → Hp → Prop), Inv X pins σ H s → tPairs trs σ H Q →
    wpAny (model X.prog X.w) X.A (evalPairs (pairTrees keys values X.env pos)) (fun vs s' => ∃ ps H', Inv X pins σ H' s' ∧ VV ps vs ∧ Q ps H') X.xe s
theorem pps_nil {X : Cx} {pos : Pos} : PPs X pos [] [] [] := fun pins s σ H Q I h => pairTrees_nil_walk ⟨[], H, I, .nil, h⟩
theorem pps_cons {X : Cx} {pos : Pos} {k v : Expr} {ks : List (Option Expr)} {vs : List Expr} {tk tv : TE} {trs : List (TE × TE)} (hk : PE X k tk) (hv : PE X v tv) (hr : PPs X pos ks vs trs) :
    PPs X pos (some k :: ks) (v :: vs) ((tk, tv) :: trs) := fun pins s σ H Q I h =>
  pairTrees_cons_walk (thn (hk pins s σ H _ I h) fun u s1 ⟨x, H1, I1, rx, q1⟩ => thn (hv pins s1 σ H1 _ I1 q1) fun w2 s2 ⟨y, H2, I2, ry, q2⟩ =>
    thn (hr pins s2 σ H2 _ I2 q2) fun ws s3 ⟨ps, H3, I3, rel, q3⟩ => ⟨(x, y) :: ps, H3, I3, .cons ⟨rx, ry⟩ rel, q3⟩)
def mergeK (kvs more : List (Key × V)) : List (Key × V) := more.foldl (fun acc kv => putK acc kv.1 kv.2) kvs
theorem KV.merge : ∀ {more : List (Key × V)} {rs : List (Key × Value)} {kvs : List (Key × V)} {vs : List (Key × Value)}, KV more rs → KV kvs vs → KV (mergeK kvs more) (merged vs rs) := by
  intro more rs kvs vs r
  unfold KV at r
  induction r generalizing kvs vs with
  | nil => intro q; exact q
  | @cons p q ps qs h t ih =>
    intro r0
    have e : KV (putK kvs p.1 p.2) (stored vs q.1 q.2) := by
      have := r0.put p.1 h.2
      rw [← h.1]; exact this
    exact ih e
theorem length_mergeK : ∀ (more kvs : List (Key × V)), (mergeK kvs more).length ≤ kvs.length + more.length
  | [], kvs => by show kvs.length ≤ kvs.length + 0; omega
  | p :: r, kvs => by
    have h1 := length_mergeK r (putK kvs p.1 p.2)
    have h2 := length_putK kvs p.1 p.2
    show (mergeK (putK kvs p.1 p.2) r).length ≤ _
    rw [List.length_cons]; omega
theorem carries_of {P : Program} {w : World} : ∀ {kvs : List (Key × V)} {ws : List (Value × Value)}, VV (kvs.map fun kv => (kV kv.1, kv.2)) ws → ∃ rs, Carries (mixKind P w) ws rs ∧ KV kvs rs
  | [], _, r => by rw [List.map_nil] at r; cases r; exact ⟨[], True.intro, .nil⟩
  | p :: kvs, _, r => by
    rw [List.map_cons] at r
    cases r with
    | @cons a b as bs h t =>
      obtain ⟨rs, c, q⟩ := carries_of (P := P) (w := w) t
      obtain ⟨b1, b2⟩ := b
      exact ⟨(p.1, b2) :: rs, ⟨kV_is h.1, rfl, c⟩, .cons ⟨rfl, h.2⟩ q⟩
def tDisp (trs : List (TE × TE)) : TE := fun σ H Q => ∀ p, H p = none → tPairs trs σ (upd H p (.dK [])) fun ps H2 => H2 p = some (.dK []) ∧ ∃ kvs : List (Key × V), ps = kvs.map (fun kv => (kV kv.1, kv.2)) ∧ kvs.length ≤ 15 ∧ Q (.ref p) (upd H2 p (.dK (mergeK [] kvs)))
theorem pe_disp {X : Cx} {pos : Pos} {keys : List (Option Expr)} {values : List Expr} {trs : List (TE × TE)} (h : PPs X pos keys values trs) (hall : keys.all (·.isSome) = true) (hl : keys.length = values.length) (h0 : keys ≠ [])
    (h15 : keys.length ≤ 15) : PE X (.Dict keys values pos) (tDisp trs) := by
  intro pins s σ H Q I q
  have hn := I.hok.fresh (Nat.le_refl s.heap.objs.size)
  have I1 := I.laid (a := s.heap.objs.size) (o := .dK []) (h' := s.heap.push { cls := .type "dict", data := .dict #[] }) (t' := s.toks) (fun _ _ q => Heap.get?_push_of_some _ q) (Nat.le_refl _) (dk_empty s.heap I.big)
  refine wpAny_Dict_walk (knd := mixKind X.prog X.w) hall hl h0 h15 (thn (h pins _ σ _ _ I1 (q _ hn)) fun ws s2 ⟨ps, H2, I2, rel, e, kvs, ep, lk, q2⟩ => ?_)
  subst ep
  obtain ⟨rs, c, rk⟩ := carries_of (P := X.prog) (w := X.w) rel
  obtain ⟨z, hd, vs0, r0, dd⟩ := dk_of I2.hok e
  cases r0
  refine ⟨rs, c, dd, fun h' dd' hs => ⟨.ref s.heap.objs.size, _, ?_, rfl, q2⟩⟩
  have hz : (mergeK [] kvs).length ≤ sizeLine := by
    have h1 := length_mergeK kvs []
    rw [List.length_nil] at h1
    rw [sizeLine_eq]; omega
  have he : ∃ q, h'.get? s.heap.objs.size = some q := let ⟨q, _, _, hq, _⟩ := dd'; ⟨q, hq⟩
  exact d_write I2 (by rw [e]; exact True.intro) hs he (dk_new hz hd (rk.merge .nil) dd')
structure M1 (X : Cx) (o : Expr) (m : Str) (apos : Pos) (e : Expr) (cpos : Pos) : Prop where
  base : attributeBase o m X.env (eval o X.env) = eval o X.env
  few : ((backTo cpos (starEach [e] X.env)).all (fun x => !x.1) && (backToKw cpos (keywordEach [] X.env)).all (fun x => x.1.isSome)
    && decide (([e] : List Expr).length + ([] : List Keyword).length + (if ([] : List Keyword).isEmpty then 0 else 1) < 30)) = true
  line : (apos.endLine == cpos.line) = true
  trees : backTo cpos (starEach [e] X.env) = [(false, eval e X.env)]
structure M2 (X : Cx) (o : Expr) (m : Str) (apos : Pos) (e f : Expr) (cpos : Pos) : Prop where
  base : attributeBase o m X.env (eval o X.env) = eval o X.env
  few : ((backTo cpos (starEach [e, f] X.env)).all (fun x => !x.1) && (backToKw cpos (keywordEach [] X.env)).all (fun x => x.1.isSome)
    && decide (([e, f] : List Expr).length + ([] : List Keyword).length + (if ([] : List Keyword).isEmpty then 0 else 1) < 30)) = true
  line : (apos.endLine == cpos.line) = true
  trees : backTo cpos (starEach [e, f] X.env) = [(false, eval e X.env), (false, eval f X.env)]
def IsD (H : Hp) (a : Addr) : Prop := (∃ kvs, Rd H a (.dK kvs)) ∨ ∃ kvs, Rd H a (.dT kvs)
theorem isD_at {X : Cx} {pins : List (Addr × Obj)} {σ : St} {H : Hp} {s : Shared} {a : Addr} (I : Inv X pins σ H s) (d : IsD H a) :
    s.TypeIs (.ref a) "dict" ∧ (∀ b, Value.ref a = .ref b → ∃ ob, s.heap.get? b = some ob ∧ ob.dict = none) ∧ (a == sysModules) = false := by
  rcases d with ⟨kvs, e⟩ | ⟨kvs, e⟩
  · obtain ⟨_, hd, vs, _, dd⟩ := dk_rd I.hok e
    refine ⟨dd.typeIs, fun b q => ?_, hd⟩
    cases q
    obtain ⟨ob, _, _, h1, h2, _⟩ := dd
    exact ⟨ob, h1, h2.2.1⟩
  · obtain ⟨_, hd, xs, _, dd⟩ := dt_rd I.hok e
    refine ⟨dd.typeIs, fun b q => ?_, hd⟩
    cases q
    obtain ⟨ob, _, _, h1, h2, _⟩ := dd
    exact ⟨ob, h1, h2.2.1⟩
section
variable {X : Cx} {pins : List (Addr × Obj)} {σ : St} {H : Hp} {s : Shared} {a : Addr} {y d : V} {u r : Value} {o : Option V} {A : Around} {E : Value → Shared → Prop}
theorem d_get2 {Q : Value → Shared → Prop} (hu : A.units + 1 < cLine) (I : Inv X pins σ H s) (g : DGet H a y o) (ry : RelV y u) (rd : RelV d r) (h : ∀ w' s', Inv X pins σ H s' → RelV (o.getD d) w' → Q w' s') :
    wpAny (model X.prog X.w) A (call (.builtin "dict.get") [.ref a, u, r]) Q E s := by
  rcases g with ⟨kvs, k, e, ey, l⟩ | ⟨kvs, k, b, e, ey, eb, l⟩
  · subst ey
    obtain ⟨z, hd, vs, rel, dd⟩ := dk_rd I.hok e
    refine call_meetsIn PySem.F.slot_dict_get dd.typeIs PySem.F.entry_dict_get (PySem.F.args_dict_get_3 _ _ _) (meets_dict_get_default (mixKind X.prog X.w) a (kV_is ry) hd r) ⟨_, dd.mapOf, h _ _ (I.tok _) ?_⟩
    rw [l]
    exact (rel.val k).getD rd
  · subst ey
    cases (show u = Value.ref b from ry)
    obtain ⟨z, hd, xs, rel, dd⟩ := dt_rd I.hok e
    refine call_meetsIn PySem.F.slot_dict_get dd.typeIs PySem.F.entry_dict_get (PySem.F.args_dict_get_3 _ _ _) (meetsH_dict_get_default (tupleKind (mixKind X.prog X.w)) a b hd r) ⟨tupleKind_room_in1 hu, k, xs, key_of I.hok eb, dd, h _ _ (I.tok _) ?_⟩
    rw [l]
    exact (rel.val k).getD rd
end
def tDGet1 (td ty : TE) : TE := fun σ H Q => td σ H fun x H1 => ∃ a, x = .ref a ∧ IsD H1 a ∧ ty σ H1 fun y H2 => ∃ o, DGet H2 a y o ∧ Q (o.getD .non) H2
def tDGet2 (td ty tx : TE) : TE := fun σ H Q => td σ H fun x H1 => ∃ a, x = .ref a ∧ IsD H1 a ∧ ty σ H1 fun y H2 => tx σ H2 fun z H3 => ∃ o, DGet H3 a y o ∧ Q (o.getD z) H3
def tDPop1 (td ty : TE) : TE := fun σ H Q => td σ H fun x H1 => ∃ a, x = .ref a ∧ IsD H1 a ∧ ty σ H1 fun y H2 => ∃ kvs k v, H2 a = some (.dK kvs) ∧ y = kV k ∧ valV kvs k = some v ∧ Q v (upd H2 a (.dK (dropK kvs k)))
def tDPop2 (td ty tx : TE) : TE := fun σ H Q => td σ H fun x H1 => ∃ a, x = .ref a ∧ IsD H1 a ∧ ty σ H1 fun y H2 => tx σ H2 fun z H3 => ∃ kvs k, H3 a = some (.dK kvs) ∧ y = kV k ∧
  (∀ v, valV kvs k = some v → Q v (upd H3 a (.dK (dropK kvs k)))) ∧ (valV kvs k = none → Q z H3)
section
variable {X : Cx} {o e f : Expr} {apos cpos : Pos} {td ty tx : TE}
theorem pe_dget2 (hu : X.A.units + 1 < cLine) (ho : PE X o td) (he : PE X e ty) (hf : PE X f tx) (m : M2 X o "get" apos e f cpos) : PE X (.Call (.Attribute o "get" apos) [e, f] [] cpos) (tDGet2 td ty tx) := by
  intro pins s σ H Q I h
  refine wpAny_Call_method m.base m.few m.line PySem.F.plainAttrs_dict PySem.F.slot_dict_get PySem.F.type_dict_get (thn (ho pins s σ H _ I h) fun u s1 ⟨x, H1, I1, rx, a, ex, d, q1⟩ => ?_)
  subst ex
  obtain rfl : u = Value.ref a := rx
  obtain ⟨t1, t2, _⟩ := isD_at I1 d
  refine ⟨t1, t2, ?_⟩
  rw [m.trees]
  refine Calls.callWith_builtin rfl (Calls.evalArgs_plain (Calls.spliced_cons (thn (he pins s1 σ H1 _ I1 q1) fun iv s2 ⟨y, H2, I2, ry, q2⟩ =>
    Calls.spliced_cons (thn (hf pins s2 σ H2 _ I2 q2) fun fv s3 ⟨z, H3, I3, rz, ov, g, q3⟩ => Calls.spliced_nil ?_))))
  exact d_get2 hu I3 g ry rz fun w' s4 I4 rw' => ⟨_, H3, I4, rw', q3⟩
end
section
variable {X : Cx} {pins : List (Addr × Obj)} {σ : St} {H : Hp} {s : Shared} {a : Addr} {kvs : List (Key × V)} {A : Around} {E : Value → Shared → Prop}
end
section
variable {X : Cx} {pins : List (Addr × Obj)} {σ : St} {H : Hp} {s : Shared} {a : Addr} {y : V} {u : Value} {A : Around} {E : Value → Shared → Prop}
end
end L2
namespace Att
open PySem PySem.W PySem.Calls PyProof.Rows
theorem ints_of_wellAll {P : Params} {h : Heap} : ∀ (ns : List Int) (vs : List Value), WellAll P h vs (ns.map WData.int) → IntsAre vs ns := by
  intro ns
  induction ns with
  | nil =>
    intro vs w
    rw [List.map_nil] at w
    cases w
    exact .nil
  | cons n ns ih =>
    intro vs w
    rw [List.map_cons] at w
    cases w with
    | cons a b =>
      cases a
      exact .cons _ _ (ih _ b)
theorem script_of {l : OpenLaw} {n : Nat} (hn : l.most = some n) {P : Params} {h : Heap} {args : List WData} {vals : List Value}
    (hpre : l.row.toRowW.claim.pre args = true) (hwl : WellAll P h vals args) :
    ∃ a vs ns, vals = [Value.ref a] ∧ args = [WData.list (ns.map WData.int)] ∧ h.get? a = some { cls := .type "list", data := .seq vs.toArray } ∧ IntsAre vs ns ∧ ns.length ≤ n := by
  have hsh : WShape.hasAll [] args [.list .int] = true := (pre_splitW hpre).1
  have hc : l.pre.holds [] { args := args } = true := (pre_splitW hpre).2
  obtain ⟨d, r, rfl, h1, h2⟩ := hasAllW_cons hsh
  obtain rfl := hasAllW_nil h2
  obtain ⟨xs, rfl, h3⟩ := hasW_list h1
  obtain ⟨ns, rfl⟩ := items_int h3
  have hlen : ns.length ≤ n := by
    unfold OpenLaw.pre at hc
    have h4 : (WTm.not (.lt (.lit (.int (n : Int))) (.len (.arg 0)))).holds [] { args := [.list (ns.map .int)] } = true := by
      have h4 := (holds_andW hc).1
      rw [hn] at h4
      exact h4
    have h5 := condW_of h4 (w_not (w_lt w_lit (w_len_list (w_arg rfl))))
    rw [List.length_map] at h5
    refine Nat.le_of_not_lt fun q => ?_
    have q' : (n : Int) < ((ns.length : Nat) : Int) := by omega
    first
      | (rw [decide_eq_true q'] at h5; exact absurd h5 (by decide))
      | (simp at h5; omega)
  cases hwl with
  | cons w1 w2 =>
    cases w2
    cases w1 with
    | list ho hall => exact ⟨_, _, ns, rfl, rfl, ho, ints_of_wellAll ns _ hall, hlen⟩
theorem post_true (l : OpenLaw) (args : List WData) : l.row.toRowW.claim.post args (.bool true) args = true :=
  postW_of (r := l.row.toRowW) (X := (true == true))
    (show WShape.has [] (.bool true) .bool = true by first | rfl | decide | simp [WShape.has, WShape.arms, WShape.armsAll])
    (show (WTm.eq .res (.lit (.bool true))).value [] { args := args, res := some (.bool true), after := args } = some (.bool (true == true)) from w_eq_bool (w_res rfl) w_lit) rfl
theorem attach_call {l : OpenLaw} {n : Nat} {q : Program} {loose : List Str} {XP : (Str → Option Value) → Heap → Prop} {YP : World → Heap → Prop} {d : DefRec}
    (hn : l.most = some n) (hdf : d.params.defaults = [])
    (call : ∀ (w : World) (s₀ s₁ : Shared) (mg mb : Str → Option Value) (fa : Addr) (o : Obj) (pm cd doc : Value) (a : Addr) (vs : List Value) (ns : List Int),
      Ground q loose [] XP w s₀ mg mb s₁.heap → YP w s₁.heap →
      s₁.heap.get? fa = some o → o.data = .func (docDef d.name d.params d.body d.scope pm cd doc) → s₁.heap.CodeRec cd d.name → mg d.name = some (.ref fa) →
      s₁.heap.get? a = some { cls := .type "list", data := .seq vs.toArray } → IntsAre vs ns → ns.length ≤ n → s₁.gens = #[] →
      codeAny (model l.prog w) callerA (.call (.ref fa) ⟨[.ref a], []⟩) (fun r s' => r = .ok (.ret (.bool true)) ∧ OldK s₁.heap s'.heap ∧ s'.os = s₁.os ∧ AllBare s'.gens) s₁) :
    WalkO q loose XP YP l.row.toRowW d [] (fun f vs => PySem.call f vs) := by
  intro w s₀ s₁ mg mb G Y fa o pm cd doc dV kV ho hd hcd hD hmg hg args vals as hpre hlay hrd hwl hlo
  obtain rfl : dV = .none := Dflts.none hD hdf
  obtain rfl : kV = .none := Dflts.noKw hD
  obtain ⟨a, vs, ns, rfl, rfl, hobj, hints, hlen⟩ := script_of hn hpre hwl
  refine enter_call (codeAny_mono (call w s₀ s₁ mg mb fa o pm cd doc a vs ns G Y ho (fd_plain hd) hcd hmg hobj hints hlen hg) fun r s' hq => ?_)
  obtain ⟨rfl, h2, h3, h4⟩ := hq
  exact ⟨.inl ⟨.bool true, .bool true, [], rfl, fun _ => rfl, .bool true, post_true l _, fun _ => ⟨List.Pairwise.nil, fun _ hm => (nomatch hm)⟩⟩, h2, h3, h4⟩
section
variable {prog : Program} {w : World} {A : Around} {E : Value → Shared → Prop} {s : Shared} {K : Frag}
def noObjs (h : Heap) : Heap := { h with objs := #[] }
def ledger (h : Heap) (L d : Addr) : List (Addr × Obj) := (List.range h.objs.size).filterMap fun a => if a = L ∨ a = d then none else (h.get? a).map fun o => (a, o)
end
end Att
namespace L2
open PySem PySem.Spec PyProof.Rows
theorem vals_ints : ∀ {vs : List Value} {ns : List Int}, IntsAre vs ns → Vals (ns.map V.int) vs
  | _, _, .nil => .nil
  | _, _, .cons n t h => .cons ⟨t, rfl⟩ (vals_ints h)
def Only (H : Hp) : Prop := ∀ b, H b = none ∨ ∃ o xs, H b = some (.frz o (.lst xs))
theorem law_call {P : Program} {w : World} {K : PySem.W.Frag} {mg mb : Str → Option Value} {CX : CXT} {k : Nat} {fa a : Addr} {fd : FuncData} {x : Str} {sp : Sp} {s₁ : Shared} {vs : List Value} {ns : List Int}
    (KX : K.In s₁.heap) (hns : s₁.heap.Ns mainGlobals mg) (hb : s₁.heap.Ns builtinsNs mb) (hbb : ∀ x : Str, x ≠ "__name__" → mb x = bootBuiltins x) (hlim : s₁.heap.NoLimit) (hg : s₁.gens = #[])
    (ha : s₁.heap.get? a = some { cls := .type "list", data := .seq vs.toArray }) (hi : IntsAre vs ns) (hl : ns.length ≤ sizeLine) (hr : Room k callerA)
    (F : ∀ base : Heap, K.In base → base.Ns mainGlobals mg → FnOk P w K mg base CX k fa fd [x] sp) (hbind : ∀ (s : Shared) (u : Value), BindsTo s fd ⟨[u], []⟩ [(x, u)])
    (hsp : ∀ H : Hp, Only H → SqL K H a (ns.map V.int) → sp [.ref a] H (fun v _ => v = .bl true) fun _ _ _ => False)
    (hCX : ∀ H e s', CX [] H s₁ (fun _ _ _ => False) e s' → False) :
    codeAny (model P w) callerA (.call (.ref fa) ⟨[.ref a], []⟩) (fun r s' => r = .ok (.ret (.bool true)) ∧ OldK s₁.heap s'.heap ∧ s'.os = s₁.os ∧ AllBare s'.gens) s₁ := by
  have rv := vals_ints hi
  have lenV := hi.length
  have core : ∀ H : Hp, Only H → SqL K H a (ns.map V.int) → HOk P w H s₁.heap → (∀ b, H b ≠ none → b = a) → (H a ≠ none → K.lookup a = none) →
      codeAny (model P w) callerA (.call (.ref fa) ⟨[.ref a], []⟩) (fun r s' => r = .ok (.ret (.bool true)) ∧ OldK s₁.heap s'.heap ∧ s'.os = s₁.os ∧ AllBare s'.gens) s₁ := by
    intro H hO hS hok hA hK
    have base_of : ∀ {b : Addr} {o : Obj}, s₁.heap.get? b = some o → H b = none → (hidT s₁.heap H).get? b = some o := fun e n => hidT_get e n
    have noA : ∀ {b : Addr} {o : Obj} {es : Array DictEntry} {ep : Nat}, s₁.heap.get? b = some o → o.data = .dict es ep → H b = none := fun {b o es ep} e d => by
      cases q : H b with
      | none => rfl
      | some u =>
        have e' : b = a := hA b (by rw [q]; simp)
        subst e'
        rw [ha] at e; cases e
        have d' : Data.seq vs.toArray _ = Data.dict es ep := d
        cases d'
    have nsK : ∀ {b : Addr} {m : Str → Option Value}, s₁.heap.Ns b m → (hidT s₁.heap H).Ns b m := fun {b m} ⟨o, es, ep, e, d, r⟩ => ⟨o, es, ep, base_of e (noA e d), d, r⟩
    have hKb : K.In (hidT s₁.heap H) := fun b o e => base_of (KX b o e) (by
      cases q : H b with
      | none => rfl
      | some u =>
        have e' : b = a := hA b (by rw [q]; simp)
        subst e'
        rw [hK (by rw [q]; simp)] at e; cases e)
    have hM : Mod K mg (hidT s₁.heap H) := ⟨hKb, nsK hns, ⟨mb, nsK hb, hbb⟩, let ⟨mc, h1, h2⟩ := hlim; ⟨mc, nsK h1, h2⟩⟩
    have e0 : Env0 P w K mg (hidT s₁.heap H) callerA [] s₁ H := ⟨rfl, hM, fun b o e => of_hidT e, Nat.le_of_eq (hidT_size _ _), trivial, fun b hb => absurd (show b ∈ ([] : List Addr) from hb) (by simp), hok, .of_eq hg⟩
    refine codeAny_mono ((F _ hKb (nsK hns)).run callerA [] s₁ H ⟨[.ref a], []⟩ [.ref a] [.ref a] _ _ hr e0 (hbind s₁ (.ref a)) (.cons rfl .nil) (hsp H hO hS)) fun r s' h => ?_
    cases r with
    | error e => exact (hCX H e s' h).elim
    | ok fl =>
      cases fl with
      | next => exact False.elim h
      | brk => exact False.elim h
      | cont => exact False.elim h
      | ret u =>
        obtain ⟨v, H', os, bare, un, hok', r', q⟩ := h
        have q' : v = .bl true := q
        subst q'
        obtain rfl : u = Value.bool true := r'
        refine ⟨rfl, OldK.of_keep fun b o e => ?_, os, bare⟩
        cases q : H b with
        | none => exact un.keep b o e q (by intro z; exact absurd (show b ∈ ([] : List Addr) from z) (by simp)) (by simp)
        | some u =>
          rcases hO b with z | ⟨ob, xs, z⟩
          · rw [q] at z; cases z
          · have z2 := un.frzs b ob _ z
            obtain ⟨e1, _⟩ := hok b _ z
            obtain ⟨e2, _⟩ := hok' b _ z2
            rw [e] at e1; cases e1
            exact e2
  cases hk : K.lookup a with
  | some o =>
    have e := KX a o hk
    rw [ha] at e
    cases e
    refine core (fun _ => none) (fun _ => .inl rfl) (.inr ⟨_, vs.toArray, _, hk, rfl, rfl, rfl, by rw [List.size_toArray, lenV]; exact hl, by simpa using rv⟩) (fun b u z => by have z' : (none : Option HO) = some u := z; cases z') (fun b z => absurd rfl z) fun z => absurd rfl z
  | none =>
    refine core (fun b => if b = a then some (.frz { cls := .type "list", data := .seq vs.toArray } (.lst (ns.map V.int))) else none) (fun b => ?_) (.inl (.inr ⟨{ cls := .type "list", data := .seq vs.toArray }, if_pos rfl⟩)) (fun b u z => ?_) (fun b z => ?_) fun _ => hk
    · by_cases hb : b = a
      · exact .inr ⟨_, _, if_pos hb⟩
      · exact .inl (if_neg hb)
    · by_cases hb : b = a
      · have z' := (if_pos hb).symm.trans z
        cases z'
        subst hb
        exact ⟨ha, by rw [List.length_map]; exact hl, vs, _, rv, ha⟩
      · have z' := (if_neg hb).symm.trans z
        cases z'
    · by_cases hb : b = a
      · exact hb
      · exact absurd (if_neg hb) z
end L2
namespace L2
open PySem PySem.Spec PyProof.Rows
abbrev KOf {K : PySem.W.Frag} {h : Heap} (_ : K.In h) : PySem.W.Frag := K
theorem walk_of {l : PySem.W.OpenLaw} {n k : Nat} {q : Program} {loose : List Str} {XP : (Str → Option Value) → Heap → Prop} {YP : World → Heap → Prop} {d : DefRec} {K : Params → PySem.W.Frag} {CX : World → CXT} {sp : World → Sp} {x : Str}
    (hn : l.most = some n) (hn2 : n ≤ sizeLine) (hdf : d.params.defaults = []) (hr : Room k callerA)
    (hY : ∀ (w : World) (h : Heap), YP w h → (K w.params).In h)
    (F : ∀ (w : World) (mg : Str → Option Value) (fa : Addr) (h : Heap), (K w.params).In h → h.Ns mainGlobals mg → mg d.name = some (.ref fa) →
      ∃ fd : FuncData, (∀ (s : Shared) (u : Value), BindsTo s fd ⟨[u], []⟩ [(x, u)]) ∧
        ∀ base : Heap, (K w.params).In base → base.Ns mainGlobals mg → FnOk l.prog w (K w.params) mg base (CX w) k fa fd [x] (sp w))
    (hsp : ∀ (w : World) (H : Hp) (a : Addr) (ns : List Int), ns.length ≤ n → Only H → SqL (K w.params) H a (ns.map V.int) → sp w [.ref a] H (fun v _ => v = .bl true) fun _ _ _ => False)
    (hCX : ∀ (w : World) (H : Hp) (s : Shared) (e : Value) (s' : Shared), CX w [] H s (fun _ _ _ => False) e s' → False) :
    PySem.W.WalkO q loose XP YP l.row.toRowW d [] (fun f vs => PySem.call f vs) := by
  refine Att.attach_call hn hdf fun w s₀ s₁ mg mb fa o pm cd doc a vs ns G Y ho hd hcd hmg hobj hints hlen hg => ?_
  have KX := hY w _ Y
  obtain ⟨fd, hb, hF⟩ := F w mg fa _ KX G.T.g hmg
  exact law_call KX G.T.g G.T.b G.T.builtins G.T.nolimit hg hobj hints (Nat.le_trans hlen hn2) hr hF hb (fun H hO hS => hsp w H a ns hlen hO hS) fun H e s' => hCX w H s₁ e s'
end L2
namespace L2
open PySem PySem.Spec PyProof.Rows
def inClass (s : Stmt) (j : Nat) : Stmt := match s with
  | .ClassDef _ _ _ body _ _ _ _ _ _ _ => body.getD j (.Pass ⟨0, 0, 0, 0⟩)
  | _ => .Pass ⟨0, 0, 0, 0⟩
def defArgs (s : Stmt) : Arguments := match s with
  | .FunctionDef _ a _ _ _ _ _ _ _ _ => a
  | _ => { posonlyargs := [], args := [], vararg := none, kwonlyargs := [], kw_defaults := [], kwarg := none, defaults := [] }
def defBody (s : Stmt) : List Stmt := match s with
  | .FunctionDef _ _ b _ _ _ _ _ _ _ => b
  | _ => []
def defScope (s : Stmt) : Scope := match s with
  | .FunctionDef _ _ _ _ _ _ sc _ _ _ => sc
  | _ => { kind := .function, names := [], isGenerator := false, isCoroutine := false }
abbrev CX0 : CXT := fun _ _ _ _ _ _ => False
abbrev E0 : XK := fun _ _ _ => False
theorem pass0 {X : Cx} : Passes CX0 X E0 := fun _ _ _ _ _ _ _ h => h.elim
structure Fun (K : PySem.W.Frag) (x qual : Str) (st : Stmt) (f : Addr) (fd : FuncData) : Prop where
  ex : ∃ (oc : Value) (od : Option Addr) (kV doc pm : Value) (an : Option Addr) (cdv ct : Value) (osl : Array (Option Value)),
    fd = PySem.W.fnOf x qual (defArgs st) (defBody st) (defScope st) .none kV doc pm an cdv ct ∧ K.lookup f = some ⟨oc, od, .func fd, osl⟩ ∧ PySem.W.codeIn K cdv qual = true
  kp : PySem.W.keepIn K (.ref f) = true
section
variable {P : Program} {w : World} {K : PySem.W.Frag} {mg : Str → Option Value} {base : Heap}
theorem Fun.ok {x qual : Str} {st : Stmt} {f : Addr} {fd : FuncData} {N ps : List Str} {k : Nat} {sp : Sp} (F : Fun K x qual st f fd) (S : FnScope N ps (defScope st)) (len : ∀ vs H Q E, sp vs H Q E → vs.length = ps.length)
    (hbody : ∀ (cdv : Value) (A : Around) (outer : List Env) (s : Shared) (H : Hp) (vs : List V) (Q : VK) (E : XK), Room k (A.deeper (envOfC qual (defScope st) s.heap.objs.size f cdv)) → sp vs H Q E →
      ∃ t, PSs (cxOf CX0 P w K mg base N qual (defScope st) f cdv A outer s H E).nox (defBody st) t ∧ t { nx := fun _ H' => Q .non H', rt := Q } (start N vs) H) : FnOk P w K mg base CX0 (k + 1) f fd ps sp := by
  obtain ⟨oc, od, kV, doc, pm, an, cdv, ct, osl, rfl, lk, hcd⟩ := F.ex
  refine fn_of lk hcd S len fun A outer s H vs Q E hr hsp => ?_
  obtain ⟨t, h, q⟩ := hbody cdv A outer s H vs Q E hr hsp
  exact ⟨t, h.nox, q⟩
theorem Fun.binds {x qual : Str} {st : Stmt} {f : Addr} {fd : FuncData} {ps : List Str} (F : Fun K x qual st f fd)
    (h : ∀ (kV doc pm : Value) (an : Option Addr) (cdv ct : Value) (us : List Value), us.length = ps.length → bindArgs (PySem.W.fnOf x qual (defArgs st) (defBody st) (defScope st) .none kV doc pm an cdv ct) ⟨us, []⟩ = pure (ps.zip us)) : Binds K fd ps [] := by
  obtain ⟨oc, od, kV, doc, pm, an, cdv, ct, osl, rfl, lk, hcd⟩ := F.ex
  exact .all (h kV doc pm an cdv ct)
theorem fun_mk {x qual : Str} {st : Stmt} {f : Addr} {oc : Value} {od an : Option Addr} {osl : Array (Option Value)} {kV doc pm cdv ct : Value} (l : K.lookup f = some ⟨oc, od, .func (PySem.W.fnOf x qual (defArgs st) (defBody st) (defScope st) .none kV doc pm an cdv ct), osl⟩)
    (c : PySem.W.codeIn K cdv qual = true) (k : PySem.W.keepIn K (.ref f) = true) : Fun K x qual st f (PySem.W.fnOf x qual (defArgs st) (defBody st) (defScope st) .none kV doc pm an cdv ct) := ⟨⟨oc, od, kV, doc, pm, an, cdv, ct, osl, rfl, l, c⟩, k⟩
end
theorem hu_of {A : Around} {k : Nat} (hr : Room k A) : A.units + 1 < cLine := Nat.lt_of_le_of_lt (Nat.add_le_add_left (by decide : 1 ≤ 64) _) hr.units
theorem small1000 {n : Nat} (h : n ≤ 1000) : n < sizeLine := Nat.lt_of_le_of_lt h (by decide)
section
variable {X : Cx}
theorem pv (i : Nat) {x : Str} {pos : Pos} (hN : X.N[i]? = some x := by rfl) (hv : Vis X.env.scope x := by first | exact Or.inl rfl | exact Or.inr (Or.inl rfl) | exact Or.inr (Or.inr rfl)) (hd : (x == ("__debug__" : Str)) = false := by decide)
    (hcd : (x == ("__classdict__" : Str)) = false := by decide) : PE X (.Name x pos) (tVar i) := pe_var hN hv hd hcd
end
theorem iteF {A B : Prop} (h : B) : if false = true then A else B := by
  rw [if_neg Bool.false_ne_true]
  exact h
theorem iteT {A B : Prop} (h : A) : if true = true then A else B := by
  rw [if_pos rfl]
  exact h
theorem iteNS {c A B : Prop} [Decidable c] (hc : c) (h : B) : if (!decide c) = true then A else B := by
  rw [decide_eq_true hc]
  exact iteF h
def Same (H H' : Hp) : Prop := ∀ b o, H b = some o → H' b = some o
theorem Same.refl (H : Hp) : Same H H := fun _ _ h => h
theorem Same.trans {H H1 H2 : Hp} (a : Same H H1) (b : Same H1 H2) : Same H H2 := fun c o h => b c o (a c o h)
theorem Same.free {H H' : Hp} (e : Same H H') {l : Addr} (h : H' l = Option.none) : H l = Option.none := by
  cases q : H l with
  | none => rfl
  | some o =>
    rw [e l o q] at h
    cases h
theorem Same.seq {K : PySem.W.Frag} {H H' : Hp} {a : Addr} {xs : List V} (e : Same H H') (h : SqL K H a xs) : SqL K H' a xs := by
  rcases h with (h | ⟨o, h⟩) | h
  · exact .inl (.inl (e _ _ h))
  · exact .inl (.inr ⟨o, e _ _ h⟩)
  · exact .inr h
section
variable {κ : Type} [DecidableEq κ]
end
end L2
end
section
namespace SetX
open PySem PyProof.Rows
section
variable {prog : Program} {w : World} {A : Around} {E : Value → Shared → Prop} {s : Shared}
theorem and_setsX {Q : Value → Shared → Prop} {a b : Addr} {ns ms : List Int} (hab : b ≠ a) (S : SetAt w s.heap a ns) (T : SetAt w s.heap b ms)
    (h : ∀ h' d ks, SetAt w h' s.heap.objs.size ks → (∀ y, y ∈ ks ↔ y ∈ ns ∧ y ∈ ms) → (∀ c o, s.heap.get? c = some o → h'.get? c = some o) → Q (.ref s.heap.objs.size) { s with heap := h', drawn := d }) :
    wpAny (model prog w) A (binaryOp .BitAnd (.ref a) (.ref b)) Q E s := by
  refine wpAny_binaryOp_same S.ty T.ty F.fills_set_and F.slot_set_and (wpAny_call_entry F.slot_set_and S.ty entry_set_and ?_ (F.args_set_and_2 _ _))
  show wpAny _ _ (Builtin.Frozenset.slot1 "__and__" ⟨[.ref a, .ref b], []⟩ >>= _) _ _ _
  refine wpAny_bind (wpAny_pure ?_)
  show wpAny _ _ ((Builtin.Frozenset.isAnySet (.ref a) >>= _) >>= _) _ _ _
  refine wpAny_bind (wpAny_bind (anySet_of S ?_))
  show wpAny _ _ (Builtin.Frozenset.isAnySet (.ref b)) _ _ _
  refine anySet_of T ?_
  show wpAny _ _ (Builtin.Frozenset.intersection _ a (.ref b) >>= _) _ _ _
  refine wpAny_bind (inter_of hab S T fun h' d ks q1 q2 q3 => ?_)
  exact wpAny_pure ⟨_, rfl, by simp, h h' d ks q1 q2 q3⟩
theorem len_setX {Q : Value → Shared → Prop} {a : Addr} {ns : List Int} (S : SetAt w s.heap a ns) (h : ∀ t tk, Q (.int ns.length t) { s with toks := tk }) : wpAny (model prog w) A (call (.builtin "len") [.ref a]) Q E s := by
  obtain ⟨o, es, ep, t, ho, hex, hd, he, rfl, hn, hb, hf, ht⟩ := S
  have hz : es.size < scanBound := by simpa using hb
  refine call_len_set ho hex hd hf (by have : scanBound = 4096 := rfl; omega) ?_
  have e : (es.toList.map val).length = es.size := by simp
  rw [e] at h
  exact h _ _
theorem collect_set {Q : List Value → Shared → Prop} {a : Addr} {ns : List Int} (hh : A.handled = none) (S : SetAt w s.heap a ns)
    (h : ∀ s' vs ms, (∀ b o, s.heap.get? b = some o → s'.heap.get? b = some o) → s'.gens = s.gens → s'.os = s.os → s.heap.objs.size ≤ s'.heap.objs.size → IntsAre vs ms → List.Perm ms ns → Q vs s') : wpAny (model prog w) A (collect (.ref a)) Q E s := by
  have la : a < s.heap.objs.size := by obtain ⟨o, _, _, _, e, _⟩ := S; exact Heap.lt_size e
  unfold collect
  refine wpAny_bind (wpAny_runValue (codeAny_builtin F.entry_proto_collect ?_)); rw [Around.under_plainId F.plain_proto_collect _]
  show wpAny _ A.in1 (newList [] >>= fun l => again (.builtin "list.__iadd__" ⟨[l, .ref a], []⟩)) _ _ s
  refine wpAny_bind (wpAny_newObj_type ?_)
  refine wpAny_pure ⟨plainId_quiet F.plain_list_iadd _, codeAny_builtin F.entry_list_iadd ?_⟩; rw [Around.under_plainId F.plain_list_iadd _]
  generalize hh1 : s.heap.push { cls := .type "list", dict := none, data := .seq ([] : List Value).toArray } = h1
  have k1 : ∀ b o, s.heap.get? b = some o → h1.get? b = some o := fun b ob z => by rw [← hh1]; exact Heap.get?_push_of_some _ z
  have hL1 : h1.get? s.heap.objs.size = some { cls := .type "list", dict := none, data := .seq ([] : List Value).toArray } := by rw [← hh1]; exact Heap.get?_push_size _ rfl
  have S1 : SetAt w h1 a ns := S.keeps fun o z => k1 a o z
  have hsame : Builtin.List.listSameRef (.ref s.heap.objs.size) (.ref a) = false := by simp [Builtin.List.listSameRef, Nat.ne_of_gt la]
  show wpAny _ A.in1 (Builtin.List.listExtendWith (.ref s.heap.objs.size) (.ref a) (.ref s.heap.objs.size)) _ _ { s with heap := h1 }
  unfold Builtin.List.listExtendWith
  have T1 : Shared.TypeIs { s with heap := h1 } (.ref a) "set" := SetAt.ty (s := { s with heap := h1 }) S1
  refine wpAny_bind (wpAny_typeOf T1 ?_)
  rw [if_neg (by rw [hsame]; decide)]
  refine wpAny_bind (set_iter (s := { s with heap := h1 }) S1 fun it fp P St ord s2 W st0 hP hE hp hlt hI kk kg ko kt hTy hfpA hitA => ?_)
  refine wpAny_bind (wpAny_holding ?_)
  unfold Builtin.List.listLengthHint
  have S2 : SetAt w s2.heap a ns := S1.keeps fun o z => kk a o z
  refine wpAny_bind (wpAny_specialOf S2.ty set_len_lookup ?_)
  (generalize hid : ("set.__len__" : String) = id0; wp_delta; rw [show splitId id0 = some ("set", "__len__") from by subst hid; decide +kernel]; subst hid)
  refine wpAny_bind (wpAny_isInstance (b := true) S2.ty sub_set_self ?_)
  simp only [Bool.not_true, Bool.false_eq_true, if_false]
  rw [if_pos (by decide +kernel)]
  refine wpAny_bind (wpAny_typeOf S2.ty ?_)
  dsimp only
  refine wpAny_pure ?_
  rw [if_pos (by decide +kernel)]
  refine wpAny_bind (wpAny_rule ?_)
  have hL2 : s2.heap.get? s.heap.objs.size = some (seqObj "list" #[] 0) := kk _ _ hL1
  have hol : ord.length ≤ sizeLine := by
    have e1 := hp.length_eq
    obtain ⟨o, es, ep, t, _, _, _, _, _, _, hb, _, _⟩ := S
    rw [List.length_map] at e1
    exact fits_line (by omega)
  unfold Builtin.List.listTouch
  refine wpAny_bind (wpAny_bind (listUpdate_at hL2 rfl ?_))
  have q1 := get?_update_seq hL2 (·.push .none)
  refine listUpdate_at q1 rfl ?_
  have q2 := get?_update_seq q1 (·.pop)
  have nS : s.heap.objs.size ∉ fp := fun z => by
    rcases hfpA _ z with e | e
    · exact Nat.ne_of_gt la e
    · have e' : h1.objs.size ≤ s.heap.objs.size := e
      rw [← hh1, Heap.size_push] at e'
      exact absurd e' (Nat.not_succ_le_self _)
  have WW := W A.in1 hh
  have st3 := WW.frame 0 s2 ((s2.heap.update s.heap.objs.size (Obj.mapSeq (·.push .none))).update s.heap.objs.size (Obj.mapSeq (·.pop))) s2.toks st0 (Nat.le_refl _) fun b hb o z => by
    have nb : s.heap.objs.size ≠ b := fun e => nS (e ▸ hb)
    rw [Heap.get?_update_other _ _ nb, Heap.get?_update_other _ _ nb]; exact z
  refine wpAny_pure ⟨plainId_quiet F.plain_extend_loop _, codeAny_extend_loopS WW hol s.heap.objs.size nS _ ord.length 0 _ #[] _ (Nat.sub_zero _) (Nat.zero_le _) st3 q2 (ItemsOf.nil P) fun s' acc c mv hS' hacc => ?_⟩
  show wpAny _ A (load s.heap.objs.size >>= _) _ _ s'
  refine wpAny_bind (wpAny_load hS' ?_)
  refine wpAny_pure ?_
  have hIA : IntsAre acc.toList (ord.map val) := by
    have all : ∀ (vs : List Value) (l : List (Int × Value)), vs.length = l.length → (∀ (i : Nat) (v : Value), vs[i]? = some v → ∃ e, l[i]? = some e ∧ v = e.2) → Ent l → IntsAre vs (l.map val) := by
      intro vs
      induction vs with
      | nil =>
        intro l hl _ _
        have e : l = [] := List.length_eq_zero_iff.mp hl.symm
        subst e; exact .nil
      | cons v r ih =>
        intro l hl hv hE'
        cases l with
        | nil => simp at hl
        | cons e l =>
          obtain ⟨e', q1, q2⟩ := hv 0 v rfl
          have q1' : e = e' := by simpa using q1
          subst q1'
          obtain ⟨n, t, rfl⟩ := hE' e List.mem_cons_self
          subst q2
          exact .cons n t (ih l (by simpa using hl) (fun i v z => by simpa using hv (i + 1) v (by simpa using z)) fun e z => hE' e (List.mem_cons_of_mem _ z))
    refine all acc.toList ord (by simpa using hacc.1) (fun i v z => hP i v (hacc.2 i v (by simpa using z))) hE
  refine h s' acc.toList _ (fun b o z => ?_) ?_ ?_ (Nat.le_of_lt (Heap.lt_size hS')) hIA hp
  · have z1 := kk b o (k1 b o z)
    have nb : b ≠ s.heap.objs.size := Nat.ne_of_lt (Heap.lt_size z)
    have nbI : b ∉ s.heap.objs.size :: [it] := fun y => by
      rcases List.mem_cons.mp y with e | e
      · exact nb e
      · have e' : b = it := by simpa using e
        have q' : h1.objs.size ≤ it := hitA
        rw [← e', ← hh1, Heap.size_push] at q'
        exact absurd (Nat.lt_of_lt_of_le (Nat.lt_succ_of_lt (Heap.lt_size z)) q') (Nat.lt_irrefl _)
    refine mv.heap b o nbI ?_
    show ((s2.heap.update s.heap.objs.size (Obj.mapSeq (·.push .none))).update s.heap.objs.size (Obj.mapSeq (·.pop))).get? b = some o
    rw [Heap.get?_update_other _ _ (Ne.symm nb), Heap.get?_update_other _ _ (Ne.symm nb)]; exact z1
  · have z : s'.gens = s2.gens := mv.gens
    rw [z, kg]
  · have z : s'.os = s2.os := mv.os
    rw [z, ko]
theorem sorted_set {Q : Value → Shared → Prop} {a : Addr} {ns : List Int} (hh : A.handled = none) (S : SetAt w s.heap a ns) (h64 : ns.length < 64)
    (h : ∀ s' l vs ms n, (∀ b o, s.heap.get? b = some o → s'.heap.get? b = some o) → s'.gens = s.gens → s'.os = s.os → s.heap.objs.size ≤ l → s'.heap.get? l = some (seqObj "list" vs.toArray n) → IntsAre vs ms → List.Perm ms ns → ms.Pairwise (· ≤ ·) → Q (.ref l) s') :
    wpAny (model prog w) A (call (.builtin "sorted") [.ref a]) Q E s := by
  refine Calls.call_function_entry kind_sorted plain_sorted entry_sorted (args_sorted1 _) ?_
  unfold Builtin.«sorted»
  refine wpAny_bind (m := checkCount "sorted" 1 1 _) (wpAny_pure ?_)
  refine wpAny_bind (collect_set hh S fun s1 vs ms k1 g1 o1 hz hI hp => ?_)
  have hvl : vs.length < 64 := by rw [IntsAre.length hI, hp.length_eq]; exact h64
  refine wpAny_bind (wpAny_newList ?_ (by rw [sizeLine_eq]; omega))
  have hL : (s1.heap.push (seqObj "list" vs.toArray 0)).get? s1.heap.objs.size = some (seqObj "list" vs.toArray 0) := Heap.get?_push_size _ rfl
  refine wpAny_bind (wpAny_holding (wpAny_call_entry slot_list_sort ⟨_, hL, rfl⟩ entry_list_sort (list_sort_tree (s := { s1 with heap := s1.heap.push (seqObj "list" vs.toArray 0) }) hL hI hvl fun out ns' a1 a2 a3 => ⟨_, rfl, ?_⟩) (args_list_sort _)))
  obtain ⟨n1, e1⟩ := sortedHeap_at (vs := vs) (out := out) hL
  refine wpAny_pure ⟨_, rfl, h _ s1.heap.objs.size out.toList ns' _ (fun b o z => ?_) g1 o1 hz (by simpa using e1) a1 (a2.trans hp) a3⟩
  have lb : b < s1.heap.objs.size := Heap.lt_size (k1 b o z)
  show (sortedHeap (s1.heap.push (seqObj "list" vs.toArray 0)) s1.heap.objs.size vs out).get? b = some o
  rw [sortedHeap_old (Nat.ne_of_lt lb) (by rw [size_push']; exact Nat.lt_succ_of_lt lb)]
  exact Heap.get?_push_of_some _ (k1 b o z)
end
end SetX
end
section
namespace L2
open PySem PySem.Spec PyProof.Rows
def clo (env : Env) : List (Str × NameKind) → List (Str × Addr) → List (Str × Addr)
  | [], acc => acc
  | (n, k) :: r, acc => if k == .free then (match env.cells.lookup n with | some c => clo env r ((n, c) :: acc) | none => clo env r acc) else clo env r acc
theorem clo_from {env : Env} {x : Str} {c : Addr} : ∀ {names : List (Str × NameKind)} {acc : List (Str × Addr)}, (∀ y d, acc.lookup y = some d → env.cells.lookup y = some d) → (clo env names acc).lookup x = some c → env.cells.lookup x = some c
  | [], acc, ha, h => ha x c h
  | (n, k) :: r, acc, ha, h => by
    unfold clo at h
    by_cases hk : (k == NameKind.free) = true
    · rw [if_pos hk] at h
      cases e : env.cells.lookup n with
      | none => rw [e] at h; exact clo_from ha h
      | some d =>
        rw [e] at h
        refine clo_from (fun y d' hy => ?_) h
        rw [List.lookup_cons] at hy
        cases q : y == n with
        | true =>
          rw [q] at hy
          have q' : y = n := eq_of_beq q
          subst q'
          cases hy
          exact e
        | false => rw [q] at hy; exact ha y d' hy
    · rw [if_neg hk] at h; exact clo_from ha h
theorem clo_acc {env : Env} {x : Str} {c : Addr} (hc : env.cells.lookup x = some c) : ∀ {names : List (Str × NameKind)} {acc : List (Str × Addr)}, (acc.lookup x = some c ∨ (x, NameKind.free) ∈ names) → (clo env names acc).lookup x = some c
  | [], acc, h => by
    rcases h with h | h
    · exact h
    · exact absurd h (by simp)
  | (n, k) :: r, acc, h => by
    unfold clo
    by_cases hk : (k == NameKind.free) = true
    · rw [if_pos hk]
      have hk' : k = NameKind.free := eq_of_beq hk
      by_cases hx : x = n
      · subst hx
        rw [hc]
        exact clo_acc hc (.inl (by rw [List.lookup_cons]; simp))
      · have h' : acc.lookup x = some c ∨ (x, NameKind.free) ∈ r := by
          rcases h with h | h
          · exact .inl h
          · rcases List.mem_cons.mp h with e | e
            · exact absurd (congrArg Prod.fst e) hx
            · exact .inr e
        cases e : env.cells.lookup n with
        | none => exact clo_acc hc h'
        | some d =>
          refine clo_acc hc (h'.imp (fun q => ?_) id)
          rw [List.lookup_cons]
          have hb : (x == n) = false := beq_eq_false_iff_ne.mpr hx
          rw [hb]
          exact q
    · rw [if_neg hk]
      refine clo_acc hc (h.imp id fun q => ?_)
      rcases List.mem_cons.mp q with e | e
      · exfalso
        have : k = NameKind.free := (congrArg Prod.snd e).symm
        exact hk (by rw [this]; rfl)
      · exact e
theorem closureFor_clo {scope : Scope} {env : Env} (h : ∀ x ∈ scope.names, x.2 = .free → ∃ c, env.cells.lookup x.1 = some c) : closureFor scope env = pure (clo env scope.names []) := by
  have go : ∀ (names : List (Str × NameKind)) (acc : List (Str × Addr)), (∀ x ∈ names, x.2 = .free → ∃ c, env.cells.lookup x.1 = some c) →
      (forIn names acc fun x cs => (match x with | (name, kind) => if (kind == .free) = true then do let c ← cellOf env name; pure (ForInStep.yield ((name, c) :: cs)) else pure (ForInStep.yield cs) : Sem (ForInStep (List (Str × Addr))))) = (pure (clo env names acc) : Sem (List (Str × Addr))) := by
    intro names
    induction names with
    | nil => intro acc _; rfl
    | cons p r ih =>
      intro acc hp
      obtain ⟨n, k⟩ := p
      have hr := fun x hx => hp x (List.mem_cons_of_mem _ hx)
      rw [List.forIn_cons]
      unfold clo
      by_cases hk : (k == NameKind.free) = true
      · obtain ⟨c, hc⟩ := hp (n, k) List.mem_cons_self (eq_of_beq hk)
        have hco : cellOf env n = pure c := by unfold cellOf; simp only at hc; rw [hc]
        simp only [hk, if_true, hco]
        simp only at hc
        rw [hc]
        exact ih ((n, c) :: acc) hr
      · simp only [hk, if_false]
        exact ih acc hr
  unfold closureFor
  dsimp only
  rw [go scope.names [] h]
  rfl
theorem lookup_relabel_free {env : Env} : ∀ {names : List (Str × NameKind)} {x : Str}, names.lookup x = some .free →
    (names.map fun (n, k) => if (k == NameKind.free && env.scope.kind == .function && env.kindOf n == some .cell) then (n, NameKind.cell) else (n, k)).lookup x = some .cell ∨
    (names.map fun (n, k) => if (k == NameKind.free && env.scope.kind == .function && env.kindOf n == some .cell) then (n, NameKind.cell) else (n, k)).lookup x = some .free
  | [], _, h => by simp at h
  | (n, k) :: r, x, h => by
    have ih := @lookup_relabel_free env r x
    show List.lookup x ((if (k == NameKind.free && env.scope.kind == .function && env.kindOf n == some .cell) = true then (n, NameKind.cell) else (n, k)) :: _) = _ ∨ List.lookup x ((if (k == NameKind.free && env.scope.kind == .function && env.kindOf n == some .cell) = true then (n, NameKind.cell) else (n, k)) :: _) = _
    cases hx : x == n with
    | true =>
      simp only [List.lookup_cons, hx] at h
      cases h
      by_cases hc : (NameKind.free == NameKind.free && env.scope.kind == .function && env.kindOf n == some .cell) = true
      · rw [if_pos hc]; simp only [List.lookup_cons, hx]; exact .inl trivial
      · rw [if_neg hc]; simp only [List.lookup_cons, hx]; exact .inr trivial
    | false =>
      simp only [List.lookup_cons, hx] at h
      by_cases hc : (k == NameKind.free && env.scope.kind == .function && env.kindOf n == some .cell) = true
      · rw [if_pos hc]; simp only [List.lookup_cons, hx]; exact ih h
      · rw [if_neg hc]; simp only [List.lookup_cons, hx]; exact ih h
def compX (X : Cx) (scope : Scope) (N' : List Str) (s : Shared) (H : Hp) (fp : List Addr) (C : Addr) : Cx :=
  { prog := X.prog, w := X.w, K := X.K, mg := X.mg, base := X.base, A := X.A, N := N', s₀ := s, H₀ := H, env := compEnvC scope (clo X.env scope.names []) C X.env, outer := X.stack, stack := X.stack, ex := fp, fn := fun _ => false,
    calm := X.calm, pn := [], xe := fun _ _ => False }
structure CompSc (N : List Str) (sc0 scope : Scope) (own fr : List Str) (js : List Nat) : Prop where
  kind : scope.kind = .function
  cell : ∀ y ∈ scope.names, y.2 ≠ .cell
  loc : ∀ x ∈ scope.names, x.2 = .local → scope.names.lookup x.1 = some .local
  free : ∀ x ∈ scope.names, x.2 = .free → sc0.names.lookup x.1 = some .cell ∨ sc0.names.lookup x.1 = some .free
  len : js.length = fr.length
  fr : ∀ p ∈ fr.zip js, N[p.2]? = some p.1 ∧ scope.names.lookup p.1 = some .free
def stOf (own : Nat) (js : List Nat) (σ : St) : St := List.replicate own none ++ js.map fun j => (σ[j]?).join
def tComp (wi : TI) (g : TG) (te : TE) (own : Nat) (js : List Nat) : TE := fun σ H Q => wi σ H fun J H1 => ∀ p, H1 p = none → ∃ W : Nat → Nat → St → Hp → Prop, (∃ m, W 0 m (stOf own js σ) (upd H1 p (.lst []))) ∧
  ∀ i m σ' H', W i m σ' H' → (J.stop i H' ∧ Q (.ref p) H') ∨ (J.go i H' ∧ ∀ x H2, J.yld i H' x H2 → g x σ' H2 fun σ2 H3 => te σ2 H3 fun v H4 => ∃ ys, H4 p = some (.lst ys) ∧ ys.length < sizeLine ∧ ∃ m', m' < m ∧ W (i + 1) m' σ2 (upd H4 p (.lst (ys ++ [v]))))
section
variable {X : Cx}
theorem comp_start {pins : List (Addr × Obj)} {σ : St} {H : Hp} {s : Shared} {h1 : Heap} {scope : Scope} {own fr : List Str} {js : List Nat} {sc0 : Scope} {N : List Str} {fp : List Addr} {tk : Nat} (I : Inv X pins σ H s) (hN : X.N = N) (hsc : X.env.scope = sc0) (S : CompSc N sc0 scope own fr js) (hf : ∀ b ∈ fp, FpOk X pins H b)
    (hlt : ∀ b ∈ fp, b < s.heap.objs.size) (hn : h1.Ns s.heap.objs.size (fun _ => none)) (hk : ∀ b o, s.heap.get? b = some o → h1.get? b = some o) :
    Inv (compX X scope (own ++ fr) s H fp s.heap.objs.size) [] (stOf own.length js σ) H { s with heap := h1, toks := tk } := by
  subst hN hsc
  have ok := I.ok
  have cl : ∀ x c, (clo X.env scope.names []).lookup x = some c → X.env.cells.lookup x = some c := fun x c h => clo_from (fun y d hy => by simp at hy) h
  have hasC : ∀ x, (X.env.scope.names.lookup x = some .cell ∨ X.env.scope.names.lookup x = some .free) → ∃ c, X.env.cells.lookup x = some c := fun x hx => ok.has x hx
  refine ⟨⟨ok.mod, S.kind, ok.glob, ok.blt, Nat.le_refl _, fun x y c h1 h2 => ok.inj x y c (cl x c h1) (cl y c h2), fun x hx => ?_, fun _ _ h => (Bool.false_ne_true h).elim, ok.hd, ok.frames, .inl rfl, fun b hb => ⟨Nat.ne_of_lt (hlt b hb), fun x c h => (hf b hb).2.2.2.2.1 x c (cl x c h)⟩,
    fun b o e => I.bs b o e, Nat.le_trans ok.bsz I.sz, fun b o e hb => ?_, fun b hb => fun z => ?_, I.stack, I.stkFree⟩, rfl, I.bare, Un.kept hk, ⟨_, hn, fun i x v h1 h2 h3 => ?_⟩, fun x c h => ?_, I.hok.fresh (Nat.le_refl _), fun x c h => I.freeC x c (cl x c h), fun p hp => absurd hp (by intro z; exact absurd (show p ∈ ([] : List (Addr × Obj)) from z) (by simp)), I.hok.kept hk, ?_⟩
  ·
    have hx' : (relabel scope X.env).names.lookup x = some .cell ∨ (relabel scope X.env).names.lookup x = some .free := hx
    have hfree : ∃ k, scope.names.lookup x = some k ∧ (k = .free ∨ k = .cell) := by
      have back : ∀ (names : List (Str × NameKind)), ((names.map fun (n, k) => if (k == NameKind.free && X.env.scope.kind == .function && X.env.kindOf n == some .cell) then (n, NameKind.cell) else (n, k)).lookup x = some .cell ∨
          (names.map fun (n, k) => if (k == NameKind.free && X.env.scope.kind == .function && X.env.kindOf n == some .cell) then (n, NameKind.cell) else (n, k)).lookup x = some .free) → ∃ k, names.lookup x = some k ∧ (k = .free ∨ k = .cell) := by
        intro names
        induction names with
        | nil => intro h; simp at h
        | cons p r ih =>
          obtain ⟨n, k⟩ := p
          intro h
          rw [List.map_cons] at h
          rw [List.lookup_cons]
          by_cases hc : (k == NameKind.free && X.env.scope.kind == .function && X.env.kindOf n == some .cell) = true
          · simp only [hc, if_true, List.lookup_cons] at h
            cases q : x == n with
            | true =>
              simp only [Bool.and_eq_true] at hc
              exact ⟨k, rfl, .inl (eq_of_beq hc.1.1)⟩
            | false => rw [q] at h; exact ih h
          · simp only [hc, Bool.false_eq_true, if_false, List.lookup_cons] at h
            cases q : x == n with
            | true =>
              rw [q] at h
              refine ⟨k, rfl, ?_⟩
              rcases h with h | h
              · exact .inr (Option.some.inj h)
              · exact .inl (Option.some.inj h)
            | false => rw [q] at h; exact ih h
      exact back _ hx'
    obtain ⟨k, e, z⟩ := hfree
    have hm : (x, k) ∈ scope.names := PySem.mem_of_lookup e
    rcases z with z | z
    · subst z
      obtain ⟨c, hc⟩ := hasC x (S.free _ hm rfl)
      exact ⟨c, clo_acc hc (.inr hm)⟩
    · exact absurd z (S.cell _ hm)
  · rcases (hf b hb).2.2.2.1 with z | z
    · exact ok.noex b o e z
    · exact absurd (Nat.lt_of_lt_of_le (Heap.lt_size (ok.bs b o e).1) z) (Nat.lt_irrefl _)
  · rcases List.mem_cons.mp (I.stkSub b z) with e | e
    · exact (hf b hb).2.1 e
    · exact (hf b hb).2.2.1 e
  · unfold stOf at h2
    by_cases hi : i < own.length
    · rw [List.getElem?_append_left (by simpa using hi), List.getElem?_replicate] at h2
      rw [if_pos hi] at h2
      cases h2
    · have hio : own.length ≤ i := Nat.le_of_not_lt hi
      rw [List.getElem?_append_right (by simpa using hio), List.length_replicate, List.getElem?_map] at h2
      have h1' : fr[i - own.length]? = some x := by
        have h1'' : (own ++ fr)[i]? = some x := h1
        rw [List.getElem?_append_right hio] at h1''
        exact h1''
      cases ej : js[i - own.length]? with
      | none => rw [ej] at h2; cases h2
      | some j =>
        rw [ej] at h2
        have h2' : (σ[j]?).join = some v := Option.some.inj h2
        have h2'' : σ[j]? = some (some v) := by
          cases q : σ[j]? with
          | none => rw [q] at h2'; cases h2'
          | some o => rw [q] at h2'; have : o = some v := h2'; rw [this]
        have hz : (x, j) ∈ fr.zip js := by
          refine List.mem_iff_getElem?.mpr ⟨i - own.length, ?_⟩
          rw [List.getElem?_zip_eq_some]
          exact ⟨h1', ej⟩
        obtain ⟨hj, hxf⟩ := S.fr _ hz
        have hcf := S.free _ (PySem.mem_of_lookup hxf) rfl
        obtain ⟨m, hm, hl⟩ := I.loc
        have hvis : Vis X.env.scope x := hcf.elim (fun z => .inr (.inl z)) fun z => .inr (.inr z)
        obtain ⟨u, r, l⟩ := hl j x v hj h2'' hvis
        refine ⟨u, r, .inr ⟨lookup_relabel_free hxf, ?_⟩⟩
        rcases l with ⟨lk, _⟩ | ⟨_, c, hc, hcell⟩
        · have lk' : X.env.scope.names.lookup x = some .local := lk
          rcases hcf with z | z
          · rw [lk'] at z; cases z
          · rw [lk'] at z; cases z
        · exact ⟨c, clo_acc hc (.inr (PySem.mem_of_lookup hxf)), hcell.keeps hk⟩
  · obtain ⟨v, z⟩ := I.cell x c (cl x c h)
    exact ⟨v, z.keeps hk⟩
  · show (stOf own.length js σ).length = (own ++ fr).length
    unfold stOf
    rw [List.length_append, List.length_replicate, List.length_map, List.length_append, S.len]
theorem compTurn_list1' (elt target iter : Expr) (scope : Scope) (pos : Pos) (it acc : Value) (env : Env) :
    compTurn (.ListComp elt [⟨target, iter, [], 0⟩] scope pos) 0 it acc env = (standAt iter.pos >>= fun _ => pyNext it >>= fun r => match r with
      | none => pure (.done .next)
      | some v => letOwnedTupleGo target it v >>= fun _ => assign target env v >>= fun _ =>
        (eval elt env >>= fun x => call (.builtin "list.append") [acc, x] >>= fun _ => pure ()) >>= fun _ =>
          again (.compLoop (.ListComp elt [⟨target, iter, [], 0⟩] scope pos) 0 it acc env)) := by rfl
theorem codeAny_compLoop_any {prog : Program} {w : World} {A : Around} {s : Shared} {R : Result → Shared → Prop} {elt target iter : Expr} {scope : Scope} {pos : Pos} {it acc : Value} {env : Env} (I : Nat → Shared → Prop)
    (turn : ∀ n s, I n s → wpAny (model prog w) A (pyNext it) (fun r s₁ => match r with
      | none => R (.ok .next) s₁
      | some v => wpAny (model prog w) A (letOwnedTupleGo target it v) (fun _ s₁' => wpAny (model prog w) A (assign target env v) (fun _ s₂ => wpAny (model prog w) A (eval elt env) (fun x s₃ =>
          wpAny (model prog w) A (call (.builtin "list.append") [acc, x]) (fun _ s₄ => ∃ m, m < n ∧ I m s₄) (fun _ _ => False) s₃)
          (fun _ _ => False) s₂) (fun _ _ => False) s₁') (fun _ _ => False) s₁) (fun _ _ => False) s)
    (n : Nat) (h : I n s) :
    codeAny (model prog w) A (.compLoop (.ListComp elt [⟨target, iter, [], 0⟩] scope pos) 0 it acc env) R s := by
  refine codeAny_loop rfl I (fun n s hI => ?_) n h
  show wpAny _ _ ((compTurn (.ListComp elt [⟨target, iter, [], 0⟩] scope pos) 0 it acc env).onRaise (fun x => do noteFrame x env; theTreesLotGoes x)) _ _ s
  refine wpAny_noted ?_
  rw [compTurn_list1']
  refine wpAny_bind (wpAny_standAt (wpAny_bind (wpAny_mono (turn n s hI) (fun r s₁ h₁ => ?_) fun _ _ h' => h'.elim)))
  cases r with
  | none => exact wpAny_pure h₁
  | some v =>
    exact wpAny_bind (wpAny_mono h₁ (fun _ s₁' h₁' => wpAny_bind (wpAny_mono h₁' (fun _ s₂ h₂ => wpAny_bind (wpAny_bind (wpAny_mono h₂ (fun x s₃ h₃ => wpAny_bind (wpAny_mono h₃
      (fun _ s₄ h₄ => wpAny_pure (wpAny_pure ⟨rfl, h₄⟩)) fun _ _ h' => h'.elim)) fun _ _ h' => h'.elim))) fun _ _ h' => h'.elim)) fun _ _ h' => h'.elim)
theorem pe_comp {tg iter elt : Expr} {scope : Scope} {pos : Pos} {wi : TI} {g : TG} {te : TE} (own fr : List Str) (js : List Nat) {sc0 : Scope} {N : List Str} (hc : X.calm = true) (hN : X.N = N) (hsc : X.env.scope = sc0) (S : CompSc N sc0 scope own fr js)
    (hi : PI X tg iter wi) (hg : ∀ s H fp C, PG (compX X scope (own ++ fr) s H fp C) tg g) (he : ∀ s H fp C, PE (compX X scope (own ++ fr) s H fp C) elt te)
    (hs : ∀ x, foldedSetIterable iter X.env x = pure x := by intro _; rfl) : PE X (.ListComp elt [⟨tg, iter, [], 0⟩] scope pos) (tComp wi g te own.length js) := by
  intro pins s σ H Q I h
  rw [eval_ListComp]
  have hclos : closureFor scope X.env = pure (clo X.env scope.names []) := closureFor_clo fun x hx e => by
    subst hsc
    exact I.ok.has x.1 (S.free x hx e)
  refine wpAny_comprehension_free (use := none) rfl hs hclos S.kind S.loc (thn (hi pins s σ H _ I h) fun xv s1 h1 => thn h1 fun itv s2 h2 => ?_)
  obtain ⟨it, fp, tn, J, H2, e, I2, T, st2, f2, rest⟩ := h2
  subst e
  refine wpAny_newObj_type ?_
  obtain ⟨W, ⟨m0, w0⟩, turn⟩ := rest s2.heap.objs.size (I2.hok.fresh (Nat.le_refl _))
  have I3 : Inv X pins σ (upd H2 s2.heap.objs.size (.lst [])) { s2 with heap := s2.heap.push { cls := .type "list", dict := none, data := .seq ([] : List Value).toArray } } :=
    I2.lnew (its := []) (t' := s2.toks) .nil (Nat.zero_le _)
  generalize hs3 : ({ s2 with heap := s2.heap.push { cls := .type "list", dict := none, data := .seq ([] : List Value).toArray } } : Shared) = s3 at I3 ⊢
  have ho3 : ∀ b o, s2.heap.get? b = some o → s3.heap.get? b = some o := fun b o e => by rw [← hs3]; exact Heap.get?_push_of_some _ e
  have f3 : ∀ b ∈ fp, FpOk X pins (upd H2 s2.heap.objs.size (.lst [])) b := fun b hb => by
    obtain ⟨o, e, _⟩ := T.obj _ _ st2 b hb
    exact ⟨by rw [upd_ne (Nat.ne_of_lt (Heap.lt_size e))]; exact (f2 b hb).1, (f2 b hb).2⟩
  have l3 : ∀ b ∈ fp, b < s3.heap.objs.size := fun b hb => by
    obtain ⟨o, e, _⟩ := T.obj _ _ st2 b hb
    exact Heap.lt_size (ho3 b o e)
  have st3 : tn 0 s3.heap := T.keep _ _ _ st2 fun b _ o e => ho3 b o e
  refine wpAny_newFunctionEnv S.cell (by intro y hy; simp at hy) (fun h4 hn4 sb4 => ?_) S.kind
  have ho4 : ∀ b o, s3.heap.get? b = some o → h4.get? b = some o := fun b o e => sb4.extBut b o (Nat.ne_of_lt (Heap.lt_size e)) (Heap.get?_push_of_some _ e)
  have hn4' : h4.Ns s3.heap.objs.size (fun _ => none) := hn4
  have J0 := comp_start (scope := scope) (own := own) (fr := fr) (js := js) (tk := s3.toks + ([] : List (Str × Value)).length) I3 hN hsc S f3 l3 hn4' ho4
  have st4 : tn 0 h4 := T.keep _ _ _ st3 fun b _ o e => ho4 b o e
  show codeAny (model X.prog X.w) X.A (.compStart (.ListComp elt [⟨tg, iter, [], 0⟩] scope pos) 0 (.ref it) (.ref s2.heap.objs.size) (compX X scope (own ++ fr) s3 (upd H2 s2.heap.objs.size (.lst [])) fp s3.heap.objs.size).env) (compPost (model X.prog X.w) X.A X.xe none (EP X pins σ Q) (.ref s2.heap.objs.size) s3.heap.objs.size) _
  generalize hX' : compX X scope (own ++ fr) s3 (upd H2 s2.heap.objs.size (.lst [])) fp s3.heap.objs.size = X' at J0 ⊢
  have hgX : PG X' tg g := hX' ▸ hg _ _ _ _
  have heX : PE X' elt te := hX' ▸ he _ _ _ _
  have eP : X'.prog = X.prog := by rw [← hX']; rfl
  have eW : X'.w = X.w := by rw [← hX']; rfl
  have eK : X'.K = X.K := by rw [← hX']; rfl
  have eC : X'.calm = true := by rw [← hX']; exact hc
  have eA : X'.A = X.A := by rw [← hX']; rfl
  have eX : X'.xe = fun _ _ => False := by rw [← hX']; rfl
  have eEx : X'.ex = fp := by rw [← hX']; rfl
  have eL : X'.env.locals = s3.heap.objs.size := by rw [← hX']; rfl
  have eN : X'.N = own ++ fr := by rw [← hX']; rfl
  have cl' : ∀ x c, X'.env.cells.lookup x = some c → X.env.cells.lookup x = some c := fun x c h => clo_from (names := scope.names) (acc := []) (fun y d hy => by simp at hy) (by rw [← hX'] at h; exact h)
  have eFs : X'.fs = frs X.stack := by rw [← hX']; rfl
  have ePn : X'.pn = [] := by rw [← hX']; rfl
  have fp' : ∀ {H' : Hp}, (∀ b ∈ fp, H' b = none) → ∀ b ∈ fp, FpOk X' [] H' b := fun hn b hb => ⟨hn b hb, by rw [eL]; exact Nat.ne_of_lt (l3 b hb), by
      rw [eFs]; intro z
      rcases List.mem_cons.mp (I3.stkSub b z) with e | e
      · exact (f3 b hb).2.1 e
      · exact (f3 b hb).2.2.1 e, .inl (by rw [eEx]; exact hb), fun x c h => (f3 b hb).2.2.2.2.1 x c (cl' x c h), fun p hp => by rw [ePn] at hp; exact absurd (show p ∈ ([] : List (Addr × Obj)) from hp) (by simp)⟩
  have loop : ∀ s4 : Shared, s4 = { s3 with heap := h4, toks := s3.toks + ([] : List (Str × Value)).length } →
      codeAny (model X.prog X.w) X.A (.compLoop (.ListComp elt [⟨tg, iter, [], 0⟩] scope pos) 0 (.ref it) (.ref s2.heap.objs.size) X'.env) (compPost (model X.prog X.w) X.A X.xe none (EP X pins σ Q) (.ref s2.heap.objs.size) s3.heap.objs.size) s4 := by
    rintro s4 rfl
    refine codeAny_compLoop_any (fun n s' => ∃ i σ' H', Inv X' [] σ' H' s' ∧ tn i s'.heap ∧ (∀ b ∈ fp, H' b = none) ∧ W i n σ' H') ?_ m0 ⟨0, _, _, J0, st4, fun b hb => (f3 b hb).1, w0⟩
    rintro n s5 ⟨i, σ5, H5, I5, st5, fr5, w5⟩
    rcases turn i n σ5 H5 w5 with ⟨stop, q⟩ | ⟨go, step⟩
    · have hd := T.done X' eP eW eK eC i [] s5 σ5 H5 (fun _ _ => False) I5 (fp' fr5) st5 stop
      rw [eA] at hd
      refine thn hd fun r s6 ⟨hr, I6⟩ => ?_
      subst hr
      obtain ⟨m6, hn6, _⟩ := I6.loc
      rw [eL] at hn6
      refine ⟨m6, hn6, fun h7 sb7 => ?_⟩
      have hC : H5 s3.heap.objs.size = none := by have := I6.free; rw [eL] at this; exact this
      have hok7 : HOk X.prog X.w H5 h7 := fun b ob e => by
        have e6 := I6.hok b ob e
        rw [eP, eW] at e6
        refine e6.stay (fun c w' hc q => (sb7.2 c ?_).trans q) (fun _ q => q) fun _ _ q => q
        rintro rfl
        rcases hc with z | z
        · rw [← z, hC] at e; cases e
        · rw [hC] at z; cases z
      have un : Un (frs X.stack) fp (upd H2 s2.heap.objs.size (.lst [])) H5 s3.heap h7 := by
        have b6 := I6.base
        have e0 : X'.H₀ = upd H2 s2.heap.objs.size (.lst []) := by rw [← hX']; rfl
        have e1 : X'.s₀ = s3 := by rw [← hX']; rfl
        rw [eFs, eEx, e0, e1] at b6
        have ne : ∀ b o, s3.heap.get? b = some o → b ≠ s3.heap.objs.size := fun b o e => Nat.ne_of_lt (Heap.lt_size e)
        exact ⟨fun b o e n hb hx => (sb7.2 b (ne b o e)).trans (b6.keep b o e n hb hx), fun b o e n hb hx => by
            obtain ⟨sl, z⟩ := b6.slot b o e n hb hx
            exact ⟨sl, (sb7.2 b (ne b o e)).trans z⟩, b6.free, fun b o e hx => by
            obtain ⟨o', z⟩ := b6.there b o e hx
            exact ⟨o', (sb7.2 b (ne b o e)).trans z⟩, b6.tups, b6.frzs, b6.tbls⟩
      have os7 : s6.os = s3.os := by have := I6.os; rw [← hX'] at this; exact this
      have I7 : Inv X pins σ H5 { s6 with heap := h7 } := I3.call' (s' := { s6 with heap := h7 }) (ch := fp) os7 un hok7 I6.bare fun b hb => ⟨(f3 b hb).2.2.2.1, (f3 b hb).2.1, (f3 b hb).2.2.2.2.1, (f3 b hb).2.2.2.2.2⟩
      exact ⟨.ref s2.heap.objs.size, H5, I7, rfl, q⟩
    · have hd := T.item X' eP eW eK eC i [] s5 σ5 H5 (fun _ _ => False) I5 (fp' fr5) st5 go
      rw [eA] at hd
      refine thn hd fun r s6 ⟨u, hr, h6⟩ => ?_
      subst hr
      refine thn h6 fun _ s7 ⟨x, H7, I7, r7, y7, st7, fr7⟩ => ?_
      have I7' := I7.pinned (fp' fr7) (T.obj _ _ st7)
      have hg7 := hgX _ s7 σ5 H7 x u _ I7' r7 (step x H7 y7)
      rw [eP, eW, eA, eX] at hg7
      refine thn hg7 fun _ s8 ⟨σ8, H8, I8, q8⟩ => ?_
      have he8 := heX _ s8 σ8 H8 _ I8 q8
      rw [eP, eW, eA, eX] at he8
      refine thn he8 fun v s9 ⟨z, H9, I9, r9, ys, hp9, hz9, m', hm', w9⟩ => ?_
      have ha := mt_append (X := X') _ s9 σ8 H9 (.ref s2.heap.objs.size) [z] (.ref s2.heap.objs.size) [v] (fun _ H' => ∃ m', m' < n ∧ W (i + 1) m' σ8 H') I9 rfl (.cons r9 .nil) ⟨_, ys, z, rfl, rfl, hp9, hz9, m', hm', w9⟩
      rw [eP, eW, eA, eX] at ha
      refine thn ha fun _ s10 ⟨_, H10, I10, _, m'', hm'', w10⟩ => ?_
      have pin10 : ∀ b ∈ fp, ∀ o, s7.heap.get? b = some o → s10.heap.get? b = some o ∧ H10 b = none := fun b hb o e =>
        let z := I10.pin (b, o) (List.mem_append_right _ (List.mem_append_right _ (mem_pinsAt hb e)))
        ⟨z.1, z.2.1⟩
      refine ⟨m'', hm'', i + 1, σ8, H10, I10.unpinned, T.keep _ _ _ st7 fun b hb o e => (pin10 b hb o e).1, fun b hb => ?_, w10⟩
      obtain ⟨o, e, _⟩ := T.obj _ _ st7 b hb
      exact (pin10 b hb o e).2
  have st4' : tn 0 ({ s3 with heap := h4, toks := s3.toks + ([] : List (Str × Value)).length } : Shared).heap := st4
  exact codeAny_compStart_list (loop _ rfl) (T.self X.A 0 _ _ _ st4' (loop _ rfl))
end
end L2
end
section
namespace PySem
open Sem (wp)
open AutoSeq1 (wpAny_loadPart')
section
variable {prog : Program} {w : World} {A : Around} {E : Value → Shared → Prop} {s : Shared}
theorem nextOf_tup_item {j t : Addr} {i : Nat} {its : Array Value} {y : Value} {Q : Value → Shared → Prop} (hj : s.heap.IsTupleIter j t i) (ht : s.heap.IsTuple t its) (hy : its[i]? = some y)
    (k : ∀ h', h'.IsTupleIter j t (i + 1) → Heap.SameBut j s.heap h' → Q y { s with heap := h' }) : wpAny (model prog w) A (Builtin.SmallTypes.nextOf (.ref j)) Q E s := by
  obtain ⟨ob, e1, e2, e3⟩ := id hj; obtain ⟨ot, f1, f2, nt, f3⟩ := ht; unfold Builtin.SmallTypes.nextOf
  refine wpAny_bind (wpAny_callSpecial?_slot (name := Str.ofString "__next__") hj.typeIs F.slot_tuple_iterator_next (wpAny_call_entry F.slot_tuple_iterator_next hj.typeIs F.entry_tuple_iterator_next ?_ (F.args_tuple_iterator_next_1 _)))
  show wpAny _ _ (field (.ref j) 0 >>= _) _ _ s; refine wpAny_bind (wpAny_field e1 e3 (x := .ref t) rfl ?_)
  show wpAny _ _ (if (Value.ref t == Value.none) = true then _ else _) _ _ s; rw [if_neg (show ¬ ((Value.ref t == Value.none) = true) from Bool.false_ne_true)]
  show wpAny _ _ (field (.ref j) 1 >>= _) _ _ s; refine wpAny_bind (wpAny_field e1 e3 (x := .int i 0) rfl ?_); show wpAny _ _ (seqItems? (.ref t) >>= _) _ _ s
  refine wpAny_bind (wpAny_seqItems f1 f3 ?_); simp only [Int.toNat_natCast, hy]
  refine wpAny_bind (wpAny_setField e1 e3 (by simp) (wpAny_pure ⟨y, rfl, wpAny_pure (k _ ?_ (Heap.SameBut.update ..))⟩))
  exact ⟨_, Heap.get?_update_self _ e1 (Obj.isFreed_of_fields (Obj.data_mapFields e3 _)), (Obj.cls_mapFields ..).trans e2, by rw [Obj.data_mapFields e3]; simp [rawInt]⟩
theorem nextOf_tup_end {j t : Addr} {i : Nat} {its : Array Value} {Q : Value → Shared → Prop} (hh : A.handled = none) (hj : s.heap.IsTupleIter j t i) (ht : s.heap.IsTuple t its) (hy : its[i]? = none)
    (k : ∀ h' e, Heap.ExtBut j s.heap h' → (∃ o, h'.get? e = some o ∧ o.cls = .type "StopIteration") → E (.ref e) { s with heap := h' }) : wpAny (model prog w) A (Builtin.SmallTypes.nextOf (.ref j)) Q E s := by
  obtain ⟨ob, e1, e2, e3⟩ := id hj; obtain ⟨ot, f1, f2, nt, f3⟩ := ht; unfold Builtin.SmallTypes.nextOf
  refine wpAny_bind (wpAny_callSpecial?_slot (name := Str.ofString "__next__") hj.typeIs F.slot_tuple_iterator_next (wpAny_call_entry F.slot_tuple_iterator_next hj.typeIs F.entry_tuple_iterator_next ?_ (F.args_tuple_iterator_next_1 _)))
  show wpAny _ _ (field (.ref j) 0 >>= _) _ _ s; refine wpAny_bind (wpAny_field e1 e3 (x := .ref t) rfl ?_)
  show wpAny _ _ (if (Value.ref t == Value.none) = true then _ else _) _ _ s; rw [if_neg (show ¬ ((Value.ref t == Value.none) = true) from Bool.false_ne_true)]
  show wpAny _ _ (field (.ref j) 1 >>= _) _ _ s; refine wpAny_bind (wpAny_field e1 e3 (x := .int i 0) rfl ?_); show wpAny _ _ (seqItems? (.ref t) >>= _) _ _ s
  refine wpAny_bind (wpAny_seqItems f1 f3 ?_); simp only [Int.toNat_natCast, hy]
  refine wpAny_bind (wpAny_rule (wpAny_bind (wpAny_setField e1 e3 (by simp) ?_))); show wpAny _ _ (newExc (.type "StopIteration") [] >>= _) _ _ _
  refine wpAny_bind ?_; simp only [newExc, newTuple]; refine wpAny_bind (wpAny_newObj_type ?_ (by size_fits))
  refine wpAny_bind (m := firstArgMember _ _) (wpAny_of_eq (a := Value.none) (by first | rfl | (simp only [firstArgMember]; rfl)) ?_); refine wpAny_newObj_type ?_ (by size_fits)
  simp only [raiseNew]; refine wpAny_bind (wpAny_handled ?_); first | rw [show A.in1.handled = none from hh] | rw [hh]
  refine wpAny_bind (wpAny_pure (wpAny_throw ?_)); exact k _ _ (((Heap.SameBut.update ..).extBut.push _).push _) ⟨_, Heap.get?_push_size _ rfl, rfl⟩
end
theorem Draws.tup {prog : Program} {w : World} {A : Around} (hh : A.handled = none) (j t : Addr) (ne : t ≠ j) (its : Array Value) :
    Draws prog w A j [j, t] its.size (fun i v => its[i]? = some v) (fun i h => h.IsTupleIter j t i ∧ h.IsTuple t its) where
  live := fun _ _ st => let ⟨o, ho, _⟩ := st.1; ⟨o, ho⟩
  frame := fun _ _ _ st hk => ⟨let ⟨o, e, r⟩ := st.1; ⟨o, hk j (by simp) o e, r⟩, let ⟨o, e, r⟩ := st.2; ⟨o, hk t (by simp) o e, r⟩⟩
  item := fun i s Q E hi st hQ => by
    refine nextOf_tup_item st.1 st.2 (y := its[i]) (by simp [hi]) fun h' a b => ?_
    exact hQ _ h' s.toks (by simp [hi]) ⟨a, st.2.extBut b.extBut ne⟩ b
  done := fun s Q E st hE => nextOf_tup_end hh st.1 st.2 (by simp) hE
theorem meets_enumerate_newT (l : Addr) (its : Array Value) (n : Nat) (dct : Option Addr) (sl : Array (Option Value)) :
    Meets (Builtin.«enumerate.__new__» ⟨[.type "enumerate", .ref l], []⟩) (fun _ R s => s.heap.get? l = some { cls := .type "tuple", dict := dct, data := .seq its n, slots := sl } ∧
      R (.ok (.ret (.ref (s.heap.push { cls := .type "tuple_iterator", data := .fields #[.ref l, .int 0 0] }).objs.size)))
        { s with heap := (s.heap.push { cls := .type "tuple_iterator", data := .fields #[.ref l, .int 0 0] }).push { cls := .type "enumerate", data := .fields #[.none, .bool false, .ref s.heap.objs.size, rawInt 0, .none, .none] } }) :=
  .of_wp fun prog w A R s h => by
    obtain ⟨hp, g, d, tk, os⟩ := s; obtain ⟨hl, h⟩ := h; have hsub := sub_enumerate
    have hL : Heap.IsTuple (Shared.heap ⟨hp, g, d, tk, os⟩) l its := ⟨_, hl, rfl, n, rfl⟩
    wp_walk using wpAny_loadPart' hl
    refine wpAny_stack_any fun st => wpAny_pure ?_
    split
    · rename_i c _ _ _ _ _
      cases (c == Value.type "enumerate") <;> (wp_walk using wpAny_loadPart' hl, wpAny_pyIter_tuple hL; exact ⟨_, rfl, h⟩)
    · wp_walk using wpAny_loadPart' hl, wpAny_pyIter_tuple hL
      exact ⟨_, rfl, h⟩
theorem call_enumerate_tup {prog : Program} {w : World} {A : Around} {E : Value → Shared → Prop} {s : Shared} {l : Addr} {its : Array Value} {Q : Value → Shared → Prop} (hL : s.heap.IsTuple l its)
    (h : ∀ h', IsEnum h' (s.heap.objs.size + 1) s.heap.objs.size 0 .none → h'.IsTupleIter s.heap.objs.size l 0 → h'.objs.size = s.heap.objs.size + 2 → (∀ b o, s.heap.get? b = some o → h'.get? b = some o) → Q (.ref (s.heap.objs.size + 1)) { s with heap := h' }) :
    wpAny (model prog w) A (call (.type "enumerate") [.ref l]) Q E s := by
  obtain ⟨⟨c, dct, dt, sl⟩, hl, hc, n, hd⟩ := hL
  have hc' : c = .type "tuple" := hc
  have hd' : dt = .seq its n := hd
  subst hc' hd'
  refine callType_new F.called_enumerate (by decide) (F.typeCall_enumerate_1 _) (F.newCall_enumerate_1 _) (fun obj => F.args_object_init_2 obj _) F.entry_enumerate_new (meets_enumerate_newT l its n dct sl) ⟨hl, ?_⟩
  have hz : (s.heap.push { cls := .type "tuple_iterator", data := .fields #[.ref l, .int 0 0] }).objs.size = s.heap.objs.size + 1 := Heap.size_push ..
  show _ ∧ _
  rw [hz]
  have he : IsEnum ((s.heap.push { cls := .type "tuple_iterator", data := .fields #[.ref l, .int 0 0] }).push { cls := .type "enumerate", data := .fields #[.none, .bool false, .ref s.heap.objs.size, rawInt 0, .none, .none] }) (s.heap.objs.size + 1) s.heap.objs.size 0 .none := by
    have := Heap.get?_push_size (s.heap.push { cls := .type "tuple_iterator", data := .fields #[.ref l, .int 0 0] }) (o := { cls := .type "enumerate", data := .fields #[.none, .bool false, .ref s.heap.objs.size, rawInt 0, .none, .none] }) rfl
    rw [hz] at this; exact this
  refine ⟨⟨_, he, rfl⟩, h _ he ⟨_, Heap.get?_push_of_some _ (Heap.get?_push_size _ rfl), rfl, rfl⟩ (by rw [Heap.size_push, hz]) fun b o x => Heap.get?_push_of_some _ (Heap.get?_push_of_some _ x)⟩
end PySem
end
section
namespace L2
open PySem PySem.Spec PyProof.Rows
section
variable {X : Cx} {pins : List (Addr × Obj)} {σ : St} {H : Hp} {s : Shared} {h' : Heap}
theorem Inv.turnedL {ch : List Addr} {a : Addr} {o : HO} {t' : Nat} (I : Inv X pins σ H s) (hf : ∀ b ∈ ch, FpOk X pins H b) (k : ∀ b u, b ∉ ch → s.heap.get? b = some u → h'.get? b = some u) (hp : s.heap.objs.size ≤ a)
    (new : ObjOk X.prog X.w (upd H a o) h' a o) : Inv X pins σ (upd H a o) { s with heap := h', toks := t' } := by
  have hn : H a = none := I.hok.fresh hp
  have nch : ∀ b u, H b = some u → b ∉ ch := fun b u e z => by have := (hf b z).1; rw [e] at this; cases this
  have nea : ∀ b u, s.heap.get? b = some u → b ≠ a := fun b u e => Nat.ne_of_lt (Nat.lt_of_lt_of_le (Heap.lt_size e) hp)
  refine I.step (g' := s.gens) (d' := s.drawn) (ch := ch) (fun b hb => ⟨(hf b hb).2.2.2.1, (hf b hb).2.1, (hf b hb).2.2.2.2.1, (hf b hb).2.2.2.2.2⟩) (fun b u _ _ hc e _ => k b u hc e) (fun b u _ _ hc e _ => ⟨u.slots, k b u hc e⟩)
    (fun b u _ e n => by rw [upd_ne (nea b u e)]; exact n) (fun b u hc e => ⟨u, k b u hc e⟩) (fun b xs e => by rw [upd_ne (ne_of_none e hn)]; exact e) (fun b u xs e => by rw [upd_ne (ne_of_none e hn)]; exact e)
    (fun b ps e => ⟨#[], by rw [upd_ne (ne_of_none e hn), e]; simp⟩) (fun m hm => ?_) (fun b u e => ?_) I.bare
  · obtain ⟨ol, es, ep, ho, r⟩ := hm
    exact ⟨ol, es, ep, k _ ol (fun z => (hf _ z).2.1 rfl) ho, r⟩
  · by_cases hb : b = a
    · subst hb; rw [upd_same] at e; cases e; exact new
    · rw [upd_ne hb] at e
      refine (I.hok b u e).stay (fun c v hc q => k c v ?_ q) (fun c q => by rw [upd_ne (ne_of_none q hn)]; exact q) fun c xs q => by rw [upd_ne (ne_of_none q hn)]; exact q
      rcases hc with z | z
      · rw [z]; exact nch b u e
      · exact nch c _ z
end
def ItS (x : Str) : It := ⟨fun i _ => i < x.cps.size, fun i H v H' => ∃ t c, H t = none ∧ x.cps[i]? = some c ∧ v = .ref t ∧ H' = upd H t (.tup [.int i, .str ⟨#[c]⟩]), fun i _ => i = x.cps.size⟩
def ItT (K : PySem.W.Frag) (a : Addr) : It := ⟨fun i H => ∃ xs y, SqT K H a xs ∧ xs[i]? = some y, fun i H v H' => ∃ t y, H t = none ∧ (∀ xs, SqT K H a xs → xs[i]? = some y) ∧ v = .ref t ∧ H' = upd H t (.tup [.int i, y]), fun i H => ∃ xs, SqT K H a xs ∧ i = xs.length⟩
theorem drawsS {prog : Program} {w : World} {A : Around} (hh : A.handled = none) (it : Addr) (x : Str) (t : Tok) :
    Draws prog w A it [it] x.cps.size (fun i v => ∃ c u, x.cps[i]? = some c ∧ v = .str ⟨#[c]⟩ u) (fun i h => h.IsStrIter it (strIterType x) x t i) := by
  cases ha : x.cps.all (· < 128)
  · have e : strIterType x = "str_iterator" := by simp [strIterType, ha]
    rw [e]; exact Draws.strWide hh it x t
  · have e : strIterType x = "str_ascii_iterator" := by simp [strIterType, ha]
    rw [e]; exact Draws.strAscii hh it x t
theorem turn_enumS {P : Program} {w : World} {K : PySem.W.Frag} {elts : List Expr} {k : Nat} {pos : Pos} (x : Str) (t : Tok) (e it : Addr) (hei : e ≠ it) :
    Turn P w K (.Tuple elts k pos) (ItS x) [e, it] e (fun i h => (∃ old, IsEnum h e it i old) ∧ h.IsStrIter it (strIterType x) x t i) where
  mem := by simp
  obj := fun i h st b hb => by
    obtain ⟨⟨old, he⟩, o, ho, hc, hd⟩ := st
    rcases List.mem_cons.mp hb with z | z
    · subst z; exact ⟨_, he, fun v z => by have z' : Data.fields _ = Data.cell v := z; cases z'⟩
    · have z' : b = it := by simpa using z
      subst z'; exact ⟨o, ho, fun v z => by rw [hd] at z; cases z⟩
  keep := fun i h h' st kk => by
    obtain ⟨⟨old, he⟩, o, ho, r⟩ := st
    exact ⟨⟨old, kk e (by simp) _ he⟩, o, kk it (by simp) o ho, r⟩
  item := by
    intro X hP hw hK hc i pins s σ H E I hf st hg
    subst hP hw hK
    obtain ⟨⟨old, he⟩, hs⟩ := st
    have hh : X.A.in1.handled = none := I.ok.hd hc
    refine wpAny_pyNext_enum_itemD (drawsS hh it x t) he hs hg hei (by simp [hei]) fun v h1 tk hv ho hs1 hT hsz hk => ?_
    obtain ⟨c, u, hxc, rfl⟩ := hv
    refine ⟨_, rfl, wpAny_letOwnedTupleGo_enum ho fun h2 he2 sb2 => ?_⟩
    have hlt : e < s.heap.objs.size := Heap.lt_size he
    have sb2' : Heap.SameBut e h1 h2 := sb2
    have hT2 : h2.get? s.heap.objs.size = some { cls := .type "tuple", data := .seq #[.int i tk, .str ⟨#[c]⟩ u] } := (sb2'.2 _ (Nat.ne_of_gt hlt)).trans hT
    refine ⟨.ref s.heap.objs.size, upd H s.heap.objs.size (.tup [.int i, .str ⟨#[c]⟩]), ?_, rfl, ⟨_, c, I.hok.fresh (Nat.le_refl _), hxc, rfl, rfl⟩, ⟨⟨_, by simpa using he2⟩, ?_⟩, fun b hb => ?_⟩
    · refine I.turnedL (ch := [e, it]) (t' := tk + 1) hf (fun b o hb q => ?_) (Nat.le_refl _) ⟨by show 2 ≤ sizeLine; decide, [.int i tk, .str ⟨#[c]⟩ u], .cons ⟨_, rfl⟩ (.cons ⟨_, rfl⟩ .nil), _, hT2, rfl, _, rfl⟩
      have h1' : b ≠ e := fun z => hb (by simp [z])
      have h2' : b ≠ it := fun z => hb (by simp [z])
      exact (sb2'.2 b h1').trans (hk b o h1' h2' q)
    · obtain ⟨o, q, r⟩ := hs1
      exact ⟨o, (sb2'.2 it (Ne.symm hei)).trans q, r⟩
    · have hb0 := hf b hb
      have ne : b ≠ s.heap.objs.size := by
        rcases List.mem_cons.mp hb with z | z
        · rw [z]; exact Nat.ne_of_lt hlt
        · have z' : b = it := by simpa using z
          obtain ⟨o, q, _⟩ := hs
          rw [z']; exact Nat.ne_of_lt (Heap.lt_size q)
      rw [upd_ne ne]; exact hb0.1
  done := by
    intro X hP hw hK hc i pins s σ H E I hf st hg
    subst hP hw hK
    obtain ⟨⟨old, he⟩, hs⟩ := st
    have hh : X.A.in1.handled = none := I.ok.hd hc
    have hi : i = x.cps.size := hg
    obtain ⟨f0, f1, f2, f3, f4, f5⟩ := hf it (by simp)
    refine wpAny_pyNext_enum_endD (drawsS hh it x t) he (by rw [← hi]; exact hs) fun h1 eb => ⟨rfl, I.turned (t' := s.toks) (fun b o hb q => eb b o hb q) f0 f1 f3 f4 f5⟩
  self := fun _ _ _ _ _ st h => by
    obtain ⟨⟨old, he⟩, _⟩ := st
    exact wpAny_pyIter_enum he h
theorem turn_enumT {P : Program} {w : World} {K : PySem.W.Frag} {elts : List Expr} {k : Nat} {pos : Pos} (a e it : Addr) (hei : e ≠ it) :
    Turn P w K (.Tuple elts k pos) (ItT K a) [e, it] e (fun i h => a ≠ it ∧ a ≠ e ∧ (∃ old, IsEnum h e it i old) ∧ h.IsTupleIter it a i) where
  mem := by simp
  obj := fun i h st b hb => by
    obtain ⟨_, _, ⟨old, he⟩, o, ho, hc, hd⟩ := st
    rcases List.mem_cons.mp hb with z | z
    · subst z; exact ⟨_, he, fun v z => by have z' : Data.fields _ = Data.cell v := z; cases z'⟩
    · have z' : b = it := by simpa using z
      subst z'; exact ⟨o, ho, fun v z => by rw [hd] at z; cases z⟩
  keep := fun i h h' st kk => by
    obtain ⟨n1, n2, ⟨old, he⟩, o, ho, r⟩ := st
    exact ⟨n1, n2, ⟨old, kk e (by simp) _ he⟩, o, kk it (by simp) o ho, r⟩
  item := by
    intro X hP hw hK hc i pins s σ H E I hf st hg
    subst hP hw hK
    obtain ⟨n1, n2, ⟨old, he⟩, hs⟩ := st
    have hh : X.A.in1.handled = none := I.ok.hd hc
    obtain ⟨xs, y, hq, hy⟩ := hg
    obtain ⟨its, rv, p, hz⟩ := I.tuple hq
    obtain ⟨u, hu, ru⟩ := rv.get hy
    have hlt' : i < its.toArray.size := by simpa using (List.getElem?_eq_some_iff.mp hu).1
    refine wpAny_pyNext_enum_itemD (Draws.tup hh it a n1 its.toArray) he ⟨hs, p⟩ hlt' hei (by simp [hei, Ne.symm n2]) fun v h1 tk hv ho hs1 hT hsz hk => ?_
    have hv' : v = u := by
      have hu' : its.toArray[i]? = some u := by simpa using hu
      have hv'' : its.toArray[i]? = some v := hv
      rw [hu'] at hv''
      exact (Option.some.inj hv'').symm
    subst hv'
    refine ⟨_, rfl, wpAny_letOwnedTupleGo_enum ho fun h2 he2 sb2 => ?_⟩
    have hlt : e < s.heap.objs.size := Heap.lt_size he
    have sb2' : Heap.SameBut e h1 h2 := sb2
    have hT2 : h2.get? s.heap.objs.size = some { cls := .type "tuple", data := .seq #[.int i tk, v] } := (sb2'.2 _ (Nat.ne_of_gt hlt)).trans hT
    refine ⟨.ref s.heap.objs.size, upd H s.heap.objs.size (.tup [.int i, y]), ?_, rfl, ⟨_, y, I.hok.fresh (Nat.le_refl _), fun ys hys => by rw [I.tuple_inj hys hq]; exact hy, rfl, rfl⟩, ⟨n1, n2, ⟨_, by simpa using he2⟩, ?_⟩, fun b hb => ?_⟩
    · refine I.turnedL (ch := [e, it]) (t' := tk + 1) hf (fun b o hb q => ?_) (Nat.le_refl _) ⟨by show 2 ≤ sizeLine; decide, [.int i tk, v], .cons ⟨_, rfl⟩ (.cons ru .nil), _, hT2, rfl, _, rfl⟩
      have h1' : b ≠ e := fun z => hb (by simp [z])
      have h2' : b ≠ it := fun z => hb (by simp [z])
      exact (sb2'.2 b h1').trans (hk b o h1' h2' q)
    · obtain ⟨⟨o, q, r⟩, _⟩ := hs1
      exact ⟨o, (sb2'.2 it (Ne.symm hei)).trans q, r⟩
    · have hb0 := hf b hb
      have ne : b ≠ s.heap.objs.size := by
        rcases List.mem_cons.mp hb with z | z
        · rw [z]; exact Nat.ne_of_lt hlt
        · have z' : b = it := by simpa using z
          obtain ⟨o, q, _⟩ := hs
          rw [z']; exact Nat.ne_of_lt (Heap.lt_size q)
      rw [upd_ne ne]; exact hb0.1
  done := by
    intro X hP hw hK hc i pins s σ H E I hf st hg
    subst hP hw hK
    obtain ⟨n1, n2, ⟨old, he⟩, hs⟩ := st
    have hh : X.A.in1.handled = none := I.ok.hd hc
    obtain ⟨xs, hq, hi⟩ := hg
    obtain ⟨its, rv, p, hz⟩ := I.tuple hq
    have hi' : i = its.toArray.size := by rw [hi, rv.length]; simp
    obtain ⟨f0, f1, f2, f3, f4, f5⟩ := hf it (by simp)
    refine wpAny_pyNext_enum_endD (Draws.tup hh it a n1 its.toArray) he (by rw [← hi']; exact ⟨hs, p⟩) fun h1 eb => ⟨rfl, I.turned (t' := s.toks) (fun b o hb q => eb b o hb q) f0 f1 f3 f4 f5⟩
  self := fun _ _ _ _ _ st h => by
    obtain ⟨_, _, ⟨old, he⟩, _⟩ := st
    exact wpAny_pyIter_enum he h
section
variable {X : Cx}
def iEnumS (ta : TE) : TI := fun σ H R => ta σ H fun v H1 => ∃ x, v = .str x ∧ R (ItS x) H1
def iEnumT (K : PySem.W.Frag) (ta : TE) : TI := fun σ H R => ta σ H fun v H1 => ∃ a, v = .ref a ∧ (∃ xs, SqT K H1 a xs) ∧ R (ItT K a) H1
theorem boot_enum : bootBuiltins "enumerate" = some (.type "enumerate") := by decide +kernel
theorem pi_enumS {elts : List Expr} {k : Nat} {tp : Pos} {a : Expr} {ta : TE} {p pos : Pos} (hg : Gl X "enumerate") (hm : X.mg "enumerate" = none) (ha : PE X a ta) (hs : starEach [a] X.env = [(false, eval a X.env)] := by rfl) :
    PI X (.Tuple elts k tp) (.Call (.Name "enumerate" p) [a] [] pos) (iEnumS ta) := by
  intro pins s σ H R I h
  refine Call_ (ld_blt I hg hm boot_enum (PyProof.Rows.callWith_type1 (thn (pa_cons ha pa_nil hs pos pins s σ H (fun vs H1 => ∃ x, vs = [.str x] ∧ R (ItS x) H1) I ?_) fun us s1 ⟨vs, H1, I1, r1, q1⟩ => ?_) hs rfl))
  · show ta σ H fun v H1 => ∃ x, [v] = [V.str x] ∧ R (ItS x) H1
    have h' : ta σ H fun v H1 => ∃ x, v = .str x ∧ R (ItS x) H1 := h
    have e : (fun (v : V) H1 => ∃ x, [v] = [V.str x] ∧ R (ItS x) H1) = fun v H1 => ∃ x, v = .str x ∧ R (ItS x) H1 := by
      funext v H1
      simp
    rw [e]; exact h'
  · obtain ⟨x, e, q⟩ := q1
    subst e
    cases r1 with
    | cons r rr =>
      cases rr
      obtain ⟨t, rfl⟩ := r
      refine call_enumerate_str fun h1 he hi hz hk => ?_
      have I2 : Inv X pins σ H1 { s1 with heap := h1 } := I1.kept (t' := s1.toks) hk
      refine wpAny_pyIter_enum he ⟨s1.heap.objs.size + 1, [s1.heap.objs.size + 1, s1.heap.objs.size], _, ItS x, H1, rfl, I2, turn_enumS x t _ _ (Nat.succ_ne_self _), ⟨⟨_, by simpa using he⟩, hi⟩, fun b hb => ?_, q⟩
      have hb' : s1.heap.objs.size ≤ b := by
        rcases List.mem_cons.mp hb with z | z
        · rw [z]; exact Nat.le_succ _
        · have z' : b = s1.heap.objs.size := by simpa using z
          rw [z']; exact Nat.le_refl _
      exact I1.fpOk hb' (I1.hok.fresh hb')
theorem pi_enumT {elts : List Expr} {k : Nat} {tp : Pos} {a : Expr} {ta : TE} {p pos : Pos} (hg : Gl X "enumerate") (hm : X.mg "enumerate" = none) (ha : PE X a ta) (hs : starEach [a] X.env = [(false, eval a X.env)] := by rfl) :
    PI X (.Tuple elts k tp) (.Call (.Name "enumerate" p) [a] [] pos) (iEnumT X.K ta) := by
  intro pins s σ H R I h
  refine Call_ (ld_blt I hg hm boot_enum (PyProof.Rows.callWith_type1 (thn (pa_cons ha pa_nil hs pos pins s σ H (fun vs H1 => ∃ x, vs = [.ref x] ∧ (∃ xs, SqT X.K H1 x xs) ∧ R (ItT X.K x) H1) I ?_) fun us s1 ⟨vs, H1, I1, r1, q1⟩ => ?_) hs rfl))
  · show ta σ H fun v H1 => ∃ x, [v] = [V.ref x] ∧ (∃ xs, SqT X.K H1 x xs) ∧ R (ItT X.K x) H1
    have h' : ta σ H fun v H1 => ∃ x, v = .ref x ∧ (∃ xs, SqT X.K H1 x xs) ∧ R (ItT X.K x) H1 := h
    have e : (fun (v : V) H1 => ∃ x, [v] = [V.ref x] ∧ (∃ xs, SqT X.K H1 x xs) ∧ R (ItT X.K x) H1) = fun v H1 => ∃ x, v = .ref x ∧ (∃ xs, SqT X.K H1 x xs) ∧ R (ItT X.K x) H1 := by
      funext v H1
      simp
    rw [e]; exact h'
  · obtain ⟨x, e, ⟨xs, hq⟩, q⟩ := q1
    subst e
    cases r1 with
    | cons r rr =>
      cases rr
      cases r
      obtain ⟨its, rv, pt, hz0⟩ := I1.tuple hq
      have ptl : x < s1.heap.objs.size := by obtain ⟨o, e, _⟩ := pt; exact Heap.lt_size e
      refine call_enumerate_tup pt fun h1 he hi hz hk => ?_
      have I2 : Inv X pins σ H1 { s1 with heap := h1 } := I1.kept (t' := s1.toks) hk
      refine wpAny_pyIter_enum he ⟨s1.heap.objs.size + 1, [s1.heap.objs.size + 1, s1.heap.objs.size], _, ItT X.K x, H1, rfl, I2, turn_enumT x _ _ (Nat.succ_ne_self _), ⟨Nat.ne_of_lt ptl, Nat.ne_of_lt (Nat.lt_succ_of_lt ptl), ⟨_, by simpa using he⟩, hi⟩, fun b hb => ?_, q⟩
      have hb' : s1.heap.objs.size ≤ b := by
        rcases List.mem_cons.mp hb with z | z
        · rw [z]; exact Nat.le_succ _
        · have z' : b = s1.heap.objs.size := by simpa using z
          rw [z']; exact Nat.le_refl _
      exact I1.fpOk hb' (I1.hok.fresh hb')
end
theorem for_enumS {x : Str} {g : TG} {tb : TS} {D : Ends} {σ : St} {H : Hp} (Pv : Nat → St → Hp → Prop) (h0 : Pv 0 σ H)
    (hs : ∀ i c t σ H, x.cps[i]? = some c → H t = none → Pv i σ H → g (.ref t) σ (upd H t (.tup [.int i, .str ⟨#[c]⟩])) fun σ2 H2 => tb { D with nx := Pv (i + 1), ct := Pv (i + 1), bk := D.nx } σ2 H2) (hd : ∀ σ H, Pv x.cps.size σ H → D.nx σ H) :
    ∃ W : Nat → Nat → St → Hp → Prop, (∃ m, W 0 m σ H) ∧ ∀ i m σ H, W i m σ H →
      ((ItS x).stop i H ∧ D.nx σ H) ∨ ((ItS x).go i H ∧ ∃ N : St → Hp → Prop, (∀ σ' H', N σ' H' → ∃ m', m' < m ∧ W (i + 1) m' σ' H') ∧ ∀ v H', (ItS x).yld i H v H' → g v σ H' fun σ2 H2 => tb { D with nx := N, ct := N, bk := D.nx } σ2 H2) := by
  refine ⟨fun i m σ H => m = x.cps.size - i ∧ i ≤ x.cps.size ∧ Pv i σ H, ⟨_, rfl, Nat.zero_le _, h0⟩, ?_⟩
  rintro i m σ H ⟨rfl, hi, p⟩
  by_cases hlt : i < x.cps.size
  · refine .inr ⟨hlt, Pv (i + 1), fun σ' H' p' => ⟨x.cps.size - (i + 1), by omega, rfl, hlt, p'⟩, fun v H' y => ?_⟩
    obtain ⟨t, c, ht, hc, rfl, rfl⟩ := y
    exact hs i c t σ H hc ht p
  · have e : i = x.cps.size := by omega
    subst e
    exact .inl ⟨rfl, hd σ H p⟩
theorem for_enumT {K : PySem.W.Frag} {a : Addr} {xs : List V} {g : TG} {tb : TS} {D : Ends} {σ : St} {H : Hp} (Pv : Nat → St → Hp → Prop) (h0 : Pv 0 σ H) (hl : ∀ i σ H, i ≤ xs.length → Pv i σ H → SqT K H a xs)
    (hs : ∀ i y t σ H, xs[i]? = some y → H t = none → Pv i σ H → g (.ref t) σ (upd H t (.tup [.int i, y])) fun σ2 H2 => tb { D with nx := Pv (i + 1), ct := Pv (i + 1), bk := D.nx } σ2 H2) (hd : ∀ σ H, Pv xs.length σ H → D.nx σ H) :
    ∃ W : Nat → Nat → St → Hp → Prop, (∃ m, W 0 m σ H) ∧ ∀ i m σ H, W i m σ H →
      ((ItT K a).stop i H ∧ D.nx σ H) ∨ ((ItT K a).go i H ∧ ∃ N : St → Hp → Prop, (∀ σ' H', N σ' H' → ∃ m', m' < m ∧ W (i + 1) m' σ' H') ∧ ∀ v H', (ItT K a).yld i H v H' → g v σ H' fun σ2 H2 => tb { D with nx := N, ct := N, bk := D.nx } σ2 H2) := by
  refine ⟨fun i m σ H => m = xs.length - i ∧ i ≤ xs.length ∧ Pv i σ H, ⟨_, rfl, Nat.zero_le _, h0⟩, ?_⟩
  rintro i m σ H ⟨rfl, hi, p⟩
  have q := hl i σ H hi p
  by_cases hlt : i < xs.length
  · refine .inr ⟨⟨xs, xs[i], q, by simp [hlt]⟩, Pv (i + 1), fun σ' H' p' => ⟨xs.length - (i + 1), by omega, rfl, hlt, p'⟩, fun v H' y => ?_⟩
    obtain ⟨t, c, ht, hc, rfl, rfl⟩ := y
    exact hs i c t σ H (hc xs q) ht p
  · have e : i = xs.length := by omega
    subst e
    exact .inl ⟨⟨xs, q, rfl⟩, hd σ H p⟩
end L2
end
section
namespace L2
open PySem PySem.Spec PyProof.Rows
section
variable {X : Cx}
def eqVs : List V → List V → Bool
  | [], [] => true
  | x :: xs, y :: ys => eqV x y && eqVs xs ys
  | _, _ => false
theorem eqVs_range : ∀ (xs ys : List V), xs.length = ys.length → (List.range xs.length).all (fun j => eqV (xs.getD j .non) (ys.getD j .non)) = eqVs xs ys
  | [], [], _ => rfl
  | x :: xs, y :: ys, h => by
    have ih := eqVs_range xs ys (by simpa using h)
    rw [List.length_cons, List.range_succ_eq_map, List.all_cons, List.all_map]
    show (eqV x y && _) = (eqV x y && eqVs xs ys)
    rw [← ih]; rfl
theorem eqVs_len : ∀ (xs ys : List V), xs.length ≠ ys.length → eqVs xs ys = false
  | [], [], h => absurd rfl h
  | [], _ :: _, _ => rfl
  | _ :: _, [], _ => rfl
  | x :: xs, y :: ys, h => by
    show (eqV x y && eqVs xs ys) = false
    rw [eqVs_len xs ys fun z => h (by simp [z])]; simp
theorem eqVs_ints : ∀ (ns ms : List Int), eqVs (ns.map V.int) (ms.map V.int) = decide (ns = ms)
  | [], [] => rfl
  | [], _ :: _ => rfl
  | _ :: _, [] => rfl
  | n :: ns, m :: ms => by
    show ((n == m) && eqVs (ns.map V.int) (ms.map V.int)) = _
    rw [eqVs_ints ns ms]
    by_cases h1 : n = m
    · by_cases h2 : ns = ms
      · simp [h1, h2]
      · simp [h1, h2]
    · simp [h1]
theorem vals_getD {xs : List V} {us : List Value} (r : Vals xs us) {j : Nat} (h : j < us.length) : RelV (xs.getD j .non) us[j] := by
  have hx : j < xs.length := by rw [r.length]; exact h
  obtain ⟨u, hu, ru⟩ := r.get (i := j) (x := xs[j]) (by simp [hx])
  have e : us[j] = u := by
    have := hu
    rw [List.getElem?_eq_getElem h] at this
    exact Option.some.inj this
  have e2 : xs.getD j .non = xs[j] := by simp [List.getD, hx]
  rw [e, e2]; exact ru
theorem flat_getD {xs : List V} (f : xs.all flatV = true) {j : Nat} (h : j < xs.length) : flatV (xs.getD j .non) = true := by
  have e2 : xs.getD j .non = xs[j] := by simp [List.getD, h]
  rw [e2]
  exact List.all_eq_true.mp f _ (List.getElem_mem h)
theorem items_eqAt {A : Around} {s : Shared} {xs ys : List V} {us vs : List Value} (rx : Vals xs us) (ry : Vals ys vs) (fx : xs.all flatV = true) (fy : ys.all flatV = true) :
    ∀ j (h1 : j < us.toArray.size) (h2 : j < vs.toArray.size), SeqAt.EqAt A s us.toArray[j] vs.toArray[j] (eqV (xs.getD j .non) (ys.getD j .non)) := by
  intro j h1 h2
  have h1' : j < us.length := by simpa using h1
  have h2' : j < vs.length := by simpa using h2
  have q := eqAt_V (A := A) (s := s) (vals_getD rx h1') (vals_getD ry h2') (flat_getD fx (by rw [rx.length]; exact h1')) (flat_getD fy (by rw [ry.length]; exact h2'))
  simpa using q
def rEqL (K : PySem.W.Frag) : R2 := fun x y H Q => ∃ a b xs ys, x = .ref a ∧ y = .ref b ∧ SqL K H a xs ∧ SqL K H b ys ∧ xs.all flatV = true ∧ ys.all flatV = true ∧ Q (.bl (eqVs xs ys)) H
def rNeL (K : PySem.W.Frag) : R2 := fun x y H Q => ∃ a b xs ys, x = .ref a ∧ y = .ref b ∧ SqL K H a xs ∧ SqL K H b ys ∧ xs.all flatV = true ∧ ys.all flatV = true ∧ Q (.bl (!eqVs xs ys)) H
theorem ne_at {prog : Program} {w : World} {A : Around} {E : Value → Shared → Prop} {s : Shared} {l b : Addr} {items items2 : Array Value} {e : Nat → Bool} {Q : Value → Shared → Prop} (hl : s.heap.IsList l items) (hb : s.heap.IsList b items2) (hsz : items.size = items2.size) (hu : A.units < cLine)
    (he : ∀ j (h1 : j < items.size) (h2 : j < items2.size), SeqAt.EqAt A.in1 s items[j] items2[j] (e j)) (h : Q (.bool (!((List.range items.size).all e))) s) : wpAny (model prog w) A (compareOp .NotEq (.ref l) (.ref b)) Q E s := by
  obtain ⟨⟨c, dd, dt, sl⟩, ho, hc, n, hd⟩ := hl
  obtain ⟨⟨c2, dd2, dt2, sl2⟩, ho2, hc2, n2, hd2⟩ := hb
  dsimp only at hc hd hc2 hd2
  subst hc hd hc2 hd2
  exact richCompare_meets_room (op := .NotEq) ⟨_, ho, rfl⟩ ⟨_, ho2, rfl⟩ F.slot_list_ne F.entry_list_ne (F.args_list_ne_2 _ _) (SeqAt.list_neAt l b items items2 n n2 dd dd2 sl sl2 hsz e)
    ⟨ho, ho2, he, ⟨(fun x => nomatch x), h⟩⟩ hu
theorem ne_at_len {prog : Program} {w : World} {A : Around} {E : Value → Shared → Prop} {s : Shared} {l b : Addr} {items items2 : Array Value} {Q : Value → Shared → Prop} (hl : s.heap.IsList l items) (hb : s.heap.IsList b items2) (hsz : (items.size != items2.size) = true) (hu : A.units < cLine)
    (h : Q (.bool true) s) : wpAny (model prog w) A (compareOp .NotEq (.ref l) (.ref b)) Q E s := by
  obtain ⟨⟨c, dd, dt, sl⟩, ho, hc, n, hd⟩ := hl
  obtain ⟨⟨c2, dd2, dt2, sl2⟩, ho2, hc2, n2, hd2⟩ := hb
  dsimp only at hc hd hc2 hd2
  subst hc hd hc2 hd2
  exact richCompare_meets_room (op := .NotEq) ⟨_, ho, rfl⟩ ⟨_, ho2, rfl⟩ F.slot_list_ne F.entry_list_ne (F.args_list_ne_2 _ _) (SeqAt.list_ne_lengthsAt l b items items2 n n2 dd dd2 sl sl2 hsz)
    ⟨ho, ho2, ⟨(fun x => nomatch x), h⟩⟩ hu
theorem op_neL (hu : X.A.units < cLine) : OpR X (compareOp .NotEq) (rNeL X.K) := by
  intro pins s σ H x y v u Q I rx ry h
  obtain ⟨a, b, xs, ys, rfl, rfl, hx, hy, fx, fy, q⟩ := h
  cases rx
  cases ry
  obtain ⟨us, r1, p1, z1⟩ := I.list hx
  obtain ⟨vs, r2, p2, z2⟩ := I.list hy
  by_cases hl : xs.length = ys.length
  · refine ne_at p1.isList p2.isList (by simp [← r1.length, ← r2.length, hl]) hu (items_eqAt r1 r2 fx fy) ⟨.bl (!eqVs xs ys), H, I, ?_, q⟩
    show Value.bool _ = Value.bool _
    rw [← eqVs_range xs ys hl]; simp [← r1.length]
  · refine ne_at_len p1.isList p2.isList (by simpa [← r1.length, ← r2.length] using hl) hu ⟨.bl (!eqVs xs ys), H, I, ?_, q⟩
    show Value.bool _ = Value.bool _
    rw [eqVs_len xs ys hl]; rfl
theorem op_eqLL (hu : X.A.units + 1 < cLine) : OpR X (compareOp .Eq) (fun x y H Q => ∃ a b a1 a2 b1 b2 w1 w2 z1 z2, x = .ref a ∧ y = .ref b ∧ SqL X.K H a [.ref a1, .ref a2] ∧ SqL X.K H b [.ref b1, .ref b2] ∧ a1 ≠ b1 ∧ a2 ≠ b2 ∧
    SqL X.K H a1 w1 ∧ SqL X.K H a2 w2 ∧ SqL X.K H b1 z1 ∧ SqL X.K H b2 z2 ∧ w1.all flatV = true ∧ w2.all flatV = true ∧ z1.all flatV = true ∧ z2.all flatV = true ∧ Q (.bl (eqVs w1 z1 && eqVs w2 z2)) H) := by
  intro pins s σ H x y v u Q I rx ry h
  obtain ⟨a, b, a1, a2, b1, b2, w1, w2, z1, z2, rfl, rfl, hx, hy, n1, n2, h1, h2, h3, h4, f1, f2, f3, f4, q⟩ := h
  cases rx
  cases ry
  obtain ⟨us, r1, p1, _⟩ := I.list hx
  obtain ⟨vs, r2, p2, _⟩ := I.list hy
  obtain ⟨u1, u2, rfl, q1, q2⟩ := r1.two
  obtain ⟨v1, v2, rfl, q3, q4⟩ := r2.two
  cases q1; cases q2; cases q3; cases q4
  have rc : ∀ {l m : Addr} {xs ys : List V}, l ≠ m → SqL X.K H l xs → SqL X.K H m ys → xs.all flatV = true → ys.all flatV = true → SeqAt.EqAt X.A.in1 s (.ref l) (.ref m) (eqVs xs ys) := by
    intro l m xs ys hne hl hm fx fy
    obtain ⟨us, r1, p1, z1⟩ := I.list hl
    obtain ⟨vs, r2, p2, z2⟩ := I.list hm
    refine SeqAt.EqAt.of_refs hne ?_
    by_cases hlen : xs.length = ys.length
    · have := SeqAt.RcAt.lists (A := X.A.in1) (s := s) p1.isList p2.isList (by simp [← r1.length, ← r2.length, hlen]) (by show X.A.units + 1 < cLine; exact hu) (items_eqAt r1 r2 fx fy)
      rw [← eqVs_range xs ys hlen]; simpa [← r1.length] using this
    · have := SeqAt.RcAt.lists_lengths (A := X.A.in1) (s := s) p1.isList p2.isList (by simpa [← r1.length, ← r2.length] using hlen) (by show X.A.units + 1 < cLine; exact hu)
      rw [eqVs_len xs ys hlen]; exact this
  refine SeqAt.eq_listAt (e := fun j => if j = 0 then eqVs w1 z1 else eqVs w2 z2) p1.isList p2.isList rfl (by omega) (fun j hj1 hj2 => ?_) ⟨.bl (eqVs w1 z1 && eqVs w2 z2), H, I, ?_, q⟩
  · have hj : j < 2 := hj1
    match j, hj with
    | 0, _ => exact rc n1 h1 h3 f1 f3
    | 1, _ => exact rc n2 h2 h4 f2 f4
  · show Value.bool _ = Value.bool _
    simp [List.range_succ]
theorem range_any (bs : List Bool) : (List.range bs.length).any (fun i => bs.getD i false) = bs.any id := by
  induction bs with
  | nil => rfl
  | cons b r ih =>
    rw [List.length_cons, List.range_succ_eq_map, List.any_cons, List.any_map, List.any_cons, ← ih]; rfl
theorem range_all (bs : List Bool) : (List.range bs.length).all (fun i => bs.getD i false) = bs.all id := by
  induction bs with
  | nil => rfl
  | cons b r ih =>
    rw [List.length_cons, List.range_succ_eq_map, List.all_cons, List.all_map, List.all_cons, ← ih]; rfl
theorem truth_bools {prog : Program} {w : World} {A : Around} {bs : List Bool} {its : List Value} (r : Vals (bs.map V.bl) its) : TruthOf prog w A (fun i v => its.toArray[i]? = some v) (fun i => bs.getD i false) := by
  intro i v s Q E hv hq
  have hv' : its[i]? = some v := by simpa using hv
  have hi : i < its.length := (List.getElem?_eq_some_iff.mp hv').1
  have hb : i < bs.length := by have := r.length; simp at this; omega
  obtain ⟨u, hu, ru⟩ := r.get (i := i) (x := .bl bs[i]) (by simp [hb])
  rw [hv'] at hu
  cases hu
  cases ru
  have e : bs.getD i false = bs[i] := by simp [List.getD, hb]
  have hq' : Q (bs.getD i false) s := hq
  rw [e] at hq'
  exact wpAny_pure hq'
theorem call_anyL (hc : X.calm = true) : CallR X (.builtin "any") (fun xs H Q => ∃ (p : Addr) (bs : List Bool), xs = [V.ref p] ∧ H p = some (.lst (bs.map V.bl)) ∧ Q (.bl (bs.any id)) H) := by
  intro pins s σ H xs us Q I r h
  obtain ⟨p, bs, rfl, hp, q⟩ := h
  obtain ⟨u, rfl, ru⟩ := vals1 r
  cases ru
  obtain ⟨its, rv, pl, hz⟩ := I.list (SqL.of (K := X.K) hp)
  have lt : p < s.heap.objs.size := by obtain ⟨o, n, e, _⟩ := pl; exact Heap.lt_size e
  refine call_any_walk (wpAny_pyIter_list pl.isList ⟨_, _, _, _, _, _, fun i => bs.getD i false, rfl, Walks.list (A := X.A.in1) (I.ok.hd hc) _ p (Nat.ne_of_lt lt) its.toArray, ⟨⟨_, Heap.get?_push_size _ rfl, rfl, rfl⟩, pl.isList.push _⟩, truth_bools rv, fun h' tk k => ?_⟩)
  refine ⟨.bl (bs.any id), H, ?_, ?_, q⟩
  · exact I.kept (t' := tk) fun b o e => k b o (by simp; exact Nat.ne_of_lt (Heap.lt_size e)) (Heap.get?_push_of_some _ e)
  · show Value.bool _ = Value.bool _
    have e : its.toArray.size = bs.length := by have := rv.length; simp at this; simp [this]
    rw [e, range_any]
theorem call_allL (hc : X.calm = true) : CallR X (.builtin "all") (fun xs H Q => ∃ (p : Addr) (bs : List Bool), xs = [V.ref p] ∧ H p = some (.lst (bs.map V.bl)) ∧ Q (.bl (bs.all id)) H) := by
  intro pins s σ H xs us Q I r h
  obtain ⟨p, bs, rfl, hp, q⟩ := h
  obtain ⟨u, rfl, ru⟩ := vals1 r
  cases ru
  obtain ⟨its, rv, pl, hz⟩ := I.list (SqL.of (K := X.K) hp)
  have lt : p < s.heap.objs.size := by obtain ⟨o, n, e, _⟩ := pl; exact Heap.lt_size e
  refine call_all_walk (wpAny_pyIter_list pl.isList ⟨_, _, _, _, _, _, fun i => bs.getD i false, rfl, Walks.list (A := X.A.in1) (I.ok.hd hc) _ p (Nat.ne_of_lt lt) its.toArray, ⟨⟨_, Heap.get?_push_size _ rfl, rfl, rfl⟩, pl.isList.push _⟩, truth_bools rv, fun h' tk k => ?_⟩)
  refine ⟨.bl (bs.all id), H, ?_, ?_, q⟩
  · exact I.kept (t' := tk) fun b o e => k b o (by simp; exact Nat.ne_of_lt (Heap.lt_size e)) (Heap.get?_push_of_some _ e)
  · show Value.bool _ = Value.bool _
    have e : its.toArray.size = bs.length := by have := rv.length; simp at this; simp [this]
    rw [e, range_all]
theorem call_isi : CallR X (.builtin "isinstance") (fun xs H Q => ∃ x n t b, xs = [x, .ty n] ∧ TyOf X.K H x t ∧ PySem.W.kitOne X.K t (.type n) = some b ∧ Q (.bl b) H) := by
  intro pins s σ H xs us Q I r h
  obtain ⟨x, n, t, b, rfl, ty, e, q⟩ := h
  obtain ⟨u, c, rfl, r1, r2⟩ := vals2 r
  cases (show c = Value.type n from r2)
  exact isinst_ok I r1 ty e fun tk => ⟨.bl b, H, I.tok tk, rfl, q⟩
theorem ix_kd : IxR X (fun x y H Q => ∃ a es n z v u, x = .ref a ∧ y = .str z ∧ X.K.lookup a = some ⟨.type "dict", none, .dict es n, #[]⟩ ∧ PySem.W.KeysLit X.w.params es.toList ∧ PySem.W.nsIn X.K a z = some (some u) ∧ RelV v u ∧ Q v H) := by
  intro value slice pins s σ H x y v u Q I rx ry h hs
  obtain ⟨a, es, n, z, vv, uu, rfl, rfl, hl, hk, he, rv, q⟩ := h
  cases rx
  obtain ⟨t, rfl⟩ := ry
  obtain ⟨m, F⟩ := I.fr
  exact PySem.W.topItem_K F I.mod.kin hl hk he ⟨vv, H, I.tok _, rv, q⟩ hs
end
end L2
end
section
namespace L2
open PySem PySem.Spec PyProof.Rows
def SetO (w : World) (a : Addr) (ns : List Int) : HO := .ext fun h => SetX.SetAt w h a ns
section
variable {X : Cx} {pins : List (Addr × Obj)} {σ : St} {H : Hp} {s : Shared} {h' : Heap}
theorem Inv.laidS {a : Addr} {o : HO} {s' : Shared} (I : Inv X pins σ H s) (ho : s'.os = s.os) (hg : s'.gens = s.gens) (k : ∀ b u, s.heap.get? b = some u → s'.heap.get? b = some u) (hp : s.heap.objs.size ≤ a) (new : ObjOk X.prog X.w (upd H a o) s'.heap a o) : Inv X pins σ (upd H a o) s' := by
  have u : Un (frs X.stack) [] H (upd H a o) s.heap s'.heap := Un.laid k hp (I.hok.fresh hp)
  exact I.call' (ch := []) ho u (I.hok.laid k hp new) (by rw [hg]; exact I.bare) fun b hb => nomatch hb
theorem setO_ok {w : World} {P : Program} {a : Addr} {ns : List Int} {H' : Hp} (S : SetX.SetAt w h' a ns) : ObjOk P w H' h' a (SetO w a ns) :=
  ⟨S, (let ⟨o, _, _, _, e, _⟩ := S; ⟨o, e⟩), fun _ _ q k => q.keeps k⟩
theorem Inv.setAt {a : Addr} {ns : List Int} (I : Inv X pins σ H s) (e : H a = some (SetO X.w a ns)) : SetX.SetAt X.w s.heap a ns := (I.hok a _ e).1
end
section
variable {X : Cx}
theorem call_setL (hc : X.calm = true) : CallR X (.type "set") (fun xs H Q => ∃ (l : Addr) (ns : List Int), xs = [.ref l] ∧ SqL X.K H l (ns.map V.int) ∧ ns.length ≤ 1000 ∧ ∀ (p : Addr) (ms : List Int), H p = none → (∀ y, y ∈ ms ↔ y ∈ ns) → ms.Nodup → Q (.ref p) (upd H p (SetO X.w p ms))) := by
  intro pins s σ H xs us Q I r h
  obtain ⟨l, ns, rfl, hq, hl, q⟩ := h
  obtain ⟨u, rfl, ru⟩ := vals1 r
  cases ru
  obtain ⟨its, rv, p, hz⟩ := I.list hq
  have hi : IntsAre its ns := intsAre_of rv
  have hn : its.length = ns.length := hi.length
  refine SetX.call_set_listX (I.ok.hd hc) p.isList (by simpa using hi) (by have : scanBound = 4096 := rfl; simp; omega) fun h1 tk ms S m2 k => ?_
  have nd : ms.Nodup := by obtain ⟨_, _, _, _, _, _, _, _, rfl, z, _⟩ := S; exact z
  exact ⟨.ref s.heap.objs.size, _, I.laidS (s' := { s with heap := h1, toks := tk }) rfl rfl (fun b u e => k b u (Heap.lt_size e) e) (Nat.le_refl _) (setO_ok S), rfl, q _ ms (I.hok.fresh (Nat.le_refl _)) m2 nd⟩
theorem op_andS : OpR X (binaryOp .BitAnd) (fun x y H Q => ∃ (a b : Addr) (ns ms : List Int), x = .ref a ∧ y = .ref b ∧ b ≠ a ∧ H a = some (SetO X.w a ns) ∧ H b = some (SetO X.w b ms) ∧ ∀ (p : Addr) (ks : List Int), H p = none → (∀ y, y ∈ ks ↔ y ∈ ns ∧ y ∈ ms) → Q (.ref p) (upd H p (SetO X.w p ks))) := by
  intro pins s σ H x y v u Q I rx ry h
  obtain ⟨a, b, ns, ms, rfl, rfl, hab, ha, hb, q⟩ := h
  cases rx
  cases ry
  refine SetX.and_setsX hab (I.setAt ha) (I.setAt hb) fun h1 d ks S m2 k => ?_
  exact ⟨.ref s.heap.objs.size, _, I.laidS (s' := { s with heap := h1, drawn := d }) rfl rfl (fun b u e => k b u e) (Nat.le_refl _) (setO_ok S), rfl, q _ ks (I.hok.fresh (Nat.le_refl _)) m2⟩
theorem call_lenS : CallR X (.builtin "len") (fun xs H Q => ∃ (a : Addr) (ns : List Int), xs = [V.ref a] ∧ H a = some (SetO X.w a ns) ∧ Q (.int ns.length) H) := by
  intro pins s σ H xs us Q I r h
  obtain ⟨a, ns, rfl, ha, q⟩ := h
  obtain ⟨u, rfl, ru⟩ := vals1 r
  cases ru
  exact SetX.len_setX (I.setAt ha) fun t tk => ⟨.int ns.length, H, I.tok tk, ⟨t, rfl⟩, q⟩
theorem call_sortedS (hc : X.calm = true) : CallR X (.builtin "sorted") (fun xs H Q => ∃ (a : Addr) (ns : List Int), xs = [V.ref a] ∧ H a = some (SetO X.w a ns) ∧ ns.length < 64 ∧ ∀ (p : Addr) (ms : List Int), H p = none → List.Perm ms ns → ms.Pairwise (· ≤ ·) → Q (.ref p) (upd H p (.lst (ms.map V.int)))) := by
  intro pins s σ H xs us Q I r h
  obtain ⟨a, ns, rfl, ha, hl, q⟩ := h
  obtain ⟨u, rfl, ru⟩ := vals1 r
  cases ru
  refine SetX.sorted_set (I.ok.hd hc) (I.setAt ha) hl fun s1 l vs ms n k g o hz e hi hp hs => ?_
  have hv : Vals (ms.map V.int) vs := vals_ints hi
  have new : ObjOk X.prog X.w (upd H l (.lst (ms.map V.int))) s1.heap l (.lst (ms.map V.int)) := ⟨by rw [List.length_map, hp.length_eq, sizeLine_eq]; omega, vs, n, hv, e⟩
  exact ⟨.ref l, _, I.laidS (s' := s1) o g k hz new, rfl, q _ ms (I.hok.fresh hz) hp hs⟩
def cntS (c : Nat) (z : Str) : Nat := z.cps.toList.count c
theorem cnt_count (c : Nat) : ∀ l : List Nat, PyProof.Rows.cnt c l = (l.count c : Int)
  | [] => rfl
  | n :: r => by
    rw [PyProof.Rows.cnt_cons, cnt_count c r, List.count_cons]
    by_cases e : n = c
    · subst e; simp; omega
    · simp [e]
theorem mt_count : MtR X "str.count" (fun x xs H Q => ∃ (z : Str) (c : Nat), x = .str z ∧ xs = [.str ⟨#[c]⟩] ∧ Q (.int (cntS c z)) H) := by
  intro pins s σ H x xs v us Q I rx rs h
  obtain ⟨z, c, rfl, rfl, q⟩ := h
  obtain ⟨t, rfl⟩ := rx
  obtain ⟨u, rfl, t', rfl⟩ := vals1 rs
  refine SC.count ⟨.int (cntS c z), H, I.tok _, ⟨s.toks, ?_⟩, q⟩
  have e : Txt.count z ⟨#[c]⟩ = PyProof.Rows.cnt c z.cps.toList := PyProof.Rows.count_is z c
  rw [e, cnt_count]; rfl
theorem mt_join : MtR X "str.join" (fun x xs H Q => ∃ (z : Str) (p : Addr) (ys : List Str), x = .str z ∧ xs = [.ref p] ∧ SqL X.K H p (ys.map V.str) ∧ (ys.map (·.length)).sum + ys.length * z.length ≤ 16777216 ∧ Q (.str (Txt.join z ys)) H) := by
  intro pins s σ H x xs v us Q I rx rs h
  obtain ⟨z, p, ys, rfl, rfl, hq, hz, q⟩ := h
  obtain ⟨t, rfl⟩ := rx
  obtain ⟨u, rfl, ru⟩ := vals1 rs
  cases ru
  obtain ⟨its, rv, pl, _⟩ := I.list hq
  have hs : StrsAre its ys := by
    have all : ∀ (ys : List Str) (its : List Value), Vals (ys.map V.str) its → StrsAre its ys := by
      intro ys
      induction ys with
      | nil => intro its r; cases r; exact .nil
      | cons y r ih =>
        intro its rr
        cases rr with
        | cons r1 r2 => obtain ⟨t, rfl⟩ := r1; exact .cons _ _ (ih _ r2)
    exact all ys its rv
  exact join_list pl.isList (by simpa using hs) hz fun t' k => ⟨.str (Txt.join z ys), H, I.tok _, ⟨t', rfl⟩, q⟩
theorem op_mulS : OpR X (binaryOp .Mult) (fun x y H Q => ∃ (z : Str) (n : Int), x = .str z ∧ y = .int n ∧ MulOk z n ∧ Q (.str (Txt.mul z n)) H) := by
  intro pins s σ H x y v u Q I rx ry h
  obtain ⟨z, n, rfl, rfl, hk, q⟩ := h
  obtain ⟨t, rfl⟩ := rx
  obtain ⟨t', rfl⟩ := ry
  exact SB.mul hk fun t1 k => ⟨.str (Txt.mul z n), H, I.tok _, ⟨t1, rfl⟩, q⟩
theorem sl_str : SlR X (fun x lo hi H Q => ∃ (z : Str), x = .str z ∧ z.length ≤ sizeLine ∧ Q (.str (Txt.slice z lo hi)) H) := by
  intro pins s σ H x v vl vu lo hi sl Q I rx hs pl pu h
  obtain ⟨z, rfl, hz, q⟩ := h
  obtain ⟨t, rfl⟩ := rx
  refine ⟨"str", _, F.slot_str_getitem.lookup, typeIs_str _ _ _, ?_⟩
  have fin : ∀ l u : Option (Int × Tok), s.heap.IsSlice sl l u none → l.map (·.1) = lo → u.map (·.1) = hi → wpAny (model X.prog X.w) X.A (getItem (.str z t) (.ref sl)) (EP X pins σ Q) X.xe s := by
    intro l u hS hl hu
    subst hl hu
    refine wpAny_getItem_str_slice (l := l) (u := u) (st := none) hS rfl ?_
    exact post_val_or_str ⟨Nat.le_trans (Txt.slice_le z _ _) hz, fun t' k => ⟨.str (Txt.slice z _ _), H, I.tok _, ⟨t', rfl⟩, q⟩⟩
  cases pl with
  | none => cases pu with
    | none => exact fin none none hs rfl rfl
    | int j u => exact fin none (some (j, u)) hs rfl rfl
  | int i u' => cases pu with
    | none => exact fin (some (i, u')) none hs rfl rfl
    | int j u => exact fin (some (i, u')) (some (j, u)) hs rfl rfl
end
end L2
end
section
namespace Mir
inductive P3 | L | R | E
  deriving DecidableEq
open P3
def other : P3 → P3 | L => R | R => L | E => E
def ce : Nat := 101
def ch : Nat := 104
def cl : Nat := 108
def cg : Nat := 103
def Sign (c : Nat) : Prop := c = 101 ∨ c = 104 ∨ c = 108 ∨ c = 103
def mayH (c : Nat) : Bool := c == 101 || c == 104
def mayL (c : Nat) : Bool := c == 101 || c == 108
def pl (l r : List Int) (k : Int) : P3 := if k ∈ r then R else if k ∈ l then L else E
def sb (c : Nat) (p o : P3) : Nat :=
  if mayH c && decide (p = o) then (if mayL c && decide (other p = o) then 101 else 104) else if mayL c && decide (other p = o) then 108 else 103
def c1 (c : Nat) (p o : P3) : Nat := (if mayH c && decide (p = o) then 1 else 0) + (if mayL c && decide (other p = o) then 1 else 0)
def aft (l r : List Int) (o : P3) : Nat → List Nat → List Nat
  | _, [] => []
  | i, c :: cs => sb c (pl l r i) o :: aft l r o (i + 1) cs
def cs1 (l r : List Int) (o : P3) : Nat → List Nat → Nat
  | _, [] => 0
  | i, c :: cs => c1 c (pl l r i) o + cs1 l r o (i + 1) cs
theorem sb_count {c : Nat} (h : Sign c) (p o : P3) : 2 * [sb c p o].count 101 + [sb c p o].count 104 + [sb c p o].count 108 = c1 c p o := by
  rcases h with rfl | rfl | rfl | rfl <;> cases p <;> cases o <;> rfl
theorem aft_count {l r : List Int} {o : P3} : ∀ {cs : List Nat} (i : Nat), (∀ c ∈ cs, Sign c) → 2 * (aft l r o i cs).count 101 + (aft l r o i cs).count 104 + (aft l r o i cs).count 108 = cs1 l r o i cs
  | [], _, _ => rfl
  | c :: cs, i, h => by
    have h1 := sb_count (h c List.mem_cons_self) (pl l r i) o
    have ih := aft_count (l := l) (r := r) (o := o) (i + 1) fun d hd => h d (List.mem_cons_of_mem _ hd)
    show 2 * (sb c (pl l r i) o :: aft l r o (i + 1) cs).count 101 + (sb c (pl l r i) o :: aft l r o (i + 1) cs).count 104 + (sb c (pl l r i) o :: aft l r o (i + 1) cs).count 108 = c1 c (pl l r i) o + cs1 l r o (i + 1) cs
    have e : ∀ d, (sb c (pl l r i) o :: aft l r o (i + 1) cs).count d = [sb c (pl l r i) o].count d + (aft l r o (i + 1) cs).count d := fun d => by
      rw [List.count_cons, List.count_cons, List.count_nil]; omega
    rw [e, e, e]
    omega
theorem aft_len {l r : List Int} {o : P3} : ∀ (cs : List Nat) (i : Nat), (aft l r o i cs).length = cs.length
  | [], _ => rfl
  | _ :: cs, i => by show _ + 1 = _ + 1; rw [aft_len cs (i + 1)]
theorem aft_get {l r : List Int} {o : P3} : ∀ (cs : List Nat) (i j : Nat) (c : Nat), cs[j]? = some c → (aft l r o i cs)[j]? = some (sb c (pl l r ((i + j : Nat) : Int)) o)
  | [], _, _, _, h => by simp at h
  | d :: cs, i, 0, c, h => by
    have e : d = c := by simpa using h
    subst e; rfl
  | d :: cs, i, j + 1, c, h => by
    have := aft_get (l := l) (r := r) (o := o) cs (i + 1) j c (by simpa using h)
    have e : i + 1 + j = i + (j + 1) := by omega
    rw [e] at this
    show (aft l r o (i + 1) cs)[j]? = _
    exact this
def lsb (c : Nat) (p o : P3) : Nat :=
  if o = E then (if p = E then c else 103)
  else if p = o then (if c = 101 ∨ c = 104 then 104 else 103)
  else if p = other o then (if c = 101 ∨ c = 108 then 108 else 103) else 103
theorem cs1_snoc {l r : List Int} {o : P3} : ∀ (cs : List Nat) (i c : Nat), cs1 l r o i (cs ++ [c]) = cs1 l r o i cs + c1 c (pl l r ((i + cs.length : Nat) : Int)) o
  | [], i, c => by show c1 c (pl l r i) o + 0 = 0 + _; simp
  | d :: cs, i, c => by
    show c1 d _ o + cs1 l r o (i + 1) (cs ++ [c]) = c1 d _ o + cs1 l r o (i + 1) cs + _
    rw [cs1_snoc cs (i + 1) c]
    have e : i + 1 + cs.length = i + (d :: cs).length := by simp; omega
    rw [e]; omega
theorem aft_snoc {l r : List Int} {o : P3} : ∀ (cs : List Nat) (i c : Nat), aft l r o i (cs ++ [c]) = aft l r o i cs ++ [sb c (pl l r ((i + cs.length : Nat) : Int)) o]
  | [], i, c => by show [sb c (pl l r i) o] = [] ++ [_]; simp
  | d :: cs, i, c => by
    show sb d _ o :: aft l r o (i + 1) (cs ++ [c]) = sb d _ o :: (aft l r o (i + 1) cs ++ _)
    rw [aft_snoc cs (i + 1) c]
    have e : i + 1 + cs.length = i + (d :: cs).length := by simp; omega
    rw [e]
theorem c1_pos {c : Nat} {p o : P3} {hv : Bool} (h : if hv then mayH c = true ∧ p = o else mayL c = true ∧ other p = o) : 0 < c1 c p o := by
  cases hv with
  | true =>
    obtain ⟨h1, h2⟩ := (show mayH c = true ∧ p = o from h)
    unfold c1; rw [h1, h2]; simp; omega
  | false =>
    obtain ⟨h1, h2⟩ := (show mayL c = true ∧ other p = o from h)
    unfold c1; rw [h1, h2]; simp
theorem cs1_pos {l r : List Int} {o : P3} : ∀ (cs : List Nat) (i j c : Nat), cs[j]? = some c → 0 < c1 c (pl l r ((i + j : Nat) : Int)) o → 0 < cs1 l r o i cs
  | [], _, _, _, h, _ => by simp at h
  | d :: cs, i, 0, c, h, hp => by
    have e : d = c := by simpa using h
    subst e
    show 0 < c1 d (pl l r i) o + _
    have hp' : 0 < c1 d (pl l r i) o := hp
    omega
  | d :: cs, i, j + 1, c, h, hp => by
    have e : i + (j + 1) = i + 1 + j := by omega
    rw [e] at hp
    have := cs1_pos cs (i + 1) j c (by simpa using h) hp
    show 0 < c1 d (pl l r i) o + _
    omega
theorem sb_own {c : Nat} (h : Sign c) (p : P3) (hv : Bool) (hm : c = 101 ∨ c = (if hv then 104 else 108)) : sb c p (if hv then p else other p) = 101 ∨ sb c p (if hv then p else other p) = (if hv then 104 else 108) := by
  rcases h with rfl | rfl | rfl | rfl <;> cases p <;> cases hv <;> first | (left; rfl) | (right; rfl) | (rcases hm with h | h <;> exact absurd h (by decide))
structure Wg (n : Int) (l r : List Int) : Prop where
  risL : l.Pairwise (· < ·)
  risR : r.Pairwise (· < ·)
  inL : ∀ k ∈ l, 0 ≤ k ∧ k ≤ n
  inR : ∀ k ∈ r, 0 ≤ k ∧ k ≤ n
  len : l.length = r.length
  dis : ∀ k ∈ l, k ∉ r
theorem Wg.swap {n : Int} {l r : List Int} (h : Wg n l r) : Wg n r l := ⟨h.risR, h.risL, h.inR, h.inL, h.len.symm, fun k h1 h2 => h.dis k h2 h1⟩
theorem Wg.nil {n : Int} : Wg n [] [] := ⟨.nil, .nil, fun _ h => (nomatch h), fun _ h => (nomatch h), rfl, fun _ h => (nomatch h)⟩
theorem rise_ext : ∀ {l m : List Int}, l.Pairwise (· < ·) → m.Pairwise (· ≤ ·) → m.Nodup → (∀ y, y ∈ m ↔ y ∈ l) → m = l
  | [], [], _, _, _, _ => rfl
  | [], y :: m, _, _, _, h => absurd ((h y).mp List.mem_cons_self) (by simp)
  | x :: l, [], _, _, _, h => absurd ((h x).mpr List.mem_cons_self) (by simp)
  | x :: l, y :: m, hl, hm, hn, h => by
    obtain ⟨l1, l2⟩ := List.pairwise_cons.mp hl
    obtain ⟨m1, m2⟩ := List.pairwise_cons.mp hm
    obtain ⟨n1, n2⟩ := List.nodup_cons.mp hn
    have e : y = x := by
      have a : x ≤ y := by
        rcases List.mem_cons.mp ((h y).mp List.mem_cons_self) with z | z
        · omega
        · have := l1 y z; omega
      have b : y ≤ x := by
        rcases List.mem_cons.mp ((h x).mpr List.mem_cons_self) with z | z
        · omega
        · exact m1 x z
      omega
    subst e
    rw [rise_ext l2 m2 n2 fun z => ?_]
    constructor
    · intro hz
      rcases List.mem_cons.mp ((h z).mp (List.mem_cons_of_mem _ hz)) with q | q
      · exact absurd (q ▸ hz) n1
      · exact q
    · intro hz
      rcases List.mem_cons.mp ((h z).mpr (List.mem_cons_of_mem _ hz)) with q | q
      · exact absurd (l1 z hz) (by omega)
      · exact q
end Mir
end
section
namespace PySem.W
open PySem PySem.Spec PySem.Calls PyProof.Rows
section
variable {prog : Program} {w : World} {A : Around} {E : Value → Shared → Prop} {s : Shared} {K : Frag} {x D : Addr} {ox : Obj}
structure XCls (K : Frag) (D : Addr) : Prop where
  ga : findIn K (.ref D) "__getattribute__" = some (some (.builtin "BaseException.__getattribute__"))
  gn : findIn K (.ref D) "__getattr__" = some none
  fo : findObj K D none "__class__" = some (.bind (.builtin "getset_descriptor.__get__") (.builtin "object.__class__"))
  be : mroIn K D (.type "BaseException") = some true
  ob : mroIn K D (.type "object") = some true
  cl : (clsIn K D).isSome = true
theorem xc_class {Q : Option Value → Shared → Prop} (C : XCls K D) (X : K.In s.heap) (I : InstAt s.heap x ox D none) (h : Q (some (.ref D)) { s with toks := s.toks + 1 }) : wpAny (model prog w) A (getAttr? (.ref x) "__class__") Q E s := by
  obtain ⟨hh, g, d, t, os⟩ := s
  have L0 := I.type (M := model prog w)
  have L1 := looks_findIn (M := model prog w) X C.ga
  have L2 := looks_findIn (M := model prog w) X C.gn
  have L3 := looks_find (M := model prog w) X I C.fo
  have L4 := looks_mroIn (M := model prog w) X C.be
  have hk : builtinKind "BaseException.__getattribute__" = some .slot := by decide +kernel
  have hsp : splitId "BaseException.__getattribute__" = some ("BaseException", "__getattribute__") := by decide +kernel
  have hne : (Value.builtin "BaseException.__getattribute__" == Value.builtin "object.__getattribute__") = false := by decide +kernel
  unfold getAttr? getAttrBy? getAttrBy
  refine wpAny_bind (wpAny_mkText (wpAny_bind (wpAny_attempt (wpAny_holding (wpAny_bind (L0.at (wpAny_bind (L1.at ?_))))))))
  show wpAny _ _ (if (onTheHeap (Value.ref D) && Value.builtin "BaseException.__getattribute__" == Value.builtin "object.__getattribute__") = true then _ else getAttrByItsOwn _ _ _ _ _ _) _ _ _
  rw [hne, Bool.and_false, if_neg Bool.false_ne_true]
  unfold getAttrByItsOwn hookBefore
  show wpAny _ _ (typeLookup (.ref D) "__getattr__" >>= _) _ _ _
  refine wpAny_bind (L2.at ?_)
  unfold callGetattribute boundAndCalled
  rw [F.attr_ValueError.ga.bind (.ref x)]
  refine wpAny_bind (wpAny_attempt (wpAny_holding ?_))
  rw [if_neg (show ¬ ((false && onTheHeap (Value.builtin "BaseException.__getattribute__")) = true) from fun z => nomatch z)]
  refine wpAny_bind (wpAny_pure ?_)
  refine wpAny_call (codeAny_call_builtin F.attr_ValueError.ga.plain F.entry_bexc_ga ?_)
  have ar := F.args_bexc_ga (.ref x) (.str "__class__" t)
  simp only [checkBuiltinCall, hk, hsp]
  unfold isInstance
  have L5 : Looks (model prog w) hh (isSubtype (Value.ref D) (Value.type "BaseException") >>= fun b => pure b) true := L4.andThen .now
  show wpAny _ _ (isInstance (.ref x) (.type "BaseException") >>= _) _ _ _
  unfold isInstance
  refine wpAny_bind (wpAny_bind (L0.at (L4.at ?_)))
  simp only [Bool.not_true, Bool.false_eq_true, if_false]
  repeat (any_goals (first | assumption | wp_step))
  refine wpAny_loadPart I.at_ (wpAny_pure ?_)
  rw [I.cls]
  refine wpAny_bind (L3.at ?_)
  show wpAny _ _ (Builtin.ObjectAttr.bindTo (Value.builtin "getset_descriptor.__get__") (Value.builtin "object.__class__") (Value.ref x) (Value.ref D)) _ _ _
  unfold Builtin.ObjectAttr.bindTo
  repeat (any_goals (first | assumption | with_reducible refine class_get (ox := ox) (od := none) X I C.ob ?_ | wp_step))
theorem kitx_exc (C : XCls K D) : KitX K (.ref x) (.ref D) (fun h => InstAt h x ox D none) where
  ty := fun _ _ _ I => I.type
  it := fun _ _ X _ => by
    have z := C.cl; unfold clsIn at z
    split at z
    · rename_i c' d' cd' sl' ho; intro A' Q' E' s' k q; unfold isType loadHead; exact wpAny_bind (wpAny_loadPart (k _ _ (X _ _ ho)) (wpAny_pure q))
    · cases z
  ne := fun h tp dd its n sl X htp => by
    refine Bool.eq_false_iff.mpr fun q => ?_
    have e : D = tp := Value.ref.inj (beq_iff_eq.mp q)
    subst e; have z := C.cl; unfold clsIn at z
    split at z
    · rename_i c' d' cd' sl' ho; exact nomatch (X _ _ ho).symm.trans htp
    · cases z
  ca := fun X I k => xc_class C X I k
end
end PySem.W
end
section
namespace PySem
open Sem (wp)
def ExcSh (h : Heap) (e : Addr) (C t1 : Value) : Prop := ∃ oe vs, h.get? e = some oe ∧ oe.cls = C ∧ oe.dict = none ∧ oe.data = .fields vs ∧ vs[1]? = some t1 ∧ vs[2]? = some .none
def TbSh (h : Heap) (T : Addr) (fl : Value) : Prop := ∃ oT ts, h.get? T = some oT ∧ oT.data = .fields ts ∧ ts[3]? = some fl
def KeepX (fs ch : List Addr) (h h' : Heap) : Prop := (∀ b o, b ∉ ch → b ∉ fs → h.get? b = some o → h'.get? b = some o) ∧ ∀ b o, b ∉ ch → b ∈ fs → h.get? b = some o → ∃ sl, h'.get? b = some { o with slots := sl }
theorem KeepX.any {fs ch : List Addr} {h h' : Heap} (k : KeepX fs ch h h') {b : Addr} {o : Obj} (hb : b ∉ ch) (e : h.get? b = some o) : ∃ sl, h'.get? b = some { o with slots := sl } := by
  by_cases hf : b ∈ fs
  · exact k.2 b o hb hf e
  · exact ⟨o.slots, k.1 b o hb hf e⟩
theorem KeepX.mono {fs ch ch' : List Addr} {h1 h2 : Heap} (a : KeepX fs ch h1 h2) (s : ∀ b ∈ ch, b ∈ ch') : KeepX fs ch' h1 h2 := ⟨fun x o c f e => a.1 x o (fun z => c (s x z)) f e, fun x o c f e => a.2 x o (fun z => c (s x z)) f e⟩
theorem dict_mapF (o : Obj) (f : Array Value → Array Value) : (o.mapFields f).dict = o.dict := by
  obtain ⟨c, d, dt, sl⟩ := o
  cases dt <;> rfl
section
variable {M : Model} {A : Around} {E : Value → Shared → Prop} {s : Shared}
theorem entryX {base : Heap} {env : Env} {outer : List Env} {L e : Addr} {C t1 head : Value} {hadNext : Bool} {Q : Unit → Shared → Prop} (hfr : A.frames = some (env :: outer)) (hl : s.heap.FunFrames base (env :: outer)) (hf : env.frame = some L) (he : ExcSh s.heap e C t1)
    (k : ∀ h' T, s.heap.objs.size ≤ T → T ≠ e → ExcSh h' e C (.ref T) → TbSh h' T (rawInt L) → KeepX ((env :: outer).filterMap (·.frame)) [e] s.heap h' → Q () { s with heap := h' }) :
    wpAny M A (do let a ← frameOf env; let pl ← entryPlaceOf L hadNext; let b ← EntryCells.newEntry head a .none (rawInt L) .none pl; setField (.ref e) 1 b) Q E s := by
  obtain ⟨oe, vs, h0, hc, hdc, hd, h1, h2⟩ := he
  have nf : e ∉ (env :: outer).filterMap (·.frame) := fun hm => by obtain ⟨_, o, ho, hn⟩ := hl.mem hm; rw [h0] at ho; cases ho; exact hn vs hd
  refine wpAny_bind (wpAny_frameOf_fun hfr hl hf fun g1 sg => wpAny_bind (wpAny_entryPlaceOf fun pl hpl => ?_))
  unfold EntryCells.newEntry newFields
  refine wpAny_bind (wpAny_newObj_type ?_ (hpl.sizeOk5 _ _ _ _ _))
  have a1 : g1.get? e = some oe := (sg.2.1 e nf).trans h0
  generalize hoT : ({ cls := .type "traceback", dict := none, data := .fields ([head, .ref L, .none, rawInt L, .none] ++ (if pl.isEmpty then List.replicate 6 Value.none else pl)).toArray } : Obj) = oT
  have hsz : 1 < vs.size := (Array.getElem?_eq_some_iff.mp h1).1
  have a2 := Heap.get?_push_of_some (h := g1) oT a1
  refine wpAny_setField a2 hd hsz ?_
  have ne : g1.objs.size ≠ e := Nat.ne_of_gt (Heap.lt_size a1)
  have d3 := Obj.data_mapFields hd (·.setIfInBounds 1 (Value.ref g1.objs.size))
  have fr0 : oT.isFreed = false := by subst hoT; rfl
  refine k _ g1.objs.size (by rw [sg.1]; exact Nat.le_refl _) ne ⟨_, _, Heap.get?_update_self _ a2 (Obj.isFreed_of_fields d3), (Obj.cls_mapFields _ _).trans hc, ?_, d3, by simp [hsz], ?_⟩ ⟨oT, _, ?_, by subst hoT; rfl, ?_⟩ ⟨fun b o hb hfs eb => ?_, fun b o hb hfs eb => ?_⟩
  · rw [dict_mapF]; exact hdc
  · rw [Array.getElem?_setIfInBounds_ne (by decide)]; exact h2
  · rw [Heap.get?_update_other _ _ (Ne.symm ne)]; exact Heap.get?_push_size g1 fr0
  · simp
  · have hbe : b ≠ e := fun z => hb (by simp [z])
    rw [Heap.get?_update_other _ _ (Ne.symm hbe)]
    exact Heap.get?_push_of_some _ ((sg.2.1 b hfs).trans eb)
  · have hbe : b ≠ e := fun z => hb (by simp [z])
    obtain ⟨sl, q⟩ := sg.2.2 b o eb
    exact ⟨sl, by rw [Heap.get?_update_other _ _ (Ne.symm hbe)]; exact Heap.get?_push_of_some _ q⟩
def NoFl (h : Heap) (e : Addr) (t1 : Value) : Prop := t1 = .none ∨ ∃ T, t1 = .ref T ∧ T ≠ e ∧ TbSh h T .none
theorem leaveX {base : Heap} {env : Env} {outer : List Env} {L e : Addr} {C t1 : Value} {ch : List Addr} {Q : Unit → Shared → Prop} (hfr : A.frames = some (env :: outer)) (hl : s.heap.FunFrames base (env :: outer)) (hf : env.frame = some L) (he : ExcSh s.heap e C t1) (ht : NoFl s.heap e t1)
    (hch : e ∈ ch) (hch' : ∀ T, t1 = .ref T → T ∈ ch)
    (k : ∀ h' T, s.heap.objs.size ≤ T → T ≠ e → ExcSh h' e C (.ref T) → TbSh h' T .none → KeepX ((env :: outer).filterMap (·.frame)) ch s.heap h' → Q () { s with heap := h' }) :
    wpAny M A (noteFrame (.ref e) env) (fun _ s2 => wpAny M A (setFlight (.ref e) none) Q E s2) E s := by
  have fl : ∀ (g : Heap) (T : Addr), s.heap.objs.size ≤ T → T ≠ e → ExcSh g e C (.ref T) → TbSh g T (rawInt L) → KeepX ((env :: outer).filterMap (·.frame)) ch s.heap g → wpAny M A (setFlight (.ref e) none) Q E { s with heap := g } := by
    intro g T n0 n2 x1 x2 x3
    have n1 : s.heap.get? T = none := Heap.get?_none_of_le n0
    obtain ⟨oe, vs, h0, hc, hdc, hd, h1, h2⟩ := x1
    obtain ⟨oT, ts, g0, gd, g3⟩ := x2
    unfold setFlight
    refine wpAny_bind (wpAny_field h0 hd h1 ?_)
    rw [if_pos (show (Value.ref T != Value.none) = true from by simp)]
    have sz : 3 < ts.size := (Array.getElem?_eq_some_iff.mp g3).1
    refine wpAny_setField g0 gd sz (k _ T n0 n2 ⟨oe, vs, by rw [Heap.get?_update_other _ _ n2]; exact h0, hc, hdc, hd, h1, h2⟩ ⟨_, _, Heap.get?_update_self _ g0 (Obj.isFreed_of_fields (Obj.data_mapFields gd _)), Obj.data_mapFields gd _, by simp [sz]⟩ ⟨fun b o hb hfs eb => ?_, fun b o hb hfs eb => ?_⟩)
    · have nb : b ≠ T := fun z => by rw [z, n1] at eb; cases eb
      show Heap.get? (Heap.update g T _) b = _
      rw [Heap.get?_update_other _ _ (Ne.symm nb)]; exact x3.1 b o hb hfs eb
    · have nb : b ≠ T := fun z => by rw [z, n1] at eb; cases eb
      obtain ⟨sl, q⟩ := x3.2 b o hb hfs eb
      exact ⟨sl, by show Heap.get? (Heap.update g T _) b = _; rw [Heap.get?_update_other _ _ (Ne.symm nb)]; exact q⟩
  obtain ⟨oe, vs, h0, hc, hdc, hd, h1, h2⟩ := id he
  unfold noteFrame
  simp only [hf]
  refine wpAny_bind (wpAny_field h0 hd h1 ?_)
  rcases ht with rfl | ⟨T, rfl, hTe, oT, ts, g0, gd, g3⟩
  · rw [if_neg (show ¬ ((Value.none != Value.none) = true) from by simp)]
    exact entryX hfr hl hf he fun g T n1 n2 x1 x2 x3 => fl g T n1 n2 x1 x2 (x3.mono fun b hb => by simp at hb; rw [hb]; exact hch)
  · rw [if_pos (show (Value.ref T != Value.none) = true from by simp)]
    refine wpAny_bind (wpAny_field g0 gd g3 ?_)
    rw [if_neg (show ¬ ((Value.none == rawInt L) = true) from by simp [rawInt])]
    have sz : 3 < ts.size := (Array.getElem?_eq_some_iff.mp g3).1
    refine wpAny_bind (wpAny_setField g0 gd sz ?_)
    have oth : ∀ b, b ≠ T → (s.heap.update T (Obj.mapFields (·.setIfInBounds 3 Value.none))).get? b = s.heap.get? b := fun b hb => Heap.get?_update_other _ _ (Ne.symm hb)
    have szU : (s.heap.update T (Obj.mapFields (·.setIfInBounds 3 Value.none))).objs.size = s.heap.objs.size := by simp
    have nfT : ∀ b, b ∈ (env :: outer).filterMap (·.frame) → b ≠ T := fun b hb z => by obtain ⟨_, o, ho, hn⟩ := hl.mem hb; rw [z, g0] at ho; cases ho; exact hn ts gd
    have he' : ExcSh (s.heap.update T (Obj.mapFields (·.setIfInBounds 3 Value.none))) e C (.ref T) := ⟨oe, vs, (oth e (Ne.symm hTe)).trans h0, hc, hdc, hd, h1, h2⟩
    have hl' : Heap.FunFrames (s.heap.update T (Obj.mapFields (·.setIfInBounds 3 Value.none))) base (env :: outer) := hl.of_keeps fun b o hb hn => ⟨o, (oth b fun z => by rw [z, g0] at hb; cases hb; exact hn ts gd).trans hb, rfl⟩
    refine entryX (s := { s with heap := s.heap.update T (Obj.mapFields (·.setIfInBounds 3 Value.none)) }) hfr hl' hf he' fun g T' n1 n2 x1 x2 x3 => fl g T' (by rw [← szU]; exact n1) n2 x1 x2 ⟨fun b o hb hfs eb => ?_, fun b o hb hfs eb => ?_⟩
    · have nb : b ≠ T := fun z => hb (z ▸ hch' T rfl)
      exact x3.1 b o (fun z => by simp at z; exact hb (z ▸ hch)) hfs ((oth b nb).trans eb)
    · exact x3.2 b o (fun z => by simp at z; exact hb (z ▸ hch)) hfs ((oth b (nfT b hfs)).trans eb)
end
end PySem
end
section
namespace L2
open PySem PySem.Spec PyProof.Rows
section
variable {P : Program} {w : World} {H H' : Hp} {h h' h0 : Heap} {a : Addr} {o : HO}
theorem ObjOk.there (x : ObjOk P w H h a o) : ∃ u, h.get? a = some u := by
  cases o with
  | lst xs => obtain ⟨_, _, _, _, e⟩ := x; exact ⟨_, e⟩
  | tup xs => obtain ⟨_, _, _, _, e, _⟩ := x; exact ⟨_, e⟩
  | dK kvs => obtain ⟨_, _, _, _, o, _, _, e, _⟩ := x; exact ⟨_, e⟩
  | dT kvs => obtain ⟨_, _, _, _, o, _, _, e, _⟩ := x; exact ⟨_, e⟩
  | set S n => obtain ⟨o, _, _, _, e, _⟩ := x; exact ⟨_, e⟩
  | ins C dx fs => obtain ⟨_, _, _, e, _⟩ := x; exact ⟨_, e⟩
  | own y => obtain ⟨_, e⟩ := x; exact ⟨_, e⟩
  | xd fs => obtain ⟨_, ⟨_, _, _, e, _⟩, _⟩ := x; exact ⟨_, e⟩
  | rng lo hi => obtain ⟨_, _, _, e⟩ := x; exact ⟨_, e⟩
  | frz ob u => obtain ⟨e, _⟩ := x; exact ⟨_, e⟩
  | tbl ps => exact ⟨_, (show h.get? a = some _ from x)⟩
  | met f y => exact ⟨_, (show h.get? a = some _ from x)⟩
  | ext φ => obtain ⟨_, ⟨_, e⟩, _⟩ := x; exact ⟨_, e⟩
theorem HOk.none_of (x : HOk P w H h) (e : h.get? a = none) : H a = none := by
  cases q : H a with
  | none => rfl
  | some u => obtain ⟨o, z⟩ := (x a u q).there; rw [e] at z; cases z
theorem HOk.leftX {fs ch : List Addr} (x : HOk P w H h) (k : KeepX fs ch h h') (hc : ∀ b ∈ ch, H b = none) (hf : ∀ b ∈ fs, H b = none) : HOk P w H h' := fun b u e => by
  refine (x b u e).stay (fun c v hc' q => k.1 c v (fun z => ?_) (fun z => ?_) q) (fun _ q => q) fun _ _ q => q
  · have n := hc c z
    rcases hc' with r | r
    · rw [r, e] at n; cases n
    · rw [r] at n; cases n
  · have n := hf c z
    rcases hc' with r | r
    · rw [r, e] at n; cases n
    · rw [r] at n; cases n
theorem Un.leftX {fs fs' ch : List Addr} {H0 : Hp} (u : Un fs [] H0 H h0 h) (k : KeepX fs' ch h h') (hc : ∀ b ∈ ch, h0.get? b = none) (hf : ∀ b o, h0.get? b = some o → b ∈ fs' → b ∈ fs) : Un fs [] H0 H h0 h' := by
  have nc : ∀ b o, h0.get? b = some o → b ∉ ch := fun b o e z => by rw [hc b z] at e; cases e
  refine ⟨fun b o e n hb hx => k.1 b o (nc b o e) (fun z => hb (hf b o e z)) (u.keep b o e n hb hx), fun b o e n hb hx => ?_, u.free, fun b o e hx => ?_, u.tups, u.frzs, u.tbls⟩
  · obtain ⟨sl, q⟩ := u.slot b o e n hb hx
    obtain ⟨sl', q'⟩ := k.any (nc b o e) q
    exact ⟨sl', q'⟩
  · obtain ⟨o', q⟩ := u.there b o e hx
    obtain ⟨sl', q'⟩ := k.any (nc b o e) q
    exact ⟨_, q'⟩
end
def FlX (h0 : Heap) (H : Hp) (a C : Addr) (h : Heap) : Prop := h0.get? a = none ∧ H a = none ∧ ∃ t1, ExcSh h a (.ref C) t1 ∧ NoFl h a t1 ∧ ∀ T, t1 = .ref T → h0.get? T = none ∧ H T = none
def CXE (P : Program) (w : World) : CXT := fun outer H s E e s' => ∃ a C H', e = .ref a ∧ s'.os = s.os ∧ AllBare s'.gens ∧ Un (frs outer) [] H H' s.heap s'.heap ∧ HOk P w H' s'.heap ∧ FlX s.heap H' a C s'.heap ∧ E (.ref C) none H'
def chX (a : Addr) (t1 : Value) : List Addr := a :: (match t1 with | .ref T => [T] | _ => [])
theorem chX_ref {a T : Addr} : T ∈ chX a (.ref T) := by simp [chX]
theorem chX_all {a : Addr} {t1 : Value} {p : Addr → Prop} (h1 : p a) (h2 : ∀ T, t1 = .ref T → p T) : ∀ b ∈ chX a t1, p b := fun b hb => by
  unfold chX at hb
  rcases List.mem_cons.mp hb with e | e
  · rw [e]; exact h1
  · cases t1 <;> simp at e
    rw [e]; exact h2 _ rfl
def Lv (X : Cx) (E : XK) : Prop := ∀ (pins : List (Addr × Obj)) (σ : St) (H' : Hp) (s' : Shared) (a C : Addr), Inv X pins σ H' s' → FlX X.s₀.heap H' a C s'.heap → E (.ref C) none H' → X.xe (.ref a) s'
theorem lv_of {P : Program} {w : World} {K : PySem.W.Frag} {mg : Str → Option Value} {base : Heap} {N : List Str} {qual : Str} {scope : Scope} {f : Addr} {cd : Value} {A : Around} {outer : List Env} {s : Shared} {H : Hp} {E : XK} :
    Lv (cxOf (CXE P w) P w K mg base N qual scope f cd A outer s H E) E := by
  intro pins σ H' s' a C I F q
  obtain ⟨n0, nH, t1, sh, nf, hT⟩ := F
  show wpAny (model P w) (A.deeper (envOfC qual scope s.heap.objs.size f cd)) (leaving (envOfC qual scope s.heap.objs.size f cd) (.ref a)) (fun _ s'' => CXE P w outer H s E (.ref a) s'') _ s'
  unfold leaving
  refine wpAny_bind (leaveX (base := base) (outer := outer) (ch := chX a t1) I.ok.frames I.stack rfl sh nf (by simp [chX]) (fun T e => by rw [e]; exact chX_ref) fun h' T zT neT sh' tb' kp => ?_)
  have hT0 : s.heap.get? T = none := by
    cases e : s.heap.get? T with
    | none => rfl
    | some o => obtain ⟨o', e'⟩ := I.base.there T o e (by simp [cxOf]); exact absurd (Nat.lt_of_lt_of_le (Heap.lt_size e') zT) (Nat.lt_irrefl _)
  have frs' : ∀ b ∈ frs (envOfC qual scope s.heap.objs.size f cd :: outer), H' b = none := fun b hb => I.stkFree b hb
  refine ⟨a, C, H', rfl, I.os, I.bare, Un.leftX I.base kp (chX_all n0 fun T e => (hT T e).1) fun b o e hb => ?_, I.hok.leftX kp (chX_all nH fun T e => (hT T e).2) frs', ⟨n0, nH, .ref T, sh', .inr ⟨T, rfl, neT, tb'⟩, fun T' e => ?_⟩, q⟩
  · rcases List.mem_cons.mp (I.stkSub b hb) with z | z
    · exfalso
      have e' : s.heap.get? b = some o := e
      have : b = s.heap.objs.size := z
      rw [this] at e'
      exact absurd (Heap.lt_size e') (Nat.lt_irrefl _)
    · exact z
  · cases e
    exact ⟨hT0, I.hok.fresh zT⟩
theorem Lv.pass {X : Cx} {E : XK} (L : Lv X E) (hx : X.ex = []) : Passes (CXE X.prog X.w) X E := by
  intro pins σ H s e s' I h
  obtain ⟨a, C, H', rfl, os, bare, un, hok, ⟨n0, nH, t1, sh, nf, hT⟩, q⟩ := h
  have I' : Inv X pins σ H' s' := I.call' os un hok bare (fun b z => absurd z (by simp))
  have old : ∀ b, s.heap.get? b = none → X.s₀.heap.get? b = none := fun b e => by
    cases z : X.s₀.heap.get? b with
    | none => rfl
    | some o => obtain ⟨o', z'⟩ := I.base.there b o z (by rw [hx]; simp); rw [e] at z'; cases z'
  exact L pins σ H' s' a C I' ⟨old a n0, nH, t1, sh, nf, fun T e => ⟨old T (hT T e).1, (hT T e).2⟩⟩ q
theorem Fun.okE {P : Program} {w : World} {K : PySem.W.Frag} {mg : Str → Option Value} {base : Heap} {x qual : Str} {st : Stmt} {f : Addr} {fd : FuncData} {N ps : List Str} {k : Nat} {sp : Sp} (F : Fun K x qual st f fd) (S : FnScope N ps (defScope st)) (len : ∀ vs H Q E, sp vs H Q E → vs.length = ps.length)
    (hbody : ∀ (cdv : Value) (A : Around) (outer : List Env) (s : Shared) (H : Hp) (vs : List V) (Q : VK) (E : XK), Room k (A.deeper (envOfC qual (defScope st) s.heap.objs.size f cdv)) → sp vs H Q E → Lv (cxOf (CXE P w) P w K mg base N qual (defScope st) f cdv A outer s H E) E → Passes (CXE P w) (cxOf (CXE P w) P w K mg base N qual (defScope st) f cdv A outer s H E) E →
      ∃ t, PSs (cxOf (CXE P w) P w K mg base N qual (defScope st) f cdv A outer s H E) (defBody st) t ∧ t { nx := fun _ H' => Q .non H', rt := Q } (start N vs) H) : FnOk P w K mg base (CXE P w) (k + 1) f fd ps sp := by
  obtain ⟨oc, od, kV, doc, pm, an, cdv, ct, osl, rfl, lk, hcd⟩ := F.ex
  exact fn_of lk hcd S len fun A outer s H vs Q E hr hsp => hbody cdv A outer s H vs Q E hr hsp lv_of (lv_of.pass rfl)
theorem FnOk.never {P : Program} {w : World} {K : PySem.W.Frag} {mg : Str → Option Value} {base : Heap} {k : Nat} {f : Addr} {fd : FuncData} {ps : List Str} {sp : Sp} (F : FnOk P w K mg base (CXE P w) k f fd ps sp) : FnOk P w K mg base CX0 k f fd ps (fun vs H Q _ => sp vs H Q E0) :=
  ⟨fun vs H Q E h => F.len vs H Q E0 h, fun A outer s H args us vs Q E hr e0 hb hv hs => codeAny_mono (F.run A outer s H args us vs Q E0 hr e0 hb hv hs) fun r s' h => by
    cases r with
    | error e => obtain ⟨_, _, _, _, _, _, _, _, _, z⟩ := h; exact False.elim z
    | ok fl => cases fl <;> exact h⟩
end L2
end
section
namespace L2
open PySem PySem.Spec PyProof.Rows
abbrev vMro : List Value := [.type "ValueError", .type "Exception", .type "BaseException", .type "object"]
theorem exc_obj {K : PySem.W.Frag} {h : Heap} {C : Addr} (X : K.In h) (q : PySem.W.excIn K C vMro "ValueError.__new__" = true) :
    ∃ tl N nm qn bs hdct sn sub ab col dd k0 k1 k2 k3 k5 mN, h.get? C = some (excClassObj nm qn C N bs tl hdct sn sub ab col dd k0 k1 k2 k3 k5 "ValueError.__new__") ∧ h.Ns N mN ∧ mN "__init__" = none ∧ OwnTail h vMro tl := by
  unfold PySem.W.excIn at q
  split at q
  · rename_i dd cd sl ho
    split at q
    · rename_i C' bm k0 k1 k2 k3 n k5 hm hs
      simp only [Bool.and_eq_true, beq_iff_eq, Bool.not_eq_true'] at q
      obtain ⟨⟨⟨⟨⟨rfl, rfl⟩, hdel⟩, ht⟩, hok⟩, hni⟩ := q
      obtain ⟨nm, bs, mro, ns, qn, hd, sn, sub, ab, col, del⟩ := cd
      dsimp only at hm hdel hok hni; subst hm hdel
      have hsl : sl = #[k0, k1, k2, k3, some (.builtin "ValueError.__new__"), k5] := by obtain ⟨l⟩ := sl; simp only at hs; rw [hs]
      subst hsl
      exact ⟨bm, ns, nm, qn, bs, hd, sn, sub, ab, col, dd, k0, k1, k2, k3, k5, _, X _ _ ho, .of_isNs (PySem.W.isNs_of_in X hok), PySem.W.nsMap_none_of_in X hok hni, PySem.W.tail_of_in X ht⟩
    · cases q
  · cases q
section
variable {X : Cx}
def tRaise (E : XK) (C : Addr) : TS := fun _ _ H => E (.ref C) none H
theorem ps_raise {E : XK} {x z : Str} {C : Addr} {np cpos pos kp : Pos} {kj : Nat} (L : Lv X E) (hc : X.calm = true) (hxe : X.ex = []) (hg : Gl X x) (hm : X.mg x = some (.ref C)) (hx : PySem.W.excIn X.K C vMro "ValueError.__new__" = true)
    (hd : (x == ("__debug__" : Str)) = false := by decide) (he : starEach [.Constant (.str z) kj kp] X.env = (false, eval (.Constant (.str z) kj kp) X.env) :: starEach [] X.env := by rfl) :
    PS X (.Raise (some (.Call (.Name x np) [.Constant (.str z) kj kp] [] cpos)) none pos) (tRaise E C) := by
  intro pins s σ H D I h
  obtain ⟨tl, N, nm, qn, bs, hdct, sn, sub, ab, col, dd, k0, k1, k2, k3, k5, mN, hC, hN, hni, T⟩ := exc_obj I.kIn hx
  refine wpAny_Raise_call_subU (C := C) (nm := nm) (q := qn) (N := N) (bs := bs) (bm := tl) (hdct := hdct) (sn := sn) (sub := sub) (ab := ab) (col := col) (dd := dd) (k0 := k0) (k1 := k1) (k2 := k2) (k3 := k3) (k5 := k5) (mN := mN)
    F.excBase_ValueError (by decide +kernel) F.excBase_ValueError (T.hasType F.excBase_ValueError.hasBase) (I.ok.hd hc) (by rw [he]; rfl) hni (ld_glob I hg hm ⟨rfl, ?_⟩ hd)
  rw [he]
  show wpAny _ _ (evalArgs (.ref C) true ((false, eval (.Constant (.str z) kj kp) X.env) :: backTo cpos (starEach [] X.env)) []) _ _ _
  have e0 : backTo cpos (starEach [] X.env) = [] := by rfl
  rw [e0]
  refine Calls.evalArgs_plain (Calls.spliced_cons (Calls.Constant_str (Calls.spliced_nil ⟨rfl, (by show 1 ≤ sizeLine; decide), hC, hN, T, fun h' e hm => ?_⟩)))
  obtain ⟨t, ht, _, _⟩ := hm.there
  have old : ∀ b, s.heap.get? b = none → X.s₀.heap.get? b = none := fun b e => by
    cases z : X.s₀.heap.get? b with
    | none => rfl
    | some o => obtain ⟨o', z'⟩ := I.base.there b o z (by rw [hxe]; simp); rw [e] at z'; cases z'
  exact L pins σ H _ e C (I.kept (t' := s.toks + 1) hm.keeps) ⟨old e hm.new, I.hok.none_of hm.new, .none, ⟨_, _, ht, rfl, rfl, rfl, rfl, rfl⟩, .inl rfl, fun T q => nomatch q⟩ h
abbrev hX (X : Cx) (a : Addr) (oe : Obj) : Cx := { X with A := X.A.mark (some (.ref a)), calm := false, pn := (a, oe) :: X.pn, xe := fun _ _ => False }
abbrev tX (X : Cx) (pn : List (Addr × Obj)) (E : Value → Shared → Prop) : Cx := { X with pn := pn, xe := E }
theorem Cx.Ok.hX {X : Cx} (ok : X.Ok) (a : Addr) (oe : Obj) : (hX X a oe).Ok :=
  ⟨ok.mod, ok.kind, ok.glob, ok.blt, ok.above, ok.inj, ok.has, ok.cab, (fun z => nomatch z), ok.frames, ok.stk, ok.exf, ok.bs, ok.bsz, ok.noex, ok.exfs, ok.funs, ok.frf⟩
theorem Cx.Ok.tX {X : Cx} (ok : X.Ok) (pn : List (Addr × Obj)) (E : Value → Shared → Prop) : (tX X pn E).Ok :=
  ⟨ok.mod, ok.kind, ok.glob, ok.blt, ok.above, ok.inj, ok.has, ok.cab, ok.hd, ok.frames, ok.stk, ok.exf, ok.bs, ok.bsz, ok.noex, ok.exfs, ok.funs, ok.frf⟩
structure Held (oe : Obj) (C : Addr) : Prop where
  cls : oe.cls = .ref C
  dict : oe.dict = none
  fld : ∃ vs, oe.data = .fields vs ∧ vs[2]? = some .none
def FTry (X : Cx) (B : Addr) (okC : Addr → Prop) (th : Addr → Addr → TS) (D : Ends) (i : Nat) : XK := fun Cv _ H' => ∃ C, Cv = .ref C ∧ okC C ∧ PySem.W.exmOne X.K (.ref C) (.ref B) = some true ∧
  ∀ a, th a C { nx := fun _ _ => False, rt := D.rt } ((List.replicate X.N.length none).set i (some (.ref a))) H'
def tTry (X : Cx) (B : Addr) (okC : Addr → Prop) (tb : XK → TS) (th : Addr → Addr → TS) (i : Nat) : TS := fun D σ H => tb (FTry X B okC th D i) D σ H
end
end L2
end
section
namespace PySem
theorem setFlX {M : Model} {A : Around} {E : Value → Shared → Prop} {s : Shared} {e T : Addr} {C : Value} {fs : List Addr} {Q : Unit → Shared → Prop} (n : T ≠ e) (he : ExcSh s.heap e C (.ref T)) (ht : TbSh s.heap T .none)
    (k : ∀ h', (∀ o, s.heap.get? e = some o → h'.get? e = some o) → KeepX fs [T] s.heap h' → Q () { s with heap := h' }) : wpAny M A (setFlight (.ref e) none) Q E s := by
  obtain ⟨oe, vs, h0, hc, hdc, hd, h1, h2⟩ := he
  obtain ⟨oT, ts, g0, gd, g3⟩ := ht
  refine wpAny_setFlight_none h0 hd h1 g0 gd (Array.getElem?_eq_some_iff.mp g3).1 (k _ (fun o q => by rw [Heap.get?_update_other _ _ n]; exact q) ⟨fun b o hb _ q => ?_, fun b o hb _ q => ⟨o.slots, ?_⟩⟩)
  · rw [Heap.get?_update_other _ _ (fun z => hb (by simp [z]))]; exact q
  · rw [Heap.get?_update_other _ _ (fun z => hb (by simp [z]))]; exact q
end PySem
namespace L2
open PySem PySem.Spec PyProof.Rows
section
variable {X : Cx} {pins : List (Addr × Obj)} {σ : St} {H : Hp} {s : Shared}
theorem Inv.hold (I : Inv X pins σ H s) {a : Addr} {oe : Obj} (e : s.heap.get? a = some oe) (n : H a = none) (nl : a ≠ X.env.locals) (nf : a ∉ X.fs) (d : ∀ v, oe.data ≠ .cell v) : Inv (hX X a oe) pins σ H s :=
  ⟨I.ok.hX a oe, I.os, I.bare, I.base, I.loc, I.cell, I.free, I.freeC, fun p hp => by
    rcases List.mem_cons.mp hp with z | z
    · rw [z]; exact ⟨e, n, nl, nf, d⟩
    · exact I.pin p z, I.hok, I.len⟩
theorem Inv.loose {a : Addr} {oe : Obj} (I : Inv (hX X a oe) pins σ H s) (ok : X.Ok) : Inv X pins σ H s := ⟨ok, I.os, I.bare, I.base, I.loc, I.cell, I.free, I.freeC, fun p hp => I.pin p (List.mem_cons_of_mem _ hp), I.hok, I.len⟩
theorem Inv.goes {h' : Heap} {t' : Nat} {m' : Str → Option Value} (I : Inv X pins σ H s) (hs : Heap.SameBut X.env.locals s.heap h') (hn : h'.Ns X.env.locals m') : Inv X pins (List.replicate X.N.length none) H { s with heap := h', toks := t' } := by
  have ne : ∀ b o, X.s₀.heap.get? b = some o → b ≠ X.env.locals := fun b o e => Nat.ne_of_lt (Nat.lt_of_lt_of_le (Heap.lt_size e) I.ok.above)
  refine ⟨I.ok, I.os, I.bare, ⟨fun b o e n hb hx => (hs.2 b (ne b o e)).trans (I.base.keep b o e n hb hx), fun b o e n hb hx => ?_, I.base.free, fun b o e hx => ?_, I.base.tups, I.base.frzs, I.base.tbls⟩, ⟨m', hn, fun j y v e1 e2 e3 => ?_⟩, fun y c e => ?_, I.free, I.freeC, fun p hp => ?_, fun b ob e => ?_, by simp⟩
  · obtain ⟨sl, e1⟩ := I.base.slot b o e n hb hx; exact ⟨sl, (hs.2 b (ne b o e)).trans e1⟩
  · obtain ⟨o', e1⟩ := I.base.there b o e hx; exact ⟨o', (hs.2 b (ne b o e)).trans e1⟩
  · rw [List.getElem?_replicate] at e2; split at e2 <;> cases e2
  · obtain ⟨v, z⟩ := I.cell y c e; exact ⟨v, z.sameBut hs (I.cne y c e)⟩
  · obtain ⟨e, n, nl, nf, d⟩ := I.pin p hp; exact ⟨(hs.2 p.1 nl).trans e, n, nl, nf, d⟩
  · refine (I.hok b ob e).stay (fun c w' hc q => (hs.2 c ?_).trans q) (fun _ q => q) fun _ _ q => q
    rintro rfl
    rcases hc with z | z
    · rw [← z, I.free] at e; cases e
    · rw [I.free] at z; cases z
theorem ps_try (okC : Addr → Prop) {x n : Str} {B : Addr} {body : List Stmt} {b0 : Stmt} {suite : List Stmt} {np hp pos : Pos} {tb : XK → TS} {th : Addr → Addr → TS} {i : Nat} (hst : X.stack = X.env :: X.outer) (hfr : X.env.frame = some X.env.locals) (hg : Gl X x) (hm : X.mg x = some (.ref B))
    (hN : X.N.Nodup) (hi : X.N[i]? = some n) (hl : X.env.scope.names.lookup n = some .local)
    (hb : ∀ (F : XK) (pn : List (Addr × Obj)) (E : Value → Shared → Prop), Passes (CXE X.prog X.w) (tX X pn E) F → PSs (tX X pn E) body (tb F))
    (hs : ∀ (a : Addr) (oe : Obj) (C : Addr), okC C → Held oe C → PSs (hX X a oe) (b0 :: suite) (th a C)) (hd : (x == ("__debug__" : Str)) = false := by decide) :
    PS X (.Try body [.ExceptHandler (some (.Name x np)) (some n) (b0 :: suite) hp] [] [] pos) (tTry X B okC tb th i) := by
  intro pins s σ H D I h
  refine wpAny_Try_except ?_
  have pass : Passes (CXE X.prog X.w) (tX X (X.pn ++ pins) fun e s' => ∃ σ1 H0 s1, Inv X pins σ1 H0 s1 ∧ CXE X.prog X.w X.stack H0 s1 (FTry X B okC th D i) e s') (FTry X B okC th D i) := fun pins' σ1 H1 s1 e s' I1 q =>
    ⟨σ1, H1, s1, ⟨I.ok, I1.os, I1.bare, I1.base, I1.loc, I1.cell, I1.free, I1.freeC, fun p hp => I1.pin p (List.mem_append_left _ hp), I1.hok, I1.len⟩, q⟩
  have I0 : Inv (tX X (X.pn ++ pins) fun e s' => ∃ σ1 H0 s1, Inv X pins σ1 H0 s1 ∧ CXE X.prog X.w X.stack H0 s1 (FTry X B okC th D i) e s') [] σ H s := ⟨I.ok.tX _ _, I.os, I.bare, I.base, I.loc, I.cell, I.free, I.freeC, fun p hp => I.pin p (by simpa using hp), I.hok, I.len⟩
  have back : ∀ {σ' H' s'}, Inv (tX X (X.pn ++ pins) fun e s' => ∃ σ1 H0 s1, Inv X pins σ1 H0 s1 ∧ CXE X.prog X.w X.stack H0 s1 (FTry X B okC th D i) e s') [] σ' H' s' → Inv X pins σ' H' s' := fun {σ' H' s'} J => ⟨I.ok, J.os, J.bare, J.base, J.loc, J.cell, J.free, J.freeC, fun p hp => J.pin p (by simpa using hp), J.hok, J.len⟩
  refine wpAny_mono (hb _ _ _ pass [] s σ H D I0 h) (fun f s1 q => ?_) fun e s' q => ?_
  · cases f with
    | next => obtain ⟨σ', H', J, q⟩ := q; exact wpAny_execs_nil ⟨σ', H', back J, q⟩
    | brk => obtain ⟨σ', H', J, q⟩ := q; exact ⟨σ', H', back J, q⟩
    | cont => obtain ⟨σ', H', J, q⟩ := q; exact ⟨σ', H', back J, q⟩
    | ret u => obtain ⟨v, σ', H', J, r, q⟩ := q; exact ⟨v, σ', H', back J, r, q⟩
  · obtain ⟨σ1, H0, s1, I1, a, C, H1, rfl, os, bare, un, hok, ⟨n0, nH, t1, sh, nf, hT⟩, C', eC, hok', hex, rd⟩ := q
    cases eC
    have I2 : Inv X pins σ1 H1 s' := I1.call' os un hok bare (fun b z => absurd z (by simp))
    have hf2 : X.A.frames = some (X.env :: X.outer) := by rw [← hst]; exact I.ok.frames
    have st2 : s'.heap.FunFrames X.base (X.env :: X.outer) := by rw [← hst]; exact I2.stack
    refine leaveX (ch := chX a t1) hf2 st2 hfr sh nf (by simp [chX]) (fun T e => by rw [e]; exact chX_ref) fun h3 T zT neT sh3 tb3 kp3 => ?_
    rw [← hst] at kp3
    have u3 : Un (frs X.stack) [] H0 H1 s1.heap h3 := Un.leftX un kp3 (chX_all n0 fun T e => (hT T e).1) fun b o _ hb => hb
    have ok3 : HOk X.prog X.w H1 h3 := hok.leftX kp3 (chX_all nH fun T e => (hT T e).2) I2.stkFree
    have I3 : Inv X pins σ1 H1 { s' with heap := h3 } := I1.call' (s' := { s' with heap := h3 }) os u3 ok3 bare (fun b z => absurd z (by simp))
    have HT : H1 T = none := I2.hok.fresh zT
    have T1 : s1.heap.get? T = none := by
      cases e : s1.heap.get? T with
      | none => rfl
      | some o => obtain ⟨o', e'⟩ := un.there T o e (by simp); exact absurd (Nat.lt_of_lt_of_le (Heap.lt_size e') zT) (Nat.lt_irrefl _)
    have aL : a ≠ X.env.locals := fun z => by obtain ⟨m, ⟨o, _, _, e, _⟩, _⟩ := I1.loc; rw [← z, n0] at e; cases e
    have aF : a ∉ X.fs := fun z => by
      obtain ⟨_, o, e, _⟩ := I1.stack.mem (show a ∈ X.stack.filterMap (·.frame) by rw [hst, List.filterMap_cons, hfr]; exact List.mem_cons_of_mem _ z)
      rw [n0] at e; cases e
    obtain ⟨oe, vs, h0, hc, hdc, hdt, v1, v2⟩ := id sh3
    have ncell : ∀ v, oe.data ≠ .cell v := fun v z => by rw [hdt] at z; cases z
    have I3h : Inv (hX X a oe) pins σ1 H1 { s' with heap := h3 } := I3.hold h0 nH aL aF ncell
    refine wpAny_handleBy_cons (codeAny_handlers_test (ld_glob (X := hX X a oe) I3h hg hm ?_ hd)) (by intro q; cases q)
    have IA : PySem.W.InstAt h3 a oe C none := ⟨h0, hc, by unfold PySem.W.notCls; rw [hdt], by rw [hdc]; trivial⟩
    refine (PySem.W.exm_one (M := model X.prog X.w) I3.kIn IA.type hex).here ?_
    show codeAny _ _ _ _ _
    refine codeAny_handlers_suite_as (setFlX (fs := frs X.stack) neT sh3 tb3 fun h4 e4 kp4 => ?_)
    have u4 : Un (frs X.stack) [] H0 H1 s1.heap h4 := Un.leftX u3 kp4 (fun b hb => by simp at hb; rw [hb]; exact T1) fun b o _ hb => hb
    have ok4 : HOk X.prog X.w H1 h4 := ok3.leftX kp4 (fun b hb => by simp at hb; rw [hb]; exact HT) I2.stkFree
    have I4 : Inv X pins σ1 H1 { s' with heap := h4 } := I1.call' (s' := { s' with heap := h4 }) os u4 ok4 bare (fun b z => absurd z (by simp))
    have I4h : Inv (hX X a oe) pins σ1 H1 { s' with heap := h4 } := I4.hold (e4 _ h0) nH aL aF ncell
    refine store_ok (X := hX X a oe) (i := i) (v := .ref a) I4h hN hi (.inl hl) rfl (fun s5 I5 => ?_) (.inr hl)
    have iL : i < σ1.length := by rw [I1.len]; exact (List.getElem?_eq_some_iff.mp hi).1
    have I6 : Inv (hX X a oe) pins ((List.replicate X.N.length none).set i (some (.ref a))) H1 s5 := I5.weak (by simp [I1.len]) fun j v e => by
      by_cases hj : j = i
      · subst hj
        rw [List.getElem?_set_self (by rw [List.length_replicate, ← I1.len]; exact iL)] at e
        cases e
        exact List.getElem?_set_self iL
      · rw [List.getElem?_set_ne (Ne.symm hj), List.getElem?_replicate] at e
        split at e <;> cases e
    refine wpAny_mono (hs a oe C hok' ⟨hc, hdc, vs, hdt, v2⟩ pins s5 _ H1 _ I6 (rd a)) (fun f s7 q => ?_) fun _ _ z => False.elim z
    cases f with
    | next => obtain ⟨_, _, _, z⟩ := q; exact False.elim z
    | brk => obtain ⟨_, _, _, z⟩ := q; exact False.elim z
    | cont => obtain ⟨_, _, _, z⟩ := q; exact False.elim z
    | ret u =>
      obtain ⟨v, σ7, H7, I7, r7, q7⟩ := q
      obtain ⟨m7, hn7, _⟩ := id I7.loc
      refine wpAny_nameGoes hl hn7 (by rw [I.ok.kind]; rfl) fun h8 m8 hn8 sb8 => ?_
      exact ⟨v, _, H7, (I7.loose I.ok).goes sb8 hn8, r7, q7⟩
end
end L2
end
section
namespace PySem
open Sem (wp)
theorem entry_unchain : entryFor table "proto.unchain" = some Builtin.«proto.unchain» := entryFor_of_tree (by kernel_rfl)
section
variable {prog : Program} {w : World} {A : Around} {E : Value → Shared → Prop} {s : Shared}
theorem raiseNew_held {α : Type} {a e : Addr} {oa oe : Obj} {va vs : Array Value} {Q : α → Shared → Prop} (hh : A.handled = some (.ref e)) (ne : e ≠ a) (ha : s.heap.get? a = some oa) (hda : oa.data = .fields va) (hz : 2 < va.size)
    (he : s.heap.get? e = some oe) (hde : oe.data = .fields vs) (h2 : vs[2]? = some .none) (h : E (.ref a) { s with heap := s.heap.update a (Obj.mapFields (·.setIfInBounds 2 (.ref e))) }) : wpAny (model prog w) A (raiseNew (.ref a) : Sem α) Q E s := by
  unfold raiseNew
  refine wpAny_bind (wpAny_handled ?_)
  rw [hh]
  show wpAny _ _ (if ((Value.ref e != Value.ref a) = true) then _ else _) _ _ _
  rw [if_pos (show (Value.ref e != Value.ref a) = true by simp [bne_iff_ne]; exact ne)]
  refine wpAny_bind (wpAny_holding (wpAny_runValue (codeAny_builtin entry_unchain ?_)))
  show wpAny _ _ (field (.ref e) 2 >>= _) _ _ _
  refine wpAny_bind (wpAny_field he hde h2 ?_)
  rw [if_pos (show (Value.none == Value.none) = true from rfl)]
  refine wpAny_pure ?_
  show wpAny _ _ (updateField a 2 (Value.ref e) >>= fun _ => throw (Value.ref a)) _ _ _
  exact wpAny_bind (wpAny_setField (a := a) (i := 2) ha hda hz (wpAny_throw h))
theorem pyNext_list_endH {it l e : Addr} {i : Nat} {items : Array Value} {oe : Obj} {vs : Array Value} {Q : Option Value → Shared → Prop} (hh : A.handled = some (.ref e)) (hit : s.heap.IsListIter it l i) (hl : s.heap.IsList l items) (hx : items[i]? = none)
    (he : s.heap.get? e = some oe) (hde : oe.data = .fields vs) (h2 : vs[2]? = some .none) (hne : e ≠ it) (hQ : ∀ h', Heap.ExtBut it s.heap h' → Q none { s with heap := h' }) : wpAny (model prog w) A (pyNext (.ref it)) Q E s := by
  obtain ⟨o, ho, hc, hd⟩ := id hit
  obtain ⟨ol, hol, _, nl, hdl⟩ := hl
  unfold pyNext
  refine wpAny_bind (wpAny_attempt (wpAny_callSpecial?_slot (name := Str.ofString "__next__") hit.typeIs slot_listiter_next (wpAny_call_entry slot_listiter_next hit.typeIs entry_listiter_next ?_ (args_listiter_next _))))
  show wpAny _ _ (field (.ref it) 0 >>= _) _ _ s
  refine wpAny_bind (wpAny_field ho hd (x := .ref l) rfl ?_)
  show wpAny _ _ (if (Value.ref l == Value.none) = true then _ else _) _ _ s
  rw [if_neg (show ¬ ((Value.ref l == Value.none) = true) from Bool.false_ne_true)]
  show wpAny _ _ (field (.ref it) 1 >>= _) _ _ s; refine wpAny_bind (wpAny_field ho hd (x := .int i 0) rfl ?_)
  show wpAny _ _ (seqItems? (.ref l) >>= _) _ _ s; refine wpAny_bind (wpAny_seqItems hol hdl ?_); simp only [Int.toNat_natCast, hx]
  refine wpAny_bind (wpAny_rule (wpAny_bind (wpAny_setField ho hd (by simp) ?_)))
  show wpAny _ _ (newExc (.type "StopIteration") [] >>= _) _ _ _; refine wpAny_bind ?_; simp only [newExc, newTuple]
  refine wpAny_bind (wpAny_newObj_type ?_ (by size_fits))
  refine wpAny_bind (m := firstArgMember _ _) (wpAny_of_eq (a := Value.none) (by first | rfl | (simp only [firstArgMember]; rfl)) ?_)
  refine wpAny_newObj_type ?_ (by size_fits)
  have lt : e < s.heap.objs.size := Heap.lt_size he
  have he2 : Heap.get? ((s.heap.update it (Obj.mapFields (·.setIfInBounds 0 Value.none))).push { cls := .type "tuple", data := .seq ([] : List Value).toArray }) e = some oe := Heap.get?_push_of_some _ (by rw [Heap.get?_update_other _ _ (Ne.symm hne)]; exact he)
  refine raiseNew_held (A := A.in1) hh (Nat.ne_of_lt (Heap.lt_size he2)) (Heap.get?_push_size _ rfl) rfl ?_ (Heap.get?_push_of_some _ he2) hde h2 ?_
  · rw [Array.size_append]; exact Nat.lt_of_lt_of_le (by decide : 2 < 6) (Nat.le_add_right _ _)
  refine wpAny_bind (wpAny_isInstance (T := "StopIteration") (b := true) ⟨_, Heap.get?_update_self _ (Heap.get?_push_size _ rfl) rfl, rfl⟩ isSubtype_stop ?_)
  refine wpAny_pure (hQ _ fun b o hb eb => ?_)
  have h1 : Heap.get? ((s.heap.update it (Obj.mapFields (·.setIfInBounds 0 Value.none))).push { cls := .type "tuple", data := .seq ([] : List Value).toArray }) b = some o := Heap.get?_push_of_some _ (by rw [Heap.get?_update_other _ _ (Ne.symm hb)]; exact eb)
  rw [Heap.get?_update_other _ _ (Ne.symm (Nat.ne_of_lt (Heap.lt_size h1)))]
  exact Heap.get?_push_of_some _ h1
theorem Walks.listH (e : Addr) (oe : Obj) {vs : Array Value} (hh : A.handled = some (.ref e)) (hde : oe.data = .fields vs) (h2 : vs[2]? = some .none) (I ax : Addr) (hne : ax ≠ I) (hnI : e ≠ I) (items : Array Value) :
    Walks prog w A I [I, ax, e] [I] items.size (fun i v => items[i]? = some v) (fun i h => h.IsListIter I ax i ∧ h.IsList ax items ∧ h.get? e = some oe) where
  sub := fun b hb => by simp at hb; simp [hb]
  frame := fun _ _ _ st hk => ⟨st.1.at fun o q => hk I (by simp) o q, st.2.1.at fun o q => hk ax (by simp) o q, hk e (by simp) _ st.2.2⟩
  item := fun i s Q E hi st hQ => by
    refine wpAny_pyNext_list_item st.1 st.2.1 (x := items[i]) (by simp [hi]) fun h' hit' hs' => ?_
    exact hQ _ h' s.toks (by simp [hi]) ⟨hit', st.2.1.extBut hs'.extBut hne, hs'.extBut e oe hnI st.2.2⟩ fun b o hb q => hs'.extBut b o (fun h => hb (by simp [h])) q
  done := fun s Q E st hQ => pyNext_list_endH hh st.1 st.2.1 (by simp) st.2.2 hde h2 hnI fun h' he' => hQ h' s.toks fun b o hb q => he' b o (fun h => hb (by simp [h])) q
  self := fun _ _ _ _ st hQ => wpAny_pyIter_listiter st.1 hQ
end
end PySem
namespace L2
open PySem PySem.Spec PyProof.Rows
section
variable {X : Cx}
theorem call_anyH {a : Addr} {oe : Obj} {C : Addr} (hd : Held oe C) (hm : (a, oe) ∈ X.pn) (hA : X.A.handled = some (.ref a)) : CallR X (.builtin "any") (fun xs H Q => ∃ (p : Addr) (bs : List Bool), xs = [V.ref p] ∧ H p = some (.lst (bs.map V.bl)) ∧ Q (.bl (bs.any id)) H) := by
  intro pins s σ H xs us Q I r h
  obtain ⟨p, bs, rfl, hp, q⟩ := h
  obtain ⟨u, rfl, ru⟩ := vals1 r
  cases ru
  obtain ⟨its, rv, pl, hz⟩ := I.list (SqL.of (K := X.K) hp)
  have lt : p < s.heap.objs.size := by obtain ⟨o, n, e, _⟩ := pl; exact Heap.lt_size e
  obtain ⟨vs, hd1, hd2⟩ := hd.fld
  have pe := (I.pin (a, oe) (List.mem_append_left _ hm)).1
  have lta : a < s.heap.objs.size := Heap.lt_size pe
  refine call_any_walk (wpAny_pyIter_list pl.isList ⟨_, _, _, _, _, _, fun i => bs.getD i false, rfl, Walks.listH (A := X.A.in1) a oe hA hd1 hd2 _ p (Nat.ne_of_lt lt) (Nat.ne_of_lt lta) its.toArray, ⟨⟨_, Heap.get?_push_size _ rfl, rfl, rfl⟩, pl.isList.push _, Heap.get?_push_of_some _ pe⟩, truth_bools rv, fun h' tk k => ?_⟩)
  refine ⟨.bl (bs.any id), H, ?_, ?_, q⟩
  · exact I.kept (t' := tk) fun b o e => k b o (by simp; exact Nat.ne_of_lt (Heap.lt_size e)) (Heap.get?_push_of_some _ e)
  · show Value.bool _ = Value.bool _
    have e : its.toArray.size = bs.length := by have := rv.length; simp at this; simp [this]
    rw [e, range_any]
theorem call_isiH {K : PySem.W.Frag} {a : Addr} {oe : Obj} {C : Addr} (hK : X.K = K) (hd : Held oe C) (hc : PySem.W.XCls K C) (hm : (a, oe) ∈ X.pn) : CallR X (.builtin "isinstance") (fun xs H Q => ∃ c b, (xs = [.ref a, c]) ∧ ∃ cv, (∀ u, RelV c u → u = cv) ∧ PySem.W.kitOne K (.ref C) cv = some b ∧ Q (.bl b) H) := by
  subst hK
  intro pins s σ H xs us Q I r h
  obtain ⟨c, b, rfl, cv, hcv, e, q⟩ := h
  obtain ⟨u, c', rfl, r1, r2⟩ := vals2 r
  cases (show u = Value.ref a from r1)
  have := hcv _ r2
  subst this
  have pe := (I.pin (a, oe) (List.mem_append_left _ hm)).1
  obtain ⟨vs, hd1, _⟩ := hd.fld
  have IA : PySem.W.InstAt s.heap a oe C none := ⟨pe, hd.cls, by unfold PySem.W.notCls; rw [hd1], by rw [hd.dict]; trivial⟩
  refine PySem.W.kia_one (PySem.W.kitx_exc hc) I.kIn IA e (fun z => nomatch z) fun tk => ⟨.bl b, H, I.tok tk, rfl, q⟩
end
end L2
end
section
namespace L2
open PySem PySem.Spec PyProof.Rows
theorem tidx_loop {prog : Program} {w : World} {A : Around} {E : Value → Shared → Prop} {s : Shared} {its : List Value} {u : Value} {e : Value → Bool} {j : Nat} (he : ∀ y ∈ its, SeqAt.EqAt A s y u (e y)) (hj : ∃ z, its[j]? = some z ∧ e z = true) (hno : ∀ i z, i < j → its[i]? = some z → e z = false)
    {Q : Option Fin × Unit → Shared → Prop} (hQ : Q (some (.done (.ret (.int j s.toks))), ()) { s with toks := s.toks + 1 }) : ∀ (k i : Nat), i ≤ j → i + k = its.length →
    wpAny (model prog w) A (forIn (List.range' i k) ((none, ()) : Option Fin × Unit) fun (i : Nat) __s => match its.toArray[i]? with
      | some y => do
        let b ← eqBool y u
        if b = true then do
          let r ← retInt (i : Int)
          pure (ForInStep.done (some r, ()))
        else pure (ForInStep.yield (none, ()))
      | x => pure (ForInStep.yield (none, ()))) Q E s
  | 0, i, hij, hk => by
    obtain ⟨z, hz, _⟩ := hj
    have := (List.getElem?_eq_some_iff.mp hz).1
    omega
  | k + 1, i, hij, hk => by
    have hi : i < its.length := by omega
    have e1 : its.toArray[i]? = some its[i] := by simp [hi]
    rw [List.range'_succ, List.forIn_cons, e1]
    refine wpAny_bind (wpAny_bind (he its[i] (List.getElem_mem hi) prog w _ _ ?_))
    by_cases hij' : i = j
    · subst hij'
      obtain ⟨z, hz, ez⟩ := hj
      rw [List.getElem?_eq_getElem hi] at hz
      cases hz
      rw [ez, if_pos rfl]
      exact wpAny_bind (wpAny_bind (wpAny_mkInt (wpAny_pure (wpAny_pure (wpAny_pure hQ)))))
    · rw [hno i its[i] (by omega) (List.getElem?_eq_getElem hi), if_neg Bool.false_ne_true]
      exact wpAny_pure (tidx_loop he hj hno hQ k (i + 1) (by omega) (by omega))
section
variable {X : Cx}
theorem mt_tidx : MtR X "tuple.index" (fun x xs H Q => ∃ (a : Addr) (ys : List V) (y : V) (j : Nat), x = .ref a ∧ xs = [y] ∧ SqT X.K H a ys ∧ flatV y = true ∧ ys.all flatV = true ∧ (∃ z, ys[j]? = some z ∧ eqV z y = true) ∧ (∀ i z, i < j → ys[i]? = some z → eqV z y = false) ∧ Q (.int j) H) := by
  intro pins s σ H x xs v us Q I rx rs h
  obtain ⟨a, ys, y, j, rfl, rfl, hq, fy, fs, hit, hno, q⟩ := h
  cases rx
  obtain ⟨u, rfl, ru⟩ := vals1 rs
  obtain ⟨its, r, pl, hz⟩ := I.tuple hq
  obtain ⟨o, ho, hc, n, hd⟩ := id pl
  refine wpAny_call (codeAny_call_builtin PySem.F.slot_tuple_index.plain PySem.F.entry_tuple_index (PySem.F.slot_tuple_index.check _ _ _ _ _ _ _ _ (show s.TypeIs (.ref a) "tuple" from ⟨o, ho, hc⟩) (PySem.F.args_tuple_index_2 _ _) ?_))
  unfold Builtin.«tuple.index»
  obtain ⟨hp, g, d, tk, os⟩ := s
  refine wpAny_bind (wpAny_of_eq (a := (Value.ref a, [u])) (by rfl) ?_)
  dsimp only
  unfold PySem.Builtin.Tuple.tupleItemsOf
  refine wpAny_bind (wpAny_bind (wpAny_seqItems ho hd (wpAny_pure ?_)))
  refine wpAny_bind (wpAny_pure (wpAny_bind (wpAny_pure (wpAny_bind ?_))))
  rw [Std.Legacy.Range.forIn_eq_forIn_range']
  have hsz : (min its.toArray.size its.toArray.size - 0 + 1 - 1) / 1 = its.length := by simp
  show wpAny _ _ (forIn (List.range' 0 ((min its.toArray.size its.toArray.size - 0 + 1 - 1) / 1) 1) _ _) _ _ _
  rw [hsz]
  refine tidx_loop (e := eqU y) (j := j) (mem_eqAt ru fy r fs) ?_ ?_ ?_ its.length 0 (Nat.zero_le _) (by omega)
  · obtain ⟨z, hz1, hz2⟩ := hit
    obtain ⟨w', hw, rw'⟩ := r.get hz1
    refine ⟨w', hw, ?_⟩
    rw [eqU_of rw' (List.all_eq_true.mp fs z (List.mem_of_getElem? hz1))]; exact hz2
  · intro i w' hi hw
    have hl : i < ys.length := by rw [r.length]; exact (List.getElem?_eq_some_iff.mp hw).1
    obtain ⟨w2, hw2, rw'⟩ := r.get (List.getElem?_eq_getElem hl)
    rw [hw] at hw2; cases hw2
    rw [eqU_of rw' (List.all_eq_true.mp fs _ (List.getElem_mem hl))]
    exact hno i _ hi (List.getElem?_eq_getElem hl)
  · exact wpAny_pure ⟨.int j, H, I.tok _, ⟨_, rfl⟩, q⟩
end
end L2
end
section
namespace L2
open PySem PySem.Spec PyProof.Rows
theorem Same.put' {H H' : Hp} {p : PySem.Addr} {o : HO} (h : Same H H') (hp : H p = none) : Same H (L2.upd H' p o) := fun b u e => by rw [upd_ne (ne_of_none e hp)]; exact h b u e
theorem comp_gen {J : It} {g : TG} {te : TE} {H1 : Hp} {σ0 : St} {R : Hp → Prop} {p : Addr} (hp : H1 p = none) (n : Nat) (hz : n < sizeLine) (F : Nat → V) (Ps : St → Prop) (h0 : Ps σ0) (hstop : ∀ H', Same H1 H' → J.stop n H') (hgo : ∀ i H', i < n → Same H1 H' → J.go i H')
    (step : ∀ i σ' H' x H2, i < n → Ps σ' → Same H1 H' → J.yld i H' x H2 → ∀ K : V → St → Hp → Prop, (∀ σ2 H4, Ps σ2 → Same H' H4 → K (F i) σ2 H4) → g x σ' H2 fun σ2 H3 => te σ2 H3 fun v H4 => K v σ2 H4)
    (fin : ∀ H', Same H1 H' → H' p = some (.lst ((List.range n).map F)) → R H') :
    ∃ W : Nat → Nat → St → Hp → Prop, (∃ m, W 0 m σ0 (upd H1 p (.lst []))) ∧
      ∀ i m σ' H', W i m σ' H' → (J.stop i H' ∧ R H') ∨ (J.go i H' ∧ ∀ x H2, J.yld i H' x H2 → g x σ' H2 fun σ2 H3 => te σ2 H3 fun v H4 => ∃ ys, H4 p = some (.lst ys) ∧ ys.length < sizeLine ∧ ∃ m', m' < m ∧ W (i + 1) m' σ2 (upd H4 p (.lst (ys ++ [v])))) := by
  refine ⟨fun i m σ' H' => m = n - i ∧ i ≤ n ∧ Ps σ' ∧ Same H1 H' ∧ H' p = some (.lst ((List.range i).map F)), ⟨_, rfl, Nat.zero_le _, h0, (Same.refl H1).put' hp, upd_same⟩, ?_⟩
  rintro i m σ' H' ⟨rfl, hi, ps, sm, lp⟩
  by_cases hlt : i < n
  · refine .inr ⟨hgo i H' hlt sm, fun x H2 y => step i σ' H' x H2 hlt ps sm y _ fun σ2 H4 ps2 sm2 => ?_⟩
    refine ⟨_, sm2 _ _ lp, by simp; omega, n - (i + 1), by omega, rfl, hlt, ps2, (sm.trans sm2).put' hp, ?_⟩
    rw [upd_same, List.range_succ, List.map_append]; rfl
  · have e : i = n := by omega
    subst e
    exact .inl ⟨hstop H' sm, fin H' sm lp⟩
theorem comp_enumS {x : Str} {g : TG} {te : TE} {H1 : Hp} {σ0 : St} {R : Hp → Prop} {p : Addr} (hp : H1 p = none) (hz : x.cps.size < sizeLine) (F : Nat → V) (Ps : St → Prop) (h0 : Ps σ0)
    (step : ∀ i c t σ' H', x.cps[i]? = some c → H' t = none → Ps σ' → Same H1 H' → ∀ K : V → St → Hp → Prop, (∀ σ2 H4, Ps σ2 → Same H' H4 → K (F i) σ2 H4) → g (.ref t) σ' (upd H' t (.tup [.int i, .str ⟨#[c]⟩])) fun σ2 H3 => te σ2 H3 fun v H4 => K v σ2 H4)
    (fin : ∀ H', Same H1 H' → H' p = some (.lst ((List.range x.cps.size).map F)) → R H') :
    ∃ W : Nat → Nat → St → Hp → Prop, (∃ m, W 0 m σ0 (upd H1 p (.lst []))) ∧
      ∀ i m σ' H', W i m σ' H' → ((ItS x).stop i H' ∧ R H') ∨ ((ItS x).go i H' ∧ ∀ v H2, (ItS x).yld i H' v H2 → g v σ' H2 fun σ2 H3 => te σ2 H3 fun v H4 => ∃ ys, H4 p = some (.lst ys) ∧ ys.length < sizeLine ∧ ∃ m', m' < m ∧ W (i + 1) m' σ2 (upd H4 p (.lst (ys ++ [v])))) := by
  refine comp_gen (J := ItS x) hp x.cps.size hz F Ps h0 (fun _ _ => rfl) (fun i _ hi _ => hi) (fun i σ' H' v H2 hi ps sm y K k => ?_) fin
  obtain ⟨t, c, ht, hc, rfl, rfl⟩ := y
  exact step i c t σ' H' hc ht ps sm K k
theorem comp_list {KK : PySem.W.Frag} {a : Addr} {xs : List V} {g : TG} {te : TE} {H1 : Hp} {σ0 : St} {R : Hp → Prop} {p : Addr} (hp : H1 p = none) (ha : H1 a = some (.lst xs)) (hz : xs.length < sizeLine) (F : V → V) (Ps : St → Prop) (h0 : Ps σ0)
    (step : ∀ (i : Nat) x σ' H', xs[i]? = some x → Ps σ' → Same H1 H' → ∀ K : V → St → Hp → Prop, (∀ σ2 H4, Ps σ2 → Same H' H4 → K (F x) σ2 H4) → g x σ' H' fun σ2 H3 => te σ2 H3 fun v H4 => K v σ2 H4)
    (fin : ∀ H', Same H1 H' → H' p = some (.lst (xs.map F)) → R H') :
    ∃ W : Nat → Nat → St → Hp → Prop, (∃ m, W 0 m σ0 (upd H1 p (.lst []))) ∧
      ∀ i m σ' H', W i m σ' H' → ((Itl KK a).stop i H' ∧ R H') ∨ ((Itl KK a).go i H' ∧ ∀ v H2, (Itl KK a).yld i H' v H2 → g v σ' H2 fun σ2 H3 => te σ2 H3 fun v H4 => ∃ ys, H4 p = some (.lst ys) ∧ ys.length < sizeLine ∧ ∃ m', m' < m ∧ W (i + 1) m' σ2 (upd H4 p (.lst (ys ++ [v])))) := by
  refine comp_gen (J := Itl KK a) hp xs.length hz (fun i => F (xs.getD i .non)) Ps h0 (fun H' sm => ⟨xs, SqL.of (sm _ _ ha), Nat.le_refl _⟩) (fun i H' hi sm => ⟨xs, xs[i], SqL.of (sm _ _ ha), by simp [hi]⟩) (fun i σ' H' v H2 hi ps sm y K k => ?_) (fun H' sm hq => fin H' sm ?_)
  · obtain ⟨e, y⟩ := y
    subst e
    have hv := y xs (SqL.of (sm _ _ ha))
    refine step i v σ' _ hv ps sm K fun σ2 H4 p2 s2 => ?_
    have := k σ2 H4 p2 s2
    rw [show xs.getD i V.non = v by simp [List.getD, hv]] at this
    exact this
  · rw [hq]
    congr 2
    refine List.ext_getElem (by simp) fun i h1 h2 => ?_
    simp at h1 h2
    simp [List.getD, h2]
theorem comp_range {lo : Int} {n : Nat} {g : TG} {te : TE} {H1 : Hp} {σ0 : St} {R : Hp → Prop} {p : Addr} (hp : H1 p = none) (hz : n < sizeLine) (F : Nat → V) (Ps : St → Prop) (h0 : Ps σ0)
    (step : ∀ i σ' H', i < n → Ps σ' → Same H1 H' → ∀ K : V → St → Hp → Prop, (∀ σ2 H4, Ps σ2 → Same H' H4 → K (F i) σ2 H4) → g (.int (lo + i)) σ' H' fun σ2 H3 => te σ2 H3 fun v H4 => K v σ2 H4)
    (fin : ∀ H', Same H1 H' → H' p = some (.lst ((List.range n).map F)) → R H') :
    ∃ W : Nat → Nat → St → Hp → Prop, (∃ m, W 0 m σ0 (upd H1 p (.lst []))) ∧
      ∀ i m σ' H', W i m σ' H' → ((Itr lo n).stop i H' ∧ R H') ∨ ((Itr lo n).go i H' ∧ ∀ v H2, (Itr lo n).yld i H' v H2 → g v σ' H2 fun σ2 H3 => te σ2 H3 fun v H4 => ∃ ys, H4 p = some (.lst ys) ∧ ys.length < sizeLine ∧ ∃ m', m' < m ∧ W (i + 1) m' σ2 (upd H4 p (.lst (ys ++ [v])))) := by
  refine comp_gen (J := Itr lo n) hp n hz F Ps h0 (fun _ _ => Nat.le_refl _) (fun i _ hi _ => hi) (fun i σ' H' v H2 hi ps sm y K k => ?_) fin
  obtain ⟨e, y⟩ := y
  subst e y
  exact step i σ' _ hi ps sm K k
theorem comp_tup {KK : PySem.W.Frag} {a : Addr} {xs : List V} {g : TG} {te : TE} {H1 : Hp} {σ0 : St} {R : Hp → Prop} {p : Addr} (hp : H1 p = none) (ha : SqT KK H1 a xs) (hz : xs.length < sizeLine) (F : V → V) (Ps : St → Prop) (h0 : Ps σ0)
    (step : ∀ (i : Nat) x σ' H', xs[i]? = some x → Ps σ' → Same H1 H' → ∀ K : V → St → Hp → Prop, (∀ σ2 H4, Ps σ2 → Same H' H4 → K (F x) σ2 H4) → g x σ' H' fun σ2 H3 => te σ2 H3 fun v H4 => K v σ2 H4)
    (fin : ∀ H', Same H1 H' → H' p = some (.lst (xs.map F)) → R H') :
    ∃ W : Nat → Nat → St → Hp → Prop, (∃ m, W 0 m σ0 (upd H1 p (.lst []))) ∧
      ∀ i m σ' H', W i m σ' H' → ((Itt KK a).stop i H' ∧ R H') ∨ ((Itt KK a).go i H' ∧ ∀ v H2, (Itt KK a).yld i H' v H2 → g v σ' H2 fun σ2 H3 => te σ2 H3 fun v H4 => ∃ ys, H4 p = some (.lst ys) ∧ ys.length < sizeLine ∧ ∃ m', m' < m ∧ W (i + 1) m' σ2 (upd H4 p (.lst (ys ++ [v])))) := by
  have tp : ∀ H', Same H1 H' → SqT KK H' a xs := fun H' e => by
    rcases ha with (h | ⟨o, h⟩) | h
    · exact .inl (.inl (e _ _ h))
    · exact .inl (.inr ⟨o, e _ _ h⟩)
    · exact .inr h
  refine comp_gen (J := Itt KK a) hp xs.length hz (fun i => F (xs.getD i .non)) Ps h0 (fun H' sm => ⟨xs, tp H' sm, Nat.le_refl _⟩) (fun i H' hi sm => ⟨xs, xs[i], tp H' sm, by simp [hi]⟩) (fun i σ' H' v H2 hi ps sm y K k => ?_) (fun H' sm hq => fin H' sm ?_)
  · obtain ⟨e, y⟩ := y
    subst e
    have hv := y xs (tp _ sm)
    refine step i v σ' _ hv ps sm K fun σ2 H4 p2 s2 => ?_
    have := k σ2 H4 p2 s2
    rw [show xs.getD i V.non = v by simp [List.getD, hv]] at this
    exact this
  · rw [hq]
    congr 2
    refine List.ext_getElem (by simp) fun i h1 h2 => ?_
    simp at h1 h2
    simp [List.getD, h2]
end L2
end
section
namespace L2
open PySem PySem.Spec PyProof.Rows
section
variable {X : Cx} {K : PySem.W.Frag} {pos : Pos}
theorem pg_tupK {es : List Expr} {k : Nat} {t : TGs} {n : Nat} (hK : X.K = K) (hc : X.calm = true) (h : PGs X es t) (hn : (assignEach es X.env).length = n := by rfl) (hst : (assignEach es X.env).findIdx? (·.1) = none := by rfl) : PG X (.Tuple es k pos) (gTup K n t) := hK ▸ pg_tup hc h hn hst
theorem ix_listK (hK : X.K = K) : IxR X (rIxL K) := hK ▸ ix_list
theorem op_in_seqK (hK : X.K = K) : OpR X (compareOp .In) (rIn K false) := hK ▸ op_in_seq
end
end L2
end
section
namespace L2
open PySem PySem.Spec PyProof.Rows
section
variable {X : Cx}
def tVs (vs : List V) : TA := fun _ H Q => Q vs H
def conV : Expr → Option V
  | .Constant (.int i) _ _ => some (.int i)
  | .Constant (.str x) _ _ => some (.str x)
  | .Constant (.bool b) _ _ => some (.bl b)
  | .Constant .none _ _ => some .non
  | _ => none
theorem pa_vs : ∀ (vs : List V) {es : List Expr}, es.map conV = vs.map some → PA X es (tVs vs)
  | [], [], _ => fun pos pins s σ H Q I h => pa_nil pos pins s σ H Q I h
  | [], e :: es, h => by simp at h
  | v :: vs, [], h => by simp at h
  | v :: vs, e :: es, h => by
    simp only [List.map_cons, List.cons.injEq] at h
    obtain ⟨h1, h2⟩ := h
    have ih := pa_vs vs h2
    intro pos pins s σ H Q I hq
    have step : ∀ {te : TE}, PE X e te → (∀ σ H Q, te σ H Q ↔ Q v H) → starEach (e :: es) X.env = (false, eval e X.env) :: starEach es X.env → wpAny (model X.prog X.w) X.A (spliced (backTo pos (starEach (e :: es) X.env))) (AP X pins σ Q) X.xe s := by
      intro te he ht hs
      exact pa_cons he ih hs pos pins s σ H Q I ((ht σ H _).mpr hq)
    cases e <;> simp only [conV, reduceCtorEq] at h1
    rename_i c k p
    cases c <;> simp only [conV, Option.some.injEq, reduceCtorEq] at h1
    all_goals subst h1
    · exact step pe_non (fun _ _ _ => Iff.rfl) rfl
    · exact step pe_bl (fun _ _ _ => Iff.rfl) rfl
    · exact step pe_int (fun _ _ _ => Iff.rfl) rfl
    · exact step pe_str (fun _ _ _ => Iff.rfl) rfl
end
end L2
end
section
namespace L2
open PySem PySem.Spec PyProof.Rows
section
variable {X : Cx} {K : PySem.W.Frag} {pos : Pos}
theorem pe_bmK {T id : String} {name : Str} {r : V → List V → Hp → VK → Prop} {o e : Expr} {es : List Expr} {to : TE} {t : TA} {apos cpos : Pos} (hK : X.K = K) (pa : PlainAttrs T) (slot : Slot T name id) (hty : typeOf (.builtin id) = pure (.type "method_descriptor")) (hm : MtR X id r) (ho : PE X o to) (ha : PA X (e :: es) t)
    (hbase : attributeBase o name X.env (eval o X.env) = eval o X.env := by rfl)
    (hfew : ((backTo cpos (starEach (e :: es) X.env)).all (fun x => !x.1) && (backToKw cpos (keywordEach [] X.env)).all (fun x => x.1.isSome) && decide ((e :: es).length + ([] : List Keyword).length + (if ([] : List Keyword).isEmpty then 0 else 1) < 30)) = true := by rfl)
    (hline : (apos.endLine == cpos.line) = true := by rfl) (hs : starEach (e :: es) X.env = (false, eval e X.env) :: starEach es X.env := by rfl) (hplain : (backTo cpos (starEach es X.env)).any (·.1) = false := by rfl) :
    PE X (.Call (.Attribute o name apos) (e :: es) [] cpos) (tBM K T r to t) := hK ▸ pe_bm pa slot hty hm ho ha hbase hfew hline hs hplain
end
end L2
end
section
namespace L2
open PySem PySem.Spec PyProof.Rows
def Can (P : Program) (w : World) (K : PySem.W.Frag) (mg : Str → Option Value) (base : Heap) (CX : CXT) (k : Nat) (x : Str) (ps : List Str) (sp : Sp) : Prop :=
  ∃ f fd, mg x = some (.ref f) ∧ PySem.W.keepIn K (.ref f) = true ∧ Binds K fd ps [] ∧ FnOk P w K mg base CX k f fd ps sp
theorem pe_can {X : Cx} {CX : CXT} {k : Nat} {x : Str} {ps : List Str} {sp : Sp} {E : XK} {e : Expr} {es : List Expr} {t : TA} {p pos : Pos} (C : Can X.prog X.w X.K X.mg X.base CX k x ps sp) (hr : Room k X.A) (hx : Passes CX X E) (ha : PA X (e :: es) t) (hg : Gl X x := by rfl)
    (hdb : (x == ("__debug__" : Str)) = false := by decide) (he : starEach (e :: es) X.env = (false, eval e X.env) :: starEach es X.env := by rfl) (hpl : (backTo pos (starEach es X.env)).any (·.1) = false := by rfl) : PE X (.Call (.Name x p) (e :: es) [] pos) (tCall sp [] E t) := by
  obtain ⟨f, fd, h1, h2, h3, h4⟩ := C
  exact pe_call h4 hr hg h1 h2 h3 .nil hx ha hdb he hpl
theorem tru {b : Bool} (h : b = true) {A B : Prop} (a : A) : if b = true then A else B := by rw [if_pos h]; exact a
theorem fls {b : Bool} (h : b = false) {A B : Prop} (a : B) : if b = true then A else B := by rw [if_neg (by rw [h]; simp)]; exact a
theorem Same.upd {H H' : Hp} {p : Addr} {o : HO} (h : Same H H') (hp : H' p = none) : Same H (L2.upd H' p o) := fun b u e => by rw [upd_ne (ne_of_none (h b u e) hp)]; exact h b u e
theorem Same.upd0 {H : Hp} {p : Addr} {o : HO} (hp : H p = none) : Same H (L2.upd H p o) := (Same.refl H).upd hp
end L2
namespace Ks
open PySem L2 Mir
def top (i : Nat) : Stmt := PySem.Challenge.pw_oddcoin_k03_weighings.main.body.getD i (.Pass ⟨0, 0, 0, 0⟩)
abbrev ch1 (c : Nat) : Str := ⟨#[c]⟩
theorem s_e : ("e" : Str) = ch1 101 := by decide +kernel
theorem s_h : ("h" : Str) = ch1 104 := by decide +kernel
theorem s_l : ("l" : Str) = ch1 108 := by decide +kernel
theorem s_g : ("g" : Str) = ch1 103 := by decide +kernel
theorem ch1_inj {a b : Nat} : ch1 a = ch1 b ↔ a = b := by
  constructor
  · intro h
    have : (ch1 a).cps.toList = (ch1 b).cps.toList := by rw [h]
    simpa using this
  · intro h; rw [h]
def p3 : P3 → Str | .L => "left" | .R => "right" | .E => "even"
theorem p3_inj {a b : P3} : p3 a = p3 b ↔ a = b := by
  constructor
  · intro h
    cases a <;> cases b <;> first | rfl | exact absurd h (by decide +kernel)
  · intro h; rw [h]
structure Blt (mg : Str → Option Value) : Prop where
  isi : mg "isinstance" = none
  int : mg "int" = none
  bool : mg "bool" = none
  str : mg "str" = none
  list : mg "list" = none
  tuple : mg "tuple" = none
  len : mg "len" = none
  set : mg "set" = none
  enum : mg "enumerate" = none
  range : mg "range" = none
  any : mg "any" = none
  all : mg "all" = none
  sorted : mg "sorted" = none
  max : mg "max" = none
  min : mg "min" = none
structure Kit (K : PySem.W.Frag) : Prop where
  ii : PySem.W.kitOne K (.type "int") (.type "int") = some true
  ib : PySem.W.kitOne K (.type "int") (.type "bool") = some false
  bb : PySem.W.kitOne K (.type "bool") (.type "bool") = some true
  ss : PySem.W.kitOne K (.type "str") (.type "str") = some true
  ll : PySem.W.kitOne K (.type "list") (.type "list") = some true
  tt : PySem.W.kitOne K (.type "tuple") (.type "tuple") = some true
theorem boot_isi : bootBuiltins "isinstance" = some (.builtin "isinstance") := by decide +kernel
theorem boot_intT : bootBuiltins "int" = some (.type "int") := by decide +kernel
theorem boot_boolT : bootBuiltins "bool" = some (.type "bool") := by decide +kernel
theorem boot_strT : bootBuiltins "str" = some (.type "str") := by decide +kernel
theorem boot_listT : bootBuiltins "list" = some (.type "list") := by decide +kernel
theorem boot_setT : bootBuiltins "set" = some (.type "set") := by decide +kernel
theorem boot_lenB : bootBuiltins "len" = some (.builtin "len") := by decide +kernel
theorem boot_sortedB : bootBuiltins "sorted" = some (.builtin "sorted") := by decide +kernel
theorem boot_maxB : bootBuiltins "max" = some (.builtin "max") := by decide +kernel
theorem boot_minB : bootBuiltins "min" = some (.builtin "min") := by decide +kernel
theorem inV_two (c a b : Nat) : inV (.str (ch1 c)) [.str (ch1 a), .str (ch1 b)] = (c == a || c == b) := by
  show ((ch1 a == ch1 c) || ((ch1 b == ch1 c) || false)) = _
  have e : ∀ x y : Nat, (ch1 x == ch1 y) = (y == x) := fun x y => by
    by_cases h : y = x
    · subst h; simp
    · have h' : ¬ ch1 x = ch1 y := fun z => h (ch1_inj.mp z).symm
      rw [beq_eq_false_iff_ne.mpr h', beq_eq_false_iff_ne.mpr h]
  rw [e, e]; simp
section
variable {P : Program} {w : World} {K : PySem.W.Frag} {mg : Str → Option Value} {base : Heap}
def spWhole : Sp := fun vs H Q _ => ∃ i, vs = [.int i] ∧ Q (.bl true) H
theorem scWhole : FnScope ["value"] ["value"] (defScope (top 10)) := ⟨rfl, rfl, rfl, by decide +kernel, rfl, by decide +kernel, by decide +kernel⟩
theorem ok_whole {f : Addr} {fd : FuncData} (F : Fun K "is_whole" "is_whole" (top 10) f fd) (B : Blt mg) (T : Kit K) : FnOk P w K mg base CX0 1 f fd ["value"] spWhole := by
  refine F.ok scWhole (fun vs H Q E h => ?_) (fun cdv A outer s H vs Q E hr h => ?_)
  · obtain ⟨i, rfl, _⟩ := h; rfl
  · obtain ⟨i, rfl, k⟩ := h
    refine ⟨_, pss_one (ps_ret (pe_and (pe_callB call_isi (by rfl) B.isi boot_isi (pa_cons (pv 0) (pa_cons (pe_bltn (v := .ty "int") (by rfl) B.int boot_intT rfl) pa_nil)))
      (pe_one (pe_not (pe_callB call_isi (by rfl) B.isi boot_isi (pa_cons (pv 0) (pa_cons (pe_bltn (v := .ty "bool") (by rfl) B.bool boot_boolT rfl) pa_nil))))))), ?_⟩
    refine ⟨_, rfl, _, _, _, _, rfl, .int i, T.ii, _, rfl, iteT ?_⟩
    exact ⟨_, rfl, _, _, _, _, rfl, .int i, T.ib, _, rfl, k⟩
def spMayH : Sp := fun vs H Q _ => ∃ c, vs = [.str (ch1 c)] ∧ ∀ H', Same H H' → Q (.bl (mayH c)) H'
theorem scMayH : FnScope ["sign"] ["sign"] (defScope (top 20)) := ⟨rfl, rfl, rfl, by decide +kernel, rfl, by decide +kernel, by decide +kernel⟩
theorem ok_mayH {f : Addr} {fd : FuncData} (F : Fun K "may_be_heavy" "may_be_heavy" (top 20) f fd) : FnOk P w K mg base CX0 1 f fd ["sign"] spMayH := by
  refine F.ok scMayH (fun vs H Q E h => ?_) (fun cdv A outer s H vs Q E hr h => ?_)
  · obtain ⟨i, rfl, _⟩ := h; rfl
  · obtain ⟨c, rfl, k⟩ := h
    refine ⟨_, pss_one (ps_ret (pe_cmpR op_in_seq (pv 0) (pe_tup (pa_cons pe_str (pa_cons pe_str pa_nil))) rfl)), ?_⟩
    refine ⟨_, rfl, by show 2 ≤ sizeLine; decide, fun p hp => ⟨p, _, rfl, .inr (SqT.of upd_same), rfl, rfl, ?_⟩⟩
    have e : inV (.str (ch1 c)) [.str "e", .str "h"] = mayH c := by rw [s_e, s_h, inV_two]; rfl
    show Q (.bl (inV (.str (ch1 c)) [.str "e", .str "h"])) _
    rw [e]
    exact k _ (Same.upd0 hp)
theorem scMayL : FnScope ["sign"] ["sign"] (defScope (top 21)) := ⟨rfl, rfl, rfl, by decide +kernel, rfl, by decide +kernel, by decide +kernel⟩
def spMayL : Sp := fun vs H Q _ => ∃ c, vs = [.str (ch1 c)] ∧ ∀ H', Same H H' → Q (.bl (mayL c)) H'
theorem ok_mayL {f : Addr} {fd : FuncData} (F : Fun K "may_be_light" "may_be_light" (top 21) f fd) : FnOk P w K mg base CX0 1 f fd ["sign"] spMayL := by
  refine F.ok scMayL (fun vs H Q E h => ?_) (fun cdv A outer s H vs Q E hr h => ?_)
  · obtain ⟨i, rfl, _⟩ := h; rfl
  · obtain ⟨c, rfl, k⟩ := h
    refine ⟨_, pss_one (ps_ret (pe_cmpR op_in_seq (pv 0) (pe_tup (pa_cons pe_str (pa_cons pe_str pa_nil))) rfl)), ?_⟩
    refine ⟨_, rfl, by show 2 ≤ sizeLine; decide, fun p hp => ⟨p, _, rfl, .inr (SqT.of upd_same), rfl, rfl, ?_⟩⟩
    have e : inV (.str (ch1 c)) [.str "e", .str "l"] = mayL c := by rw [s_e, s_l, inV_two]; rfl
    show Q (.bl (inV (.str (ch1 c)) [.str "e", .str "l"])) _
    rw [e]
    exact k _ (Same.upd0 hp)
def allG (z : Str) : Bool := !decide (104 ∈ z.cps.toList) && !decide (108 ∈ z.cps.toList)
theorem occ1 (c : Nat) (z : Str) : (!(!(Builtin.Str.occurrences z (ch1 c) 0 z.length 1).isEmpty)) = !decide (c ∈ z.cps.toList) := by
  rw [PySem.StrLaws.found_one]
theorem scAllG : FnScope ["marks"] ["marks"] (defScope (top 22)) := ⟨rfl, rfl, rfl, by decide +kernel, rfl, by decide +kernel, by decide +kernel⟩
def spAllG : Sp := fun vs H Q _ => ∃ z, vs = [.str z] ∧ Q (.bl (allG z)) H
theorem ok_allG {f : Addr} {fd : FuncData} (F : Fun K "may_all_be_good" "may_all_be_good" (top 22) f fd) : FnOk P w K mg base CX0 1 f fd ["marks"] spAllG := by
  refine F.ok scAllG (fun vs H Q E h => ?_) (fun cdv A outer s H vs Q E hr h => ?_)
  · obtain ⟨i, rfl, _⟩ := h; rfl
  · obtain ⟨z, rfl, k⟩ := h
    refine ⟨_, pss_one (ps_ret (pe_and (pe_cmpR op_notin_str pe_str (pv 0) rfl) (pe_one (pe_cmpR op_notin_str pe_str (pv 0) rfl)))), ?_⟩
    refine ⟨_, rfl, _, _, rfl, rfl, _, rfl, ?_⟩
    rw [s_h, occ1]
    have fin : ∀ b, b = (!decide (104 ∈ z.cps.toList)) → if b = true then tOp (fun x y H Q => ∃ i j, x = V.str i ∧ y = V.str j ∧ Q (.bl (!(!(Builtin.Str.occurrences j i 0 j.length 1).isEmpty))) H) (tC (.str "l")) (tVar 0) (start ["marks"] [V.str z]) H Q else Q (.bl false) H := by
      intro b hb
      by_cases hx : 104 ∈ z.cps.toList
      · refine fls (by rw [hb]; simp [hx]) ?_
        have e : allG z = false := by unfold allG; simp [hx]
        rw [← e]; exact k
      · refine tru (by rw [hb]; simp [hx]) ?_
        refine ⟨_, rfl, _, _, rfl, rfl, ?_⟩
        rw [s_l, occ1]
        have e : allG z = !decide (108 ∈ z.cps.toList) := by unfold allG; simp [hx]
        rw [← e]; exact k
    exact fin _ rfl
end
end Ks
end
section
namespace Ks
open PySem L2 Mir
theorem dec_p3 (a b : P3) : decide (V.str (p3 a) = V.str (p3 b)) = decide (a = b) := by
  by_cases h : a = b
  · subst h; simp
  · have h' : ¬ V.str (p3 a) = V.str (p3 b) := fun z => h (p3_inj.mp (V.str.inj z))
    rw [decide_eq_false h, decide_eq_false h']
theorem dec_ch (a b : Nat) : decide (V.str (ch1 a) = V.str (ch1 b)) = decide (a = b) := by
  by_cases h : a = b
  · subst h; simp
  · have h' : ¬ V.str (ch1 a) = V.str (ch1 b) := fun z => h (ch1_inj.mp (V.str.inj z))
    rw [decide_eq_false h, decide_eq_false h']
def Oth (K : PySem.W.Frag) (w : World) (mg : Str → Option Value) : Prop :=
  ∃ (d : Addr) (es : Array DictEntry) (n : Nat), mg "OTHER" = some (.ref d) ∧ K.lookup d = some ⟨.type "dict", none, .dict es n, #[]⟩ ∧ PySem.W.KeysLit w.params es.toList ∧ ∀ p : P3, ∃ u, PySem.W.nsIn K d (p3 p) = some (some u) ∧ RelV (.str (p3 (other p))) u
def Outs (K : PySem.W.Frag) (mg : Str → Option Value) : Prop := ∃ (d : Addr) (o : Obj) (its : Array Value) (n : Nat), mg "OUTCOMES" = some (.ref d) ∧ K.lookup d = some o ∧ o.cls = .type "tuple" ∧ o.dict = none ∧ o.data = .seq its n ∧ Vals [.str "left", .str "right", .str "even"] its.toList
section
variable {P : Program} {w : World} {K : PySem.W.Frag} {mg : Str → Option Value} {base : Heap}
def spOut : Sp := fun vs H Q _ => ∃ (p : P3) (hv : Bool), vs = [.str (p3 p), .bl hv] ∧ Q (.str (p3 (if hv then p else other p))) H
theorem scOut : FnScope ["place", "heavy"] ["place", "heavy"] (defScope (top 19)) := ⟨rfl, rfl, rfl, by decide +kernel, rfl, by decide +kernel, by decide +kernel⟩
theorem ok_out {f : Addr} {fd : FuncData} (F : Fun K "outcome_by" "outcome_by" (top 19) f fd) (O : Oth K w mg) : FnOk P w K mg base CX0 1 f fd ["place", "heavy"] spOut := by
  refine F.ok scOut (fun vs H Q E h => ?_) (fun cdv A outer s H vs Q E hr h => ?_)
  · obtain ⟨i, b, rfl, _⟩ := h; rfl
  · obtain ⟨p, hv, rfl, k⟩ := h
    obtain ⟨d, es, n, m1, m2, m3, m4⟩ := O
    obtain ⟨u, u1, u2⟩ := m4 p
    refine ⟨_, pss_one (ps_ret (pe_ifExp (pt_val (pv 1)) (pv 0) (pe_ix ix_kd (pe_glob (v := .ref d) (by rfl) m1 rfl) (pv 0) (fun _ _ => rfl)))), ?_⟩
    refine ⟨_, rfl, _, rfl, ?_⟩
    cases hv with
    | true => exact iteT ⟨_, rfl, k⟩
    | false => exact iteF ⟨_, rfl, d, es, n, _, _, u, rfl, rfl, m2, m3, u1, u2, k⟩
def spSB : Sp := fun vs H Q _ => ∃ (c : Nat) (p o : P3), vs = [.str (ch1 c), .str (p3 p), .str (p3 o)] ∧ ∀ H', Same H H' → Q (.str (ch1 (sb c p o))) H'
theorem scSB : FnScope ["sign", "place", "outcome", "heavy", "light"] ["sign", "place", "outcome"] (defScope (top 23)) := ⟨rfl, rfl, rfl, by decide +kernel, rfl, by decide +kernel, by decide +kernel⟩
theorem ok_sb {f : Addr} {fd : FuncData} (F : Fun K "sign_behind" "sign_behind" (top 23) f fd) (cH : Can P w K mg base CX0 1 "may_be_heavy" ["sign"] spMayH) (cL : Can P w K mg base CX0 1 "may_be_light" ["sign"] spMayL)
    (cO : Can P w K mg base CX0 1 "outcome_by" ["place", "heavy"] spOut) : FnOk P w K mg base CX0 2 f fd ["sign", "place", "outcome"] spSB := by
  refine F.ok scSB (fun vs H Q E h => ?_) (fun cdv A outer s H vs Q E hr h => ?_)
  · obtain ⟨c, p, o, rfl, _⟩ := h; rfl
  · obtain ⟨c, p, o, rfl, k⟩ := h
    refine ⟨_, pss_cons (ps_set (i := 3) scSB.nd rfl (Or.inl rfl) (pe_and (pe_can cH hr pass0 (pa_cons (pv 0) pa_nil)) (pe_one (pe_cmpR op_eq (pe_can cO hr pass0 (pa_cons (pv 1) (pa_cons pe_bl pa_nil))) (pv 2) (nomark _)))))
      (pss_cons (ps_set (i := 4) scSB.nd rfl (Or.inl rfl) (pe_and (pe_can cL hr pass0 (pa_cons (pv 0) pa_nil)) (pe_one (pe_cmpR op_eq (pe_can cO hr pass0 (pa_cons (pv 1) (pa_cons pe_bl pa_nil))) (pv 2) (nomark _)))))
      (pss_cons (ps_if (PW.pt (pw_and (pt_val (pv 3)) (pw_and1 (pt_val (pv 4))))) (pss_one (ps_ret pe_str)) pss_nil)
      (pss_cons (ps_if (pt_val (pv 3)) (pss_one (ps_ret pe_str)) pss_nil)
      (pss_cons (ps_if (pt_val (pv 4)) (pss_one (ps_ret pe_str)) pss_nil)
      (pss_one (ps_ret pe_str)))))), ?_⟩
    have fin : ∀ (hv lv : Bool) (H2 : Hp), Same H H2 → hv = (mayH c && decide (p = o)) → lv = (mayL c && decide (other p = o)) →
        tSeq (tIfS (tAnd (tB (tVar 3)) (tB (tVar 4))) (tRet (tC (.str "e"))) tNext) (tSeq (tIfS (tB (tVar 3)) (tRet (tC (.str "h"))) tNext) (tSeq (tIfS (tB (tVar 4)) (tRet (tC (.str "l"))) tNext) (tRet (tC (.str "g"))))) { nx := fun _ H' => Q .non H', rt := Q }
          [some (.str (ch1 c)), some (.str (p3 p)), some (.str (p3 o)), some (.bl hv), some (.bl lv)] H2 := by
      intro hv lv H2 s2 e1 e2
      have q := k H2 s2
      unfold sb at q
      rw [← e1, ← e2] at q
      cases hv with
      | true =>
        refine ⟨_, rfl, _, rfl, iteT ⟨_, rfl, _, rfl, ?_⟩⟩
        cases lv with
        | true => refine iteT ?_; show Q (.str "e") H2; rw [s_e]; simpa using q
        | false =>
          refine iteF ⟨_, rfl, _, rfl, iteT ?_⟩
          show Q (.str "h") H2; rw [s_h]; simpa using q
      | false =>
        refine ⟨_, rfl, _, rfl, iteF (iteF ⟨_, rfl, _, rfl, iteF ⟨_, rfl, _, rfl, ?_⟩⟩)⟩
        cases lv with
        | true => refine iteT ?_; show Q (.str "l") H2; rw [s_l]; simpa using q
        | false => refine iteF ?_; show Q (.str "g") H2; rw [s_g]; simpa using q
    have lgt : ∀ (hv : Bool) (H1 : Hp), Same H H1 → hv = (mayH c && decide (p = o)) →
        tSeq (tAsg (tAndV (tCall spMayL [] E0 (tCons (tVar 0) tNil)) (tOp rEq (tCall spOut [] E0 (tCons (tVar 1) (tCons (tC (.bl false)) tNil))) (tVar 2))) (gName 4)) (tSeq (tIfS (tAnd (tB (tVar 3)) (tB (tVar 4))) (tRet (tC (.str "e"))) tNext) (tSeq (tIfS (tB (tVar 3)) (tRet (tC (.str "h"))) tNext) (tSeq (tIfS (tB (tVar 4)) (tRet (tC (.str "l"))) tNext) (tRet (tC (.str "g")))))) { nx := fun _ H' => Q .non H', rt := Q }
          [some (.str (ch1 c)), some (.str (p3 p)), some (.str (p3 o)), some (.bl hv), none] H1 := by
      intro hv H1 s1 e1
      refine ⟨_, rfl, c, rfl, fun H2 s2 => ⟨_, rfl, ?_⟩⟩
      cases e2 : mayL c with
      | true =>
        refine iteT ⟨_, rfl, p, false, rfl, _, rfl, rfl, ?_⟩
        refine fin hv _ H2 (s1.trans s2) e1 ?_
        rw [e2]; show decide (V.str (p3 (other p)) = V.str (p3 o)) = _; rw [dec_p3]; simp
      | false =>
        refine iteF ?_
        exact fin hv false H2 (s1.trans s2) e1 (by rw [e2]; rfl)
    refine ⟨_, rfl, c, rfl, fun H1 s1 => ⟨_, rfl, ?_⟩⟩
    cases e2 : mayH c with
    | true =>
      refine iteT ⟨_, rfl, p, true, rfl, _, rfl, rfl, ?_⟩
      refine lgt _ H1 s1 ?_
      rw [e2]; show decide (V.str (p3 p) = V.str (p3 o)) = _; rw [dec_p3]; simp
    | false =>
      refine iteF ?_
      exact lgt false H1 s1 (by rw [e2]; rfl)
end
end Ks
end
section
namespace Ks
open PySem L2 Mir
structure MkOk (z : Str) : Prop where
  sg : ∀ c ∈ z.cps.toList, Sign c
  ex : 101 ∈ z.cps.toList → 104 ∉ z.cps.toList ∧ 108 ∉ z.cps.toList
  len : z.length ≤ 100
theorem signs_count : ∀ {l : List Nat}, (∀ c ∈ l, Sign c) → l.count 101 + (l.count 104 + l.count 108) + l.count 103 = l.length
  | [], _ => rfl
  | c :: l, h => by
    have ih := signs_count fun d hd => h d (List.mem_cons_of_mem _ hd)
    have e : ∀ d, (c :: l).count d = l.count d + [c].count d := fun d => by rw [List.count_cons, List.count_cons, List.count_nil]; omega
    rw [e, e, e, e, List.length_cons]
    have q : [c].count 101 + ([c].count 104 + [c].count 108) + [c].count 103 = 1 := by
      rcases h c List.mem_cons_self with rfl | rfl | rfl | rfl <;> rfl
    omega
theorem str_len (z : Str) : z.length = z.cps.toList.length := by rw [Array.length_toList]; rfl
section
variable {P : Program} {w : World} {K : PySem.W.Frag} {mg : Str → Option Value} {base : Heap}
def spCM : Sp := fun vs H Q _ => ∃ z, vs = [.str z] ∧ MkOk z ∧ Q .non H
theorem scCM : FnScope ["marks", "either", "one_way"] ["marks"] (defScope (top 11)) := ⟨rfl, rfl, rfl, by decide +kernel, rfl, by decide +kernel, by decide +kernel⟩
theorem ok_cm {f : Addr} {fd : FuncData} (F : Fun K "check_marks" "check_marks" (top 11) f fd) (B : Blt mg) (T : Kit K) : FnOk P w K mg base CX0 1 f fd ["marks"] spCM := by
  refine F.ok scCM (fun vs H Q E h => ?_) (fun cdv A outer s H vs Q E hr h => ?_)
  · obtain ⟨z, rfl, _⟩ := h; rfl
  · obtain ⟨z, rfl, M, k⟩ := h
    refine ⟨_, pss_cons (ps_if (pt_not (pt_val (pe_callB call_isi (by rfl) B.isi boot_isi (pa_cons (pv 0) (pa_cons (pe_bltn (v := .ty "str") (by rfl) B.str boot_strT rfl) pa_nil))))) pss_never pss_nil)
      (pss_cons (ps_set (i := 1) scCM.nd rfl (Or.inl rfl) (pe_bm PySem.F.plainAttrs_str PySem.F.slot_str_count PySem.F.type_str_count mt_count (pv 0) (pa_cons pe_str pa_nil)))
      (pss_cons (ps_set (i := 2) scCM.nd rfl (Or.inl rfl) (pe_op op_add (pe_bm PySem.F.plainAttrs_str PySem.F.slot_str_count PySem.F.type_str_count mt_count (pv 0) (pa_cons pe_str pa_nil)) (pe_bm PySem.F.plainAttrs_str PySem.F.slot_str_count PySem.F.type_str_count mt_count (pv 0) (pa_cons pe_str pa_nil))))
      (pss_cons (ps_if (pt_cmpR op_ne (pe_op op_add (pe_op op_add (pv 1) (pv 2)) (pe_bm PySem.F.plainAttrs_str PySem.F.slot_str_count PySem.F.type_str_count mt_count (pv 0) (pa_cons pe_str pa_nil))) (pe_callB call_len_str (by rfl) B.len boot_lenB (pa_cons (pv 0) pa_nil)) (nomark _)) pss_never pss_nil)
      (pss_one (ps_if (PW.pt (pw_and (pt_cmpR op_gt (pv 1) pe_int (nomark _)) (pw_and1 (pt_cmpR op_gt (pv 2) pe_int (nomark _))))) pss_never pss_nil))))), ?_⟩
    refine ⟨_, rfl, _, _, _, _, rfl, .str z, T.ss, _, rfl, iteF ?_⟩
    refine ⟨_, rfl, rfl, z, 101, rfl, by rw [s_e], ?_⟩
    refine ⟨_, rfl, rfl, z, 104, rfl, by rw [s_h], _, rfl, rfl, z, 108, rfl, by rw [s_l], _, _, rfl, rfl, ?_⟩
    have hz : z.length ≤ sizeLine := Nat.le_trans M.len (by decide)
    refine ⟨_, rfl, _, rfl, _, _, rfl, rfl, _, rfl, rfl, z, 103, rfl, by rw [s_g], _, _, rfl, rfl, _, rfl, z, rfl, hz, rfl, _, rfl, ?_⟩
    have hc := signs_count M.sg
    refine iteNS (by
      show V.int _ = V.int _
      refine congrArg V.int ?_
      rw [str_len]; unfold cntS; omega) ?_
    refine ⟨_, rfl, _, _, rfl, rfl, _, rfl, ?_⟩
    by_cases h1 : (0 : Int) < (cntS 101 z : Int)
    · refine tru (decide_eq_true h1) ⟨_, rfl, _, _, rfl, rfl, _, rfl, ?_⟩
      have hm : 101 ∈ z.cps.toList := List.count_pos_iff.mp (by unfold cntS at h1; omega)
      obtain ⟨q1, q2⟩ := M.ex hm
      have z1 : cntS 104 z = 0 := List.count_eq_zero_of_not_mem q1
      have z2 : cntS 108 z = 0 := List.count_eq_zero_of_not_mem q2
      refine fls (by rw [z1, z2]; rfl) ?_
      exact k
    · refine fls (decide_eq_false h1) (fls rfl ?_)
      exact k
def spSide : Sp := fun vs H Q _ => ∃ (n : Int) (a : Addr) (ks : List Int), vs = [.int n, .ref a] ∧ H a = some (.lst (ks.map V.int)) ∧ ks.Pairwise (· < ·) ∧ (∀ k ∈ ks, 0 ≤ k ∧ k ≤ n) ∧ Q .non H
theorem scSide : FnScope ["highest", "side", "last", "coin"] ["highest", "side"] (defScope (top 12)) := ⟨rfl, rfl, rfl, by decide +kernel, rfl, by decide +kernel, by decide +kernel⟩
theorem ints_at {ks : List Int} {i : Nat} {y : V} (h : (ks.map V.int)[i]? = some y) : ∃ z, ks[i]? = some z ∧ y = .int z := by
  rw [List.getElem?_map] at h
  cases e : ks[i]? with
  | none => rw [e] at h; cases h
  | some z => rw [e] at h; exact ⟨z, rfl, (Option.some.inj h).symm⟩
theorem ok_side {f : Addr} {fd : FuncData} (F : Fun K "check_side" "check_side" (top 12) f fd) (B : Blt mg) (T : Kit K) (cW : Can P w K mg base CX0 1 "is_whole" ["value"] spWhole) : FnOk P w K mg base CX0 2 f fd ["highest", "side"] spSide := by
  refine F.ok scSide (fun vs H Q E h => ?_) (fun cdv A outer s H vs Q E hr h => ?_)
  · obtain ⟨n, a, ks, rfl, _⟩ := h; rfl
  · obtain ⟨n, a, ks, rfl, ha, hris, hin, k⟩ := h
    refine ⟨_, pss_cons (ps_if (pt_not (pt_val (pe_callB call_isi (by rfl) B.isi boot_isi (pa_cons (pv 1) (pa_cons (pe_bltn (v := .ty "list") (by rfl) B.list boot_listT rfl) pa_nil))))) pss_never pss_nil)
      (pss_cons (ps_set (i := 2) scSide.nd rfl (Or.inl rfl) (pe_un un_neg pe_int))
      (pss_one (ps_for PassesOwn.never rfl (pi_list (pv 1)) (pg_name (i := 3) scSide.nd rfl (Or.inl rfl))
        (pss_cons (ps_if (pt_not (pt_val (pe_can cW hr pass0 (pa_cons (pv 3) pa_nil)))) pss_never pss_nil)
        (pss_cons (ps_if (pt_cmpR op_le (pv 3) (pv 2) (nomark _)) pss_never pss_nil)
        (pss_cons (ps_if (pt_cmpR op_gt (pv 3) (pv 0) (nomark _)) pss_never pss_nil)
        (pss_one (ps_set (i := 2) scSide.nd rfl (Or.inl rfl) (pv 3))))))))), ?_⟩
    refine ⟨_, rfl, _, _, _, _, rfl, .lst ha, T.ll, _, rfl, iteF ?_⟩
    refine ⟨_, rfl, ?_⟩
    refine ⟨_, rfl, a, rfl, ⟨_, SqL.of ha⟩, for_list (K := K) (a := a) (xs := ks.map V.int) (fun i σ H2 => H2 = H ∧ ∃ (last : Int) (v : Option V), σ = [some (.int n), some (.ref a), some (.int last), v] ∧ last = (if i = 0 then -1 else ks.getD (i - 1) 0))
      ⟨rfl, _, _, rfl, rfl⟩ (fun i σ H2 _ ⟨e, _⟩ => by rw [e]; exact SqL.of ha) ?_ ?_⟩
    · rintro i y σ H2 hi ⟨rfl, last, v, rfl, hl⟩
      obtain ⟨z, hz, rfl⟩ := ints_at hi
      have hil : i < ks.length := (List.getElem?_eq_some_iff.mp hz).1
      have hzv : ks[i] = z := by rw [List.getElem?_eq_getElem hil] at hz; exact Option.some.inj hz
      obtain ⟨h0, hn⟩ := hin z (hzv ▸ List.getElem_mem hil)
      have hlt : last < z := by
        rw [hl]
        split
        · omega
        · rename_i hne
          have hp : i - 1 < ks.length := by omega
          have e : ks.getD (i - 1) 0 = ks[i - 1] := by simp [List.getD, hp]
          rw [e, ← hzv]
          exact List.pairwise_iff_getElem.mp hris (i - 1) i hp hil (by omega)
      refine ⟨_, rfl, z, rfl, _, rfl, iteF ?_⟩
      refine ⟨_, rfl, _, rfl, _, _, rfl, rfl, _, rfl, fls (decide_eq_false (by omega)) ?_⟩
      refine ⟨_, rfl, _, rfl, _, _, rfl, rfl, _, rfl, fls (decide_eq_false (by omega)) ?_⟩
      refine ⟨_, rfl, rfl, z, _, rfl, ?_⟩
      simp [hz]
    · rintro σ H2 ⟨rfl, last, v, rfl, hl⟩
      exact k
def spCW : Sp := fun vs H Q _ => ∃ (n : Int) (a b : Addr) (l r : List Int), vs = [.int n, .ref a, .ref b] ∧ H a = some (.lst (l.map V.int)) ∧ H b = some (.lst (r.map V.int)) ∧ Wg n l r ∧ l.length ≤ 100 ∧ ∀ H', Same H H' → Q .non H'
theorem scCW : FnScope ["highest", "left", "right"] ["highest", "left", "right"] (defScope (top 13)) := ⟨rfl, rfl, rfl, by decide +kernel, rfl, by decide +kernel, by decide +kernel⟩
theorem ok_cw {f : Addr} {fd : FuncData} (F : Fun K "check_weighing" "check_weighing" (top 13) f fd) (B : Blt mg) (cS : Can P w K mg base CX0 2 "check_side" ["highest", "side"] spSide) : FnOk P w K mg base CX0 3 f fd ["highest", "left", "right"] spCW := by
  refine F.ok scCW (fun vs H Q E h => ?_) (fun cdv A outer s H vs Q E hr h => ?_)
  · obtain ⟨n, a, b, l, r, rfl, _⟩ := h; rfl
  · obtain ⟨n, a, b, l, r, rfl, ha, hb, W, hlen, k⟩ := h
    refine ⟨_, pss_cons (ps_expr (pe_can cS hr pass0 (pa_cons (pv 0) (pa_cons (pv 1) pa_nil))))
      (pss_cons (ps_expr (pe_can cS hr pass0 (pa_cons (pv 0) (pa_cons (pv 2) pa_nil))))
      (pss_cons (ps_if (pt_cmpR op_ne (pe_callB call_len_seq (by rfl) B.len boot_lenB (pa_cons (pv 1) pa_nil)) (pe_callB call_len_seq (by rfl) B.len boot_lenB (pa_cons (pv 2) pa_nil)) (nomark _)) pss_never pss_nil)
      (pss_one (ps_if (pt_cmpR op_gt (pe_callB call_lenS (by rfl) B.len boot_lenB (pa_cons (pe_op op_andS (pe_callTy (call_setL rfl) (by rfl) B.set boot_setT (pa_cons (pv 1) pa_nil)) (pe_callTy (call_setL rfl) (by rfl) B.set boot_setT (pa_cons (pv 2) pa_nil))) pa_nil)) pe_int (nomark _)) pss_never pss_nil)))), ?_⟩
    refine ⟨_, rfl, _, rfl, n, a, l, rfl, ha, W.risL, W.inL, ?_⟩
    refine ⟨_, rfl, _, rfl, n, b, r, rfl, hb, W.risR, W.inR, ?_⟩
    refine ⟨_, rfl, a, _, rfl, .inl (SqL.of ha), _, rfl, b, _, rfl, .inl (SqL.of hb), rfl, _, rfl, ?_⟩
    refine iteNS (by
      show V.int _ = V.int _
      rw [List.length_map, List.length_map, W.len]) ?_
    refine ⟨_, rfl, a, l, rfl, SqL.of ha, by omega, fun p1 m1 hp1 e1 n1 => ?_⟩
    have hb1 : upd H p1 (SetO w p1 m1) b = some (.lst (r.map V.int)) := by rw [upd_ne (ne_of_none hb hp1)]; exact hb
    refine ⟨_, rfl, b, r, rfl, SqL.of hb1, by rw [← W.len]; omega, fun p2 m2 hp2 e2 n2 => ?_⟩
    have h12 : p2 ≠ p1 := fun z => by rw [z, upd_same] at hp2; cases hp2
    have q1 : upd (upd H p1 (SetO w p1 m1)) p2 (SetO w p2 m2) p1 = some (SetO w p1 m1) := by rw [upd_ne (Ne.symm h12), upd_same]
    refine ⟨p1, p2, m1, m2, rfl, rfl, h12, q1, upd_same, fun p3' ks hp3 e3 => ?_⟩
    refine ⟨p3', ks, rfl, upd_same, _, _, rfl, rfl, _, rfl, ?_⟩
    have hk : ks = [] := by
      cases ks with
      | nil => rfl
      | cons y t =>
        have := (e3 y).mp List.mem_cons_self
        exact absurd ((e2 y).mp this.2) (W.dis y ((e1 y).mp this.1))
    subst hk
    refine iteF ?_
    have s1 : Same H (upd H p1 (SetO w p1 m1)) := Same.upd0 hp1
    exact k _ ((s1.upd hp2).upd hp3)
def spCO : Sp := fun vs H Q _ => ∃ o : P3, vs = [.str (p3 o)] ∧ Q .non H
theorem scCO : FnScope ["outcome"] ["outcome"] (defScope (top 14)) := ⟨rfl, rfl, rfl, by decide +kernel, rfl, by decide +kernel, by decide +kernel⟩
theorem inV_p3 (o : P3) : inV (.str (p3 o)) [.str "left", .str "right", .str "even"] = true := by cases o <;> decide +kernel
theorem outs_sq {H : Hp} {d : Addr} {o : Obj} {its : Array Value} {n : Nat} (h1 : K.lookup d = some o) (h2 : o.cls = .type "tuple") (h3 : o.data = .seq its n) (h4 : Vals [.str "left", .str "right", .str "even"] its.toList) : SqT K H d [.str "left", .str "right", .str "even"] :=
  .inr ⟨o, its, n, h1, h2, h3, by have := h4.length; simp at this; rw [← this]; decide, h4⟩
theorem ok_co {f : Addr} {fd : FuncData} (F : Fun K "check_outcome" "check_outcome" (top 14) f fd) (B : Blt mg) (T : Kit K) (O : Outs K mg) : FnOk P w K mg base CX0 1 f fd ["outcome"] spCO := by
  refine F.ok scCO (fun vs H Q E h => ?_) (fun cdv A outer s H vs Q E hr h => ?_)
  · obtain ⟨o, rfl, _⟩ := h; rfl
  · obtain ⟨o, rfl, k⟩ := h
    obtain ⟨d, ob, its, n, m1, m2, m3, m4, m5, m6⟩ := O
    refine ⟨_, pss_one (ps_if (PW.pt (pw_or (pt_not (pt_val (pe_callB call_isi (by rfl) B.isi boot_isi (pa_cons (pv 0) (pa_cons (pe_bltn (v := .ty "str") (by rfl) B.str boot_strT rfl) pa_nil)))))
      (pw_or1 (pt_cmpR op_notIn_seq (pv 0) (pe_glob (v := .ref d) (by rfl) m1 rfl) rfl)))) pss_never pss_nil), ?_⟩
    refine ⟨_, rfl, _, _, _, _, rfl, .str _, T.ss, _, rfl, iteF ?_⟩
    refine ⟨_, rfl, d, _, rfl, .inr (outs_sq m2 m3 m5 m6), rfl, rfl, _, rfl, ?_⟩
    rw [inV_p3]
    exact iteF k
def spOdd : Sp := fun vs H Q _ => ∃ (n k : Int) (b : Bool), vs = [.int n, .int k, .bl b] ∧ 0 ≤ n ∧ -1 ≤ k ∧ k < n ∧ Q .non H
theorem scOdd : FnScope ["coins", "odd", "heavy"] ["coins", "odd", "heavy"] (defScope (top 15)) := ⟨rfl, rfl, rfl, by decide +kernel, rfl, by decide +kernel, by decide +kernel⟩
theorem ok_odd {f : Addr} {fd : FuncData} (F : Fun K "check_odd" "check_odd" (top 15) f fd) (B : Blt mg) (T : Kit K) (cW : Can P w K mg base CX0 1 "is_whole" ["value"] spWhole) : FnOk P w K mg base CX0 2 f fd ["coins", "odd", "heavy"] spOdd := by
  refine F.ok scOdd (fun vs H Q E h => ?_) (fun cdv A outer s H vs Q E hr h => ?_)
  · obtain ⟨n, k, b, rfl, _⟩ := h; rfl
  · obtain ⟨n, k, b, rfl, h0, h1, h2, q⟩ := h
    refine ⟨_, pss_cons (ps_if (PW.pt (pw_or (pt_not (pt_val (pe_can cW hr pass0 (pa_cons (pv 0) pa_nil)))) (pw_or1 (pt_cmpR op_lt (pv 0) pe_int (nomark _))))) pss_never pss_nil)
      (pss_cons (ps_if (PW.pt (pw_or (pt_not (pt_val (pe_can cW hr pass0 (pa_cons (pv 1) pa_nil)))) (pw_or (pt_cmpR op_lt (pv 1) (pe_un un_neg pe_int) (nomark _)) (pw_or1 (pt_cmpR op_ge (pv 1) (pv 0) (nomark _)))))) pss_never pss_nil)
      (pss_one (ps_if (pt_not (pt_val (pe_callB call_isi (by rfl) B.isi boot_isi (pa_cons (pv 2) (pa_cons (pe_bltn (v := .ty "bool") (by rfl) B.bool boot_boolT rfl) pa_nil))))) pss_never pss_nil))), ?_⟩
    refine ⟨_, rfl, n, rfl, _, rfl, iteF ⟨_, rfl, _, _, rfl, rfl, _, rfl, fls (decide_eq_false (by omega)) ?_⟩⟩
    refine ⟨_, rfl, k, rfl, _, rfl, iteF ⟨_, rfl, _, rfl, _, _, rfl, rfl, _, rfl, fls (decide_eq_false (by omega)) ⟨_, rfl, _, rfl, _, _, rfl, rfl, _, rfl, fls (decide_eq_false (by omega)) ?_⟩⟩⟩
    exact ⟨_, rfl, _, _, _, _, rfl, .bl b, T.bb, _, rfl, iteF q⟩
def spPl : Sp := fun vs H Q _ => ∃ (a b : Addr) (l r : List Int), vs = [.ref a, .ref b] ∧ H a = some (.lst (l.map V.int)) ∧ H b = some (.lst (r.map V.int)) ∧ l.length ≤ 100 ∧ r.length ≤ 100 ∧
  ∀ (p : Addr) (kvs : List (Key × V)) (H' : Hp), H p = none → Same H H' → H' p = some (.dK kvs) → (∀ k : Int, ((valV kvs (Sum.inl k : Key)).getD (.str "even")) = .str (p3 (pl l r k))) → Q (.ref p) H'
theorem scPl : FnScope ["left", "right", "places", "coin"] ["left", "right"] (defScope (top 18)) := ⟨rfl, rfl, rfl, by decide +kernel, rfl, by decide +kernel, by decide +kernel⟩
theorem ok_pl {f : Addr} {fd : FuncData} (F : Fun K "placed" "placed" (top 18) f fd) : FnOk P w K mg base CX0 1 f fd ["left", "right"] spPl := by
  refine F.ok scPl (fun vs H Q E h => ?_) (fun cdv A outer s H vs Q E hr h => ?_)
  · obtain ⟨a, b, l, r, rfl, _⟩ := h; rfl
  · obtain ⟨a, b, l, r, rfl, ha, hb, hl, hrr, k⟩ := h
    have hu := hu_of hr
    refine ⟨_, pss_cons (ps_set (i := 2) scPl.nd rfl (Or.inl rfl) pe_dnewK)
      (pss_cons (ps_for PassesOwn.never rfl (pi_list (pv 0)) (pg_name (i := 3) scPl.nd rfl (Or.inl rfl)) (pss_one (ps_dput hu (pv 2) (pv 3) pe_str rfl)))
      (pss_cons (ps_for PassesOwn.never rfl (pi_list (pv 1)) (pg_name (i := 3) scPl.nd rfl (Or.inl rfl)) (pss_one (ps_dput hu (pv 2) (pv 3) pe_str rfl)))
      (pss_one (ps_ret (pv 2))))), ?_⟩
    intro p hp
    have na : a ≠ p := ne_of_none ha hp
    have nb : b ≠ p := ne_of_none hb hp
    refine ⟨_, rfl, a, rfl, ⟨_, SqL.of (by rw [upd_ne na]; exact ha)⟩, for_list (K := K) (a := a) (xs := l.map V.int) (fun i σ H2 => ∃ (kvs : List (Key × V)) (v : Option V), σ = [some (.ref a), some (.ref b), some (.ref p), v] ∧ H2 = upd H p (.dK kvs) ∧ kvs.length ≤ i ∧ ∀ k : Int, valV kvs (Sum.inl k : Key) = if k ∈ l.take i then some (.str "left") else none)
      ⟨[], none, rfl, rfl, Nat.le_refl _, fun k => by simp [valV_nil]⟩ (fun i σ H2 _ ⟨kvs, v, _, e, _⟩ => by rw [e]; exact SqL.of (by rw [upd_ne na]; exact ha)) ?_ ?_⟩
    · rintro i y σ H2 hi ⟨kvs, v, rfl, rfl, hk, hv⟩
      obtain ⟨z, hz, rfl⟩ := ints_at hi
      have hil : i < l.length := (List.getElem?_eq_some_iff.mp hz).1
      refine ⟨_, rfl, _, rfl, p, _, rfl, DPut.k (k := Sum.inl z) upd_same (small1000 (by omega)), ?_⟩
      refine ⟨_, _, rfl, by rw [upd_upd], Nat.le_trans (length_putK _ _ _) (by omega), fun k => ?_⟩
      rw [valV_put, hv k]
      have ht : l.take (i + 1) = l.take i ++ [z] := by rw [List.take_succ, hz]; rfl
      rw [ht]
      by_cases e : k = z
      · subst e; simp
      · have e' : ¬ (Sum.inl k : Key) = Sum.inl z := fun q => e (Sum.inl.inj q)
        rw [if_neg e']
        simp [e]
    · rintro σ H2 ⟨kvs0, v0, rfl, rfl, hk0, hv0⟩
      have hvL : ∀ k : Int, valV kvs0 (Sum.inl k : Key) = if k ∈ l then some (.str "left") else none := fun k => by
        have := hv0 k
        rw [List.length_map] at this
        rwa [List.take_length] at this
      rw [List.length_map] at hk0
      refine ⟨_, rfl, b, rfl, ⟨_, SqL.of (by rw [upd_ne nb]; exact hb)⟩, for_list (K := K) (a := b) (xs := r.map V.int) (fun i σ H2 => ∃ (kvs : List (Key × V)) (v : Option V), σ = [some (.ref a), some (.ref b), some (.ref p), v] ∧ H2 = upd H p (.dK kvs) ∧ kvs.length ≤ 100 + i ∧ ∀ k : Int, valV kvs (Sum.inl k : Key) = if k ∈ r.take i then some (.str "right") else if k ∈ l then some (.str "left") else none)
        ⟨kvs0, _, rfl, rfl, by omega, fun k => by rw [hvL]; simp⟩ (fun i σ H2 _ ⟨kvs, v, _, e, _⟩ => by rw [e]; exact SqL.of (by rw [upd_ne nb]; exact hb)) ?_ ?_⟩
      · rintro i y σ H2 hi ⟨kvs, v, rfl, rfl, hk, hv⟩
        obtain ⟨z, hz, rfl⟩ := ints_at hi
        have hil : i < r.length := (List.getElem?_eq_some_iff.mp hz).1
        refine ⟨_, rfl, _, rfl, p, _, rfl, DPut.k (k := Sum.inl z) upd_same (small1000 (by omega)), ?_⟩
        refine ⟨_, _, rfl, by rw [upd_upd], Nat.le_trans (length_putK _ _ _) (by omega), fun k => ?_⟩
        rw [valV_put, hv k]
        have ht : r.take (i + 1) = r.take i ++ [z] := by rw [List.take_succ, hz]; rfl
        rw [ht]
        by_cases e : k = z
        · subst e; simp
        · have e' : ¬ (Sum.inl k : Key) = Sum.inl z := fun q => e (Sum.inl.inj q)
          rw [if_neg e']
          simp [e]
      · rintro σ H2 ⟨kvs, v, rfl, rfl, hk, hv⟩
        refine ⟨_, rfl, k p kvs _ hp (Same.upd0 hp) upd_same fun k' => ?_⟩
        have := hv k'
        rw [List.length_map, List.take_length] at this
        rw [this]
        unfold pl
        by_cases h1 : k' ∈ r
        · simp [h1, p3]
        · by_cases h2 : k' ∈ l
          · simp [h1, h2, p3]
          · simp [h1, h2, p3]
end
end Ks
end
section
namespace L2
theorem Same.put {H H' : Hp} {p : PySem.Addr} {o : HO} (h : Same H H') (hp : H p = none) : Same H (L2.upd H' p o) := fun b u e => by rw [upd_ne (ne_of_none e hp)]; exact h b u e
end L2
namespace Ks
open PySem L2 Mir
def jd (z : Str) (l r : List Int) (o : P3) : Nat := cs1 l r o 0 z.cps.toList + (if o = .E ∧ allG z = true then 1 else 0)
def CSt (H : Hp) (pd cd : Addr) (pk : List (Key × V)) (f : P3 → Nat) (n : Nat) (H4 : Hp) : Prop :=
  Same H H4 ∧ H4 pd = some (.dK pk) ∧ ∃ kvs : List (Key × V), H4 cd = some (.dK kvs) ∧ kvs.length ≤ n ∧ ∀ o : P3, valV kvs (Sum.inr (p3 o) : Key) = some (.int (f o))
theorem CSt.same {H : Hp} {pd cd : Addr} {pk : List (Key × V)} {f : P3 → Nat} {n : Nat} {H4 H5 : Hp} (h : CSt H pd cd pk f n H4) (s : Same H4 H5) : CSt H pd cd pk f n H5 := by
  obtain ⟨s1, e1, kvs, e2, hl, hv⟩ := h
  exact ⟨s1.trans s, s _ _ e1, kvs, s _ _ e2, hl, hv⟩
theorem CSt.put {H : Hp} {pd cd : Addr} {pk : List (Key × V)} {f : P3 → Nat} {n : Nat} {H4 : Hp} {kvs : List (Key × V)} (hc : H cd = none) (ne : pd ≠ cd) (s1 : Same H H4) (e1 : H4 pd = some (.dK pk)) (hl : kvs.length ≤ n) (hv : ∀ o : P3, valV kvs (Sum.inr (p3 o) : Key) = some (.int (f o))) (q : P3) :
    CSt H pd cd pk (fun o => f o + if decide (q = o) then 1 else 0) (n + 1) (upd H4 cd (.dK (putK kvs (Sum.inr (p3 q)) (.int ((f q : Int) + 1))))) := by
  refine ⟨s1.put hc, by rw [upd_ne ne]; exact e1, _, upd_same, Nat.le_trans (length_putK _ _ _) (by omega), fun o => ?_⟩
  rw [valV_put]
  by_cases e : o = q
  · subst e; simp
  · have e' : ¬ (Sum.inr (p3 o) : Key) = Sum.inr (p3 q) := fun z => e (p3_inj.mp (Sum.inr.inj z))
    rw [if_neg e', hv o]
    have e2 : ¬ q = o := fun z => e z.symm
    simp [e2]
section
variable {P : Program} {w : World} {K : PySem.W.Frag} {mg : Str → Option Value} {base : Heap}
def spJd : Sp := fun vs H Q _ => ∃ (z : Str) (a b : Addr) (l r : List Int), vs = [.str z, .ref a, .ref b] ∧ MkOk z ∧ H a = some (.lst (l.map V.int)) ∧ H b = some (.lst (r.map V.int)) ∧ Wg z.length l r ∧ l.length ≤ 100 ∧
  ∀ (H' : Hp) (p : Addr), Same H H' → H p = none → H' p = some (.tup [.int (jd z l r .L), .int (jd z l r .R), .int (jd z l r .E)]) → Q (.ref p) H'
theorem scJd : FnScope ["marks", "left", "right", "places", "counts", "coin", "sign", "place", "outcome"] ["marks", "left", "right"] (defScope (top 24)) := ⟨rfl, rfl, rfl, by decide +kernel, rfl, by decide +kernel, by decide +kernel⟩
theorem p3L : p3 .L = "left" := rfl
theorem p3R : p3 .R = "right" := rfl
theorem p3E : p3 .E = "even" := rfl
theorem ok_jd {f : Addr} {fd : FuncData} (F : Fun K "judged" "judged" (top 24) f fd) (B : Blt mg) (cM : Can P w K mg base CX0 1 "check_marks" ["marks"] spCM) (cW : Can P w K mg base CX0 3 "check_weighing" ["highest", "left", "right"] spCW)
    (cP : Can P w K mg base CX0 1 "placed" ["left", "right"] spPl) (cH : Can P w K mg base CX0 1 "may_be_heavy" ["sign"] spMayH) (cL : Can P w K mg base CX0 1 "may_be_light" ["sign"] spMayL) (cO : Can P w K mg base CX0 1 "outcome_by" ["place", "heavy"] spOut)
    (cG : Can P w K mg base CX0 1 "may_all_be_good" ["marks"] spAllG) : FnOk P w K mg base CX0 4 f fd ["marks", "left", "right"] spJd := by
  refine F.ok scJd (fun vs H Q E h => ?_) (fun cdv A outer s H vs Q E hr h => ?_)
  · obtain ⟨z, a, b, l, r, rfl, _⟩ := h; rfl
  · obtain ⟨z, a, b, l, r, rfl, M, ha, hb, W, hlen, k⟩ := h
    have hu := hu_of hr
    have hr1 : Room 1 _ := hr.mono (by decide)
    refine ⟨_, pss_cons (ps_expr (pe_can cM hr1 pass0 (pa_cons (pv 0) pa_nil)))
      (pss_cons (ps_expr (pe_can cW hr pass0 (pa_cons (pe_callB call_len_str (by rfl) B.len boot_lenB (pa_cons (pv 0) pa_nil)) (pa_cons (pv 1) (pa_cons (pv 2) pa_nil)))))
      (pss_cons (ps_set (i := 3) scJd.nd rfl (Or.inl rfl) (pe_can cP hr1 pass0 (pa_cons (pv 1) (pa_cons (pv 2) pa_nil))))
      (pss_cons (ps_set (i := 4) scJd.nd rfl (Or.inl rfl) (pe_disp (pps_cons pe_str pe_int (pps_cons pe_str pe_int (pps_cons pe_str pe_int pps_nil))) rfl rfl (by simp) (by decide)))
      (pss_cons (ps_for PassesOwn.never rfl (pi_enumS (by rfl) B.enum (pv 0)) (pg_tup rfl (pgs_cons (pg_name (i := 5) scJd.nd rfl (Or.inl rfl)) (pgs_cons (pg_name (i := 6) scJd.nd rfl (Or.inl rfl)) pgs_nil)))
        (pss_cons (ps_set (i := 7) scJd.nd rfl (Or.inl rfl) (pe_dget2 hu (pv 3) (pv 5) pe_str ⟨rfl, rfl, rfl, rfl⟩))
        (pss_cons (ps_if (pt_val (pe_can cH hr1 pass0 (pa_cons (pv 6) pa_nil)))
          (pss_cons (ps_set (i := 8) scJd.nd rfl (Or.inl rfl) (pe_can cO hr1 pass0 (pa_cons (pv 7) (pa_cons pe_bl pa_nil))))
          (pss_one (ps_dput hu (pv 4) (pv 8) (pe_op op_add (pe_dget hu (pv 4) (pv 8) (fun _ _ => rfl)) pe_int) rfl))) pss_nil)
        (pss_one (ps_if (pt_val (pe_can cL hr1 pass0 (pa_cons (pv 6) pa_nil)))
          (pss_cons (ps_set (i := 8) scJd.nd rfl (Or.inl rfl) (pe_can cO hr1 pass0 (pa_cons (pv 7) (pa_cons pe_bl pa_nil))))
          (pss_one (ps_dput hu (pv 4) (pv 8) (pe_op op_add (pe_dget hu (pv 4) (pv 8) (fun _ _ => rfl)) pe_int) rfl))) pss_nil)))))
      (pss_cons (ps_if (pt_val (pe_can cG hr1 pass0 (pa_cons (pv 0) pa_nil))) (pss_one (ps_dput hu (pv 4) pe_str (pe_op op_add (pe_dget hu (pv 4) pe_str (fun _ _ => rfl)) pe_int) rfl)) pss_nil)
      (pss_one (ps_ret (pe_tup (pa_cons (pe_dget hu (pv 4) pe_str (fun _ _ => rfl)) (pa_cons (pe_dget hu (pv 4) pe_str (fun _ _ => rfl)) (pa_cons (pe_dget hu (pv 4) pe_str (fun _ _ => rfl)) pa_nil))))))))))), ?_⟩
    have hz : z.length ≤ sizeLine := Nat.le_trans M.len (by decide)
    refine ⟨_, rfl, z, rfl, M, ?_⟩
    refine ⟨_, rfl, z, rfl, hz, _, rfl, _, rfl, z.length, a, b, l, r, rfl, ha, hb, W, hlen, fun H1 s1 => ?_⟩
    refine ⟨_, rfl, _, rfl, a, b, l, r, rfl, s1 _ _ ha, s1 _ _ hb, hlen, by rw [← W.len]; exact hlen, fun pd pk H2 hpd s2 e2 hpl => ?_⟩
    have s02 := s1.trans s2
    have hpd0 : H pd = none := s1.free hpd
    intro cd hcd
    have hcd0 : H cd = none := s02.free hcd
    have ned : pd ≠ cd := ne_of_none e2 hcd
    refine ⟨upd_same, [(Sum.inr "left", .int 0), (Sum.inr "right", .int 0), (Sum.inr "even", .int 0)], rfl, by decide, ?_⟩
    have start0 : CSt H pd cd pk (fun _ => 0) 3 (upd (upd H2 cd (.dK [])) cd (.dK (mergeK [] [(Sum.inr "left", V.int 0), (Sum.inr "right", V.int 0), (Sum.inr "even", V.int 0)]))) := by
      rw [upd_upd]
      refine ⟨s02.put hcd0, by rw [upd_ne ned]; exact e2, _, upd_same, by decide +kernel, fun o => ?_⟩
      cases o <;> decide +kernel
    refine ⟨_, rfl, z, rfl, for_enumS (x := z) (fun i σ H4 => ∃ (v5 v6 v7 v8 : Option V), σ = [some (.str z), some (.ref a), some (.ref b), some (.ref pd), some (.ref cd), v5, v6, v7, v8] ∧ CSt H pd cd pk (fun o => cs1 l r o 0 (z.cps.toList.take i)) (3 + 2 * i) H4)
      ⟨none, none, none, none, rfl, start0⟩ ?_ ?_⟩
    · rintro i c t σ H4 hi ht ⟨v5, v6, v7, v8, rfl, C0⟩
      have hil : i < z.cps.size := (Array.getElem?_eq_some_iff.mp hi).1
      have hi100 : i < 100 := by have := M.len; have e : z.length = z.cps.size := rfl; omega
      have hic : z.cps.toList[i]? = some c := by simpa using hi
      refine ⟨t, _, rfl, SqT.of upd_same, rfl, _, _, rfl, _, _, rfl, rfl, ?_⟩
      have C1 := C0.same (Same.upd0 (o := .tup [V.int i, V.str ⟨#[c]⟩]) ht)
      obtain ⟨_, ep, _⟩ := id C1
      refine ⟨_, rfl, pd, rfl, .inl ⟨pk, .inl ep⟩, _, rfl, _, DGet.k (k := Sum.inl (i : Int)) ep, ?_⟩
      rw [show (valV pk (Sum.inl (i : Int) : Key)).getD (V.str "even") = V.str (p3 (pl l r i)) from hpl i]
      generalize hp : pl l r i = p
      have done : ∀ (v8' : Option V) (H7 : Hp), CSt H pd cd pk (fun o => cs1 l r o 0 (z.cps.toList.take i) + c1 c p o) (3 + 2 * i + 2) H7 →
          ∃ (v5 v6 v7 v8 : Option V), [some (V.str z), some (.ref a), some (.ref b), some (.ref pd), some (.ref cd), some (.int i), some (.str ⟨#[c]⟩), some (.str (p3 p)), v8'] = [some (.str z), some (.ref a), some (.ref b), some (.ref pd), some (.ref cd), v5, v6, v7, v8] ∧
            CSt H pd cd pk (fun o => cs1 l r o 0 (z.cps.toList.take (i + 1))) (3 + 2 * (i + 1)) H7 := by
        intro v8' H7 C7
        refine ⟨_, _, _, _, rfl, ?_⟩
        have ef : (fun o => cs1 l r o 0 (z.cps.toList.take (i + 1))) = fun o => cs1 l r o 0 (z.cps.toList.take i) + c1 c p o := by
          funext o
          have ht : z.cps.toList.take (i + 1) = z.cps.toList.take i ++ [c] := by rw [List.take_succ, hic]; rfl
          rw [ht, cs1_snoc]
          have hlen' : (z.cps.toList.take i).length = i := by rw [List.length_take]; simp; omega
          rw [hlen', Nat.zero_add, hp]
        rw [ef]
        exact C7
      have light : ∀ (v8' : Option V) (H5 : Hp) (g : P3 → Nat), CSt H pd cd pk g (3 + 2 * i + 1) H5 → (∀ o, g o + (if mayL c && decide (other p = o) then 1 else 0) = cs1 l r o 0 (z.cps.toList.take i) + c1 c p o) →
          tIfS (tB (tCall spMayL [] E0 (tCons (tVar 6) tNil))) (tSeq (tAsg (tCall spOut [] E0 (tCons (tVar 7) (tCons (tC (.bl false)) tNil))) (gName 8)) (sDPut (tVar 4) (tVar 8) (tOp (rI0 fun i j => .int (i + j)) (tDGet (tVar 4) (tVar 8)) (tC (.int 1))))) tNext
            { nx := fun σ H4 => ∃ (v5 v6 v7 v8 : Option V), σ = [some (.str z), some (.ref a), some (.ref b), some (.ref pd), some (.ref cd), v5, v6, v7, v8] ∧ CSt H pd cd pk (fun o => cs1 l r o 0 (z.cps.toList.take (i + 1))) (3 + 2 * (i + 1)) H4, rt := Q }
            [some (V.str z), some (.ref a), some (.ref b), some (.ref pd), some (.ref cd), some (.int i), some (.str ⟨#[c]⟩), some (.str (p3 p)), v8'] H5 := by
        intro v8' H5 g C5 hg
        refine ⟨_, rfl, c, rfl, fun H6 s6 => ⟨_, rfl, ?_⟩⟩
        have C6 := C5.same s6
        cases e2 : mayL c with
        | true =>
          refine iteT ⟨_, rfl, p, false, rfl, ?_⟩
          obtain ⟨q1, q2, kvs, q3, q4, q5⟩ := C6
          refine ⟨_, rfl, _, rfl, cd, _, rfl, by have := DGet.k (k := Sum.inr (p3 (other p))) q3; rw [q5] at this; exact this, _, _, rfl, rfl, ?_⟩
          refine ⟨_, rfl, _, rfl, cd, _, rfl, DPut.k (k := Sum.inr (p3 (other p))) q3 (small1000 (by omega)), ?_⟩
          refine done _ _ ?_
          have C7 := CSt.put (n := 3 + 2 * i + 1) hcd0 ned q1 q2 q4 q5 (other p)
          have eg : (fun o => g o + if decide (other p = o) then 1 else 0) = fun o => cs1 l r o 0 (z.cps.toList.take i) + c1 c p o := by
            funext o; rw [← hg o, e2]; rfl
          rw [eg] at C7
          exact C7
        | false =>
          refine iteF ?_
          refine done _ _ ?_
          have eg : g = fun o => cs1 l r o 0 (z.cps.toList.take i) + c1 c p o := by
            funext o; rw [← hg o, e2]; simp
          rw [← eg]
          obtain ⟨q1, q2, kvs, q3, q4, q5⟩ := C6
          exact ⟨q1, q2, kvs, q3, by omega, q5⟩
      refine ⟨_, rfl, c, rfl, fun H5 s5 => ⟨_, rfl, ?_⟩⟩
      have C2 := C1.same s5
      cases e1 : mayH c with
      | true =>
        refine iteT ⟨_, rfl, p, true, rfl, ?_⟩
        obtain ⟨q1, q2, kvs, q3, q4, q5⟩ := C2
        refine ⟨_, rfl, _, rfl, cd, _, rfl, by have := DGet.k (k := Sum.inr (p3 p)) q3; rw [q5] at this; exact this, _, _, rfl, rfl, ?_⟩
        refine ⟨_, rfl, _, rfl, cd, _, rfl, DPut.k (k := Sum.inr (p3 p)) q3 (small1000 (by omega)), ?_⟩
        refine light _ _ _ (CSt.put (n := 3 + 2 * i) hcd0 ned q1 q2 q4 q5 p) fun o => ?_
        unfold c1; rw [e1]; simp; omega
      | false =>
        refine iteF ?_
        obtain ⟨q1, q2, kvs, q3, q4, q5⟩ := C2
        refine light _ _ _ ⟨q1, q2, kvs, q3, by omega, q5⟩ fun o => ?_
        unfold c1; rw [e1]; simp
    · rintro σ H4 ⟨v5, v6, v7, v8, rfl, C0⟩
      have e0 : z.cps.toList.take z.cps.size = z.cps.toList := List.take_of_length_le (by simp)
      rw [e0] at C0
      have hsz : z.cps.size ≤ 100 := M.len
      have fin : ∀ (H5 : Hp) (n : Nat), CSt H pd cd pk (jd z l r) n H5 → n ≤ 500 →
          tRet (tTup (tCons (tDGet (tVar 4) (tC (.str "left"))) (tCons (tDGet (tVar 4) (tC (.str "right"))) (tCons (tDGet (tVar 4) (tC (.str "even"))) tNil)))) { nx := fun _ H' => Q .non H', rt := Q }
            [some (V.str z), some (.ref a), some (.ref b), some (.ref pd), some (.ref cd), v5, v6, v7, v8] H5 := by
        intro H5 n C5 _
        obtain ⟨q1, q2, kvs, q3, q4, q5⟩ := C5
        refine ⟨_, rfl, cd, .int (jd z l r .L), rfl, by have := DGet.k (k := Sum.inr "left") q3; rw [← p3L, q5] at this; exact this, ?_⟩
        refine ⟨_, rfl, cd, .int (jd z l r .R), rfl, by have := DGet.k (k := Sum.inr "right") q3; rw [← p3R, q5] at this; exact this, ?_⟩
        refine ⟨_, rfl, cd, .int (jd z l r .E), rfl, by have := DGet.k (k := Sum.inr "even") q3; rw [← p3E, q5] at this; exact this, ?_⟩
        refine ⟨by show 3 ≤ sizeLine; decide, fun t ht => ?_⟩
        exact k _ t (q1.upd ht) (q1.free ht) upd_same
      refine ⟨_, rfl, z, rfl, _, rfl, ?_⟩
      cases eG : allG z with
      | true =>
        refine iteT ?_
        obtain ⟨q1, q2, kvs, q3, q4, q5⟩ := C0
        refine ⟨_, rfl, cd, .int (cs1 l r .E 0 z.cps.toList), rfl, by have := DGet.k (k := Sum.inr "even") q3; rw [← p3E, q5] at this; exact this, _, _, rfl, rfl, ?_⟩
        refine ⟨_, rfl, cd, _, rfl, DPut.k (k := Sum.inr (p3 .E)) q3 (small1000 (by omega)), ?_⟩
        have C5 := CSt.put hcd0 ned q1 q2 q4 q5 .E
        have eg : (fun o => cs1 l r o 0 z.cps.toList + if decide (P3.E = o) then 1 else 0) = jd z l r := by
          funext o; unfold jd; rw [eG]; cases o <;> simp
        rw [eg] at C5
        exact fin _ _ C5 (by omega)
      | false =>
        refine iteF ?_
        have eg : (fun o => cs1 l r o 0 z.cps.toList) = jd z l r := by
          funext o; unfold jd; rw [eG]; simp
        rw [eg] at C0
        exact fin _ _ C0 (by omega)
end
end Ks
end
section
namespace Ks
open PySem L2 Mir
def bh (z : Str) (l r : List Int) (o : P3) : Str := ⟨(aft l r o 0 z.cps.toList).toArray⟩
def oix : P3 → Nat | .L => 0 | .R => 1 | .E => 2
theorem str_ext {a b : Str} (h : a.cps.toList = b.cps.toList) : a = b := by
  obtain ⟨⟨a⟩⟩ := a; obtain ⟨⟨b⟩⟩ := b; simp at h; rw [h]
theorem app_cps (a b : Str) : (a ++ b).cps.toList = a.cps.toList ++ b.cps.toList := by
  show (a.cps ++ b.cps).toList = _
  simp
theorem join0 : ∀ l : List Str, (Str.join "" l).cps.toList = (l.map fun x => x.cps.toList).flatten
  | [] => rfl
  | [x] => by simp [Str.join]
  | x :: y :: r => by
    rw [PyProof.Rows.join_cons_cons, app_cps, app_cps, join0 (y :: r)]
    simp; rfl
theorem join_ones (cs : List Nat) : Txt.join "" (cs.map ch1) = ⟨cs.toArray⟩ := by
  show Builtin.Str.glued "" (cs.map ch1) = _
  rw [PySem.StrLaws.glued_eq_join]
  refine str_ext ?_
  rw [join0]
  show _ = cs
  induction cs with
  | nil => rfl
  | cons c cs ih => simp at ih ⊢; exact ih
theorem sum_ones (cs : List Nat) : ((cs.map ch1).map (·.length)).sum = cs.length := by
  induction cs with
  | nil => rfl
  | cons c cs ih => simp at ih ⊢; rw [ih]; show 1 + _ = _; omega
theorem outs_hit (o : P3) : ∃ z : V, ([.str "left", .str "right", .str "even"] : List V)[oix o]? = some z ∧ eqV z (.str (p3 o)) = true := by
  cases o
  · exact ⟨_, rfl, by decide +kernel⟩
  · exact ⟨_, rfl, by decide +kernel⟩
  · exact ⟨_, rfl, by decide +kernel⟩
theorem outs_no (o : P3) : ∀ (i : Nat) (z : V), i < oix o → ([.str "left", .str "right", .str "even"] : List V)[i]? = some z → eqV z (.str (p3 o)) = false := by
  intro i z hi hz
  cases o with
  | L => exact absurd hi (by simp [oix])
  | R =>
    have e : i = 0 := by simp [oix] at hi; exact hi
    subst e; cases hz; decide +kernel
  | E =>
    have e : i = 0 ∨ i = 1 := by simp [oix] at hi; omega
    rcases e with rfl | rfl
    · cases hz; decide +kernel
    · cases hz; decide +kernel
theorem aft_eq {l r : List Int} {o : P3} (z : Str) : (List.range z.cps.size).map (fun i => ch1 (sb (z.cps.getD i 0) (pl l r i) o)) = (aft l r o 0 z.cps.toList).map ch1 := by
  refine List.ext_getElem? fun i => ?_
  rw [List.getElem?_map, List.getElem?_map]
  by_cases hi : i < z.cps.size
  · rw [List.getElem?_range hi, aft_get z.cps.toList 0 i (z.cps.getD i 0) (by simp [hi, Array.getD])]
    simp
  · rw [List.getElem?_eq_none (by simp; omega), List.getElem?_eq_none (by rw [aft_len]; simp; omega)]; rfl
section
variable {P : Program} {w : World} {K : PySem.W.Frag} {mg : Str → Option Value} {base : Heap}
def spBh (Cn : Addr) : Sp := fun vs H Q E => ∃ (z : Str) (a b : Addr) (l r : List Int) (o : P3), vs = [.str z, .ref a, .ref b, .str (p3 o)] ∧ MkOk z ∧ H a = some (.lst (l.map V.int)) ∧ H b = some (.lst (r.map V.int)) ∧ Wg z.length l r ∧ l.length ≤ 100 ∧
  (jd z l r o = 0 → ∀ H', Same H H' → E (.ref Cn) none H') ∧ (0 < jd z l r o → ∀ H', Same H H' → Q (.str (bh z l r o)) H')
theorem sc_behind : FnScope ["marks", "left", "right", "outcome", "counts", "places"] ["marks", "left", "right", "outcome"] (defScope (top 25)) := ⟨rfl, rfl, rfl, by decide +kernel, rfl, by decide +kernel, by decide +kernel⟩
theorem ok_behind {f : Addr} {fd : FuncData} {Cn : Addr} (F : Fun K "behind" "behind" (top 25) f fd) (B : Blt mg) (O : Outs K mg) (m_Never : mg "Never" = some (.ref Cn)) (x_Never : PySem.W.excIn K Cn vMro "ValueError.__new__" = true)
    (c_judged : Can P w K mg base CX0 4 "judged" ["marks", "left", "right"] spJd) (c_check_outcome : Can P w K mg base CX0 1 "check_outcome" ["outcome"] spCO) (c_placed : Can P w K mg base CX0 1 "placed" ["left", "right"] spPl)
    (c_sign_behind : Can P w K mg base CX0 2 "sign_behind" ["sign", "place", "outcome"] spSB) : FnOk P w K mg base (CXE P w) 5 f fd ["marks", "left", "right", "outcome"] (spBh Cn) := by
  refine F.okE sc_behind (fun vs H Q E h => ?_) (fun cdv A outer s H vs Q E hr h L pass => ?_)
  · obtain ⟨z, a, b, l, r, o, rfl, _⟩ := h; rfl
  · obtain ⟨z, a, b, l, r, o, rfl, M, ha, hb, W, hlen, k0, k1⟩ := h
    obtain ⟨d_OUTCOMES, ob, its, n, m_OUTCOMES, m2, m3, m4, m5, m6⟩ := O
    have hu := hu_of hr
    refine ⟨_, (pss_cons (ps_set (i := 4) sc_behind.nd rfl (Or.inl rfl) (pe_can c_judged (hr.mono (by decide)) pass0 (pa_cons (pv 0) (pa_cons (pv 1) (pa_cons (pv 2) pa_nil)))))
      (pss_cons (ps_expr (pe_can c_check_outcome (hr.mono (by decide)) pass0 (pa_cons (pv 3) pa_nil)))
      (pss_cons (ps_if (pt_cmpR op_eq (pe_ix ix_tup (pv 4) (pe_bm PySem.F.plainAttrs_tuple PySem.F.slot_tuple_index PySem.F.type_tuple_index mt_tidx (pe_glob (v := .ref d_OUTCOMES) (by rfl) m_OUTCOMES rfl) (pa_cons (pv 3) pa_nil)) (fun _ _ => rfl)) pe_int (nomark _)) (pss_one (ps_raise L rfl rfl (by rfl) m_Never x_Never)) pss_nil)
      (pss_cons (ps_set (i := 5) sc_behind.nd rfl (Or.inr rfl) (pe_can c_placed (hr.mono (by decide)) pass0 (pa_cons (pv 1) (pa_cons (pv 2) pa_nil))))
      (pss_one (ps_ret (pe_bm PySem.F.plainAttrs_str PySem.F.slot_str_join PySem.F.type_str_join mt_join pe_str (pa_cons (pe_comp (N := ["marks", "left", "right", "outcome", "counts", "places"]) (sc0 := defScope (top 25)) ["coin", "sign"] ["outcome", "places"] [3, 5] rfl rfl rfl ⟨rfl, by decide +kernel, by decide +kernel, by decide +kernel, rfl, by decide +kernel⟩ (pi_enumS (by rfl) B.enum (pv 0)) (fun _ _ _ _ => (pg_tupK (K := K) (n := 2) rfl rfl (pgs_cons (pg_name (i := 0) (by decide +kernel : (["coin", "sign", "outcome", "places"] : List Str).Nodup) rfl (Or.inl rfl) (.inr rfl)) (pgs_cons (pg_name (i := 1) (by decide +kernel : (["coin", "sign", "outcome", "places"] : List Str).Nodup) rfl (Or.inl rfl) (.inr rfl)) pgs_nil)))) (fun _ _ _ _ => (pe_can c_sign_behind (hr.mono (by decide)) pass0 (pa_cons (pv 1) (pa_cons (pe_dget2 hu (pv 3) (pv 0) pe_str ⟨rfl, rfl, rfl, rfl⟩) (pa_cons (pv 2) pa_nil)))))) pa_nil)))))))), ?_⟩
    refine ⟨_, rfl, _, rfl, _, rfl, z, a, b, l, r, rfl, M, ha, hb, W, hlen, fun H1 t s1 ht e1 => ?_⟩
    refine ⟨_, rfl, o, rfl, ?_⟩
    have e1' : H1 t = some (.tup [.int (jd z l r .L), .int (jd z l r .R), .int (jd z l r .E)]) := e1
    have at1 : atI [V.int (jd z l r .L), V.int (jd z l r .R), V.int (jd z l r .E)] (oix o) = some (V.int (jd z l r o)) := by cases o <;> rfl
    refine ⟨_, rfl, .inr (.inl ⟨rfl, ob, m2, m3, m4⟩), _, rfl, d_OUTCOMES, _, _, oix o, rfl, rfl, outs_sq m2 m3 m5 m6, rfl, rfl, outs_hit o, outs_no o, t, _, _, _, rfl, rfl, SqT.of e1', at1, rfl, _, rfl, ?_⟩
    by_cases hj : jd z l r o = 0
    · refine tru (by rw [hj]; rfl) ?_
      exact k0 hj H1 s1
    · refine fls (decide_eq_false fun q => hj (by have := V.int.inj q; omega)) ?_
      have k1' := k1 (Nat.pos_of_ne_zero hj)
      refine ⟨_, rfl, _, rfl, a, b, l, r, rfl, s1 _ _ ha, s1 _ _ hb, hlen, by rw [← W.len]; exact hlen, fun pd pk H2 hpd s2 e2 hpl => ?_⟩
      have s02 := s1.trans s2
      have hz : z.cps.size ≤ 100 := M.len
      refine ⟨rfl, _, rfl, z, rfl, fun p hp => comp_enumS hp (Nat.lt_of_le_of_lt hz (by decide)) (fun i => V.str (ch1 (sb (z.cps.getD i 0) (pl l r i) o))) (fun σ' => ∃ v0 v1, σ' = [v0, v1, some (.str (p3 o)), some (.ref pd)]) ?_ ?_ ?_⟩
      · exact ⟨none, none, rfl⟩
      · rintro i c t' σ' H' hc ht ⟨v0, v1, rfl⟩ sm KK kk
        refine ⟨t', _, rfl, SqT.of upd_same, rfl, _, _, rfl, _, _, rfl, rfl, ?_⟩
        have ep : upd H' t' (.tup [V.int i, V.str ⟨#[c]⟩]) pd = some (.dK pk) := by rw [upd_ne (ne_of_none (sm _ _ e2) ht)]; exact sm _ _ e2
        refine ⟨_, rfl, _, rfl, pd, rfl, .inl ⟨pk, .inl ep⟩, _, rfl, _, DGet.k (k := Sum.inl (i : Int)) ep, ?_⟩
        rw [show (valV pk (Sum.inl (i : Int) : Key)).getD (V.str "even") = V.str (p3 (pl l r i)) from hpl i]
        refine ⟨_, rfl, c, pl l r i, o, rfl, fun H4 s4 => ?_⟩
        have e : z.cps.getD i 0 = c := by obtain ⟨h1, h2⟩ := Array.getElem?_eq_some_iff.mp hc; simp [Array.getD, h1, h2]
        have := kk [some (.int i), some (.str ⟨#[c]⟩), some (.str (p3 o)), some (.ref pd)] H4 ⟨_, _, rfl⟩ ((Same.upd0 ht).trans s4)
        rw [e] at this
        exact this
      · intro H' sm hq
        have e3 : (List.range z.cps.size).map (fun i => V.str (ch1 (sb (z.cps.getD i 0) (pl l r i) o))) = ((aft l r o 0 z.cps.toList).map ch1).map V.str := by
          rw [← aft_eq, List.map_map]; rfl
        rw [e3] at hq
        refine ⟨_, p, _, rfl, rfl, SqL.of hq, ?_, ?_⟩
        · rw [sum_ones, List.length_map, aft_len]
          show _ + _ * 0 ≤ _
          have : z.cps.toList.length = z.cps.size := by simp
          omega
        · rw [join_ones]
          exact k1' H' (s02.trans sm)
end
end Ks
end
section
namespace Ks
open PySem L2 Mir
section
variable {P : Program} {w : World} {K : PySem.W.Frag} {mg : Str → Option Value} {base : Heap}
def spWd : Sp := fun vs H Q _ => ∃ (n k : Int) (hv : Bool) (a b : Addr) (l r : List Int), vs = [.int n, .int k, .bl hv, .ref a, .ref b] ∧ 0 ≤ n ∧ -1 ≤ k ∧ k < n ∧ H a = some (.lst (l.map V.int)) ∧ H b = some (.lst (r.map V.int)) ∧ Wg n l r ∧ l.length ≤ 100 ∧
  ∀ H', Same H H' → Q (.str (p3 (if hv then pl l r k else other (pl l r k)))) H'
theorem sc_weighed : FnScope ["coins", "odd", "heavy", "left", "right"] ["coins", "odd", "heavy", "left", "right"] (defScope (top 26)) := ⟨rfl, rfl, rfl, by decide +kernel, rfl, by decide +kernel, by decide +kernel⟩
theorem ok_weighed {f : Addr} {fd : FuncData} (F : Fun K "weighed" "weighed" (top 26) f fd) (c_check_odd : Can P w K mg base CX0 2 "check_odd" ["coins", "odd", "heavy"] spOdd) (c_check_weighing : Can P w K mg base CX0 3 "check_weighing" ["highest", "left", "right"] spCW)
    (c_outcome_by : Can P w K mg base CX0 1 "outcome_by" ["place", "heavy"] spOut) (c_placed : Can P w K mg base CX0 1 "placed" ["left", "right"] spPl) : FnOk P w K mg base CX0 4 f fd ["coins", "odd", "heavy", "left", "right"] spWd := by
  refine F.ok sc_weighed (fun vs H Q E h => ?_) (fun cdv A outer s H vs Q E hr h => ?_)
  · obtain ⟨n, k, hv, a, b, l, r, rfl, _⟩ := h; rfl
  · obtain ⟨n, k, hv, a, b, l, r, rfl, h0, h1, h2, ha, hb, W, hlen, q⟩ := h
    have hu := hu_of hr
    refine ⟨_, (pss_cons (ps_expr (pe_can c_check_odd (hr.mono (by decide)) pass0 (pa_cons (pv 0) (pa_cons (pv 1) (pa_cons (pv 2) pa_nil)))))
      (pss_cons (ps_expr (pe_can c_check_weighing (hr.mono (by decide)) pass0 (pa_cons (pv 0) (pa_cons (pv 3) (pa_cons (pv 4) pa_nil)))))
      (pss_one (ps_ret (pe_can c_outcome_by (hr.mono (by decide)) pass0 (pa_cons (pe_dget2 hu (pe_can c_placed (hr.mono (by decide)) pass0 (pa_cons (pv 3) (pa_cons (pv 4) pa_nil))) (pv 1) pe_str ⟨rfl, rfl, rfl, rfl⟩) (pa_cons (pv 2) pa_nil))))))), ?_⟩
    refine ⟨_, rfl, _, rfl, _, rfl, n, k, hv, rfl, h0, h1, h2, ?_⟩
    refine ⟨_, rfl, _, rfl, _, rfl, n, a, b, l, r, rfl, ha, hb, W, hlen, fun H1 s1 => ?_⟩
    refine ⟨_, rfl, _, rfl, a, b, l, r, rfl, s1 _ _ ha, s1 _ _ hb, hlen, by rw [← W.len]; exact hlen, fun pd pk H2 hpd s2 e2 hpl => ?_⟩
    refine ⟨pd, rfl, .inl ⟨pk, .inl e2⟩, _, rfl, _, DGet.k (k := Sum.inl k) e2, ?_⟩
    rw [show (valV pk (Sum.inl k : Key)).getD (V.str "even") = V.str (p3 (pl l r k)) from hpl k]
    exact ⟨_, rfl, pl l r k, hv, rfl, q H2 (s1.trans s2)⟩
def cellF (ns : List Int) (k : Int) : Int := ns.getD k.toNat 0
def spCell (K : PySem.W.Frag) : Sp := fun vs H Q _ => ∃ (a : Addr) (ns : List Int) (k : Int), vs = [.ref a, .int k] ∧ SqL K H a (ns.map V.int) ∧ 0 ≤ k ∧ Q (.int (cellF ns k)) H
theorem sc__law_cell_at : FnScope ["_law_script", "_law_k"] ["_law_script", "_law_k"] (defScope (top 28)) := ⟨rfl, rfl, rfl, by decide +kernel, rfl, by decide +kernel, by decide +kernel⟩
theorem ok_cell {f : Addr} {fd : FuncData} (F : Fun K "_law_cell_at" "_law_cell_at" (top 28) f fd) (B : Blt mg) : FnOk P w K mg base CX0 1 f fd ["_law_script", "_law_k"] (spCell K) := by
  refine F.ok sc__law_cell_at (fun vs H Q E h => ?_) (fun cdv A outer s H vs Q E hr h => ?_)
  · obtain ⟨a, ns, k, rfl, _⟩ := h; rfl
  · obtain ⟨a, ns, k, rfl, ha, hk, q⟩ := h
    refine ⟨_, (pss_cons (ps_if (pt_cmpR op_lt (pv 1) (pe_callB call_len_seq (by rfl) B.len boot_lenB (pa_cons (pv 0) pa_nil)) (nomark _)) (pss_one (ps_ret (pe_ix ix_list (pv 0) (pv 1) (fun _ _ => rfl)))) pss_nil)
      (pss_one (ps_ret pe_int))), ?_⟩
    refine ⟨_, rfl, _, rfl, a, _, rfl, .inl ha, _, _, rfl, rfl, _, rfl, ?_⟩
    by_cases h : k < ((ns.map V.int).length : Int)
    · refine tru (decide_eq_true h) ?_
      have hn : k.toNat < ns.length := by simp at h; omega
      have e : cellF ns k = ns[k.toNat] := by unfold cellF; simp [List.getD, hn]
      rw [e] at q
      refine ⟨_, rfl, _, rfl, a, _, _, .int ns[k.toNat], rfl, rfl, ha, ?_, q⟩
      have := atI_nat (xs := ns.map V.int) (j := k.toNat) (v := V.int ns[k.toNat]) (by simp [hn])
      rw [Int.toNat_of_nonneg hk] at this
      exact this
    · have e : cellF ns k = 0 := by unfold cellF; simp at h; simp [List.getD, show ns.length ≤ k.toNat by omega]
      rw [e] at q
      exact fls (decide_eq_false h) q
def primes : List Int := [1000003, 1000033, 1000037, 1000039, 1000081, 1000099, 1000117, 1000121, 1000133, 1000151, 1000159, 1000171, 1000183, 1000187, 1000193, 1000199]
def drawF (c k m : Int) : Int := (c * 48271 + k * 69621) % (primes.getD (k % 16).toNat 0) % m
theorem drawF_nonneg {c k m : Int} (h : 0 < m) : 0 ≤ drawF c k m := Int.emod_nonneg _ (by omega)
theorem drawF_lt {c k m : Int} (h : 0 < m) : drawF c k m < m := Int.emod_lt_of_pos _ h
def spDraw : Sp := fun vs H Q _ => ∃ (c k m : Int), vs = [.int c, .int k, .int m] ∧ 0 ≤ k ∧ 0 < m ∧ ∀ (H' : Hp), Same H H' → Q (.int (drawF c k m)) H'
theorem sc__law_draw : FnScope ["_law_cell", "_law_k", "_law_many", "_law_primes"] ["_law_cell", "_law_k", "_law_many"] (defScope (top 29)) := ⟨rfl, rfl, rfl, by decide +kernel, rfl, by decide +kernel, by decide +kernel⟩
def primesE : List Expr := [.Constant (.int 1000003) 0 ⟨118, 19, 118, 26⟩, .Constant (.int 1000033) 0 ⟨118, 28, 118, 35⟩, .Constant (.int 1000037) 0 ⟨118, 37, 118, 44⟩, .Constant (.int 1000039) 0 ⟨118, 46, 118, 53⟩, .Constant (.int 1000081) 0 ⟨118, 55, 118, 62⟩, .Constant (.int 1000099) 0 ⟨118, 64, 118, 71⟩, .Constant (.int 1000117) 0 ⟨118, 73, 118, 80⟩, .Constant (.int 1000121) 0 ⟨118, 82, 118, 89⟩, .Constant (.int 1000133) 0 ⟨118, 91, 118, 98⟩, .Constant (.int 1000151) 0 ⟨118, 100, 118, 107⟩, .Constant (.int 1000159) 0 ⟨118, 109, 118, 116⟩, .Constant (.int 1000171) 0 ⟨118, 118, 118, 125⟩, .Constant (.int 1000183) 0 ⟨118, 127, 118, 134⟩, .Constant (.int 1000187) 0 ⟨118, 136, 118, 143⟩, .Constant (.int 1000193) 0 ⟨118, 145, 118, 152⟩, .Constant (.int 1000199) 0 ⟨118, 154, 118, 161⟩]
theorem primesE_is : primesE.map conV = (primes.map V.int).map some := by kernel_rfl
theorem pa_primes {X : Cx} : PA X primesE (tVs (primes.map V.int)) := @pa_vs X (primes.map V.int) primesE primesE_is
theorem pe_primes {X : Cx} {k : Nat} {p : Pos} : PE X (.Tuple primesE k p) (tTup (tVs (primes.map V.int))) := by
  have h := @pa_primes X
  revert h
  generalize primesE = es
  intro h
  exact pe_tup h
theorem pss_primes {X : Cx} {rest : List Stmt} {u : TS} {k : Nat} {p p1 p2 : Pos} (hN : X.N.Nodup) (hi : X.N[3]? = some ("_law_primes" : Str)) (hx : X.env.scope.names.lookup ("_law_primes" : Str) = some .local) (hs : swapsWith (.Tuple primesE k p) (some (.Name "_law_primes" p1)) p2.line X.env = pure false) (hr : PSs X rest u) :
    PSs X (.Assign [.Name "_law_primes" p1] (.Tuple primesE k p) p2 :: rest) (tSeq (tAsg (tTup (tVs (primes.map V.int))) (gName 3)) u) := by
  have h := @pe_primes X k p
  revert h hs
  generalize primesE = es
  intro hs h
  exact pss_cons (ps_set hN hi (.inl hx) h hs (.inr hx)) hr
theorem primes_at (i : Nat) (h : i < 16) : (primes.map V.int)[i]? = some (.int (primes.getD i 0)) ∧ 0 < primes.getD i 0 := by
  have hl : i < primes.length := h
  have e : primes.getD i 0 = primes[i] := by simp [List.getD, hl]
  rw [e]
  refine ⟨by rw [List.getElem?_map, List.getElem?_eq_getElem hl]; rfl, ?_⟩
  have ha : primes.all (fun p => decide (0 < p)) = true := by decide +kernel
  exact of_decide_eq_true (List.all_eq_true.mp ha _ (List.getElem_mem hl))
theorem ok_draw {f : Addr} {fd : FuncData} (F : Fun K "_law_draw" "_law_draw" (top 29) f fd) : FnOk P w K mg base CX0 1 f fd ["_law_cell", "_law_k", "_law_many"] spDraw := by
  refine F.ok sc__law_draw (fun vs H Q E h => ?_) (fun cdv A outer s H vs Q E hr h => ?_)
  · obtain ⟨c, k, m, rfl, _⟩ := h; rfl
  · obtain ⟨c, k, m, rfl, hk, hm, q⟩ := h
    refine ⟨_, @pss_primes _ _ _ _ _ _ _ sc__law_draw.nd rfl rfl (by kernel_rfl) (pss_one (ps_ret (pe_op op_mod (pe_op op_mod (pe_op op_add (pe_op op_mul (pv 0) pe_int) (pe_op op_mul (pv 1) pe_int)) (pe_ix ix_tup (pv 3) (pe_op op_mod (pv 1) pe_int) (fun _ _ => rfl))) (pv 2)))), ?_⟩
    refine ⟨by show 16 ≤ sizeLine; decide, fun t ht => ?_⟩
    have h16 : 0 ≤ k % 16 ∧ k % 16 < 16 := ⟨Int.emod_nonneg _ (by decide), Int.emod_lt_of_pos _ (by decide)⟩
    obtain ⟨hp1, hp2⟩ := primes_at (k % 16).toNat (by omega)
    have hat := atI_nat hp1
    rw [Int.toNat_of_nonneg h16.1] at hat
    refine ⟨_, rfl, _, _, rfl, rfl, .inr ⟨by decide, by decide⟩, _, rfl, _, _, rfl, rfl, .inr ⟨by decide, by decide⟩, _, _, rfl, rfl, _, rfl, _, rfl, _, _, rfl, rfl, (by show (0 : Int) < 16; decide), t, primes.map V.int, _, _, rfl, rfl, SqT.of upd_same, hat, _, _, rfl, rfl, hp2, _, rfl, _, _, rfl, rfl, hm, ?_⟩
    exact q _ (Same.upd0 ht)
end
end Ks
end
section
namespace Ks
open PySem L2 Mir
def sgns : List Str := ["eeeg", "hlg", "hhhl", "eg", "gggl"]
def signsF (ns : List Int) : Str := sgns.getD (drawF (cellF ns 0) 6 5).toNat "eg"
def markF (ns : List Int) (i : Nat) : Nat := (signsF ns).cps.getD (drawF (ns.getD i 0) (i % 5 + 1) (signsF ns).length).toNat 0
def marksF (ns : List Int) : Str := ⟨((List.range ns.length).map (markF ns)).toArray⟩
theorem signsF_mem (ns : List Int) : signsF ns ∈ sgns := by
  unfold signsF
  have h1 := drawF_nonneg (c := cellF ns 0) (k := 6) (m := 5) (by decide)
  have h2 := drawF_lt (c := cellF ns 0) (k := 6) (m := 5) (by decide)
  have hl : (drawF (cellF ns 0) 6 5).toNat < sgns.length := by show _ < 5; omega
  simp only [List.getD, List.getElem?_eq_getElem hl, Option.getD_some]
  exact List.getElem_mem hl
theorem signs_all {x : Str} (h : x ∈ sgns) : 0 < x.length ∧ x.length ≤ 10 ∧ (∀ c ∈ x.cps.toList, Sign c) ∧ (101 ∈ x.cps.toList → 104 ∉ x.cps.toList ∧ 108 ∉ x.cps.toList) := by
  have : ∀ x ∈ sgns, (decide (0 < x.length) && decide (x.length ≤ 10) && x.cps.toList.all (fun c => c == 101 || c == 104 || c == 108 || c == 103) && (!x.cps.toList.contains 101 || (!x.cps.toList.contains 104 && !x.cps.toList.contains 108))) = true := by decide +kernel
  have q := this x h
  simp only [Bool.and_eq_true, decide_eq_true_eq, List.all_eq_true, Bool.or_eq_true, beq_iff_eq, Bool.not_eq_true', List.contains_eq_mem, decide_eq_false_iff_not] at q
  obtain ⟨⟨⟨a, b⟩, c⟩, d⟩ := q
  refine ⟨a, b, fun e he => ?_, fun he => ?_⟩
  · rcases c e he with ((z | z) | z) | z
    · exact .inl z
    · exact .inr (.inl z)
    · exact .inr (.inr (.inl z))
    · exact .inr (.inr (.inr z))
  · rcases d with z | z
    · exact absurd he z
    · exact z
theorem markF_mem (ns : List Int) (i : Nat) : markF ns i ∈ (signsF ns).cps.toList := by
  obtain ⟨a, b, _⟩ := signs_all (signsF_mem ns)
  unfold markF
  have h1 := drawF_nonneg (c := ns.getD i 0) (k := i % 5 + 1) (m := (signsF ns).length) (by omega)
  have h2 := drawF_lt (c := ns.getD i 0) (k := i % 5 + 1) (m := (signsF ns).length) (by omega)
  have hl : (drawF (ns.getD i 0) (i % 5 + 1) (signsF ns).length).toNat < (signsF ns).cps.size := by
    show _ < (signsF ns).length
    omega
  simp only [Array.getD, hl, dite_true]
  exact Array.getElem_mem_toList hl
theorem marksF_len (ns : List Int) : (marksF ns).length = ns.length := by
  show (marksF ns).cps.size = _
  simp [marksF]
theorem marksF_ok {ns : List Int} (h : ns.length ≤ 100) : MkOk (marksF ns) := by
  obtain ⟨_, _, hs, hx⟩ := signs_all (signsF_mem ns)
  have mem : ∀ c ∈ (marksF ns).cps.toList, c ∈ (signsF ns).cps.toList := fun c hc => by
    have : c ∈ (List.range ns.length).map (markF ns) := hc
    obtain ⟨i, _, rfl⟩ := List.mem_map.mp this
    exact markF_mem ns i
  refine ⟨fun c hc => hs c (mem c hc), fun he => ?_, by rw [marksF_len]; exact h⟩
  obtain ⟨a, b⟩ := hx (mem _ he)
  exact ⟨fun z => a (mem _ z), fun z => b (mem _ z)⟩
section
variable {P : Program} {w : World} {K : PySem.W.Frag} {mg : Str → Option Value} {base : Heap}
def spMarks (K : PySem.W.Frag) : Sp := fun vs H Q _ => ∃ (a : Addr) (ns : List Int), vs = [.ref a] ∧ SqL K H a (ns.map V.int) ∧ ns.length ≤ 63 ∧ ∀ H', Same H H' → Q (.str (marksF ns)) H'
theorem sc__law_marks : FnScope ["_law_script", "_law_kind", "_law_signs"] ["_law_script"] (defScope (top 30)) := ⟨rfl, rfl, rfl, by decide +kernel, rfl, by decide +kernel, by decide +kernel⟩
theorem ok_marks {f : Addr} {fd : FuncData} (F : Fun K "_law_marks" "_law_marks" (top 30) f fd) (B : Blt mg) (c__law_cell_at : Can P w K mg base CX0 1 "_law_cell_at" ["_law_script", "_law_k"] (spCell K)) (c__law_draw : Can P w K mg base CX0 1 "_law_draw" ["_law_cell", "_law_k", "_law_many"] spDraw) :
    FnOk P w K mg base CX0 2 f fd ["_law_script"] (spMarks K) := by
  refine F.ok sc__law_marks (fun vs H Q E h => ?_) (fun cdv A outer s H vs Q E hr h => ?_)
  · obtain ⟨a, ns, rfl, _⟩ := h; rfl
  · obtain ⟨a, ns, rfl, ha, hn, q⟩ := h
    refine ⟨_, (pss_cons (ps_set (i := 1) sc__law_marks.nd rfl (Or.inl rfl) (pe_can c__law_draw (hr.mono (by decide)) pass0 (pa_cons (pe_can c__law_cell_at (hr.mono (by decide)) pass0 (pa_cons (pv 0) (pa_cons pe_int pa_nil))) (pa_cons pe_int (pa_cons pe_int pa_nil)))))
      (pss_cons (ps_set (i := 2) sc__law_marks.nd rfl (Or.inr rfl) (pe_ix ix_tup (pe_tup (pa_cons pe_str (pa_cons pe_str (pa_cons pe_str (pa_cons pe_str (pa_cons pe_str pa_nil)))))) (pv 1) (fun _ _ => rfl)))
      (pss_one (ps_ret (pe_bm PySem.F.plainAttrs_str PySem.F.slot_str_join PySem.F.type_str_join mt_join pe_str (pa_cons (pe_comp (N := ["_law_script", "_law_kind", "_law_signs"]) (sc0 := defScope (top 30)) ["_law_k"] ["_law_signs", "_law_script"] [2, 0] rfl rfl rfl ⟨rfl, by decide +kernel, by decide +kernel, by decide +kernel, rfl, by decide +kernel⟩ (pi_range1 (by rfl) B.range (pa_cons (pe_callB call_len_seq (by rfl) B.len boot_lenB (pa_cons (pv 0) pa_nil)) pa_nil)) (fun _ _ _ _ => (pg_name (i := 0) (by decide +kernel : (["_law_k", "_law_signs", "_law_script"] : List Str).Nodup) rfl (Or.inl rfl) (.inr rfl))) (fun _ _ _ _ => (pe_ix ix_str (pv 1) (pe_can c__law_draw (hr.mono (by decide)) pass0 (pa_cons (pe_ix (ix_listK (K := K) rfl) (pv 2) (pv 0) (fun _ _ => rfl)) (pa_cons (pe_op op_add (pe_op op_mod (pv 0) pe_int) pe_int) (pa_cons (pe_callB call_len_str (by rfl) B.len boot_lenB (pa_cons (pv 1) pa_nil)) pa_nil)))) (fun _ _ => rfl)))) pa_nil)))))), ?_⟩
    refine ⟨_, rfl, a, ns, 0, rfl, ha, by decide, _, 6, 5, rfl, by decide, by decide, fun H1 s1 => ?_⟩
    have h1 := drawF_nonneg (c := cellF ns 0) (k := 6) (m := 5) (by decide)
    have h2 := drawF_lt (c := cellF ns 0) (k := 6) (m := 5) (by decide)
    refine ⟨by show 5 ≤ sizeLine; decide, fun t ht => ?_⟩
    have hat : atI (sgns.map V.str) (drawF (cellF ns 0) 6 5) = some (.str (signsF ns)) := by
      have hl : (drawF (cellF ns 0) 6 5).toNat < sgns.length := by show _ < 5; omega
      have := atI_nat (xs := sgns.map V.str) (j := (drawF (cellF ns 0) 6 5).toNat) (v := .str (signsF ns)) (by rw [List.getElem?_map, List.getElem?_eq_getElem hl]; unfold signsF; simp [List.getD, hl])
      rw [Int.toNat_of_nonneg h1] at this
      exact this
    refine ⟨_, rfl, t, sgns.map V.str, _, _, rfl, rfl, SqT.of upd_same, hat, ?_⟩
    obtain ⟨g1, g2, _, _⟩ := signs_all (signsF_mem ns)
    have z1 : (signsF ns).length ≤ sizeLine := Nat.le_trans g2 (by decide)
    refine ⟨rfl, _, rfl, a, _, rfl, .inl ((s1.upd ht).seq ha), (ns.length : Int), by simp, by omega, by omega, fun p hp => ?_⟩
    refine comp_range (lo := 0) (n := ns.length) hp (Nat.lt_of_le_of_lt hn (by decide)) (fun i => V.str (ch1 (markF ns i))) (fun σ' => ∃ v0, σ' = [v0, some (.str (signsF ns)), some (.ref a)]) ?_ ?_ ?_
    · exact ⟨none, rfl⟩
    · rintro i σ' H' hi ⟨v0, rfl⟩ sm KK kk
      have hd := drawF_nonneg (c := ns.getD i 0) (k := i % 5 + 1) (m := (signsF ns).length) (by omega)
      have hd2 := drawF_lt (c := ns.getD i 0) (k := i % 5 + 1) (m := (signsF ns).length) (by omega)
      have ha' : SqL K H' a (ns.map V.int) := sm.seq ((s1.upd ht).seq ha)
      have hat2 : atI (ns.map V.int) (0 + (i : Int)) = some (.int (ns.getD i 0)) := by
        rw [Int.zero_add]
        exact atI_nat (by rw [List.getElem?_map, List.getElem?_eq_getElem hi]; simp [List.getD, hi])
      refine ⟨_, rfl, _, rfl, _, rfl, a, _, _, _, rfl, rfl, ha', hat2, _, rfl, _, _, rfl, rfl, (by show (0 : Int) < 5; decide), _, _, rfl, rfl, _, rfl, _, rfl, z1, _, _, _, rfl, ?_, ?_, fun H4 s4 => ?_⟩
      · rw [Int.zero_add]; omega
      · omega
      · have hc : atI (signsF ns).cps.toList (drawF (ns.getD i 0) ((0 + (i : Int)) % 5 + 1) ((signsF ns).length : Int)) = some (markF ns i) := by
          rw [Int.zero_add]
          have hl : (drawF (ns.getD i 0) (i % 5 + 1) (signsF ns).length).toNat < (signsF ns).cps.size := by
            show _ < (signsF ns).length
            omega
          have := atI_nat (xs := (signsF ns).cps.toList) (j := (drawF (ns.getD i 0) (i % 5 + 1) (signsF ns).length).toNat) (v := markF ns i) (by unfold markF; rw [Array.getElem?_toList, Array.getElem?_eq_getElem hl]; simp only [Array.getD, hl, dite_true]; rfl)
          rw [Int.toNat_of_nonneg hd] at this
          exact this
        refine ⟨_, _, _, rfl, rfl, z1, hc, ?_⟩
        exact kk [some (.int (0 + (i : Int))), some (.str (signsF ns)), some (.ref a)] H4 ⟨_, rfl⟩ s4
    · intro H' sm hq
      have e3 : (List.range ns.length).map (fun i => V.str (ch1 (markF ns i))) = (((List.range ns.length).map (markF ns)).map ch1).map V.str := by
        rw [List.map_map, List.map_map]; rfl
      rw [e3] at hq
      refine ⟨_, p, _, rfl, rfl, SqL.of hq, ?_, ?_⟩
      · rw [sum_ones, List.length_map, List.length_map, List.length_range]
        show _ + _ * 0 ≤ _
        omega
      · rw [join_ones]
        exact q H' ((s1.upd ht).trans sm)
end
end Ks
end
section
namespace Ks
open PySem L2 Mir
def sideB (n : Int) (l : List Int) : Bool := l.all (fun k => decide (0 ≤ k) && decide (k ≤ n)) && decide (l.Pairwise (· < ·))
def wgB (n : Int) (l r : List Int) : Bool := sideB n l && (sideB n r && (decide (l.length = r.length) && !(l.any fun k => decide (k ∈ r))))
theorem sideB_iff {n : Int} {l : List Int} : sideB n l = true ↔ (∀ k ∈ l, 0 ≤ k ∧ k ≤ n) ∧ l.Pairwise (· < ·) := by
  unfold sideB
  simp
theorem wgB_iff {n : Int} {l r : List Int} : wgB n l r = true ↔ Wg n l r := by
  unfold wgB
  rw [Bool.and_eq_true, Bool.and_eq_true, Bool.and_eq_true, sideB_iff, sideB_iff]
  constructor
  · rintro ⟨⟨a1, a2⟩, ⟨b1, b2⟩, c, d⟩
    refine ⟨a2, b2, a1, b1, of_decide_eq_true c, fun k h1 h2 => ?_⟩
    have : (l.any fun k => decide (k ∈ r)) = true := List.any_eq_true.mpr ⟨k, h1, decide_eq_true h2⟩
    rw [this] at d; cases d
  · intro W
    refine ⟨⟨W.inL, W.risL⟩, ⟨W.inR, W.risR⟩, decide_eq_true W.len, ?_⟩
    have : (l.any fun k => decide (k ∈ r)) = false := by
      refine List.any_eq_false.mpr fun k hk h => ?_
      exact W.dis k hk (of_decide_eq_true h)
    rw [this]; rfl
theorem flat_ints (l : List Int) : (l.map V.int).all flatV = true := by
  rw [List.all_eq_true]; intro x hx
  obtain ⟨k, _, rfl⟩ := List.mem_map.mp hx; rfl
theorem inV_ints (k : Int) : ∀ (l : List Int), inV (.int k) (l.map V.int) = decide (k ∈ l)
  | [] => by simp [inV]
  | x :: l => by
    have ih := inV_ints k l
    unfold inV at ih ⊢
    simp only [List.map_cons, List.any_cons]
    rw [ih]
    show ((x == k) || _) = _
    by_cases h : k = x
    · subst h; simp
    · have : (x == k) = false := beq_eq_false_iff_ne.mpr fun z => h z.symm
      rw [this]; simp [h]
theorem sorted_is {l ms ks : List Int} (h1 : ∀ y, y ∈ ms ↔ y ∈ l) (h2 : ms.Nodup) (h3 : List.Perm ks ms) (h4 : ks.Pairwise (· ≤ ·)) : decide (l = ks) = decide (l.Pairwise (· < ·)) := by
  by_cases h : l.Pairwise (· < ·)
  · rw [decide_eq_true h]
    refine decide_eq_true (rise_ext h h4 (h3.nodup_iff.mpr h2) fun y => ?_).symm
    rw [h3.mem_iff, h1]
  · rw [decide_eq_false h]
    refine decide_eq_false fun e => h ?_
    subst e
    have nd : l.Nodup := h3.nodup_iff.mpr h2
    rw [List.Nodup, ] at nd
    exact List.Pairwise.imp₂ (fun a b hab hne => by omega) h4 nd
section
variable {P : Program} {w : World} {K : PySem.W.Frag} {mg : Str → Option Value} {base : Heap}
theorem boot_anyB : bootBuiltins "any" = some (.builtin "any") := by decide +kernel
theorem boot_allB : bootBuiltins "all" = some (.builtin "all") := by decide +kernel
def spWg : Sp := fun vs H Q _ => ∃ (n : Int) (a b : Addr) (l r : List Int), vs = [.int n, .ref a, .ref b] ∧ H a = some (.lst (l.map V.int)) ∧ H b = some (.lst (r.map V.int)) ∧ l.length < 64 ∧ r.length < 64 ∧ ∀ H', Same H H' → Q (.bl (wgB n l r)) H'
theorem sc__law_weighing : FnScope ["_law_coins", "_law_left_here", "_law_right_here", "_law_side"] ["_law_coins", "_law_left_here", "_law_right_here"] (defScope (top 32)) := ⟨rfl, rfl, rfl, by decide +kernel, rfl, by decide +kernel, by decide +kernel⟩
theorem ok_wg {f : Addr} {fd : FuncData} (F : Fun K "_law_weighing" "_law_weighing" (top 32) f fd) (B : Blt mg) : FnOk P w K mg base CX0 1 f fd ["_law_coins", "_law_left_here", "_law_right_here"] spWg := by
  refine F.ok sc__law_weighing (fun vs H Q E h => ?_) (fun cdv A outer s H vs Q E hr h => ?_)
  · obtain ⟨n, a, b, l, r, rfl, _⟩ := h; rfl
  · obtain ⟨n, a, b, l, r, rfl, ha, hb, hl, hrr, q⟩ := h
    have hu : _ < cLine := Nat.lt_of_succ_lt (hu_of hr)
    refine ⟨_, (pss_cons (ps_for PassesOwn.never rfl (pi_tup (pe_tup (pa_cons (pv 1) (pa_cons (pv 2) pa_nil)))) (pg_name (i := 3) sc__law_weighing.nd rfl (Or.inl rfl)) (pss_one (ps_if (PW.pt (pw_or (pt_val (pe_callB (call_anyL rfl) (by rfl) B.any boot_anyB (pa_cons (pe_comp (N := ["_law_coins", "_law_left_here", "_law_right_here", "_law_side"]) (sc0 := defScope (top 32)) ["_law_coin"] ["_law_coins"] [0] rfl rfl rfl ⟨rfl, by decide +kernel, by decide +kernel, by decide +kernel, rfl, by decide +kernel⟩ (pi_list (pv 3)) (fun _ _ _ _ => (pg_name (i := 0) (by decide +kernel : (["_law_coin", "_law_coins"] : List Str).Nodup) rfl (Or.inl rfl) (.inr rfl))) (fun _ _ _ _ => (pe_not (pe_chain op_le op_le pe_int (pv 0) (pv 1))))) pa_nil))) (pw_or1 (pt_cmpR (op_neL hu) (pv 3) (pe_callB (call_sortedS rfl) (by rfl) B.sorted boot_sortedB (pa_cons (pe_callTy (call_setL rfl) (by rfl) B.set boot_setT (pa_cons (pv 3) pa_nil)) pa_nil)) (nomark _))))) (pss_one (ps_ret pe_bl)) pss_nil)))
      (pss_one (ps_ret (pe_and (pe_cmpR op_eq (pe_callB call_len_seq (by rfl) B.len boot_lenB (pa_cons (pv 1) pa_nil)) (pe_callB call_len_seq (by rfl) B.len boot_lenB (pa_cons (pv 2) pa_nil)) (nomark _)) (pe_one (pe_not (pe_callB (call_anyL rfl) (by rfl) B.any boot_anyB (pa_cons (pe_comp (N := ["_law_coins", "_law_left_here", "_law_right_here", "_law_side"]) (sc0 := defScope (top 32)) ["_law_coin"] ["_law_right_here"] [2] rfl rfl rfl ⟨rfl, by decide +kernel, by decide +kernel, by decide +kernel, rfl, by decide +kernel⟩ (pi_list (pv 1)) (fun _ _ _ _ => (pg_name (i := 0) (by decide +kernel : (["_law_coin", "_law_right_here"] : List Str).Nodup) rfl (Or.inl rfl) (.inr rfl))) (fun _ _ _ _ => (pe_cmpR (op_in_seqK (K := K) rfl) (pv 0) (pv 1) rfl))) pa_nil)))))))), ?_⟩
    refine ⟨_, rfl, _, rfl, by show 2 ≤ sizeLine; decide, fun t ht => ⟨t, rfl, ⟨_, SqT.of upd_same⟩, ?_⟩⟩
    refine for_tup (K := K) (a := t) (xs := [.ref a, .ref b]) (fun i σ H2 => Same (upd H t (.tup [.ref a, .ref b])) H2 ∧ (∃ v, σ = [some (.int n), some (.ref a), some (.ref b), v]) ∧ (1 ≤ i → sideB n l = true) ∧ (2 ≤ i → sideB n r = true)) ?_ ?_ ?_ ?_
    · exact ⟨Same.refl _, ⟨none, rfl⟩, fun h => by omega, fun h => by omega⟩
    · rintro i σ H2 _ ⟨sm, _⟩
      exact SqT.of (sm _ _ upd_same)
    · rintro i x σ H2 hx ⟨sm, ⟨v, rfl⟩, o1, o2⟩
      obtain ⟨c, m, rfl, hc, hm, hnext, hstop⟩ : ∃ (c : Addr) (m : List Int), x = .ref c ∧ H2 c = some (.lst (m.map V.int)) ∧ m.length < 64 ∧ (sideB n m = true → (1 ≤ i + 1 → sideB n l = true) ∧ (2 ≤ i + 1 → sideB n r = true)) ∧ (sideB n m = false → wgB n l r = false) := by
        have ea : H2 a = some (.lst (l.map V.int)) := sm _ _ (by rw [upd_ne (ne_of_none ha ht)]; exact ha)
        have eb : H2 b = some (.lst (r.map V.int)) := sm _ _ (by rw [upd_ne (ne_of_none hb ht)]; exact hb)
        match i, hx with
        | 0, hx => cases hx; exact ⟨a, l, rfl, ea, hl, fun h => ⟨fun _ => h, fun h => by omega⟩, fun h => by unfold wgB; rw [h]; rfl⟩
        | 1, hx => cases hx; exact ⟨b, r, rfl, eb, hrr, fun h => ⟨fun _ => o1 (by omega), fun _ => h⟩, fun h => by unfold wgB; rw [h]; simp⟩
        | i + 2, hx => simp at hx
      have fin : ∀ H3 (ok : Bool), Same H2 H3 → sideB n m = ok → (ok = false → Q (.bl (wgB n l r)) H3) := fun H3 ok s3 e1 e2 => q H3 ((Same.upd0 ht).trans (sm.trans s3))
      refine ⟨_, rfl, c, rfl, ⟨_, SqL.of hc⟩, fun p hp => ?_⟩
      refine comp_list (xs := m.map V.int) hp hc (by simp; exact Nat.lt_trans hm (by decide)) (fun x => match x with | .int k => .bl (!(decide (0 ≤ k) && decide (k ≤ n))) | _ => .non) (fun σ' => ∃ v0, σ' = [v0, some (.int n)]) ?_ ?_ ?_
      · exact ⟨none, rfl⟩
      · rintro j x σ' H' hj ⟨v0, rfl⟩ sm' KK kk
        obtain ⟨k, hk, rfl⟩ := ints_at hj
        refine ⟨_, rfl, 0, k, rfl, rfl, _, rfl, ?_⟩
        have kk' := kk [some (.int k), some (.int n)] H' ⟨_, rfl⟩ (Same.refl _)
        by_cases h0 : 0 ≤ k
        · refine tru (decide_eq_true h0) ⟨_, rfl, k, n, rfl, rfl, _, rfl, ?_⟩
          simp only [decide_eq_true h0, Bool.true_and] at kk'
          exact kk'
        · refine fls (decide_eq_false h0) ⟨_, rfl, ?_⟩
          simp only [decide_eq_false h0, Bool.false_and] at kk'
          exact kk'
      · intro H3 s3 hq
        have e3 : (m.map V.int).map (fun x => match x with | .int k => V.bl (!(decide (0 ≤ k) && decide (k ≤ n))) | _ => .non) = (m.map fun k => !(decide (0 ≤ k) && decide (k ≤ n))).map V.bl := by
          rw [List.map_map, List.map_map]; rfl
        rw [e3] at hq
        refine ⟨p, _, rfl, hq, _, rfl, ?_⟩
        have any_is : (m.map fun k => !(decide (0 ≤ k) && decide (k ≤ n))).any id = !(m.all fun k => decide (0 ≤ k) && decide (k ≤ n)) := by
          rw [List.any_map, List.not_all_eq_any_not]; rfl
        rw [any_is]
        cases hall : m.all (fun k => decide (0 ≤ k) && decide (k ≤ n)) with
        | false =>
          refine iteT (iteT ?_)
          have e : sideB n m = false := by unfold sideB; rw [hall]; rfl
          have := q H3 ((Same.upd0 ht).trans (sm.trans s3))
          rw [hstop e] at this
          exact this
        | true =>
          refine iteF ?_
          refine ⟨_, rfl, _, rfl, c, m, rfl, SqL.of (s3 _ _ hc), by omega, fun p1 ms hp1 m1 nd1 => ?_⟩
          have hlen : ms.length < 64 := by
            have := List.Nodup.length_le_of_subset nd1 (fun y hy => (m1 y).mp hy)
            omega
          refine ⟨p1, ms, rfl, upd_same, hlen, fun p2 ks hp2 perm srt => ?_⟩
          have c2 : upd (upd H3 p1 (SetO w p1 ms)) p2 (.lst (ks.map V.int)) c = some (.lst (m.map V.int)) := by
            have e1 : upd H3 p1 (SetO w p1 ms) c = some (.lst (m.map V.int)) := by rw [upd_ne (ne_of_none (s3 _ _ hc) hp1)]; exact s3 _ _ hc
            rw [upd_ne (ne_of_none e1 hp2)]; exact e1
          refine ⟨c, p2, _, _, rfl, rfl, SqL.of c2, SqL.of upd_same, flat_ints m, flat_ints ks, _, rfl, ?_⟩
          rw [L2.eqVs_ints, sorted_is m1 nd1 perm srt]
          have sF : Same H2 (upd (upd H3 p1 (SetO w p1 ms)) p2 (.lst (ks.map V.int))) := (s3.upd hp1).upd hp2
          by_cases hpw : m.Pairwise (· < ·)
          · rw [decide_eq_true hpw]
            refine iteF ?_
            have e : sideB n m = true := by unfold sideB; rw [hall, decide_eq_true hpw]; rfl
            obtain ⟨n1, n2⟩ := hnext e
            exact ⟨sm.trans sF, ⟨_, rfl⟩, n1, n2⟩
          · rw [decide_eq_false hpw]
            refine iteT ?_
            have e : sideB n m = false := by unfold sideB; rw [hall, decide_eq_false hpw]; rfl
            have := q _ ((Same.upd0 ht).trans (sm.trans sF))
            rw [hstop e] at this
            exact this
    · rintro σ H2 ⟨sm, ⟨v, rfl⟩, o1, o2⟩
      have ea : H2 a = some (.lst (l.map V.int)) := sm _ _ (by rw [upd_ne (ne_of_none ha ht)]; exact ha)
      have eb : H2 b = some (.lst (r.map V.int)) := sm _ _ (by rw [upd_ne (ne_of_none hb ht)]; exact hb)
      have s2 : Same H H2 := (Same.upd0 ht).trans sm
      refine ⟨_, rfl, a, _, rfl, .inl (SqL.of ea), _, rfl, b, _, rfl, .inl (SqL.of eb), rfl, _, rfl, ?_⟩
      rw [List.length_map, List.length_map]
      have w0 : wgB n l r = (decide (l.length = r.length) && !(l.any fun k => decide (k ∈ r))) := by
        unfold wgB; rw [o1 (by simp), o2 (by simp)]; rfl
      by_cases hlr : l.length = r.length
      · refine tru (decide_eq_true (by rw [hlr])) ?_
        refine ⟨_, rfl, a, rfl, ⟨_, SqL.of ea⟩, fun p hp => ?_⟩
        refine comp_list (xs := l.map V.int) hp ea (by simp; exact Nat.lt_trans hl (by decide)) (fun x => match x with | .int k => .bl (decide (k ∈ r)) | _ => .non) (fun σ' => ∃ v0, σ' = [v0, some (.ref b)]) ?_ ?_ ?_
        · exact ⟨none, rfl⟩
        · rintro j x σ' H' hj ⟨v0, rfl⟩ sm' KK kk
          obtain ⟨k, hk, rfl⟩ := ints_at hj
          refine ⟨_, rfl, _, rfl, b, _, rfl, .inl (SqL.of (sm' _ _ eb)), rfl, flat_ints r, ?_⟩
          rw [show (if false = true then !inV (.int k) (r.map V.int) else inV (.int k) (r.map V.int)) = decide (k ∈ r) from inV_ints k r]
          exact kk [some (.int k), some (.ref b)] H' ⟨_, rfl⟩ (Same.refl _)
        · intro H3 s3 hq
          have e3 : (l.map V.int).map (fun x => match x with | .int k => V.bl (decide (k ∈ r)) | _ => .non) = (l.map fun k => decide (k ∈ r)).map V.bl := by
            rw [List.map_map, List.map_map]; rfl
          rw [e3] at hq
          refine ⟨p, _, rfl, hq, _, rfl, ?_⟩
          rw [List.any_map]
          have := q H3 (s2.trans s3)
          rw [w0, decide_eq_true hlr, Bool.true_and] at this
          exact this
      · refine fls (decide_eq_false fun z => hlr (by have := V.int.inj z; omega)) ?_
        have := q H2 s2
        rw [w0, decide_eq_false hlr, Bool.false_and] at this
        exact this
end
end Ks
end
section
namespace Ks
open PySem L2 Mir
def svOf : P3 → Int | .L => 1 | .R => -1 | .E => 0
def lch (c : Nat) (sv : Int) (o : P3) : Nat :=
  if o = .E then (if sv = 0 then c else 103)
  else if sv = 1 then (if c = 101 ∨ c = 104 then 104 else 103)
  else if sv = -1 then (if c = 101 ∨ c = 108 then 108 else 103) else 103
def flp (o : P3) (sv : Int) : Int := if o = .R then -sv else sv
theorem lch_sb {c : Nat} (h : Sign c) (p o : P3) : lch c (flp o (svOf p)) o = sb c p o := by
  rcases h with rfl | rfl | rfl | rfl <;> cases p <;> cases o <;> rfl
theorem in2 (c a b : Nat) (x : Str) (hx : x.cps.toList = [a, b]) : (!(Builtin.Str.occurrences x (ch1 c) 0 x.length 1).isEmpty) = decide (c = a ∨ c = b) := by
  rw [PySem.StrLaws.found_one, hx]
  simp
theorem side_rd {K : PySem.W.Frag} {σ : St} {H : Hp} {Q : VK} {a b : Addr} {l r : List Int} {i : Int} (h5 : σ[5]? = some (some (.int i))) (h1 : σ[1]? = some (some (.ref a))) (h2 : σ[2]? = some (some (.ref b))) (ha : H a = some (.lst (l.map V.int))) (hb : H b = some (.lst (r.map V.int))) (dis : ∀ k ∈ l, k ∉ r)
    (q : Q (.int (svOf (pl l r i))) H) : tIf (tTest (tOp (rIn K false) (tVar 5) (tVar 1))) (tC (.int 1)) (tIf (tTest (tOp (rIn K false) (tVar 5) (tVar 2))) (tUn (rU fun i => .int (-i)) (tC (.int 1))) (tC (.int 0))) σ H Q := by
  refine ⟨_, h5, _, h1, a, _, rfl, .inl (SqL.of ha), rfl, flat_ints l, _, rfl, ?_⟩
  rw [show (if false = true then !inV (.int i) (l.map V.int) else inV (.int i) (l.map V.int)) = decide (i ∈ l) from inV_ints i l]
  by_cases hl : i ∈ l
  · refine tru (decide_eq_true hl) ?_
    have e : pl l r i = .L := by unfold pl; rw [if_neg (dis i hl), if_pos hl]
    rw [e] at q; exact q
  · refine fls (decide_eq_false hl) ?_
    refine ⟨_, h5, _, h2, b, _, rfl, .inl (SqL.of hb), rfl, flat_ints r, _, rfl, ?_⟩
    rw [show (if false = true then !inV (.int i) (r.map V.int) else inV (.int i) (r.map V.int)) = decide (i ∈ r) from inV_ints i r]
    by_cases hr : i ∈ r
    · refine tru (decide_eq_true hr) ⟨_, rfl, ?_⟩
      have e : pl l r i = .R := by unfold pl; rw [if_pos hr]
      rw [e] at q; exact q
    · refine fls (decide_eq_false hr) ?_
      have e : pl l r i = .E := by unfold pl; rw [if_neg hr, if_neg hl]
      rw [e] at q; exact q
theorem eh_cps : ("eh" : Str).cps.toList = [101, 104] := by decide +kernel
theorem el_cps : ("el" : Str).cps.toList = [101, 108] := by decide +kernel
theorem dInt (a b : Int) : decide (V.int a = V.int b) = decide (a = b) := by
  by_cases h : a = b
  · subst h; simp
  · rw [decide_eq_false h, decide_eq_false fun z => h (V.int.inj z)]
section
variable {P : Program} {w : World} {K : PySem.W.Frag} {mg : Str → Option Value} {base : Heap}
def spLB : Sp := fun vs H Q _ => ∃ (z : Str) (a b : Addr) (l r : List Int) (o : P3), vs = [.str z, .ref a, .ref b, .str (p3 o)] ∧ (∀ c ∈ z.cps.toList, Sign c) ∧ z.length ≤ 300 ∧ H a = some (.lst (l.map V.int)) ∧ H b = some (.lst (r.map V.int)) ∧ (∀ k ∈ l, k ∉ r) ∧
  ∀ H', Same H H' → Q (.str (bh z l r o)) H'
theorem sc__law_behind : FnScope ["_law_marks_here", "_law_left_here", "_law_right_here", "_law_outcome", "_law_found", "_law_coin", "_law_sign", "_law_side"] ["_law_marks_here", "_law_left_here", "_law_right_here", "_law_outcome"] (defScope (top 33)) := ⟨rfl, rfl, rfl, by decide +kernel, rfl, by decide +kernel, by decide +kernel⟩
theorem ok_lb {f : Addr} {fd : FuncData} (F : Fun K "_law_behind" "_law_behind" (top 33) f fd) (B : Blt mg) : FnOk P w K mg base CX0 1 f fd ["_law_marks_here", "_law_left_here", "_law_right_here", "_law_outcome"] spLB := by
  refine F.ok sc__law_behind (fun vs H Q E h => ?_) (fun cdv A outer s H vs Q E hr h => ?_)
  · obtain ⟨z, a, b, l, r, o, rfl, _⟩ := h; rfl
  · obtain ⟨z, a, b, l, r, o, rfl, sg, hz, ha, hb, dis, q⟩ := h
    refine ⟨_, (pss_cons (ps_set (i := 4) sc__law_behind.nd rfl (Or.inl rfl) pe_str)
      (pss_cons (ps_for PassesOwn.never rfl (pi_enumS (by rfl) B.enum (pv 0)) (pg_tup rfl (pgs_cons (pg_name (i := 5) sc__law_behind.nd rfl (Or.inl rfl)) (pgs_cons (pg_name (i := 6) sc__law_behind.nd rfl (Or.inl rfl)) pgs_nil))) (pss_cons (ps_set (i := 7) sc__law_behind.nd rfl (Or.inl rfl) (pe_ifExp (pt_cmpR op_in_seq (pv 5) (pv 1) rfl) pe_int (pe_ifExp (pt_cmpR op_in_seq (pv 5) (pv 2) rfl) (pe_un un_neg pe_int) pe_int))) (pss_cons (ps_if (pt_cmpR op_eq (pv 3) pe_str (nomark _)) (pss_one (ps_set (i := 7) sc__law_behind.nd rfl (Or.inl rfl) (pe_un un_neg (pv 7)))) pss_nil) (pss_one (ps_if (pt_cmpR op_eq (pv 3) pe_str (nomark _)) (pss_one (ps_set (i := 4) sc__law_behind.nd rfl (Or.inl rfl) (pe_op op_add_str (pv 4) (pe_ifExp (pt_cmpR op_eq (pv 7) pe_int (nomark _)) (pv 6) pe_str)))) (pss_one (ps_if (pt_cmpR op_eq (pv 7) pe_int (nomark _)) (pss_one (ps_set (i := 4) sc__law_behind.nd rfl (Or.inl rfl) (pe_op op_add_str (pv 4) (pe_ifExp (pt_cmpR op_in_str (pv 6) pe_str rfl) pe_str pe_str)))) (pss_one (ps_set (i := 4) sc__law_behind.nd rfl (Or.inl rfl) (pe_op op_add_str (pv 4) (pe_ifExp (PW.pt (pw_and (pt_cmpR op_eq (pv 7) (pe_un un_neg pe_int) (nomark _)) (pw_and1 (pt_cmpR op_in_str (pv 6) pe_str rfl)))) pe_str pe_str)))))))))))
      (pss_one (ps_ret (pv 4))))), ?_⟩
    refine ⟨_, rfl, z, rfl, for_enumS (x := z) (fun i σ H2 => Same H H2 ∧ ∃ (v5 v6 v7 : Option V), σ = [some (.str z), some (.ref a), some (.ref b), some (.str (p3 o)), some (.str ⟨(aft l r o 0 (z.cps.toList.take i)).toArray⟩), v5, v6, v7]) ?_ ?_ ?_⟩
    · exact ⟨Same.refl _, none, none, none, rfl⟩
    · rintro i c t σ H2 hi ht ⟨sm, v5, v6, v7, rfl⟩
      have hic : z.cps.toList[i]? = some c := by simpa using hi
      have hil : i < z.cps.size := (Array.getElem?_eq_some_iff.mp hi).1
      have sc : Sign c := sg c (List.mem_of_getElem? hic)
      refine ⟨t, _, rfl, SqT.of upd_same, rfl, _, _, rfl, _, _, rfl, rfl, ?_⟩
      have s2 : Same H (upd H2 t (.tup [V.int i, V.str ⟨#[c]⟩])) := sm.upd ht
      generalize upd H2 t (.tup [V.int i, V.str ⟨#[c]⟩]) = H3 at s2 ⊢
      have hz' : z.cps.size ≤ 300 := hz
      have grow : ∀ (ch : Nat) (v7' : Option V), ch = sb c (pl l r i) o → Same H H3 ∧ ∃ (v5 v6 v7 : Option V), [some (V.str z), some (.ref a), some (.ref b), some (.str (p3 o)), some (.str (⟨(aft l r o 0 (z.cps.toList.take i)).toArray⟩ ++ ch1 ch)), some (.int i), some (.str ⟨#[c]⟩), v7'] = [some (.str z), some (.ref a), some (.ref b), some (.str (p3 o)), some (.str ⟨(aft l r o 0 (z.cps.toList.take (i + 1))).toArray⟩), v5, v6, v7] := by
        intro ch v7' e
        refine ⟨s2, some (.int i), some (.str ⟨#[c]⟩), v7', ?_⟩
        have e1 : z.cps.toList.take (i + 1) = z.cps.toList.take i ++ [c] := by rw [List.take_succ, hic]; rfl
        have e2 : (z.cps.toList.take i).length = i := by rw [List.length_take]; simp; omega
        have e3 : (⟨(aft l r o 0 (z.cps.toList.take i)).toArray⟩ ++ ch1 ch : Str) = ⟨(aft l r o 0 (z.cps.toList.take (i + 1))).toArray⟩ := by
          refine str_ext ?_
          rw [app_cps, e1, aft_snoc, e2, Nat.zero_add, e]
        rw [e3]
      have room : (⟨(aft l r o 0 (z.cps.toList.take i)).toArray⟩ : Str).length + 1 ≤ sizeLine := by
        have e : (⟨(aft l r o 0 (z.cps.toList.take i)).toArray⟩ : Str).length = (aft l r o 0 (z.cps.toList.take i)).length := by show Array.size _ = _; simp
        rw [e, aft_len, List.length_take]
        have : (1000 : Nat) ≤ sizeLine := by decide
        omega
      refine side_rd (i := i) (a := a) (b := b) (l := l) (r := r) rfl rfl rfl (s2 _ _ ha) (s2 _ _ hb) dis ?_
      have key := lch_sb sc (pl l r i) o
      generalize svOf (pl l r i) = sv at key ⊢
      have room1 : ∀ x : Str, x.length = 1 → (⟨(aft l r o 0 (z.cps.toList.take i)).toArray⟩ : Str).length + x.length ≤ sizeLine := fun x hx => by rw [hx]; exact room
      cases o with
      | R =>
        refine ⟨_, rfl, rfl, _, rfl, tru (by decide +kernel) ?_⟩
        refine ⟨_, rfl, sv, rfl, ?_⟩
        have key' : lch c (-sv) .R = sb c (pl l r i) .R := key
        refine ⟨_, rfl, rfl, _, rfl, fls (by decide +kernel) ?_⟩
        refine ⟨_, rfl, rfl, _, rfl, ?_⟩
        by_cases h1 : -sv = 1
        · refine tru (by rw [dInt]; exact decide_eq_true h1) ?_
          refine ⟨_, rfl, _, rfl, _, _, rfl, rfl, _, rfl, ?_⟩
          rw [in2 c 101 104 "eh" eh_cps]
          by_cases hc : c = 101 ∨ c = 104
          · refine tru (decide_eq_true hc) ?_
            refine ⟨_, _, rfl, rfl, room1 _ rfl, grow 104 _ ?_⟩
            rw [← key']; simp [lch, hc, h1]
          · refine fls (decide_eq_false hc) ?_
            refine ⟨_, _, rfl, rfl, room1 _ rfl, grow 103 _ ?_⟩
            rw [← key']; simp [lch, hc, h1]
        · refine fls (by rw [dInt]; exact decide_eq_false h1) ?_
          refine ⟨_, rfl, _, rfl, _, rfl, rfl, _, rfl, ?_⟩
          by_cases h2 : -sv = -1
          · refine tru (by rw [dInt]; exact decide_eq_true h2) ?_
            refine ⟨_, rfl, _, _, rfl, rfl, _, rfl, ?_⟩
            rw [in2 c 101 108 "el" el_cps]
            by_cases hc : c = 101 ∨ c = 108
            · refine tru (decide_eq_true hc) ?_
              refine ⟨_, _, rfl, rfl, room1 _ rfl, grow 108 _ ?_⟩
              rw [← key']; simp [lch, hc, h2]
            · refine fls (decide_eq_false hc) ?_
              refine ⟨_, _, rfl, rfl, room1 _ rfl, grow 103 _ ?_⟩
              rw [← key']; simp [lch, hc, h2]
          · refine fls (by rw [dInt]; exact decide_eq_false h2) ?_
            refine fls rfl ?_
            refine ⟨_, _, rfl, rfl, room1 _ rfl, grow 103 _ ?_⟩
            rw [← key']; simp [lch, h1, h2]
      | L =>
        refine ⟨_, rfl, rfl, _, rfl, fls (by decide +kernel) ?_⟩
        have key' : lch c sv .L = sb c (pl l r i) .L := key
        refine ⟨_, rfl, rfl, _, rfl, fls (by decide +kernel) ?_⟩
        refine ⟨_, rfl, rfl, _, rfl, ?_⟩
        by_cases h1 : sv = 1
        · refine tru (by rw [dInt]; exact decide_eq_true h1) ?_
          refine ⟨_, rfl, _, rfl, _, _, rfl, rfl, _, rfl, ?_⟩
          rw [in2 c 101 104 "eh" eh_cps]
          by_cases hc : c = 101 ∨ c = 104
          · refine tru (decide_eq_true hc) ?_
            refine ⟨_, _, rfl, rfl, room1 _ rfl, grow 104 _ ?_⟩
            rw [← key']; simp [lch, hc, h1]
          · refine fls (decide_eq_false hc) ?_
            refine ⟨_, _, rfl, rfl, room1 _ rfl, grow 103 _ ?_⟩
            rw [← key']; simp [lch, hc, h1]
        · refine fls (by rw [dInt]; exact decide_eq_false h1) ?_
          refine ⟨_, rfl, _, rfl, _, rfl, rfl, _, rfl, ?_⟩
          by_cases h2 : sv = -1
          · refine tru (by rw [dInt]; exact decide_eq_true h2) ?_
            refine ⟨_, rfl, _, _, rfl, rfl, _, rfl, ?_⟩
            rw [in2 c 101 108 "el" el_cps]
            by_cases hc : c = 101 ∨ c = 108
            · refine tru (decide_eq_true hc) ?_
              refine ⟨_, _, rfl, rfl, room1 _ rfl, grow 108 _ ?_⟩
              rw [← key']; simp [lch, hc, h2]
            · refine fls (decide_eq_false hc) ?_
              refine ⟨_, _, rfl, rfl, room1 _ rfl, grow 103 _ ?_⟩
              rw [← key']; simp [lch, hc, h2]
          · refine fls (by rw [dInt]; exact decide_eq_false h2) ?_
            refine fls rfl ?_
            refine ⟨_, _, rfl, rfl, room1 _ rfl, grow 103 _ ?_⟩
            rw [← key']; simp [lch, h1, h2]
      | E =>
        refine ⟨_, rfl, rfl, _, rfl, fls (by decide +kernel) ?_⟩
        have key' : lch c sv .E = sb c (pl l r i) .E := key
        refine ⟨_, rfl, rfl, _, rfl, tru (by decide +kernel) ?_⟩
        refine ⟨_, rfl, _, rfl, rfl, _, rfl, ?_⟩
        by_cases h1 : sv = 0
        · refine tru (by rw [dInt]; exact decide_eq_true h1) ?_
          refine ⟨_, rfl, _, _, rfl, rfl, room1 _ rfl, grow c _ ?_⟩
          rw [← key']; simp [lch, h1]
        · refine fls (by rw [dInt]; exact decide_eq_false h1) ?_
          refine ⟨_, _, rfl, rfl, room1 _ rfl, grow 103 _ ?_⟩
          rw [← key']; simp [lch, h1]
    · rintro σ H2 ⟨sm, v5, v6, v7, rfl⟩
      have e0 : z.cps.toList.take z.cps.size = z.cps.toList := List.take_of_length_le (by simp)
      rw [e0]
      exact ⟨_, rfl, q H2 sm⟩
end
end Ks
end
section
namespace Ks
open PySem L2 Mir
def o3 : List P3 := [.L, .R, .E]
theorem three {i : Nat} {x : V} (h : ([.str "left", .str "right", .str "even"] : List V)[i]? = some x) : ∃ o, x = .str (p3 o) ∧ o3[i]? = some o := by
  match i, h with
  | 0, h => cases h; exact ⟨.L, rfl, rfl⟩
  | 1, h => cases h; exact ⟨.R, rfl, rfl⟩
  | 2, h => cases h; exact ⟨.E, rfl, rfl⟩
  | n + 3, h => simp at h
theorem bh_count {z : Str} (sg : ∀ c ∈ z.cps.toList, Sign c) (l r : List Int) (o : P3) : 2 * (cntS 101 (bh z l r o) : Int) + cntS 104 (bh z l r o) + cntS 108 (bh z l r o) = (cs1 l r o 0 z.cps.toList : Int) := by
  have := aft_count (l := l) (r := r) (o := o) 0 sg
  unfold cntS bh
  rw [← this]
  simp
section
variable {P : Program} {w : World} {K : PySem.W.Frag} {mg : Str → Option Value} {base : Heap}
def spLL : Sp := fun vs H Q _ => ∃ (z : Str) (a b : Addr) (l r : List Int), vs = [.str z, .ref a, .ref b] ∧ (∀ c ∈ z.cps.toList, Sign c) ∧ z.length ≤ 300 ∧ H a = some (.lst (l.map V.int)) ∧ H b = some (.lst (r.map V.int)) ∧ (∀ k ∈ l, k ∉ r) ∧
  ∀ (p : Addr) (H' : Hp), Same H H' → H p = none → H' p = some (.lst (o3.map fun o => V.int (jd z l r o))) → Q (.ref p) H'
theorem sc__law_left : FnScope ["_law_marks_here", "_law_left_here", "_law_right_here", "_law_found", "_law_outcome", "_law_after", "_law_many"] ["_law_marks_here", "_law_left_here", "_law_right_here"] (defScope (top 34)) := ⟨rfl, rfl, rfl, by decide +kernel, rfl, by decide +kernel, by decide +kernel⟩
theorem ok_ll {f : Addr} {fd : FuncData} (F : Fun K "_law_left" "_law_left" (top 34) f fd) (B : Blt mg) (c__law_behind : Can P w K mg base CX0 1 "_law_behind" ["_law_marks_here", "_law_left_here", "_law_right_here", "_law_outcome"] spLB) :
    FnOk P w K mg base CX0 2 f fd ["_law_marks_here", "_law_left_here", "_law_right_here"] spLL := by
  refine F.ok sc__law_left (fun vs H Q E h => ?_) (fun cdv A outer s H vs Q E hr h => ?_)
  · obtain ⟨z, a, b, l, r, rfl, _⟩ := h; rfl
  · obtain ⟨z, a, b, l, r, rfl, sg, hz, ha, hb, dis, q⟩ := h
    refine ⟨_, (pss_cons (ps_set (i := 3) sc__law_left.nd rfl (Or.inl rfl) (pe_lst pa_nil))
      (pss_cons (ps_for PassesOwn.never rfl (pi_tup (pe_tup (pa_cons pe_str (pa_cons pe_str (pa_cons pe_str pa_nil))))) (pg_name (i := 4) sc__law_left.nd rfl (Or.inl rfl)) (pss_cons (ps_set (i := 5) sc__law_left.nd rfl (Or.inl rfl) (pe_can c__law_behind (hr.mono (by decide)) pass0 (pa_cons (pv 0) (pa_cons (pv 1) (pa_cons (pv 2) (pa_cons (pv 4) pa_nil)))))) (pss_cons (ps_set (i := 6) sc__law_left.nd rfl (Or.inl rfl) (pe_op op_add (pe_op op_add (pe_op op_mul pe_int (pe_bm PySem.F.plainAttrs_str PySem.F.slot_str_count PySem.F.type_str_count mt_count (pv 5) (pa_cons pe_str pa_nil))) (pe_bm PySem.F.plainAttrs_str PySem.F.slot_str_count PySem.F.type_str_count mt_count (pv 5) (pa_cons pe_str pa_nil))) (pe_bm PySem.F.plainAttrs_str PySem.F.slot_str_count PySem.F.type_str_count mt_count (pv 5) (pa_cons pe_str pa_nil)))) (pss_cons (ps_if (PW.pt (pw_and (pt_cmpR op_eq (pv 4) pe_str (nomark _)) (pw_and (pt_cmpR op_notin_str pe_str (pv 0) rfl) (pw_and1 (pt_cmpR op_notin_str pe_str (pv 0) rfl))))) (pss_one (ps_set (i := 6) sc__law_left.nd rfl (Or.inl rfl) (pe_op op_add (pv 6) pe_int))) pss_nil) (pss_one (ps_expr (pe_bm PySem.F.plainAttrs_list PySem.F.slot_list_append PySem.F.type_list_append mt_append (pv 3) (pa_cons (pv 6) pa_nil))))))))
      (pss_one (ps_ret (pv 3))))), ?_⟩
    refine ⟨by show 0 ≤ sizeLine; decide, fun p hp => ?_⟩
    refine ⟨by show 3 ≤ sizeLine; decide, fun t ht => ⟨t, rfl, ⟨_, SqT.of upd_same⟩, ?_⟩⟩
    have hpt : p ≠ t := fun e => by rw [← e, upd_same] at ht; cases ht
    have htH : H t = none := by rw [upd_ne (Ne.symm hpt)] at ht; exact ht
    refine for_tup (K := K) (a := t) (xs := [.str "left", .str "right", .str "even"]) (fun i σ H2 => Same H H2 ∧ H2 t = some (.tup [.str "left", .str "right", .str "even"]) ∧ H2 p = some (.lst ((o3.take i).map fun o => V.int (jd z l r o))) ∧ ∃ (v4 v5 v6 : Option V), σ = [some (.str z), some (.ref a), some (.ref b), some (.ref p), v4, v5, v6]) ?_ ?_ ?_ ?_
    · refine ⟨((Same.refl H).put' hp).put' htH, upd_same, ?_, none, none, none, rfl⟩
      rw [upd_ne hpt, upd_same]; rfl
    · rintro i σ H2 _ ⟨_, e, _⟩
      exact SqT.of e
    · rintro i x σ H2 hx ⟨sm, et, ep, v4, v5, v6, rfl⟩
      obtain ⟨o, rfl, ho⟩ := three hx
      have hi : i < 3 := (List.getElem?_eq_some_iff.mp ho).1
      refine ⟨_, rfl, _, rfl, _, rfl, _, rfl, z, a, b, l, r, o, rfl, sg, hz, sm _ _ ha, sm _ _ hb, dis, fun H3 s3 => ?_⟩
      refine ⟨_, rfl, rfl, bh z l r o, 101, rfl, by rw [s_e], _, _, rfl, rfl, .inl ⟨by decide, by decide⟩, _, rfl, rfl, bh z l r o, 104, rfl, by rw [s_h], _, _, rfl, rfl, _, rfl, rfl, bh z l r o, 108, rfl, by rw [s_l], _, _, rfl, rfl, ?_⟩
      have hcnt := bh_count sg l r o
      have fin : ∀ (n : Int) (H4 : Hp), Same H3 H4 → n = (jd z l r o : Int) → tDrop (tBM K "list" rAppend (tVar 3) (tCons (tVar 6) tNil)) { nx := fun σ H2 => Same H H2 ∧ H2 t = some (.tup [.str "left", .str "right", .str "even"]) ∧ H2 p = some (.lst ((o3.take (i + 1)).map fun o => V.int (jd z l r o))) ∧ ∃ (v4 v5 v6 : Option V), σ = [some (.str z), some (.ref a), some (.ref b), some (.ref p), v4, v5, v6], rt := Q }
          [some (.str z), some (.ref a), some (.ref b), some (.ref p), some (.str (p3 o)), some (.str (bh z l r o)), some (.int n)] H4 := by
        intro n H4 s4 e
        have ep4 : H4 p = some (.lst ((o3.take i).map fun o => V.int (jd z l r o))) := s4 _ _ (s3 _ _ ep)
        refine ⟨_, rfl, .inl ⟨rfl, _, SqL.of ep4⟩, _, rfl, p, _, _, rfl, rfl, ep4, small1000 (by simp; omega), ?_⟩
        refine ⟨((sm.trans s3).trans s4).put' hp, by rw [upd_ne (Ne.symm hpt)]; exact s4 _ _ (s3 _ _ et), ?_, _, _, _, rfl⟩
        rw [upd_same, List.take_succ, ho, e]
        simp
      refine ⟨_, rfl, rfl, _, rfl, ?_⟩
      rw [show (.str "even" : V) = .str (p3 .E) from rfl, dec_p3]
      by_cases hE : o = .E
      · refine tru (decide_eq_true hE) ?_
        refine ⟨_, rfl, _, _, rfl, rfl, _, rfl, ?_⟩
        rw [s_h, occ1]
        by_cases h1 : 104 ∈ z.cps.toList
        · refine fls (by simp [h1]) (fls rfl ?_)
          refine fin _ _ (Same.refl _) (hcnt.trans ?_)
          unfold jd allG; simp [h1]
        · refine tru (by simp [h1]) ?_
          refine ⟨_, rfl, _, _, rfl, rfl, _, rfl, ?_⟩
          rw [s_l, occ1]
          by_cases h2 : 108 ∈ z.cps.toList
          · refine fls (by simp [h2]) ?_
            refine fin _ _ (Same.refl _) (hcnt.trans ?_)
            unfold jd allG; simp [h2]
          · refine tru (by simp [h2]) ?_
            refine ⟨_, rfl, _, _, rfl, rfl, ?_⟩
            refine fin _ _ (Same.refl _) ((congrArg (· + 1) hcnt).trans ?_)
            unfold jd allG; simp [h1, h2, hE]
      · refine fls (decide_eq_false hE) (fls rfl ?_)
        refine fin _ _ (Same.refl _) (hcnt.trans ?_)
        unfold jd; simp [hE]
    · rintro σ H2 ⟨sm, et, ep, v4, v5, v6, rfl⟩
      exact ⟨_, rfl, q p H2 sm hp ep⟩
end
end Ks
end
section
namespace Ks
open PySem L2 Mir
structure EA where
  coin : Addr
  marks : Addr
  weigh : Addr
  out : Addr
  never : Addr
  bcoin : Addr
  text : Addr
def EA.six (e : EA) : List Addr := [e.marks, e.weigh, e.out, e.never, e.bcoin, e.text]
structure Errs (K : PySem.W.Frag) (mg : Str → Option Value) (e : EA) : Prop where
  m_coin : mg "CoinError" = some (.ref e.coin)
  m_marks : mg "BadMarks" = some (.ref e.marks)
  m_weigh : mg "BadWeighing" = some (.ref e.weigh)
  m_out : mg "BadOutcome" = some (.ref e.out)
  m_never : mg "Never" = some (.ref e.never)
  m_bcoin : mg "BadCoin" = some (.ref e.bcoin)
  m_text : mg "BadText" = some (.ref e.text)
  val : mg "ValueError" = none
  nd : e.six.Nodup
  exc : ∀ c ∈ e.six, PySem.W.excIn K c vMro "ValueError.__new__" = true
  xc : ∀ c ∈ e.six, PySem.W.XCls K c
  exm : ∀ c ∈ e.six, PySem.W.exmOne K (.ref c) (.ref e.coin) = some true
  exs : ∀ c ∈ e.six, ∀ d ∈ e.six, PySem.W.exmOne K (.ref c) (.ref d) = some (decide (c = d))
  kit : ∀ c ∈ e.six, ∀ d ∈ e.six, PySem.W.kitOne K (.ref c) (.ref d) = some (decide (c = d))
  kval : ∀ c ∈ e.six, PySem.W.kitOne K (.ref c) (.type "ValueError") = some true
theorem EA.m1 (e : EA) : e.marks ∈ e.six := by simp [EA.six]
theorem EA.m2 (e : EA) : e.weigh ∈ e.six := by simp [EA.six]
theorem EA.m3 (e : EA) : e.out ∈ e.six := by simp [EA.six]
theorem EA.m4 (e : EA) : e.never ∈ e.six := by simp [EA.six]
theorem EA.m5 (e : EA) : e.bcoin ∈ e.six := by simp [EA.six]
theorem EA.m6 (e : EA) : e.text ∈ e.six := by simp [EA.six]
theorem boot_valT : bootBuiltins "ValueError" = some (.type "ValueError") := by decide +kernel
section
variable {P : Program} {w : World} {K : PySem.W.Frag} {mg : Str → Option Value} {base : Heap}
def spTold : Sp := fun vs H Q _ => ∃ (z : Str) (a b : Addr) (l r : List Int) (o : P3), vs = [.str z, .ref a, .ref b, .str (p3 o)] ∧ MkOk z ∧ H a = some (.lst (l.map V.int)) ∧ H b = some (.lst (r.map V.int)) ∧ Wg z.length l r ∧ l.length ≤ 100 ∧
  ∀ H', Same H H' → Q (.str (if jd z l r o = 0 then "never" else bh z l r o)) H'
theorem sc__law_told : FnScope ["_law_marks_here", "_law_left_here", "_law_right_here", "_law_outcome", "error", "_law_others"] ["_law_marks_here", "_law_left_here", "_law_right_here", "_law_outcome"] (defScope (top 37)) := ⟨rfl, rfl, rfl, by decide +kernel, rfl, by decide +kernel, by decide +kernel⟩
theorem ok_told {f : Addr} {fd : FuncData} {e : EA} (F : Fun K "_law_told" "_law_told" (top 37) f fd) (B : Blt mg) (Er : Errs K mg e) (c_behind : Can P w K mg base (CXE P w) 5 "behind" ["marks", "left", "right", "outcome"] (spBh e.never)) :
    FnOk P w K mg base CX0 6 f fd ["_law_marks_here", "_law_left_here", "_law_right_here", "_law_outcome"] spTold := by
  refine F.ok sc__law_told (fun vs H Q E h => ?_) (fun cdv A outer s H vs Q E hr h => ?_)
  · obtain ⟨z, a, b, l, r, o, rfl, _⟩ := h; rfl
  · obtain ⟨z, a, b, l, r, o, rfl, M, ha, hb, W, hlen, q⟩ := h
    refine ⟨_, pss_one (ps_try (B := e.coin) (· = e.never) (i := 4) rfl rfl (by rfl) Er.m_coin sc__law_told.nd rfl rfl
      (fun F pn E' hp => pss_one (ps_ret (pe_can c_behind (hr.mono (by decide)) hp (pa_cons (pv 0) (pa_cons (pv 1) (pa_cons (pv 2) (pa_cons (pv 3) pa_nil)))))))
      (fun ad oe C hC hd => (pss_cons (ps_set (i := 5) sc__law_told.nd rfl (Or.inl rfl) (pe_lst (pa_cons (pe_callB (call_isiH (a := ad) rfl hd (hC ▸ Er.xc _ e.m4) List.mem_cons_self) (by rfl) B.isi boot_isi (pa_cons (pv 4) (pa_cons (pe_glob (v := .ref e.bcoin) (by rfl) Er.m_bcoin rfl) pa_nil))) (pa_cons (pe_callB (call_isiH (a := ad) rfl hd (hC ▸ Er.xc _ e.m4) List.mem_cons_self) (by rfl) B.isi boot_isi (pa_cons (pv 4) (pa_cons (pe_glob (v := .ref e.marks) (by rfl) Er.m_marks rfl) pa_nil))) (pa_cons (pe_callB (call_isiH (a := ad) rfl hd (hC ▸ Er.xc _ e.m4) List.mem_cons_self) (by rfl) B.isi boot_isi (pa_cons (pv 4) (pa_cons (pe_glob (v := .ref e.out) (by rfl) Er.m_out rfl) pa_nil))) pa_nil)))))
          (pss_cons (ps_set (i := 5) sc__law_told.nd rfl (Or.inl rfl) (pe_op op_cat (pv 5) (pe_lst (pa_cons (pe_callB (call_isiH (a := ad) rfl hd (hC ▸ Er.xc _ e.m4) List.mem_cons_self) (by rfl) B.isi boot_isi (pa_cons (pv 4) (pa_cons (pe_glob (v := .ref e.text) (by rfl) Er.m_text rfl) pa_nil))) (pa_cons (pe_callB (call_isiH (a := ad) rfl hd (hC ▸ Er.xc _ e.m4) List.mem_cons_self) (by rfl) B.isi boot_isi (pa_cons (pv 4) (pa_cons (pe_glob (v := .ref e.weigh) (by rfl) Er.m_weigh rfl) pa_nil))) pa_nil)))))
          (pss_cons (ps_expr (pe_bmK (K := K) rfl PySem.F.plainAttrs_list PySem.F.slot_list_append PySem.F.type_list_append mt_append (pv 5) (pa_cons (pe_not (pe_callB (call_isiH (a := ad) rfl hd (hC ▸ Er.xc _ e.m4) List.mem_cons_self) (by rfl) B.isi boot_isi (pa_cons (pv 4) (pa_cons (pe_bltn (v := .ty "ValueError") (by rfl) Er.val boot_valT rfl) pa_nil)))) pa_nil)))
          (pss_one (ps_ret (pe_ifExp (PW.pt (pw_and (pt_val (pe_callB (call_isiH (a := ad) rfl hd (hC ▸ Er.xc _ e.m4) List.mem_cons_self) (by rfl) B.isi boot_isi (pa_cons (pv 4) (pa_cons (pe_glob (v := .ref e.never) (by rfl) Er.m_never rfl) pa_nil)))) (pw_and1 (pt_not (pt_val (pe_callB (call_anyH (a := ad) hd List.mem_cons_self rfl) (by rfl) B.any boot_anyB (pa_cons (pv 5) pa_nil))))))) pe_str pe_str)))))))), ?_⟩
    have nd := Er.nd
    have kf : ∀ d ∈ e.six, d ≠ e.never → PySem.W.kitOne K (.ref e.never) (.ref d) = some false := fun d hd hne => by
      rw [Er.kit _ e.m4 d hd, decide_eq_false (fun z => hne z.symm)]
    have n1 : e.bcoin ≠ e.never := fun z => by simp [EA.six, z] at nd
    have n2 : e.marks ≠ e.never := fun z => by simp [EA.six, z] at nd
    have n3 : e.out ≠ e.never := fun z => by simp [EA.six, z] at nd
    have n4 : e.text ≠ e.never := fun z => by simp [EA.six, z] at nd
    have n5 : e.weigh ≠ e.never := fun z => by simp [EA.six, z] at nd
    have kt : PySem.W.kitOne K (.ref e.never) (.ref e.never) = some true := by rw [Er.kit _ e.m4 _ e.m4]; simp
    refine ⟨_, rfl, _, rfl, _, rfl, _, rfl, z, a, b, l, r, o, rfl, M, ha, hb, W, hlen, fun h0 H1 s1 => ?_, fun h1 H1 s1 => ?_⟩
    · refine ⟨e.never, rfl, rfl, Er.exm _ e.m4, fun ad => ?_⟩
      have q1 := fun H' s' => q H' s'
      rw [if_pos h0] at q1
      refine ⟨_, rfl, _, _, rfl, _, fun u h => h, kf _ e.m5 n1, _, rfl, _, _, rfl, _, fun u h => h, kf _ e.m1 n2, _, rfl, _, _, rfl, _, fun u h => h, kf _ e.m3 n3, by show 3 ≤ sizeLine; decide, fun p1 hp1 => ?_⟩
      refine ⟨_, rfl, _, rfl, _, _, rfl, _, fun u h => h, kf _ e.m6 n4, _, rfl, _, _, rfl, _, fun u h => h, kf _ e.m2 n5, by show 2 ≤ sizeLine; decide, fun p2 hp2 => ?_⟩
      have n12 : p1 ≠ p2 := fun z => by rw [← z, upd_same] at hp2; cases hp2
      refine ⟨p1, p2, _, _, rfl, rfl, by rw [upd_ne n12]; exact upd_same, upd_same, by show 3 + 2 ≤ sizeLine; decide, fun p3 hp3 => ?_⟩
      refine ⟨_, rfl, .inl ⟨rfl, _, SqL.of upd_same⟩, _, rfl, _, _, rfl, _, fun u h => h, Er.kval _ e.m4, _, rfl, p3, _, _, rfl, rfl, upd_same, small1000 (by show 5 ≤ 1000; decide), ?_⟩
      refine ⟨_, rfl, _, _, rfl, _, fun u h => h, kt, _, rfl, iteT ?_⟩
      refine ⟨_, rfl, p3, [false, false, false, false, false, false], rfl, by rw [upd_upd]; exact upd_same, _, rfl, iteT ?_⟩
      refine q1 _ ?_
      rw [upd_upd]
      have s2 : Same H (upd H1 p1 (.lst [V.bl false, V.bl false, V.bl false])) := s1.upd hp1
      exact (s2.upd hp2).upd hp3
    · have q1 := q H1 s1
      rw [if_neg (Nat.ne_of_gt h1)] at q1
      exact q1
end
end Ks
end
section
namespace Ks
open PySem L2 Mir
structure SidI (i : Int) (l r : List Int) : Prop where
  rl : l.Pairwise (· < ·)
  rr : r.Pairwise (· < ·)
  il : ∀ k ∈ l, 0 ≤ k ∧ k < i
  ir : ∀ k ∈ r, 0 ≤ k ∧ k < i
  dis : ∀ k ∈ l, k ∉ r
  cnt : (l.length : Int) + r.length ≤ i
theorem SidI.nil : SidI 0 [] [] := ⟨.nil, .nil, fun _ h => (nomatch h), fun _ h => (nomatch h), fun _ h => (nomatch h), by simp⟩
theorem SidI.skip {i : Int} {l r : List Int} (h : SidI i l r) : SidI (i + 1) l r := ⟨h.rl, h.rr, fun k hk => ⟨(h.il k hk).1, by have := (h.il k hk).2; omega⟩, fun k hk => ⟨(h.ir k hk).1, by have := (h.ir k hk).2; omega⟩, h.dis, by have := h.cnt; omega⟩
theorem SidI.left {i : Int} {l r : List Int} (h : SidI i l r) (hi : 0 ≤ i) : SidI (i + 1) (l ++ [i]) r := by
  refine ⟨List.pairwise_append.mpr ⟨h.rl, List.pairwise_singleton _ _, fun a ha b hb => ?_⟩, h.rr, fun k hk => ?_, h.skip.ir, fun k hk hr => ?_, by have := h.cnt; simp; omega⟩
  · simp at hb; rw [hb]; exact (h.il a ha).2
  · rcases List.mem_append.mp hk with z | z
    · exact h.skip.il k z
    · simp at z; omega
  · rcases List.mem_append.mp hk with z | z
    · exact h.dis k z hr
    · simp at z; have := (h.ir k hr).2; omega
theorem SidI.right {i : Int} {l r : List Int} (h : SidI i l r) (hi : 0 ≤ i) : SidI (i + 1) l (r ++ [i]) := by
  refine ⟨h.rl, List.pairwise_append.mpr ⟨h.rr, List.pairwise_singleton _ _, fun a ha b hb => ?_⟩, h.skip.il, fun k hk => ?_, fun k hk hr => ?_, by have := h.cnt; simp; omega⟩
  · simp at hb; rw [hb]; exact (h.ir a ha).2
  · rcases List.mem_append.mp hk with z | z
    · exact h.skip.ir k z
    · simp at z; omega
  · rcases List.mem_append.mp hr with z | z
    · exact h.dis k hk z
    · simp at z; have := (h.il k hk).2; omega
theorem rise_len' : ∀ {l : List Int} {lo hi : Int}, l.Pairwise (· < ·) → (∀ k ∈ l, lo ≤ k ∧ k < hi) → lo ≤ hi → (l.length : Int) ≤ hi - lo
  | [], lo, hi, _, _, h => by simp; omega
  | x :: l, lo, hi, h, hb, _ => by
    obtain ⟨h1, h2⟩ := List.pairwise_cons.mp h
    obtain ⟨hx0, hxi⟩ := hb x List.mem_cons_self
    have ih := rise_len' (l := l) (lo := x + 1) (hi := hi) h2 (fun k hk => ⟨by have := h1 k hk; omega, (hb k (List.mem_cons_of_mem _ hk)).2⟩) (by omega)
    simp only [List.length_cons]
    push_cast
    omega
theorem rise_len {l : List Int} {n : Nat} (h : l.Pairwise (· < ·)) (hb : ∀ k ∈ l, 0 ≤ k ∧ k < (n : Int)) : l.length ≤ n := by
  have := rise_len' h hb (by omega)
  omega
theorem SidI.wg {n : Int} {l r : List Int} (h : SidI (n + 1) l r) (m : Nat) (h1 : m ≤ l.length) (h2 : m ≤ r.length) : Wg n (l.take m) (r.drop (r.length - m)) := by
  refine ⟨h.rl.sublist (List.take_sublist _ _), h.rr.sublist (List.drop_sublist _ _), fun k hk => ?_, fun k hk => ?_, ?_, fun k hk hr => h.dis k (List.mem_of_mem_take hk) (List.mem_of_mem_drop hr)⟩
  · have := h.il k (List.mem_of_mem_take hk); omega
  · have := h.ir k (List.mem_of_mem_drop hk); omega
  · rw [List.length_take, List.length_drop]; omega
theorem cut_take (l : List Int) (m : Nat) (h : m ≤ l.length) : cutV (l.map V.int) none (some (m : Int)) = (l.take m).map V.int := by
  unfold cutV
  rw [HT.sIx_none, HT.sIx_nat, List.length_map, List.drop_zero, Nat.min_eq_left h, Nat.sub_zero, List.map_take]
theorem cut_drop (l : List Int) (m : Nat) (h : m ≤ l.length) : cutV (l.map V.int) (some (m : Int)) none = (l.drop m).map V.int := by
  unfold cutV
  rw [HT.sIx_none, HT.sIx_nat, List.length_map, Nat.min_eq_left h, List.map_drop]
  exact List.take_of_length_le (by simp)
section
variable {P : Program} {w : World} {K : PySem.W.Frag} {mg : Str → Option Value} {base : Heap}
def spSides (K : PySem.W.Frag) : Sp := fun vs H Q _ => ∃ (a : Addr) (ns : List Int) (b : Int) (n : Nat), vs = [.ref a, .int b, .int n] ∧ SqL K H a (ns.map V.int) ∧ ns.length ≤ 63 ∧ 0 ≤ b ∧ n ≤ 63 ∧
  ∀ (t p1 p2 : Addr) (l r : List Int) (H' : Hp), Same H H' → H' t = some (.tup [.ref p1, .ref p2]) → H' p1 = some (.lst (l.map V.int)) → H' p2 = some (.lst (r.map V.int)) → Wg n l r → l.length ≤ 32 → Q (.ref t) H'
theorem sc__law_sides : FnScope ["_law_script", "_law_by", "_law_coins", "_law_left_here", "_law_right_here", "_law_coin", "_law_side", "_law_many"] ["_law_script", "_law_by", "_law_coins"] (defScope (top 38)) := ⟨rfl, rfl, rfl, by decide +kernel, rfl, by decide +kernel, by decide +kernel⟩
theorem ok_sides {f : Addr} {fd : FuncData} (F : Fun K "_law_sides" "_law_sides" (top 38) f fd) (B : Blt mg) (c__law_cell_at : Can P w K mg base CX0 1 "_law_cell_at" ["_law_script", "_law_k"] (spCell K)) (c__law_draw : Can P w K mg base CX0 1 "_law_draw" ["_law_cell", "_law_k", "_law_many"] spDraw) :
    FnOk P w K mg base CX0 2 f fd ["_law_script", "_law_by", "_law_coins"] (spSides K) := by
  refine F.ok sc__law_sides (fun vs H Q E h => ?_) (fun cdv A outer s H vs Q E hr h => ?_)
  · obtain ⟨a, ns, b, n, rfl, _⟩ := h; rfl
  · obtain ⟨a, ns, b, n, rfl, ha, hns, hb, hn, q⟩ := h
    refine ⟨_, (pss_cons (ps_par rfl sc__law_sides.nd (i := 3) (j := 4) rfl rfl (by decide) rfl rfl (pa_cons (pe_lst pa_nil) (pa_cons (pe_lst pa_nil) pa_nil)) rfl)
      (pss_cons (ps_for PassesOwn.never rfl (pi_range1 (by rfl) B.range (pa_cons (pe_op op_add (pv 2) pe_int) pa_nil)) (pg_name (i := 5) sc__law_sides.nd rfl (Or.inl rfl)) (pss_cons (ps_set (i := 6) sc__law_sides.nd rfl (Or.inl rfl) (pe_can c__law_draw (hr.mono (by decide)) pass0 (pa_cons (pe_op op_add (pe_can c__law_cell_at (hr.mono (by decide)) pass0 (pa_cons (pv 0) (pa_cons (pe_op op_mod (pv 5) (pe_callB (call_max2 rfl) (by rfl) B.max boot_maxB (pa_cons pe_int (pa_cons (pe_callB call_len_seq (by rfl) B.len boot_lenB (pa_cons (pv 0) pa_nil)) pa_nil)))) pa_nil))) (pe_op op_mul pe_int (pv 5))) (pa_cons (pe_op op_add (pv 1) (pe_op op_mod (pv 5) pe_int)) (pa_cons pe_int pa_nil))))) (pss_cons (ps_if (pt_cmpR op_eq (pv 6) pe_int (nomark _)) (pss_one (ps_expr (pe_bm PySem.F.plainAttrs_list PySem.F.slot_list_append PySem.F.type_list_append mt_append (pv 3) (pa_cons (pv 5) pa_nil)))) pss_nil) (pss_one (ps_if (pt_cmpR op_eq (pv 6) pe_int (nomark _)) (pss_one (ps_expr (pe_bm PySem.F.plainAttrs_list PySem.F.slot_list_append PySem.F.type_list_append mt_append (pv 4) (pa_cons (pv 5) pa_nil)))) pss_nil)))))
      (pss_cons (ps_set (i := 7) sc__law_sides.nd rfl (Or.inl rfl) (pe_callB (call_min2 rfl) (by rfl) B.min boot_minB (pa_cons (pe_callB call_len_seq (by rfl) B.len boot_lenB (pa_cons (pv 3) pa_nil)) (pa_cons (pe_callB call_len_seq (by rfl) B.len boot_lenB (pa_cons (pv 4) pa_nil)) pa_nil))))
      (pss_one (ps_ret (pe_tup (pa_cons (pe_slice sl_list (pv 3) po_none (po_some (pv 7))) (pa_cons (pe_slice sl_list (pv 4) (po_some (pe_op op_sub (pe_callB call_len_seq (by rfl) B.len boot_lenB (pa_cons (pv 4) pa_nil)) (pv 7))) po_none) pa_nil)))))))), ?_⟩
    refine ⟨by show 0 ≤ sizeLine; decide, fun p1 hp1 => ⟨by show 0 ≤ sizeLine; decide, fun p2 hp2 => ⟨_, _, rfl, ?_⟩⟩⟩
    have hp12 : p1 ≠ p2 := fun e => by rw [← e, upd_same] at hp2; cases hp2
    have hp2H : H p2 = none := by rw [upd_ne (Ne.symm hp12)] at hp2; exact hp2
    refine ⟨_, rfl, _, _, rfl, rfl, (n : Int) + 1, rfl, by omega, by omega, ?_⟩
    refine for_range (lo := 0) (n := n + 1) (fun i σ H2 => Same H H2 ∧ ∃ (l r : List Int) (v5 v6 v7 : Option V), H2 p1 = some (.lst (l.map V.int)) ∧ H2 p2 = some (.lst (r.map V.int)) ∧ SidI i l r ∧ σ = [some (.ref a), some (.int b), some (.int n), some (.ref p1), some (.ref p2), v5, v6, v7]) ?_ ?_ ?_
    · exact ⟨((Same.refl H).put' hp1).put' hp2H, [], [], none, none, none, by rw [upd_ne hp12, upd_same]; rfl, by rw [upd_same]; rfl, SidI.nil, rfl⟩
    · rintro i σ H2 hi ⟨sm, l, r, v5, v6, v7, e1, e2, S, rfl⟩
      rw [Int.zero_add]
      have hm : (0 : Int) < (if ((ns.map V.int).length : Int) > 1 then ((ns.map V.int).length : Int) else 1) := by split <;> omega
      refine ⟨_, rfl, _, rfl, _, rfl, a, _, rfl, .inl (sm.seq ha), 1, _, rfl, _, _, rfl, rfl, hm, a, ns, _, rfl, sm.seq ha, Int.emod_nonneg _ (by omega), _, rfl, _, _, rfl, rfl, .inl ⟨by decide, by decide⟩, _, _, rfl, rfl, _, rfl, _, rfl, _, _, rfl, rfl, (by show (0 : Int) < 3; decide), _, _, rfl, rfl, _, _, _, rfl, ?_, by decide, fun H3 s3 => ?_⟩
      · have := Int.emod_nonneg (i : Int) (show (3 : Int) ≠ 0 by decide); omega
      have e13 := s3 _ _ e1
      have e23 := s3 _ _ e2
      have s03 := sm.trans s3
      have hl : l.length ≤ i := rise_len S.rl S.il
      have hrl : r.length ≤ i := rise_len S.rr S.ir
      have sec : ∀ (d : Int) (l' : List Int) (H4 : Hp), Same H H4 → H4 p1 = some (.lst (l'.map V.int)) → H4 p2 = some (.lst (r.map V.int)) → (d ≠ 1 → SidI ((i : Int) + 1) l' r) → (d = 1 → SidI ((i : Int) + 1) l' (r ++ [(i : Int)])) →
          tIfS (tTest (tOp rEq (tVar 6) (tC (.int 1)))) (tDrop (tBM K "list" rAppend (tVar 4) (tCons (tVar 5) tNil))) tNext { nx := fun σ H2 => Same H H2 ∧ ∃ (l r : List Int) (v5 v6 v7 : Option V), H2 p1 = some (.lst (l.map V.int)) ∧ H2 p2 = some (.lst (r.map V.int)) ∧ SidI ((i + 1 : Nat) : Int) l r ∧ σ = [some (.ref a), some (.int b), some (.int n), some (.ref p1), some (.ref p2), v5, v6, v7], rt := Q }
            [some (.ref a), some (.int b), some (.int n), some (.ref p1), some (.ref p2), some (.int i), some (.int d), v7] H4 := by
        intro d l' H4 s4 f1 f2 k1 k2
        refine ⟨_, rfl, rfl, _, rfl, ?_⟩
        by_cases hd : d = 1
        · refine tru (by rw [dInt]; exact decide_eq_true hd) ?_
          refine ⟨_, rfl, .inl ⟨rfl, _, SqL.of f2⟩, _, rfl, p2, _, _, rfl, rfl, f2, small1000 (by simp; omega), ?_⟩
          exact ⟨s4.put' hp2H, l', r ++ [(i : Int)], _, _, _, by rw [upd_ne hp12]; exact f1, by rw [upd_same]; simp, by push_cast; exact k2 hd, rfl⟩
        · refine fls (by rw [dInt]; exact decide_eq_false hd) ?_
          exact ⟨s4, l', r, _, _, _, f1, f2, by push_cast; exact k1 hd, rfl⟩
      generalize drawF _ _ _ = d
      refine ⟨_, rfl, rfl, _, rfl, ?_⟩
      by_cases hd : d = 0
      · refine tru (by rw [dInt]; exact decide_eq_true hd) ?_
        refine ⟨_, rfl, .inl ⟨rfl, _, SqL.of e13⟩, _, rfl, p1, _, _, rfl, rfl, e13, small1000 (by simp; omega), ?_⟩
        refine sec d (l ++ [(i : Int)]) _ (s03.put' hp1) (by rw [upd_same]; simp) (by rw [upd_ne (Ne.symm hp12)]; exact e23) (fun _ => S.left (by omega)) (fun h => by omega)
      · refine fls (by rw [dInt]; exact decide_eq_false hd) ?_
        exact sec d l _ s03 e13 e23 (fun _ => S.skip) (fun _ => S.right (by omega))
    · rintro σ H2 ⟨sm, l, r, v5, v6, v7, e1, e2, S, rfl⟩
      have hl : l.length ≤ n + 1 := rise_len S.rl S.il
      have hrl : r.length ≤ n + 1 := rise_len S.rr S.ir
      refine ⟨_, rfl, p1, _, rfl, .inl (SqL.of e1), _, rfl, p2, _, rfl, .inl (SqL.of e2), _, _, rfl, ?_⟩
      rw [List.length_map, List.length_map]
      have hmin : (if (r.length : Int) < (l.length : Int) then (r.length : Int) else (l.length : Int)) = ((min l.length r.length : Nat) : Int) := by
        split <;> omega
      generalize hM : min l.length r.length = m at hmin
      have m1 : m ≤ l.length := by omega
      have m2 : m ≤ r.length := by omega
      rw [hmin]
      refine ⟨_, rfl, _, rfl, (m : Int), rfl, p1, _, rfl, SqL.of e1, fun q1 hq1 => ?_⟩
      have n1 : p2 ≠ q1 := ne_of_none e2 hq1
      have e2' : upd H2 q1 (.lst (cutV (l.map V.int) none (some (m : Int)))) p2 = some (.lst (r.map V.int)) := by rw [upd_ne n1]; exact e2
      refine ⟨_, rfl, _, rfl, p2, _, rfl, .inl (SqL.of e2'), _, rfl, _, _, rfl, rfl, _, rfl, p2, _, rfl, SqL.of e2', fun q2 hq2 => ?_⟩
      have n2 : q1 ≠ q2 := fun z => by rw [← z, upd_same] at hq2; cases hq2
      refine ⟨by show 2 ≤ sizeLine; decide, fun t ht => ?_⟩
      have n3 : q1 ≠ t := fun z => by rw [← z, upd_ne n2, upd_same] at ht; cases ht
      have n4 : q2 ≠ t := fun z => by rw [← z, upd_same] at ht; cases ht
      have W := S.wg (n := n) m m1 m2
      have e5 : (((r.map V.int).length : Int) - (m : Int)) = ((r.length - m : Nat) : Int) := by rw [List.length_map]; omega
      refine q t q1 q2 (l.take m) (r.drop (r.length - m)) _ ((((sm.upd hq1)).upd hq2).upd ht) upd_same ?_ ?_ W ?_
      · rw [upd_ne n3, upd_ne n2, upd_same, cut_take l m m1]
      · rw [upd_ne n4, upd_same, e5, cut_drop r _ (by omega)]
      · have := S.cnt
        rw [List.length_take]
        push_cast at this
        omega
end
end Ks
end
section
namespace Ks
open PySem L2 Mir
theorem boot_tupleT : bootBuiltins "tuple" = some (.type "tuple") := by decide +kernel
section
variable {P : Program} {w : World} {K : PySem.W.Frag} {mg : Str → Option Value} {base : Heap}
theorem sc__law_whole : FnScope ["_law_number"] ["_law_number"] (defScope (top 36)) := ⟨rfl, rfl, rfl, by decide +kernel, rfl, by decide +kernel, by decide +kernel⟩
theorem ok_lwhole {f : Addr} {fd : FuncData} (F : Fun K "_law_whole" "_law_whole" (top 36) f fd) (B : Blt mg) (T : Kit K) : FnOk P w K mg base CX0 1 f fd ["_law_number"] spWhole := by
  refine F.ok sc__law_whole (fun vs H Q E h => ?_) (fun cdv A outer s H vs Q E hr h => ?_)
  · obtain ⟨i, rfl, _⟩ := h; rfl
  · obtain ⟨i, rfl, k⟩ := h
    refine ⟨_, (pss_one (ps_ret (pe_and (pe_callB call_isi (by rfl) B.isi boot_isi (pa_cons (pv 0) (pa_cons (pe_bltn (v := .ty "int") (by rfl) B.int boot_intT rfl) pa_nil))) (pe_one (pe_not (pe_callB call_isi (by rfl) B.isi boot_isi (pa_cons (pv 0) (pa_cons (pe_bltn (v := .ty "bool") (by rfl) B.bool boot_boolT rfl) pa_nil)))))))), ?_⟩
    refine ⟨_, rfl, _, _, _, _, rfl, .int i, T.ii, _, rfl, iteT ?_⟩
    exact ⟨_, rfl, _, _, _, _, rfl, .int i, T.ib, _, rfl, k⟩
def spRight : Sp := fun vs H Q _ => ∃ (z : Str) (a b : Addr) (l r : List Int), vs = [.str z, .ref a, .ref b] ∧ MkOk z ∧ H a = some (.lst (l.map V.int)) ∧ H b = some (.lst (r.map V.int)) ∧ Wg z.length l r ∧ l.length ≤ 60 ∧ ∀ H', Same H H' → Q (.bl true) H'
theorem sc__law_right : FnScope ["_law_marks_here", "_law_left_here", "_law_right_here", "_law_handed", "_law_due", "_law_found", "_law_k", "_law_outcome", "_law_after"] ["_law_marks_here", "_law_left_here", "_law_right_here"] (defScope (top 39)) := ⟨rfl, rfl, rfl, by decide +kernel, rfl, by decide +kernel, by decide +kernel⟩
theorem ok_right {f : Addr} {fd : FuncData} (F : Fun K "_law_right" "_law_right" (top 39) f fd) (B : Blt mg) (T : Kit K) (c__law_left : Can P w K mg base CX0 2 "_law_left" ["_law_marks_here", "_law_left_here", "_law_right_here"] spLL) (c_judged : Can P w K mg base CX0 4 "judged" ["marks", "left", "right"] spJd)
    (c__law_whole : Can P w K mg base CX0 1 "_law_whole" ["_law_number"] spWhole) (c__law_told : Can P w K mg base CX0 6 "_law_told" ["_law_marks_here", "_law_left_here", "_law_right_here", "_law_outcome"] spTold) (c__law_behind : Can P w K mg base CX0 1 "_law_behind" ["_law_marks_here", "_law_left_here", "_law_right_here", "_law_outcome"] spLB) :
    FnOk P w K mg base CX0 7 f fd ["_law_marks_here", "_law_left_here", "_law_right_here"] spRight := by
  refine F.ok sc__law_right (fun vs H Q E h => ?_) (fun cdv A outer s H vs Q E hr h => ?_)
  · obtain ⟨z, a, b, l, r, rfl, _⟩ := h; rfl
  · obtain ⟨z, a, b, l, r, rfl, M, ha, hb, W, hlen, q⟩ := h
    have hu1 := hu_of hr
    have hu : _ < cLine := Nat.lt_of_succ_lt (hu_of hr)
    refine ⟨_, (pss_cons (ps_set (i := 3) sc__law_right.nd rfl (Or.inl rfl) (pe_lst (pa_cons (pe_callTy call_list_of (by rfl) B.list boot_listT (pa_cons (pv 1) pa_nil)) (pa_cons (pe_callTy call_list_of (by rfl) B.list boot_listT (pa_cons (pv 2) pa_nil)) pa_nil))))
      (pss_cons (ps_set (i := 4) sc__law_right.nd rfl (Or.inl rfl) (pe_can c__law_left (hr.mono (by decide)) pass0 (pa_cons (pv 0) (pa_cons (pv 1) (pa_cons (pv 2) pa_nil)))))
      (pss_cons (ps_set (i := 5) sc__law_right.nd rfl (Or.inl rfl) (pe_can c_judged (hr.mono (by decide)) pass0 (pa_cons (pv 0) (pa_cons (pe_ix ix_list (pv 3) pe_int (fun _ _ => rfl)) (pa_cons (pe_ix ix_list (pv 3) pe_int (fun _ _ => rfl)) pa_nil)))))
      (pss_cons (ps_if (PW.pt (pw_or (pt_not (pt_val (pe_callB call_isi (by rfl) B.isi boot_isi (pa_cons (pv 5) (pa_cons (pe_bltn (v := .ty "tuple") (by rfl) B.tuple boot_tupleT rfl) pa_nil))))) (pw_or (pt_cmpR (op_neL hu) (pe_callTy call_list_of (by rfl) B.list boot_listT (pa_cons (pv 5) pa_nil)) (pv 4) (nomark _)) (pw_or1 (pt_not (pt_val (pe_callB (call_allL rfl) (by rfl) B.all boot_allB (pa_cons (pe_comp (N := ["_law_marks_here", "_law_left_here", "_law_right_here", "_law_handed", "_law_due", "_law_found", "_law_k", "_law_outcome", "_law_after"]) (sc0 := defScope (top 39)) ["_law_one"] [] [] rfl rfl rfl ⟨rfl, by decide +kernel, by decide +kernel, by decide +kernel, rfl, by decide +kernel⟩ (pi_tup (pv 5)) (fun _ _ _ _ => (pg_name (i := 0) (by decide +kernel : (["_law_one"] : List Str).Nodup) rfl (Or.inl rfl) (.inr rfl))) (fun _ _ _ _ => (pe_can c__law_whole (hr.mono (by decide)) pass0 (pa_cons (pv 0) pa_nil)))) pa_nil)))))))) (pss_one (ps_ret pe_bl)) pss_nil)
      (pss_cons (ps_for PassesOwn.never rfl (pi_enumT (by rfl) B.enum (pe_tup (pa_cons pe_str (pa_cons pe_str (pa_cons pe_str pa_nil))))) (pg_tup rfl (pgs_cons (pg_name (i := 6) sc__law_right.nd rfl (Or.inl rfl)) (pgs_cons (pg_name (i := 7) sc__law_right.nd rfl (Or.inl rfl)) pgs_nil))) (pss_cons (ps_set (i := 8) sc__law_right.nd rfl (Or.inl rfl) (pe_can c__law_told (hr.mono (by decide)) pass0 (pa_cons (pv 0) (pa_cons (pe_ix ix_list (pv 3) pe_int (fun _ _ => rfl)) (pa_cons (pe_ix ix_list (pv 3) pe_int (fun _ _ => rfl)) (pa_cons (pv 7) pa_nil)))))) (pss_one (ps_if (pt_cmpR op_ne (pv 8) (pe_ifExp (pt_cmpR op_gt (pe_ix ix_list (pv 4) (pv 6) (fun _ _ => rfl)) pe_int (nomark _)) (pe_can c__law_behind (hr.mono (by decide)) pass0 (pa_cons (pv 0) (pa_cons (pv 1) (pa_cons (pv 2) (pa_cons (pv 7) pa_nil))))) pe_str) (nomark _)) (pss_one (ps_ret pe_bl)) pss_nil))))
      (pss_one (ps_ret (pe_cmpR (op_eqLL hu1) (pv 3) (pe_lst (pa_cons (pv 1) (pa_cons (pv 2) pa_nil))) (nomark _))))))))), ?_⟩
    have hz3 : z.length ≤ 300 := Nat.le_trans M.len (by decide)
    have rl : r.length ≤ 60 := by rw [← W.len]; exact hlen
    refine ⟨_, rfl, a, _, rfl, .inl (SqL.of ha), fun p1 hp1 => ?_⟩
    have b1 : upd H p1 (.lst (l.map V.int)) b = some (.lst (r.map V.int)) := by rw [upd_ne (ne_of_none hb hp1)]; exact hb
    refine ⟨_, rfl, b, _, rfl, .inl (SqL.of b1), fun p2 hp2 => ⟨by show 2 ≤ sizeLine; decide, fun ph hph => ?_⟩⟩
    have s1 : Same H (upd (upd (upd H p1 (.lst (l.map V.int))) p2 (.lst (r.map V.int))) ph (.lst [.ref p1, .ref p2])) := ((Same.upd0 hp1).upd hp2).upd hph
    have n12 : p1 ≠ p2 := fun e => by rw [← e, upd_same] at hp2; cases hp2
    have n1h : p1 ≠ ph := fun e => by rw [← e, upd_ne n12, upd_same] at hph; cases hph
    have n2h : p2 ≠ ph := fun e => by rw [← e, upd_same] at hph; cases hph
    have x1 : upd (upd (upd H p1 (.lst (l.map V.int))) p2 (.lst (r.map V.int))) ph (.lst [.ref p1, .ref p2]) p1 = some (.lst (l.map V.int)) := by rw [upd_ne n1h, upd_ne n12, upd_same]
    have x2 : upd (upd (upd H p1 (.lst (l.map V.int))) p2 (.lst (r.map V.int))) ph (.lst [.ref p1, .ref p2]) p2 = some (.lst (r.map V.int)) := by rw [upd_ne n2h, upd_same]
    have xh : upd (upd (upd H p1 (.lst (l.map V.int))) p2 (.lst (r.map V.int))) ph (.lst [.ref p1, .ref p2]) ph = some (.lst [.ref p1, .ref p2]) := upd_same
    have na : a ≠ p1 := ne_of_none ha hp1
    have nb : b ≠ p2 := ne_of_none b1 hp2
    refine ⟨_, rfl, _, rfl, _, rfl, z, a, b, l, r, rfl, M.sg, hz3, s1 _ _ ha, s1 _ _ hb, W.dis, fun pd H2 s2 hpd ed => ?_⟩
    refine ⟨_, rfl, _, rfl, ph, _, 0, .ref p1, rfl, rfl, SqL.of (s2 _ _ xh), rfl, _, rfl, ph, _, 1, .ref p2, rfl, rfl, SqL.of (s2 _ _ xh), rfl, z, p1, p2, l, r, rfl, M, s2 _ _ x1, s2 _ _ x2, W, by omega, fun H3 pt s3 hpt et => ?_⟩
    have s02 := s1.trans s2
    have s03 := s02.trans s3
    refine ⟨_, rfl, _, _, _, _, rfl, .tup et, T.tt, _, rfl, iteF ?_⟩
    refine ⟨_, rfl, pt, _, rfl, .inr (SqT.of et), fun p4 hp4 => ?_⟩
    have ed4 : upd H3 p4 (.lst [.int (jd z l r .L), .int (jd z l r .R), .int (jd z l r .E)]) pd = some (.lst ((o3.map fun o => (jd z l r o : Int)).map V.int)) := by
      rw [upd_ne (ne_of_none (s3 _ _ ed) hp4), s3 _ _ ed, List.map_map]; rfl
    have ep4 : upd H3 p4 (.lst [.int (jd z l r .L), .int (jd z l r .R), .int (jd z l r .E)]) p4 = some (.lst ((o3.map fun o => (jd z l r o : Int)).map V.int)) := upd_same
    refine ⟨_, rfl, p4, pd, _, _, rfl, rfl, SqL.of ep4, SqL.of ed4, flat_ints _, flat_ints _, _, rfl, ?_⟩
    rw [L2.eqVs_ints]
    refine fls (by simp) ?_
    have s04 : Same H3 (upd H3 p4 (.lst [V.int (jd z l r .L), V.int (jd z l r .R), V.int (jd z l r .E)])) := Same.upd0 hp4
    generalize upd H3 p4 (.lst [V.int (jd z l r .L), V.int (jd z l r .R), V.int (jd z l r .E)]) = H4 at s04 ed4 ep4 ⊢
    refine ⟨_, rfl, pt, rfl, ⟨_, SqT.of (s04 _ _ et)⟩, fun p5 hp5 => ?_⟩
    refine comp_tup (xs := [V.int (jd z l r .L), V.int (jd z l r .R), V.int (jd z l r .E)]) hp5 (SqT.of (s04 _ _ et)) (by show 3 < sizeLine; decide) (fun _ => .bl true) (fun σ' => ∃ v0, σ' = [v0]) ?_ ?_ ?_
    · exact ⟨none, rfl⟩
    · rintro i x σ' H' hx ⟨v0, rfl⟩ sm' KK kk
      obtain ⟨k, rfl⟩ : ∃ k, x = .int k := by
        match i, hx with
        | 0, hx => cases hx; exact ⟨_, rfl⟩
        | 1, hx => cases hx; exact ⟨_, rfl⟩
        | 2, hx => cases hx; exact ⟨_, rfl⟩
        | n + 3, hx => simp at hx
      exact ⟨_, rfl, k, rfl, kk [some (.int k)] H' ⟨_, rfl⟩ (Same.refl _)⟩
    intro H5 s5 hq5
    refine ⟨p5, [true, true, true], rfl, hq5, _, rfl, iteF ?_⟩
    have s35 : Same H3 H5 := s04.trans s5
    have s05 : Same H H5 := s03.trans s35
    have y1 := s35 _ _ (s3 _ _ (s2 _ _ x1))
    have y2 := s35 _ _ (s3 _ _ (s2 _ _ x2))
    have yh := s35 _ _ (s3 _ _ (s2 _ _ xh))
    have yd : H5 pd = some (.lst ((o3.map fun o => (jd z l r o : Int)).map V.int)) := s5 _ _ ed4
    have ya := s05 _ _ ha
    have yb := s05 _ _ hb
    refine ⟨by show 3 ≤ sizeLine; decide, fun t ht => ⟨t, rfl, ⟨_, SqT.of upd_same⟩, ?_⟩⟩
    refine for_enumT (K := K) (a := t) (xs := [.str "left", .str "right", .str "even"]) (fun i σ H2 => Same (upd H5 t (.tup [.str "left", .str "right", .str "even"])) H2 ∧ ∃ (v6 v7 v8 : Option V), σ = [some (.str z), some (.ref a), some (.ref b), some (.ref ph), some (.ref pd), some (.ref pt), v6, v7, v8]) ?_ ?_ ?_ ?_
    · exact ⟨Same.refl _, none, none, none, rfl⟩
    · rintro i σ H2 _ ⟨sm, _⟩
      exact SqT.of (sm _ _ upd_same)
    · rintro i x t' σ H6 hx ht' ⟨sm, v6, v7, v8, rfl⟩
      obtain ⟨o, rfl, ho⟩ := three hx
      have hi : i < 3 := (List.getElem?_eq_some_iff.mp ho).1
      refine ⟨t', _, rfl, SqT.of upd_same, rfl, _, _, rfl, _, _, rfl, rfl, ?_⟩
      have s7 : Same (upd H5 t (.tup [.str "left", .str "right", .str "even"])) (upd H6 t' (.tup [V.int i, V.str (p3 o)])) := sm.upd ht'
      generalize upd H6 t' (.tup [V.int i, V.str (p3 o)]) = H7 at s7 ⊢
      have s57 : Same H5 H7 := (Same.upd0 ht).trans s7
      refine ⟨_, rfl, _, rfl, ph, _, 0, .ref p1, rfl, rfl, SqL.of (s57 _ _ yh), rfl, _, rfl, ph, _, 1, .ref p2, rfl, rfl, SqL.of (s57 _ _ yh), rfl, _, rfl, z, p1, p2, l, r, o, rfl, M, s57 _ _ y1, s57 _ _ y2, W, by omega, fun H8 s8 => ?_⟩
      have s58 := s57.trans s8
      have at6 : atI ((o3.map fun o => (jd z l r o : Int)).map V.int) (i : Int) = some (.int (jd z l r o)) := atI_nat (by rw [List.getElem?_map, List.getElem?_map, ho]; rfl)
      refine ⟨_, rfl, _, rfl, _, rfl, pd, _, _, _, rfl, rfl, SqL.of (s58 _ _ yd), at6, _, _, rfl, rfl, _, rfl, ?_⟩
      by_cases hj : jd z l r o = 0
      · refine fls (decide_eq_false (by omega)) ?_
        rw [if_pos hj]
        refine ⟨rfl, _, rfl, iteNS rfl ?_⟩
        exact ⟨s7.trans s8, _, _, _, rfl⟩
      · refine tru (decide_eq_true (by omega)) ?_
        rw [if_neg hj]
        refine ⟨_, rfl, _, rfl, _, rfl, _, rfl, z, a, b, l, r, o, rfl, M.sg, hz3, s58 _ _ ya, s58 _ _ yb, W.dis, fun H9 s9 => ?_⟩
        refine ⟨rfl, _, rfl, iteNS rfl ?_⟩
        exact ⟨(s7.trans s8).trans s9, _, _, _, rfl⟩
    · rintro σ H6 ⟨sm, v6, v7, v8, rfl⟩
      have s56 : Same H5 H6 := (Same.upd0 ht).trans sm
      refine ⟨_, rfl, _, rfl, _, rfl, by show 2 ≤ sizeLine; decide, fun p9 hp9 => ?_⟩
      have s59 : Same H5 (upd H6 p9 (.lst [.ref a, .ref b])) := s56.upd hp9
      refine ⟨ph, p9, p1, p2, a, b, _, _, _, _, rfl, rfl, SqL.of (s59 _ _ yh), SqL.of upd_same, Ne.symm na, Ne.symm nb, SqL.of (s59 _ _ y1), SqL.of (s59 _ _ y2), SqL.of (s59 _ _ ya), SqL.of (s59 _ _ yb), flat_ints l, flat_ints r, flat_ints l, flat_ints r, ?_⟩
      rw [L2.eqVs_ints, L2.eqVs_ints]
      have := q _ (s05.trans s59)
      simpa using this
end
end Ks
end
section
namespace Ks
open PySem L2 Mir
theorem dec_ch' (a b : Nat) : decide (V.str ⟨#[a]⟩ = V.str (ch1 b)) = decide (a = b) := dec_ch a b
section
variable {P : Program} {w : World} {K : PySem.W.Frag} {mg : Str → Option Value} {base : Heap}
def spCR : Sp := fun vs H Q _ => ∃ (z : Str) (a b : Addr) (l r : List Int), vs = [.str z, .ref a, .ref b] ∧ MkOk z ∧ H a = some (.lst (l.map V.int)) ∧ H b = some (.lst (r.map V.int)) ∧ Wg z.length l r ∧ l.length ≤ 60 ∧ ∀ H', Same H H' → Q (.bl true) H'
theorem sc__law_cases_right : FnScope ["_law_marks_here", "_law_left_here", "_law_right_here", "_law_coins", "_law_coin", "_law_sign", "_law_heavy", "_law_outcome", "_law_after"] ["_law_marks_here", "_law_left_here", "_law_right_here"] (defScope (top 40)) := ⟨rfl, rfl, rfl, by decide +kernel, rfl, by decide +kernel, by decide +kernel⟩
theorem ok_cr {f : Addr} {fd : FuncData} {Cn : Addr} (F : Fun K "_law_cases_right" "_law_cases_right" (top 40) f fd) (B : Blt mg) (c_weighed : Can P w K mg base CX0 4 "weighed" ["coins", "odd", "heavy", "left", "right"] spWd)
    (c_behind : Can P w K mg base CX0 5 "behind" ["marks", "left", "right", "outcome"] (fun vs H Q _ => spBh Cn vs H Q E0)) : FnOk P w K mg base CX0 6 f fd ["_law_marks_here", "_law_left_here", "_law_right_here"] spCR := by
  refine F.ok sc__law_cases_right (fun vs H Q E h => ?_) (fun cdv A outer s H vs Q E hr h => ?_)
  · obtain ⟨z, a, b, l, r, rfl, _⟩ := h; rfl
  · obtain ⟨z, a, b, l, r, rfl, M, ha, hb, W, hlen, q⟩ := h
    refine ⟨_, (pss_cons (ps_set (i := 3) sc__law_cases_right.nd rfl (Or.inl rfl) (pe_callB call_len_str (by rfl) B.len boot_lenB (pa_cons (pv 0) pa_nil)))
      (pss_cons (ps_for PassesOwn.never rfl (pi_enumS (by rfl) B.enum (pv 0)) (pg_tup rfl (pgs_cons (pg_name (i := 4) sc__law_cases_right.nd rfl (Or.inl rfl)) (pgs_cons (pg_name (i := 5) sc__law_cases_right.nd rfl (Or.inl rfl)) pgs_nil))) (pss_one (ps_for PassesOwn.never rfl (pi_tup (pe_tup (pa_cons pe_bl (pa_cons pe_bl pa_nil)))) (pg_name (i := 6) sc__law_cases_right.nd rfl (Or.inl rfl)) (pss_cons (ps_set (i := 7) sc__law_cases_right.nd rfl (Or.inl rfl) (pe_can c_weighed (hr.mono (by decide)) pass0 (pa_cons (pv 3) (pa_cons (pv 4) (pa_cons (pv 6) (pa_cons (pv 1) (pa_cons (pv 2) pa_nil))))))) (pss_one (ps_if (PW.pt (pw_or (pt_cmpR op_eq (pv 5) pe_str (nomark _)) (pw_or1 (pt_cmpR op_eq (pv 5) (pe_ifExp (pt_val (pv 6)) pe_str pe_str) (nomark _))))) (pss_cons (ps_set (i := 8) sc__law_cases_right.nd rfl (Or.inl rfl) (pe_can c_behind (hr.mono (by decide)) pass0 (pa_cons (pv 0) (pa_cons (pv 1) (pa_cons (pv 2) (pa_cons (pv 7) pa_nil)))))) (pss_one (ps_if (PW.pt (pw_and (pt_cmpR op_ne (pe_ix ix_str (pv 8) (pv 4) (fun _ _ => rfl)) pe_str (nomark _)) (pw_and1 (pt_cmpR op_ne (pe_ix ix_str (pv 8) (pv 4) (fun _ _ => rfl)) (pe_ifExp (pt_val (pv 6)) pe_str pe_str) (nomark _))))) (pss_one (ps_ret pe_bl)) pss_nil))) pss_nil))))))
      (pss_one (ps_ret (pe_and (pe_cmpR op_eq (pe_can c_weighed (hr.mono (by decide)) pass0 (pa_cons (pv 3) (pa_cons (pe_un un_neg pe_int) (pa_cons pe_bl (pa_cons (pv 1) (pa_cons (pv 2) pa_nil)))))) pe_str (nomark _)) (pe_one (pe_cmpR op_eq (pe_can c_weighed (hr.mono (by decide)) pass0 (pa_cons (pv 3) (pa_cons (pe_un un_neg pe_int) (pa_cons pe_bl (pa_cons (pv 1) (pa_cons (pv 2) pa_nil)))))) pe_str (nomark _)))))))), ?_⟩
    have hz : z.length ≤ sizeLine := Nat.le_trans M.len (by decide)
    have hszl : z.length = z.cps.size := rfl
    refine ⟨_, rfl, z, rfl, hz, ?_⟩
    refine ⟨_, rfl, z, rfl, for_enumS (x := z) (fun i σ H2 => Same H H2 ∧ ∃ (v4 v5 v6 v7 v8 : Option V), σ = [some (.str z), some (.ref a), some (.ref b), some (.int z.length), v4, v5, v6, v7, v8]) ?_ ?_ ?_⟩
    · exact ⟨Same.refl _, none, none, none, none, none, rfl⟩
    · rintro i c t σ H2 hi ht ⟨sm, v4, v5, v6, v7, v8, rfl⟩
      have hic : z.cps.toList[i]? = some c := by simpa using hi
      have hil : i < z.cps.size := (Array.getElem?_eq_some_iff.mp hi).1
      have sc : Sign c := M.sg c (List.mem_of_getElem? hic)
      refine ⟨t, _, rfl, SqT.of upd_same, rfl, _, _, rfl, _, _, rfl, rfl, ?_⟩
      have s2 : Same H (upd H2 t (.tup [V.int i, V.str ⟨#[c]⟩])) := sm.upd ht
      generalize upd H2 t (.tup [V.int i, V.str ⟨#[c]⟩]) = H3 at s2 ⊢
      refine ⟨by show 2 ≤ sizeLine; decide, fun t2 ht2 => ⟨t2, rfl, ⟨_, SqT.of upd_same⟩, ?_⟩⟩
      refine for_tup (K := K) (a := t2) (xs := [.bl true, .bl false]) (fun j σ H4 => Same (upd H3 t2 (.tup [.bl true, .bl false])) H4 ∧ ∃ (v6 v7 v8 : Option V), σ = [some (.str z), some (.ref a), some (.ref b), some (.int z.length), some (.int i), some (.str ⟨#[c]⟩), v6, v7, v8]) ?_ ?_ ?_ ?_
      · exact ⟨Same.refl _, v6, v7, v8, rfl⟩
      · rintro j σ H4 _ ⟨sm', _⟩
        exact SqT.of (sm' _ _ upd_same)
      · rintro j x σ H4 hx ⟨sm', v6, v7, v8, rfl⟩
        obtain ⟨hv, rfl⟩ : ∃ hv, x = .bl hv := by
          match j, hx with
          | 0, hx => cases hx; exact ⟨_, rfl⟩
          | 1, hx => cases hx; exact ⟨_, rfl⟩
          | n + 2, hx => simp at hx
        have s04 : Same H H4 := (s2.trans (Same.upd0 ht2)).trans sm'
        refine ⟨_, rfl, _, rfl, _, rfl, _, rfl, _, rfl, z.length, i, hv, a, b, l, r, rfl, by omega, by omega, by omega, s04 _ _ ha, s04 _ _ hb, W, by omega, fun H5 s5 => ?_⟩
        have s05 := s04.trans s5
        have s35 := sm'.trans s5
        generalize ho : (if hv = true then pl l r i else other (pl l r i)) = o
        have body : (c = 101 ∨ c = (if hv then 104 else 108)) → ∀ D : Ends, (∀ (v8 : Option V) (H6 : Hp), Same H5 H6 → D.nx [some (.str z), some (.ref a), some (.ref b), some (.int z.length), some (.int i), some (.str ⟨#[c]⟩), some (.bl hv), some (.str (p3 o)), v8] H6) →
            tSeq (tAsg (tCall (fun vs H Q _ => spBh Cn vs H Q E0) [] E0 (tCons (tVar 0) (tCons (tVar 1) (tCons (tVar 2) (tCons (tVar 7) tNil))))) (gName 8)) (tIfS (tAnd (tTest (tOp rNe (tOp rIxS (tVar 8) (tVar 4)) (tC (.str "e")))) (tTest (tOp rNe (tOp rIxS (tVar 8) (tVar 4)) (tIf (tB (tVar 6)) (tC (.str "h")) (tC (.str "l")))))) (tRet (tC (.bl false))) tNext) D
              [some (.str z), some (.ref a), some (.ref b), some (.int z.length), some (.int i), some (.str ⟨#[c]⟩), some (.bl hv), some (.str (p3 o)), v8] H5 := by
          intro hm D hD
          have c1p : 0 < c1 c (pl l r i) o := by
            refine c1_pos (hv := hv) ?_
            subst ho
            cases hv with
            | true => exact ⟨by rcases hm with h | h <;> (rw [h]; rfl), rfl⟩
            | false => exact ⟨by rcases hm with h | h <;> (rw [h]; rfl), rfl⟩
          have jpos : 0 < jd z l r o := by
            have := cs1_pos z.cps.toList 0 i c hic (by rw [Nat.zero_add]; exact c1p)
            unfold jd; omega
          refine ⟨_, rfl, _, rfl, _, rfl, _, rfl, z, a, b, l, r, o, rfl, M, s05 _ _ ha, s05 _ _ hb, W, by omega, fun h0 => by omega, fun _ H6 s6 => ?_⟩
          have own := sb_own sc (pl l r i) hv hm
          rw [ho] at own
          have lenb : (bh z l r o).length ≤ sizeLine := by
            have e : (bh z l r o).length = z.length := by
              show (aft l r o 0 z.cps.toList).toArray.size = z.cps.size
              simp [aft_len]
            rw [e]; exact hz
          have atb : atI (bh z l r o).cps.toList (i : Int) = some (sb c (pl l r i) o) := by
            refine atI_nat ?_
            have := aft_get (l := l) (r := r) (o := o) z.cps.toList 0 i c hic
            rw [Nat.zero_add] at this
            exact this
          refine ⟨_, rfl, _, rfl, _, _, _, rfl, rfl, lenb, atb, rfl, _, rfl, ?_⟩
          rw [s_e, dec_ch']
          by_cases h1 : sb c (pl l r i) o = 101
          · refine fls (by rw [decide_eq_true h1]; rfl) (fls rfl ?_)
            exact hD _ H6 s6
          · refine tru (by rw [decide_eq_false h1]; rfl) ?_
            have h2 := own.resolve_left h1
            refine ⟨_, rfl, _, rfl, _, _, _, rfl, rfl, lenb, atb, _, rfl, _, rfl, ?_⟩
            cases hv with
            | true =>
              refine iteT ⟨rfl, _, rfl, ?_⟩
              rw [s_h, dec_ch']
              refine fls (by rw [decide_eq_true (show sb c (pl l r i) o = 104 from h2)]; rfl) ?_
              exact hD _ H6 s6
            | false =>
              refine iteF ⟨rfl, _, rfl, ?_⟩
              rw [s_l, dec_ch']
              refine fls (by rw [decide_eq_true (show sb c (pl l r i) o = 108 from h2)]; rfl) ?_
              exact hD _ H6 s6
        have fin : ∀ (v8 : Option V) (H6 : Hp), Same H5 H6 → Same (upd H3 t2 (.tup [.bl true, .bl false])) H6 ∧ ∃ (v6 v7 v8' : Option V), [some (V.str z), some (.ref a), some (.ref b), some (.int z.length), some (.int i), some (.str ⟨#[c]⟩), some (.bl hv), some (.str (p3 o)), v8] = [some (.str z), some (.ref a), some (.ref b), some (.int z.length), some (.int i), some (.str ⟨#[c]⟩), v6, v7, v8'] := fun v8 H6 s6 => ⟨s35.trans s6, _, _, _, rfl⟩
        refine ⟨_, rfl, rfl, _, rfl, ?_⟩
        rw [s_e, dec_ch']
        by_cases hc1 : c = 101
        · refine tru (decide_eq_true hc1) (iteT ?_)
          exact body (.inl hc1) _ fin
        · refine fls (decide_eq_false hc1) ⟨_, rfl, _, rfl, _, rfl, ?_⟩
          cases hv with
          | true =>
            refine iteT ⟨rfl, _, rfl, ?_⟩
            rw [s_h, dec_ch']
            by_cases hc2 : c = 104
            · refine tru (decide_eq_true hc2) ?_
              exact body (.inr hc2) _ fin
            · exact fls (decide_eq_false hc2) (fin _ H5 (Same.refl _))
          | false =>
            refine iteF ⟨rfl, _, rfl, ?_⟩
            rw [s_l, dec_ch']
            by_cases hc2 : c = 108
            · refine tru (decide_eq_true hc2) ?_
              exact body (.inr hc2) _ fin
            · exact fls (decide_eq_false hc2) (fin _ H5 (Same.refl _))
      · rintro σ H4 ⟨sm', v6, v7, v8, rfl⟩
        exact ⟨(s2.trans (Same.upd0 ht2)).trans sm', _, _, _, _, _, rfl⟩
    · rintro σ H2 ⟨sm, v4, v5, v6, v7, v8, rfl⟩
      have plm : pl l r (-1) = .E := by
        unfold pl
        rw [if_neg fun h => by have := (W.inR _ h).1; omega, if_neg fun h => by have := (W.inL _ h).1; omega]
      refine ⟨_, rfl, _, rfl, _, rfl, _, rfl, z.length, -1, true, a, b, l, r, rfl, by omega, by omega, by omega, sm _ _ ha, sm _ _ hb, W, by omega, fun H3 s3 => ?_⟩
      rw [plm]
      refine ⟨rfl, _, rfl, iteT ?_⟩
      have s03 := sm.trans s3
      refine ⟨_, rfl, _, rfl, _, rfl, _, rfl, z.length, -1, false, a, b, l, r, rfl, by omega, by omega, by omega, s03 _ _ ha, s03 _ _ hb, W, by omega, fun H4 s4 => ?_⟩
      rw [plm]
      exact ⟨rfl, q H4 (s03.trans s4)⟩
end
end Ks
end
section
namespace Ks
open PySem L2 Mir
theorem mul_e (n : Nat) : (Txt.mul "e" (n : Int)).cps.toList = List.replicate n 101 := by
  unfold Txt.mul
  split
  · have : n = 0 := by omega
    subst this; rfl
  · split
    · rename_i h1 h2
      have h2' : ((n : Int) == 1) = true := by
        rcases Bool.or_eq_true_iff.mp h2 with z | z
        · exact z
        · exact absurd z (by decide +kernel)
      have : n = 1 := by have := beq_iff_eq.mp h2'; omega
      subst this; rfl
    · rw [Int.toNat_natCast]
      have go : ∀ (k : Nat) (acc : Array Nat), (List.foldl (fun x1 x2 => x1 ++ x2) acc (List.replicate k ("e" : Str).cps)).toList = acc.toList ++ List.replicate k 101 := by
        intro k
        induction k with
        | zero => intro acc; simp
        | succ k ih =>
          intro acc
          rw [List.replicate_succ, List.foldl_cons, ih, Array.toList_append, List.append_assoc]
          rfl
      have := go n #[]
      simpa using this
theorem e_mk (n : Nat) (h : n ≤ 100) : MkOk (Txt.mul "e" n) ∧ (Txt.mul "e" n).length = n := by
  have key := mul_e n
  have hl : (Txt.mul "e" (n : Int)).length = n := by rw [str_len, key]; simp
  refine ⟨⟨fun c hc => ?_, fun _ => ⟨fun hc => ?_, fun hc => ?_⟩, by rw [hl]; exact h⟩, hl⟩
  · rw [key] at hc; exact .inl (List.eq_of_mem_replicate hc)
  · rw [key] at hc; exact absurd (List.eq_of_mem_replicate hc) (by decide)
  · rw [key] at hc; exact absurd (List.eq_of_mem_replicate hc) (by decide)
theorem mulOk_e {x : Str} (hx : x.length = 1) (n : Nat) (h : n ≤ 1000) : MulOk x (n : Int) := by
  refine ⟨by simp; omega, fun h1 _ h2 => ?_, fun h1 _ => ?_⟩
  · rw [hx] at h2
    have : (1 : Int) ≤ (2 ^ 63 - 1) / (n : Int) := by
      rw [Int.le_ediv_iff_mul_le (by omega)]; omega
    omega
  · rw [hx, Nat.one_mul, Int.toNat_natCast]
    unfold Builtin.Str.tooLong
    refine decide_eq_false ?_
    have : (1000 : Nat) ≤ sizeLine := by decide
    omega
theorem slice_sub {z : Str} {lo hi : Option Int} {c : Nat} (h : c ∈ (Txt.slice z lo hi).cps.toList) : c ∈ z.cps.toList := by
  unfold Txt.slice at h
  split at h
  · exact h
  · have h' : c ∈ List.filterMap (fun x => z.cps[x]?) (Builtin.Str.strSliceIndices lo hi 1 z.length) := by simpa using h
    obtain ⟨i, _, hi⟩ := List.mem_filterMap.mp h'
    exact Array.mem_toList_iff.mpr (Array.mem_of_getElem? hi)
theorem cut_mk {z : Str} (M : MkOk z) (lo hi : Option Int) : MkOk (Txt.slice z lo hi) :=
  ⟨fun c hc => M.sg c (slice_sub hc), fun he => ⟨fun h => (M.ex (slice_sub he)).1 (slice_sub h), fun h => (M.ex (slice_sub he)).2 (slice_sub h)⟩, Nat.le_trans (Txt.slice_le z lo hi) M.len⟩
section
variable {P : Program} {w : World} {K : PySem.W.Frag} {mg : Str → Option Value} {base : Heap}
def spLaw (K : PySem.W.Frag) : Sp := fun vs H Q _ => ∃ (a : Addr) (ns : List Int), vs = [.ref a] ∧ SqL K H a (ns.map V.int) ∧ ns.length ≤ 63 ∧ ∀ H', Same H H' → Q (.bl true) H'
theorem sc_law : FnScope ["_law_script", "_law_marks_here", "_law_by", "_law_left_here", "_law_right_here"] ["_law_script"] (defScope (top 41)) := ⟨rfl, rfl, rfl, by decide +kernel, rfl, by decide +kernel, by decide +kernel⟩
theorem ok_law {f : Addr} {fd : FuncData} (F : Fun K "law" "law" (top 41) f fd) (B : Blt mg) (c__law_marks : Can P w K mg base CX0 2 "_law_marks" ["_law_script"] (spMarks K)) (c__law_sides : Can P w K mg base CX0 2 "_law_sides" ["_law_script", "_law_by", "_law_coins"] (spSides K))
    (c__law_weighing : Can P w K mg base CX0 1 "_law_weighing" ["_law_coins", "_law_left_here", "_law_right_here"] spWg) (c__law_right : Can P w K mg base CX0 7 "_law_right" ["_law_marks_here", "_law_left_here", "_law_right_here"] spRight)
    (c__law_cases_right : Can P w K mg base CX0 6 "_law_cases_right" ["_law_marks_here", "_law_left_here", "_law_right_here"] spCR) : FnOk P w K mg base CX0 8 f fd ["_law_script"] (spLaw K) := by
  refine F.ok sc_law (fun vs H Q E h => ?_) (fun cdv A outer s H vs Q E hr h => ?_)
  · obtain ⟨a, ns, rfl, _⟩ := h; rfl
  · obtain ⟨a, ns, rfl, ha, hn, q⟩ := h
    refine ⟨_, (pss_cons (ps_set (i := 1) sc_law.nd rfl (Or.inl rfl) (pe_can c__law_marks (hr.mono (by decide)) pass0 (pa_cons (pv 0) pa_nil)))
      (pss_cons (ps_for PassesOwn.never rfl (pi_tup (pe_tup (pa_cons pe_int (pa_cons pe_int (pa_cons pe_int pa_nil))))) (pg_name (i := 2) sc_law.nd rfl (Or.inl rfl)) (pss_cons (ps_asg (pe_can c__law_sides (hr.mono (by decide)) pass0 (pa_cons (pv 0) (pa_cons (pv 2) (pa_cons (pe_callB call_len_str (by rfl) B.len boot_lenB (pa_cons (pv 1) pa_nil)) pa_nil)))) (pg_tup rfl (pgs_cons (pg_name (i := 3) sc_law.nd rfl (Or.inl rfl)) (pgs_cons (pg_name (i := 4) sc_law.nd rfl (Or.inl rfl)) pgs_nil)))) (pss_cons (ps_if (PW.pt (pw_or (pt_not (pt_val (pe_can c__law_weighing (hr.mono (by decide)) pass0 (pa_cons (pe_callB call_len_str (by rfl) B.len boot_lenB (pa_cons (pv 1) pa_nil)) (pa_cons (pv 3) (pa_cons (pv 4) pa_nil)))))) (pw_or1 (pt_not (pt_val (pe_can c__law_right (hr.mono (by decide)) pass0 (pa_cons (pv 1) (pa_cons (pv 3) (pa_cons (pv 4) pa_nil))))))))) (pss_one (ps_ret pe_bl)) pss_nil) (pss_one (ps_if (pt_not (pt_val (pe_can c__law_right (hr.mono (by decide)) pass0 (pa_cons (pe_op op_mulS pe_str (pe_callB call_len_str (by rfl) B.len boot_lenB (pa_cons (pv 1) pa_nil))) (pa_cons (pv 4) (pa_cons (pv 3) pa_nil)))))) (pss_one (ps_ret pe_bl)) pss_nil)))))
      (pss_cons (ps_asg (pe_can c__law_sides (hr.mono (by decide)) pass0 (pa_cons (pv 0) (pa_cons pe_int (pa_cons (pe_callB call_len_str (by rfl) B.len boot_lenB (pa_cons (pv 1) pa_nil)) pa_nil)))) (pg_tup rfl (pgs_cons (pg_name (i := 3) sc_law.nd rfl (Or.inl rfl)) (pgs_cons (pg_name (i := 4) sc_law.nd rfl (Or.inl rfl)) pgs_nil))))
      (pss_cons (ps_if (PW.pt (pw_or (pt_not (pt_val (pe_can c__law_cases_right (hr.mono (by decide)) pass0 (pa_cons (pe_slice sl_str (pv 1) po_none (po_some pe_int)) (pa_cons (pe_lst pa_nil) (pa_cons (pe_lst pa_nil) pa_nil)))))) (pw_or1 (pt_not (pt_val (pe_can c__law_right (hr.mono (by decide)) pass0 (pa_cons (pv 1) (pa_cons (pe_lst pa_nil) (pa_cons (pe_lst pa_nil) pa_nil))))))))) (pss_one (ps_ret pe_bl)) pss_nil)
      (pss_one (ps_ret (pe_can c__law_cases_right (hr.mono (by decide)) pass0 (pa_cons (pv 1) (pa_cons (pv 3) (pa_cons (pv 4) pa_nil)))))))))), ?_⟩
    have M : MkOk (marksF ns) := marksF_ok (by omega)
    have hlen : (marksF ns).length = ns.length := marksF_len ns
    have hzl : (marksF ns).length ≤ sizeLine := Nat.le_trans M.len (by decide)
    refine ⟨_, rfl, a, ns, rfl, ha, hn, fun H1 s1 => ?_⟩
    generalize marksF ns = z at M hlen hzl ⊢
    refine ⟨by show 3 ≤ sizeLine; decide, fun t ht => ⟨t, rfl, ⟨_, SqT.of upd_same⟩, ?_⟩⟩
    refine for_tup (K := K) (a := t) (xs := [.int 1, .int 4, .int 7]) (fun i σ H2 => Same (upd H1 t (.tup [.int 1, .int 4, .int 7])) H2 ∧ ∃ (v2 v3 v4 : Option V), σ = [some (.ref a), some (.str z), v2, v3, v4]) ?_ ?_ ?_ ?_
    · exact ⟨Same.refl _, none, none, none, rfl⟩
    · rintro i σ H2 _ ⟨sm, _⟩
      exact SqT.of (sm _ _ upd_same)
    · rintro i x σ H2 hx ⟨sm, v2, v3, v4, rfl⟩
      obtain ⟨k, rfl, hk⟩ : ∃ k : Int, x = .int k ∧ 0 ≤ k := by
        match i, hx with
        | 0, hx => cases hx; exact ⟨_, rfl, by decide⟩
        | 1, hx => cases hx; exact ⟨_, rfl, by decide⟩
        | 2, hx => cases hx; exact ⟨_, rfl, by decide⟩
        | n + 3, hx => simp at hx
      have s02 : Same H H2 := (s1.upd ht).trans sm
      refine ⟨_, rfl, _, rfl, _, rfl, z, rfl, hzl, a, ns, k, z.length, rfl, s02.seq ha, hn, hk, by omega, fun ts p1 p2 l r H3 s3 ets e1 e2 W hl => ?_⟩
      refine ⟨ts, _, rfl, SqT.of ets, rfl, _, _, rfl, _, _, rfl, rfl, ?_⟩
      have hr2 : r.length < 64 := by rw [← W.len]; omega
      refine ⟨_, rfl, z, rfl, hzl, _, rfl, _, rfl, z.length, p1, p2, l, r, rfl, e1, e2, by omega, hr2, fun H4 s4 => ⟨_, rfl, ?_⟩⟩
      rw [wgB_iff.mpr W]
      refine iteF ⟨_, rfl, _, rfl, _, rfl, z, p1, p2, l, r, rfl, M, s4 _ _ e1, s4 _ _ e2, W, by omega, fun H5 s5 => ⟨_, rfl, iteF ?_⟩⟩
      have s45 := s4.trans s5
      obtain ⟨Me, le⟩ := e_mk z.length (by omega)
      refine ⟨_, rfl, z, rfl, hzl, _, _, rfl, rfl, ?_, _, rfl, _, rfl, Txt.mul "e" z.length, p2, p1, r, l, rfl, Me, s45 _ _ e2, s45 _ _ e1, by rw [le]; exact W.swap, by rw [← W.len]; omega, fun H6 s6 => ⟨_, rfl, iteF ?_⟩⟩
      · exact mulOk_e rfl _ (by omega)
      · exact ⟨((sm.trans s3).trans s45).trans s6, _, _, _, rfl⟩
    · rintro σ H2 ⟨sm, v2, v3, v4, rfl⟩
      have s02 : Same H H2 := (s1.upd ht).trans sm
      refine ⟨_, rfl, _, rfl, z, rfl, hzl, a, ns, 2, z.length, rfl, s02.seq ha, hn, by decide, by omega, fun ts p1 p2 l r H3 s3 ets e1 e2 W hl => ?_⟩
      refine ⟨ts, _, rfl, SqT.of ets, rfl, _, _, rfl, _, _, rfl, rfl, ?_⟩
      refine ⟨_, rfl, 12, rfl, z, rfl, hzl, by show 0 ≤ sizeLine; decide, fun q1 hq1 => ⟨by show 0 ≤ sizeLine; decide, fun q2 hq2 => ?_⟩⟩
      have n12 : q1 ≠ q2 := fun e => by rw [← e, upd_same] at hq2; cases hq2
      refine ⟨Txt.slice z none (some 12), q1, q2, [], [], rfl, cut_mk M _ _, by rw [upd_ne n12]; exact upd_same, upd_same, Wg.nil, by decide, fun H4 s4 => ⟨_, rfl, iteF ?_⟩⟩
      have s34 : Same H3 H4 := ((Same.upd0 hq1).upd hq2).trans s4
      refine ⟨_, rfl, by show 0 ≤ sizeLine; decide, fun q3 hq3 => ⟨by show 0 ≤ sizeLine; decide, fun q4 hq4 => ?_⟩⟩
      have n34 : q3 ≠ q4 := fun e => by rw [← e, upd_same] at hq4; cases hq4
      refine ⟨z, q3, q4, [], [], rfl, M, by rw [upd_ne n34]; exact upd_same, upd_same, Wg.nil, by decide, fun H5 s5 => ⟨_, rfl, iteF ?_⟩⟩
      have s35 : Same H3 H5 := (s34.trans ((Same.upd0 hq3).upd hq4)).trans s5
      refine ⟨_, rfl, _, rfl, _, rfl, z, p1, p2, l, r, rfl, M, s35 _ _ e1, s35 _ _ e2, W, by omega, fun H6 s6 => ?_⟩
      exact q H6 (((s02.trans s3).trans s35).trans s6)
end
end Ks
end
section
namespace PySem.W
theorem findObj_dataN {K : Frag} {C : Addr} {name : Str} {a g : Value} (hc : (clsIn K C).isSome = true) (ha : findIn K (.ref C) name = some (some a)) (hg : specialIn K a "__get__" = some (some g)) (ht : takesIn K a = some true) : findObj K C none name = some (.bind g a) := by
  obtain ⟨cd, hc⟩ := Option.isSome_iff_exists.mp hc
  unfold findObj; rw [hc, Option.bind_some, ha, Option.bind_some]; simp [hg, ht]
end PySem.W
namespace Ks
open PySem L2 Mir
def DefIn (K : PySem.W.Frag) (x : Str) (st : Stmt) : Prop := ∃ f fd, PySem.W.nsIn K mainGlobals x = some (some (.ref f)) ∧ Fun K x x st f fd
theorem def_mk {K : PySem.W.Frag} {x : Str} {st : Stmt} {f : Addr} {oc : Value} {od an : Option Addr} {osl : Array (Option Value)} {kV doc pm cdv ct : Value} (a : PySem.W.nsIn K mainGlobals x = some (some (.ref f)))
    (l : K.lookup f = some ⟨oc, od, .func (PySem.W.fnOf x x (defArgs st) (defBody st) (defScope st) .none kV doc pm an cdv ct), osl⟩) (c : PySem.W.codeIn K cdv x = true) (k : PySem.W.keepIn K (.ref f) = true) : DefIn K x st := ⟨f, _, a, fun_mk l c k⟩
theorem can_of {P : Program} {w : World} {K : PySem.W.Frag} {mg : Str → Option Value} {base h : Heap} {CX : CXT} {k : Nat} {x : Str} {st : Stmt} {ps : List Str} {sp : Sp} (X : K.In h) (G : h.Ns mainGlobals mg) (D : DefIn K x st)
    (hb : ∀ (kV doc pm : Value) (an : Option Addr) (cdv ct : Value) (us : List Value), us.length = ps.length → bindArgs (PySem.W.fnOf x x (defArgs st) (defBody st) (defScope st) .none kV doc pm an cdv ct) ⟨us, []⟩ = pure (ps.zip us))
    (ok : ∀ f fd, Fun K x x st f fd → FnOk P w K mg base CX k f fd ps sp) : Can P w K mg base CX k x ps sp := by
  obtain ⟨f, fd, a, F⟩ := D
  exact ⟨f, fd, PySem.W.mg_of X G a, F.kp, F.binds hb, ok f fd F⟩
theorem _root_.L2.Can.never {P : Program} {w : World} {K : PySem.W.Frag} {mg : Str → Option Value} {base : Heap} {k : Nat} {x : Str} {ps : List Str} {sp : Sp} (C : Can P w K mg base (CXE P w) k x ps sp) : Can P w K mg base CX0 k x ps (fun vs H Q _ => sp vs H Q E0) := by
  obtain ⟨f, fd, a, b, c, d⟩ := C
  exact ⟨f, fd, a, b, c, d.never⟩
def errB (K : PySem.W.Frag) (c0 : Addr) (six : List Addr) : Bool := six.all fun c => PySem.W.excIn K c vMro "ValueError.__new__" && (PySem.W.exmOne K (.ref c) (.ref c0) == some true) && (PySem.W.kitOne K (.ref c) (.type "ValueError") == some true) &&
  (six.all fun d => (PySem.W.exmOne K (.ref c) (.ref d) == some (decide (c = d))) && (PySem.W.kitOne K (.ref c) (.ref d) == some (decide (c = d)))) &&
  (PySem.W.findIn K (.ref c) "__getattribute__" == some (some (.builtin "BaseException.__getattribute__"))) && (PySem.W.findIn K (.ref c) "__getattr__" == some none) && (PySem.W.findIn K (.ref c) "__class__" == some (some (.builtin "object.__class__"))) &&
  (PySem.W.mroIn K c (.type "BaseException") == some true) && (PySem.W.mroIn K c (.type "object") == some true) && (PySem.W.clsIn K c).isSome
theorem errs_mk {K : PySem.W.Frag} {h : Heap} {mg : Str → Option Value} (X : K.In h) (G : h.Ns mainGlobals mg) {c0 c1 c2 c3 c4 c5 c6 : Addr} (n0 : PySem.W.nsIn K mainGlobals "CoinError" = some (some (.ref c0))) (n1 : PySem.W.nsIn K mainGlobals "BadMarks" = some (some (.ref c1)))
    (n2 : PySem.W.nsIn K mainGlobals "BadWeighing" = some (some (.ref c2))) (n3 : PySem.W.nsIn K mainGlobals "BadOutcome" = some (some (.ref c3))) (n4 : PySem.W.nsIn K mainGlobals "Never" = some (some (.ref c4))) (n5 : PySem.W.nsIn K mainGlobals "BadCoin" = some (some (.ref c5))) (n6 : PySem.W.nsIn K mainGlobals "BadText" = some (some (.ref c6)))
    (nv : PySem.W.nsIn K mainGlobals "ValueError" = some none) (sp : PySem.W.specialIn K (.builtin "object.__class__") "__get__" = some (some (.builtin "getset_descriptor.__get__"))) (tk : PySem.W.takesIn K (.builtin "object.__class__") = some true)
    (nd : [c1, c2, c3, c4, c5, c6].Nodup) (al : errB K c0 [c1, c2, c3, c4, c5, c6] = true) : ∃ e, Errs K mg e := by
  have A : ∀ c ∈ [c1, c2, c3, c4, c5, c6], _ := List.all_eq_true.mp al
  simp only [Bool.and_eq_true, beq_iff_eq, List.all_eq_true] at A
  refine ⟨⟨c0, c1, c2, c3, c4, c5, c6⟩, ⟨PySem.W.mg_of X G n0, PySem.W.mg_of X G n1, PySem.W.mg_of X G n2, PySem.W.mg_of X G n3, PySem.W.mg_of X G n4, PySem.W.mg_of X G n5, PySem.W.mg_of X G n6, PySem.W.mg_none_of X G nv, nd, fun c hc => ?_, fun c hc => ?_, fun c hc => ?_, fun c hc d hd => ?_, fun c hc d hd => ?_, fun c hc => ?_⟩⟩
  all_goals obtain ⟨⟨⟨⟨⟨⟨⟨⟨⟨a1, a2⟩, a3⟩, a4⟩, a5⟩, a6⟩, a7⟩, a8⟩, a9⟩, a10⟩ := A c hc
  · exact a1
  · exact ⟨a5, a6, PySem.W.findObj_dataN a10 a7 sp tk, a8, a9, a10⟩
  · exact a2
  · exact (a4 d hd).1
  · exact (a4 d hd).2
  · exact a3
theorem oth_mk {K : PySem.W.Frag} {w : World} {h : Heap} {mg : Str → Option Value} (X : K.In h) (G : h.Ns mainGlobals mg) {d : Addr} {es : Array DictEntry} {n : Nat} {t1 t2 t3 : Tok} (a : PySem.W.nsIn K mainGlobals "OTHER" = some (some (.ref d))) (l : K.lookup d = some ⟨.type "dict", none, .dict es n, #[]⟩)
    (b1 : PySem.W.nsIn K d "left" = some (some (.str "right" t1))) (b2 : PySem.W.nsIn K d "right" = some (some (.str "left" t2))) (b3 : PySem.W.nsIn K d "even" = some (some (.str "even" t3))) (kl : PySem.W.KeysLit w.params es.toList) : Oth K w mg :=
  ⟨d, es, n, PySem.W.mg_of X G a, l, kl, fun p => match p with | .L => ⟨_, b1, ⟨t1, rfl⟩⟩ | .R => ⟨_, b2, ⟨t2, rfl⟩⟩ | .E => ⟨_, b3, ⟨t3, rfl⟩⟩⟩
theorem outs_mk {K : PySem.W.Frag} {h : Heap} {mg : Str → Option Value} (X : K.In h) (G : h.Ns mainGlobals mg) {d : Addr} {n : Nat} {t1 t2 t3 : Tok} {sl : Array (Option Value)} (a : PySem.W.nsIn K mainGlobals "OUTCOMES" = some (some (.ref d))) (l : K.lookup d = some ⟨.type "tuple", none, .seq #[.str "left" t1, .str "right" t2, .str "even" t3] n, sl⟩) : Outs K mg :=
  ⟨d, _, _, n, PySem.W.mg_of X G a, l, rfl, rfl, rfl, .cons ⟨t1, rfl⟩ (.cons ⟨t2, rfl⟩ (.cons ⟨t3, rfl⟩ .nil))⟩
theorem all_mk {P : Program} {w : World} {K : PySem.W.Frag} {h : Heap} {mg : Str → Option Value} {fa : Addr} (X : K.In h) (G : h.Ns mainGlobals mg) (hfa : mg "law" = some (.ref fa)) (B : Blt mg) (T : Kit K) (O1 : Oth K w mg) (O2 : Outs K mg) (Er : ∃ e, Errs K mg e)
    (Dis_whole : DefIn K "is_whole" (top 10))
    (Dcheck_marks : DefIn K "check_marks" (top 11))
    (Dcheck_side : DefIn K "check_side" (top 12))
    (Dcheck_weighing : DefIn K "check_weighing" (top 13))
    (Dcheck_outcome : DefIn K "check_outcome" (top 14))
    (Dcheck_odd : DefIn K "check_odd" (top 15))
    (Dplaced : DefIn K "placed" (top 18))
    (Doutcome_by : DefIn K "outcome_by" (top 19))
    (Dmay_be_heavy : DefIn K "may_be_heavy" (top 20))
    (Dmay_be_light : DefIn K "may_be_light" (top 21))
    (Dmay_all_be_good : DefIn K "may_all_be_good" (top 22))
    (Dsign_behind : DefIn K "sign_behind" (top 23))
    (Djudged : DefIn K "judged" (top 24))
    (Dbehind : DefIn K "behind" (top 25))
    (Dweighed : DefIn K "weighed" (top 26))
    (D_law_cell_at : DefIn K "_law_cell_at" (top 28))
    (D_law_draw : DefIn K "_law_draw" (top 29))
    (D_law_marks : DefIn K "_law_marks" (top 30))
    (D_law_weighing : DefIn K "_law_weighing" (top 32))
    (D_law_behind : DefIn K "_law_behind" (top 33))
    (D_law_left : DefIn K "_law_left" (top 34))
    (D_law_whole : DefIn K "_law_whole" (top 36))
    (D_law_told : DefIn K "_law_told" (top 37))
    (D_law_sides : DefIn K "_law_sides" (top 38))
    (D_law_right : DefIn K "_law_right" (top 39))
    (D_law_cases_right : DefIn K "_law_cases_right" (top 40))
    (Dlaw : DefIn K "law" (top 41))
    : ∃ fd : FuncData, (∀ (s : Shared) (v : Value), BindsTo s fd ⟨[v], []⟩ [("_law_script", v)]) ∧ ∀ base : Heap, K.In base → base.Ns mainGlobals mg → FnOk P w K mg base CX0 8 fa fd ["_law_script"] (spLaw K) := by
  obtain ⟨e, Er⟩ := Er
  obtain ⟨f, fd, a, F0⟩ := Dlaw
  have e0 := hfa.symm.trans (PySem.W.mg_of X G a)
  cases e0
  obtain ⟨oc, od, kV, doc, pm, an, cdv, ct, osl, rfl, lk, hcd⟩ := id F0.ex
  refine ⟨PySem.W.fnOf "law" "law" (defArgs (top 41)) (defBody (top 41)) (defScope (top 41)) .none kV doc pm an cdv ct, fun s v => .of_eq rfl, fun base _ _ => ?_⟩
  have c_is_whole : Can P w K mg base CX0 1 "is_whole" ["value"] spWhole := can_of X G Dis_whole (fun _ _ _ _ _ _ us hl => match us, hl with | [_], _ => rfl) fun f fd F => ok_whole F B T
  have c_check_marks : Can P w K mg base CX0 1 "check_marks" ["marks"] spCM := can_of X G Dcheck_marks (fun _ _ _ _ _ _ us hl => match us, hl with | [_], _ => rfl) fun f fd F => ok_cm F B T
  have c_check_side : Can P w K mg base CX0 2 "check_side" ["highest", "side"] spSide := can_of X G Dcheck_side (fun _ _ _ _ _ _ us hl => match us, hl with | [_, _], _ => rfl) fun f fd F => ok_side F B T c_is_whole
  have c_check_weighing : Can P w K mg base CX0 3 "check_weighing" ["highest", "left", "right"] spCW := can_of X G Dcheck_weighing (fun _ _ _ _ _ _ us hl => match us, hl with | [_, _, _], _ => rfl) fun f fd F => ok_cw F B c_check_side
  have c_check_outcome : Can P w K mg base CX0 1 "check_outcome" ["outcome"] spCO := can_of X G Dcheck_outcome (fun _ _ _ _ _ _ us hl => match us, hl with | [_], _ => rfl) fun f fd F => ok_co F B T O2
  have c_check_odd : Can P w K mg base CX0 2 "check_odd" ["coins", "odd", "heavy"] spOdd := can_of X G Dcheck_odd (fun _ _ _ _ _ _ us hl => match us, hl with | [_, _, _], _ => rfl) fun f fd F => ok_odd F B T c_is_whole
  have c_placed : Can P w K mg base CX0 1 "placed" ["left", "right"] spPl := can_of X G Dplaced (fun _ _ _ _ _ _ us hl => match us, hl with | [_, _], _ => rfl) fun f fd F => ok_pl F
  have c_outcome_by : Can P w K mg base CX0 1 "outcome_by" ["place", "heavy"] spOut := can_of X G Doutcome_by (fun _ _ _ _ _ _ us hl => match us, hl with | [_, _], _ => rfl) fun f fd F => ok_out F O1
  have c_may_be_heavy : Can P w K mg base CX0 1 "may_be_heavy" ["sign"] spMayH := can_of X G Dmay_be_heavy (fun _ _ _ _ _ _ us hl => match us, hl with | [_], _ => rfl) fun f fd F => ok_mayH F
  have c_may_be_light : Can P w K mg base CX0 1 "may_be_light" ["sign"] spMayL := can_of X G Dmay_be_light (fun _ _ _ _ _ _ us hl => match us, hl with | [_], _ => rfl) fun f fd F => ok_mayL F
  have c_may_all_be_good : Can P w K mg base CX0 1 "may_all_be_good" ["marks"] spAllG := can_of X G Dmay_all_be_good (fun _ _ _ _ _ _ us hl => match us, hl with | [_], _ => rfl) fun f fd F => ok_allG F
  have c_sign_behind : Can P w K mg base CX0 2 "sign_behind" ["sign", "place", "outcome"] spSB := can_of X G Dsign_behind (fun _ _ _ _ _ _ us hl => match us, hl with | [_, _, _], _ => rfl) fun f fd F => ok_sb F c_may_be_heavy c_may_be_light c_outcome_by
  have c_judged : Can P w K mg base CX0 4 "judged" ["marks", "left", "right"] spJd := can_of X G Djudged (fun _ _ _ _ _ _ us hl => match us, hl with | [_, _, _], _ => rfl) fun f fd F => ok_jd F B c_check_marks c_check_weighing c_placed c_may_be_heavy c_may_be_light c_outcome_by c_may_all_be_good
  have c_behind : Can P w K mg base (CXE P w) 5 "behind" ["marks", "left", "right", "outcome"] (spBh e.never) := can_of X G Dbehind (fun _ _ _ _ _ _ us hl => match us, hl with | [_, _, _, _], _ => rfl) fun f fd F => ok_behind F B O2 Er.m_never (Er.exc _ e.m4) c_judged c_check_outcome c_placed c_sign_behind
  have c_weighed : Can P w K mg base CX0 4 "weighed" ["coins", "odd", "heavy", "left", "right"] spWd := can_of X G Dweighed (fun _ _ _ _ _ _ us hl => match us, hl with | [_, _, _, _, _], _ => rfl) fun f fd F => ok_weighed F c_check_odd c_check_weighing c_outcome_by c_placed
  have c__law_cell_at : Can P w K mg base CX0 1 "_law_cell_at" ["_law_script", "_law_k"] (spCell K) := can_of X G D_law_cell_at (fun _ _ _ _ _ _ us hl => match us, hl with | [_, _], _ => rfl) fun f fd F => ok_cell F B
  have c__law_draw : Can P w K mg base CX0 1 "_law_draw" ["_law_cell", "_law_k", "_law_many"] spDraw := can_of X G D_law_draw (fun _ _ _ _ _ _ us hl => match us, hl with | [_, _, _], _ => rfl) fun f fd F => ok_draw F
  have c__law_marks : Can P w K mg base CX0 2 "_law_marks" ["_law_script"] (spMarks K) := can_of X G D_law_marks (fun _ _ _ _ _ _ us hl => match us, hl with | [_], _ => rfl) fun f fd F => ok_marks F B c__law_cell_at c__law_draw
  have c__law_weighing : Can P w K mg base CX0 1 "_law_weighing" ["_law_coins", "_law_left_here", "_law_right_here"] spWg := can_of X G D_law_weighing (fun _ _ _ _ _ _ us hl => match us, hl with | [_, _, _], _ => rfl) fun f fd F => ok_wg F B
  have c__law_behind : Can P w K mg base CX0 1 "_law_behind" ["_law_marks_here", "_law_left_here", "_law_right_here", "_law_outcome"] spLB := can_of X G D_law_behind (fun _ _ _ _ _ _ us hl => match us, hl with | [_, _, _, _], _ => rfl) fun f fd F => ok_lb F B
  have c__law_left : Can P w K mg base CX0 2 "_law_left" ["_law_marks_here", "_law_left_here", "_law_right_here"] spLL := can_of X G D_law_left (fun _ _ _ _ _ _ us hl => match us, hl with | [_, _, _], _ => rfl) fun f fd F => ok_ll F B c__law_behind
  have c__law_whole : Can P w K mg base CX0 1 "_law_whole" ["_law_number"] spWhole := can_of X G D_law_whole (fun _ _ _ _ _ _ us hl => match us, hl with | [_], _ => rfl) fun f fd F => ok_lwhole F B T
  have c__law_told : Can P w K mg base CX0 6 "_law_told" ["_law_marks_here", "_law_left_here", "_law_right_here", "_law_outcome"] spTold := can_of X G D_law_told (fun _ _ _ _ _ _ us hl => match us, hl with | [_, _, _, _], _ => rfl) fun f fd F => ok_told F B Er c_behind
  have c__law_sides : Can P w K mg base CX0 2 "_law_sides" ["_law_script", "_law_by", "_law_coins"] (spSides K) := can_of X G D_law_sides (fun _ _ _ _ _ _ us hl => match us, hl with | [_, _, _], _ => rfl) fun f fd F => ok_sides F B c__law_cell_at c__law_draw
  have c__law_right : Can P w K mg base CX0 7 "_law_right" ["_law_marks_here", "_law_left_here", "_law_right_here"] spRight := can_of X G D_law_right (fun _ _ _ _ _ _ us hl => match us, hl with | [_, _, _], _ => rfl) fun f fd F => ok_right F B T c__law_left c_judged c__law_whole c__law_told c__law_behind
  have c__law_cases_right : Can P w K mg base CX0 6 "_law_cases_right" ["_law_marks_here", "_law_left_here", "_law_right_here"] spCR := can_of X G D_law_cases_right (fun _ _ _ _ _ _ us hl => match us, hl with | [_, _, _], _ => rfl) fun f fd F => ok_cr F B c_weighed c_behind.never
  exact ok_law F0 B c__law_marks c__law_sides c__law_weighing c__law_right c__law_cases_right
end Ks
end
section
namespace Ks
open PySem L2 Mir
theorem walk {l : PySem.W.OpenLaw} {q : Program} {loose : List Str} {XP : (Str → Option Value) → Heap → Prop} {YP : World → Heap → Prop} {d : DefRec} {K : Params → PySem.W.Frag} (hn : l.most = some 63) (hdf : d.params.defaults = [])
    (hY : ∀ (w : World) (h : Heap), YP w h → (K w.params).In h)
    (F : ∀ (w : World) (mg : Str → Option Value) (fa : Addr) (h : Heap), (K w.params).In h → h.Ns mainGlobals mg → mg d.name = some (.ref fa) →
      ∃ fd : FuncData, (∀ (s : Shared) (u : Value), BindsTo s fd ⟨[u], []⟩ [("_law_script", u)]) ∧ ∀ base : Heap, (K w.params).In base → base.Ns mainGlobals mg → FnOk l.prog w (K w.params) mg base CX0 8 fa fd ["_law_script"] (spLaw (K w.params))) :
    PySem.W.WalkO q loose XP YP l.row.toRowW d [] (fun f vs => PySem.call f vs) :=
  L2.walk_of (n := 63) (k := 8) (x := "_law_script") (CX := fun _ => CX0) (sp := fun w => spLaw (K w.params)) hn (by decide) hdf ⟨rfl, by decide, by decide⟩ hY F (fun _ _ a ns hl _ hS => ⟨a, ns, rfl, hS, hl, fun _ _ => rfl⟩) fun _ _ _ _ _ z => z
end Ks
open PySem PySem.W PyProof.Rows
set_option maxRecDepth 100000 in
set_option maxHeartbeats 0 in
theorem PySem.Challenge.cw_oddcoin_k03_weighings_holds : PySem.Challenge.rw_oddcoin_k03_weighings.Holds := by
  w_on; o_law; k_head; (case hw => w_witness2)
  k_fill
  refine Ks.walk (l := PySem.Challenge.rw_oddcoin_k03_weighings) rfl rfl (fun w h Y => PySem.W.kIn_of Y) ?F
  case F =>
    intro w mg fa h KX G hmg
    refine' Ks.all_mk KX G hmg ?B ?T ?O1 ?O2 ?Er ?Dis_whole ?Dcheck_marks ?Dcheck_side ?Dcheck_weighing ?Dcheck_outcome ?Dcheck_odd ?Dplaced ?Doutcome_by ?Dmay_be_heavy ?Dmay_be_light ?Dmay_all_be_good ?Dsign_behind ?Djudged ?Dbehind ?Dweighed ?D_law_cell_at ?D_law_draw ?D_law_marks ?D_law_weighing ?D_law_behind ?D_law_left ?D_law_whole ?D_law_told ?D_law_sides ?D_law_right ?D_law_cases_right ?Dlaw
    case B =>
      refine' ⟨PySem.W.mg_none_of KX G ?b0, PySem.W.mg_none_of KX G ?b1, PySem.W.mg_none_of KX G ?b2, PySem.W.mg_none_of KX G ?b3, PySem.W.mg_none_of KX G ?b4, PySem.W.mg_none_of KX G ?b5, PySem.W.mg_none_of KX G ?b6, PySem.W.mg_none_of KX G ?b7, PySem.W.mg_none_of KX G ?b8, PySem.W.mg_none_of KX G ?b9, PySem.W.mg_none_of KX G ?b10, PySem.W.mg_none_of KX G ?b11, PySem.W.mg_none_of KX G ?b12, PySem.W.mg_none_of KX G ?b13, PySem.W.mg_none_of KX G ?b14⟩
      (case b0 => k_is)
      (case b1 => k_is)
      (case b2 => k_is)
      (case b3 => k_is)
      (case b4 => k_is)
      (case b5 => k_is)
      (case b6 => k_is)
      (case b7 => k_is)
      (case b8 => k_is)
      (case b9 => k_is)
      (case b10 => k_is)
      (case b11 => k_is)
      (case b12 => k_is)
      (case b13 => k_is)
      (case b14 => k_is)
    case T => refine' ⟨?t1, ?t2, ?t3, ?t4, ?t5, ?t6⟩ <;> kernel_rfl
    case O1 =>
      refine' Ks.oth_mk KX G ?a ?l ?b1 ?b2 ?b3 ?kl
      (case a => k_is); (case l => k_is); (case b1 => k_is); (case b2 => k_is); (case b3 => k_is)
      exact ⟨⟨_, _, rfl, rfl⟩, ⟨_, _, rfl, rfl⟩, ⟨_, _, rfl, rfl⟩, trivial⟩
    case O2 =>
      refine' Ks.outs_mk KX G ?a ?l
      (case a => k_is); (case l => k_is)
    case Er =>
      refine' Ks.errs_mk KX G ?n0 ?n1 ?n2 ?n3 ?n4 ?n5 ?n6 ?nv ?sp ?tk ?nd ?al
      (case n0 => k_is); (case n1 => k_is); (case n2 => k_is); (case n3 => k_is); (case n4 => k_is); (case n5 => k_is); (case n6 => k_is); (case nv => k_is); (case sp => k_is); (case tk => k_is)
      (case nd => decide)
      (case al => kernel_rfl)
    case Dis_whole => refine' Ks.def_mk ?a ?l ?c ?k; (case a => k_is); (case l => k_is); (case c => k_is); (case k => k_is)
    case Dcheck_marks => refine' Ks.def_mk ?a ?l ?c ?k; (case a => k_is); (case l => k_is); (case c => k_is); (case k => k_is)
    case Dcheck_side => refine' Ks.def_mk ?a ?l ?c ?k; (case a => k_is); (case l => k_is); (case c => k_is); (case k => k_is)
    case Dcheck_weighing => refine' Ks.def_mk ?a ?l ?c ?k; (case a => k_is); (case l => k_is); (case c => k_is); (case k => k_is)
    case Dcheck_outcome => refine' Ks.def_mk ?a ?l ?c ?k; (case a => k_is); (case l => k_is); (case c => k_is); (case k => k_is)
    case Dcheck_odd => refine' Ks.def_mk ?a ?l ?c ?k; (case a => k_is); (case l => k_is); (case c => k_is); (case k => k_is)
    case Dplaced => refine' Ks.def_mk ?a ?l ?c ?k; (case a => k_is); (case l => k_is); (case c => k_is); (case k => k_is)
    case Doutcome_by => refine' Ks.def_mk ?a ?l ?c ?k; (case a => k_is); (case l => k_is); (case c => k_is); (case k => k_is)
    case Dmay_be_heavy => refine' Ks.def_mk ?a ?l ?c ?k; (case a => k_is); (case l => k_is); (case c => k_is); (case k => k_is)
    case Dmay_be_light => refine' Ks.def_mk ?a ?l ?c ?k; (case a => k_is); (case l => k_is); (case c => k_is); (case k => k_is)
    case Dmay_all_be_good => refine' Ks.def_mk ?a ?l ?c ?k; (case a => k_is); (case l => k_is); (case c => k_is); (case k => k_is)
    case Dsign_behind => refine' Ks.def_mk ?a ?l ?c ?k; (case a => k_is); (case l => k_is); (case c => k_is); (case k => k_is)
    case Djudged => refine' Ks.def_mk ?a ?l ?c ?k; (case a => k_is); (case l => k_is); (case c => k_is); (case k => k_is)
    case Dbehind => refine' Ks.def_mk ?a ?l ?c ?k; (case a => k_is); (case l => k_is); (case c => k_is); (case k => k_is)
    case Dweighed => refine' Ks.def_mk ?a ?l ?c ?k; (case a => k_is); (case l => k_is); (case c => k_is); (case k => k_is)
    case D_law_cell_at => refine' Ks.def_mk ?a ?l ?c ?k; (case a => k_is); (case l => k_is); (case c => k_is); (case k => k_is)
    case D_law_draw => refine' Ks.def_mk ?a ?l ?c ?k; (case a => k_is); (case l => k_is); (case c => k_is); (case k => k_is)
    case D_law_marks => refine' Ks.def_mk ?a ?l ?c ?k; (case a => k_is); (case l => k_is); (case c => k_is); (case k => k_is)
    case D_law_weighing => refine' Ks.def_mk ?a ?l ?c ?k; (case a => k_is); (case l => k_is); (case c => k_is); (case k => k_is)
    case D_law_behind => refine' Ks.def_mk ?a ?l ?c ?k; (case a => k_is); (case l => k_is); (case c => k_is); (case k => k_is)
    case D_law_left => refine' Ks.def_mk ?a ?l ?c ?k; (case a => k_is); (case l => k_is); (case c => k_is); (case k => k_is)
    case D_law_whole => refine' Ks.def_mk ?a ?l ?c ?k; (case a => k_is); (case l => k_is); (case c => k_is); (case k => k_is)
    case D_law_told => refine' Ks.def_mk ?a ?l ?c ?k; (case a => k_is); (case l => k_is); (case c => k_is); (case k => k_is)
    case D_law_sides => refine' Ks.def_mk ?a ?l ?c ?k; (case a => k_is); (case l => k_is); (case c => k_is); (case k => k_is)
    case D_law_right => refine' Ks.def_mk ?a ?l ?c ?k; (case a => k_is); (case l => k_is); (case c => k_is); (case k => k_is)
    case D_law_cases_right => refine' Ks.def_mk ?a ?l ?c ?k; (case a => k_is); (case l => k_is); (case c => k_is); (case k => k_is)
    case Dlaw => refine' Ks.def_mk ?a ?l ?c ?k; (case a => k_is); (case l => k_is); (case c => k_is); (case k => k_is)
end
