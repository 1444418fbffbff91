import PyProof.Rows.All
import Wide.All
import OpenK.KLine
import OpenK.KWalk
import OpenK.KMore
import KE.KTryMore
import KE.KItem
import KE.KxBytes
import KE.KDictOf
import Wide.FinOn
import PyProof.EqAt
import PyProof.EqKinds
import PyProof.TupleCall
import PyProof.Rows.SetFrom
import PyProof.CollectIter
import PyProof.DictWalks
import PyProof.Rows.SortShell
import PyProof.NeKinds
import PyProof.StrBlockH
import PyProof.StrBlock2
import PyProof.StrLawsChain
import PyProof.FitsReplace
import PyProof.Rows.StrItems
import PyProof.Rows.StrSplitCount
import PyProof.Rows.StrSplitJoin
import PyProof.Rows.CatFin
import PyProof.Rows.StrClose5
import KE.IntTextLaws
import KE.KIntText
import PySem.Challenge.RW_oddcoin_k05_written
set_option Elab.async false
set_option linter.all false
set_option maxRecDepth 100000
set_option maxHeartbeats 4000000
section
namespace SetX
open PySem
/-! ### the table of a set: its places rise, whether it is led stays -/
theorem getD_nat (xs : Array Nat) (i d : Nat) (h : i < xs.size) : xs.getD i d = xs[i] := by simp [Array.getD, h]
def Rise (xs : Array Nat) : Prop := ∀ a b, a < b → b < xs.size → xs.getD a 0 < xs.getD b 0
theorem rise_iff (xs : Array Nat) : Rise xs ↔ xs.toList.Pairwise (· < ·) := by
  rw [List.pairwise_iff_getElem]
  constructor
  · intro h i j hi hj hij
    have hj' : j < xs.size := by simpa using hj
    have hi' : i < xs.size := by simpa using hi
    have := h i j hij hj'
    rw [getD_nat xs i 0 hi', getD_nat xs j 0 hj'] at this
    simpa using this
  · intro h a b hab hb
    have ha : a < xs.size := by omega
    rw [getD_nat xs a 0 ha, getD_nat xs b 0 hb]
    have := h a b (by simpa using ha) (by simpa using hb) hab
    simpa using this
theorem below_go {xs : Array Nat} (R : Rise xs) (j : Nat) : ∀ (fuel lo hi : Nat), hi - lo ≤ fuel → lo ≤ hi → hi ≤ xs.size → (∀ i, i < lo → xs.getD i 0 < j) → (∀ i, hi ≤ i → i < xs.size → j ≤ xs.getD i 0) →
    let p := SetTable.below.go xs j fuel lo hi
    p ≤ xs.size ∧ (∀ i, i < p → xs.getD i 0 < j) ∧ (∀ i, p ≤ i → i < xs.size → j ≤ xs.getD i 0)
  | 0, lo, hi, h1, h2, h3, h4, h5 => by
    have e : lo = hi := by omega
    subst e
    exact ⟨h3, h4, h5⟩
  | fuel + 1, lo, hi, h1, h2, h3, h4, h5 => by
    show let p := SetTable.below.go xs j (fuel + 1) lo hi; _
    unfold SetTable.below.go
    by_cases hlt : lo < hi
    · rw [if_pos hlt]
      have hm : (lo + hi) / 2 < hi := by omega
      have hm2 : lo ≤ (lo + hi) / 2 := by omega
      have hms : (lo + hi) / 2 < xs.size := by omega
      have eg : xs.getD ((lo + hi) / 2) j = xs.getD ((lo + hi) / 2) 0 := by rw [getD_nat xs _ j hms, getD_nat xs _ 0 hms]
      dsimp only
      rw [eg]
      by_cases hc : xs.getD ((lo + hi) / 2) 0 < j
      · rw [if_pos hc]
        refine below_go R j fuel _ hi (by omega) (by omega) h3 (fun i hi' => ?_) h5
        by_cases e : i = (lo + hi) / 2
        · rw [e]; exact hc
        · exact Nat.lt_trans (R i ((lo + hi) / 2) (by omega) hms) hc
      · rw [if_neg hc]
        refine below_go R j fuel lo _ (by omega) hm2 (by omega) h4 fun i hi' hsz => ?_
        by_cases e : i = (lo + hi) / 2
        · rw [e]; omega
        · have := R ((lo + hi) / 2) i (by omega) hsz
          omega
    · rw [if_neg hlt]
      have e : lo = hi := by omega
      subst e
      exact ⟨h3, h4, h5⟩
theorem below_spec {xs : Array Nat} (R : Rise xs) (j : Nat) : SetTable.below xs j ≤ xs.size ∧ (∀ i, i < SetTable.below xs j → xs.getD i 0 < j) ∧ (∀ i, SetTable.below xs j ≤ i → i < xs.size → j ≤ xs.getD i 0) :=
  below_go R j xs.size 0 xs.size (by omega) (Nat.zero_le _) (Nat.le_refl _) (fun i h => absurd h (Nat.not_lt_zero _)) fun i h1 h2 => absurd h2 (by omega)
theorem not_live {xs : Array Nat} (R : Rise xs) {j : Nat} (h : ¬ xs[SetTable.below xs j]? = some j) : ∀ i, i < xs.size → xs.getD i 0 ≠ j := by
  intro i hi e
  obtain ⟨h1, h2, h3⟩ := below_spec R j
  by_cases c : i < SetTable.below xs j
  · have := h2 i c; omega
  · by_cases c2 : i = SetTable.below xs j
    · apply h
      rw [← c2, Array.getElem?_eq_getElem hi, ← e, getD_nat xs i 0 hi]
    · have h4 := h3 (SetTable.below xs j) (Nat.le_refl _) (by omega)
      have := R (SetTable.below xs j) i (by omega) hi
      omega
theorem insert_rise {xs : Array Nat} (R : Rise xs) {j : Nat} (hn : ∀ i, i < xs.size → xs.getD i 0 ≠ j) : Rise (SetTable.insertAt xs (SetTable.below xs j) j) := by
  rw [rise_iff, SetTable.toList_insertAt]
  obtain ⟨h1, h2, h3⟩ := below_spec R j
  have RL := (rise_iff xs).mp R
  refine List.pairwise_append.mpr ⟨RL.sublist (List.take_sublist _ _), List.pairwise_cons.mpr ⟨fun y hy => ?_, RL.sublist (List.drop_sublist _ _)⟩, fun x hx y hy => ?_⟩
  · obtain ⟨i, hi, rfl⟩ := List.mem_iff_getElem.mp hy
    rw [List.getElem_drop]
    have hi' : SetTable.below xs j + i < xs.size := by
      rw [List.length_drop] at hi; simp at hi; omega
    have a := h3 (SetTable.below xs j + i) (by omega) hi'
    have b := hn (SetTable.below xs j + i) hi'
    rw [getD_nat xs _ 0 hi'] at a b
    simp only [Array.getElem_toList]
    omega
  · have hx' : x < j := by
      obtain ⟨i, hi, rfl⟩ := List.mem_iff_getElem.mp hx
      rw [List.getElem_take]
      rw [List.length_take] at hi
      have hi1 : i < SetTable.below xs j := by omega
      have hi2 : i < xs.size := by simp at hi; omega
      have a := h2 i hi1
      rw [getD_nat xs _ 0 hi2] at a
      simpa using a
    rcases List.mem_cons.mp hy with e | hy
    · rw [e]; exact hx'
    · have hy' : j ≤ y := by
        obtain ⟨i, hi, rfl⟩ := List.mem_iff_getElem.mp hy
        rw [List.getElem_drop]
        have hi' : SetTable.below xs j + i < xs.size := by
          rw [List.length_drop] at hi; simp at hi; omega
        have a := h3 (SetTable.below xs j + i) (by omega) hi'
        rw [getD_nat xs _ 0 hi'] at a
        simpa using a
      omega
theorem probe_go {t : SetTable} {hashAt : Nat → Int} {h : Int} : ∀ (fuel : Nat) (p : SetTable.Probe) {j : Nat} {dm : Option Nat}, (∀ d, p.dummy = some d → t.slot d = .dummy) → SetTable.probe.go t hashAt h fuel p = some (.empty j dm) →
    t.slot j = .empty ∧ ∀ d, dm = some d → t.slot d = .dummy
  | 0, p, j, dm, _, e => by simp [SetTable.probe.go] at e
  | fuel + 1, p, j, dm, hd, e => by
    unfold SetTable.probe.go at e
    have adv : ∀ q : SetTable.Probe, (t.advance q).dummy = q.dummy := fun q => by unfold SetTable.advance; split <;> rfl
    cases q : t.slot p.j with
    | empty =>
      rw [q] at e
      have e' := Option.some.inj e
      injection e' with e1 e2
      subst e1 e2
      exact ⟨q, hd⟩
    | dummy =>
      rw [q] at e
      refine probe_go fuel _ (fun d z => ?_) e
      rw [adv] at z
      have z' : some p.j = some d := z
      cases z'
      exact q
    | live i =>
      rw [q] at e
      dsimp only at e
      split at e
      · cases e
      · exact probe_go fuel _ (fun d z => by rw [adv] at z; exact hd d z) e
/-- what is kept of a table -/
structure TabOk (b : Bool) (t : SetTable) : Prop where
  led : t.led = b
  rise : Rise t.place
theorem range_rise (n : Nat) : Rise (Array.range n) := by
  intro a c hac hc
  simp only [Array.size_range] at hc
  rw [getD_nat _ a 0 (by simp; omega), getD_nat _ c 0 (by simpa using hc)]
  simpa using hac
theorem standIn_ok {b : Bool} {t : SetTable} (h : TabOk b t) (n : Nat) : TabOk b (t.standIn n) := ⟨h.led, range_rise n⟩
theorem orStandIn_ok {b : Bool} {t : SetTable} (h : TabOk b t) (n : Nat) : TabOk b (t.orStandIn n) := by
  unfold SetTable.orStandIn
  split
  · exact h
  · exact standIn_ok h n
theorem slot_free {t : SetTable} {j : Nat} (h : t.slot j = .empty ∨ t.slot j = .dummy) : ¬ t.place[SetTable.below t.place j]? = some j := by
  intro e
  unfold SetTable.slot at h
  simp [e] at h
theorem layNew_ok {b : Bool} {t : SetTable} (h : TabOk b t) (es : Array (Int × Value)) (k : Int) (x : Value) : TabOk b (layNew t es k x).2.1 := by
  unfold layNew
  split
  · rename_i slot wd e
    dsimp only
    refine orStandIn_ok (t := (t.put slot).1) ⟨h.led, ?_⟩ _
    show Rise (SetTable.insertAt t.place (SetTable.below t.place slot) slot)
    refine insert_rise h.rise (not_live h.rise (slot_free ?_))
    unfold SetTable.freeSlot SetTable.probe at e
    split at e
    · rename_i j dm q
      obtain ⟨h1, h2⟩ := probe_go _ _ (fun d z => by cases z) q
      have e' := Option.some.inj e
      have e1 : dm.getD j = slot := congrArg Prod.fst e'
      cases dm with
      | none => exact .inl (e1 ▸ h1)
      | some d => exact .inr (by have z : d = slot := e1; rw [← z]; exact h2 d rfl)
    · cases e
  · exact standIn_ok h _
theorem laid_ok {mask fg mv : Nat} {led plain : Bool} {hs : Array Int} {t : SetTable} {ord : Array Nat} (e : SetTable.laid mask fg mv led plain hs = some (t, ord)) : TabOk led t := by
  unfold SetTable.laid at e
  cases q : SetTable.layClean mask hs with
  | none => rw [q] at e; cases e
  | some owner =>
    rw [q] at e
    have e' := congrArg Prod.fst (Option.some.inj e)
    have e'' : ({ mask, place := (((List.range (mask + 1)).filterMap fun j => (owner.getD j none).map (j, ·)).map (·.1)).toArray, dummies := #[], finger := fg, led, moves := mv, plain } : SetTable) = t := e'
    subst e''
    refine ⟨rfl, ?_⟩
    rw [rise_iff]
    show List.Pairwise (· < ·) (((List.range (mask + 1)).filterMap fun j => (owner.getD j none).map (j, ·)).map (·.1))
    rw [List.pairwise_map]
    refine List.Pairwise.filterMap _ (fun a a' haa b hb b' hb' => ?_) (List.pairwise_lt_range)
    cases qa : owner.getD a none with
    | none => rw [qa] at hb; cases hb
    | some u =>
      rw [qa] at hb
      cases qb : owner.getD a' none with
      | none => rw [qb] at hb'; cases hb'
      | some v =>
        rw [qb] at hb'
        have z1 : (a, u) = b := Option.some.inj hb
        have z2 : (a', v) = b' := Option.some.inj hb'
        rw [← z1, ← z2]
        exact haa
theorem relayAll_ok {b : Bool} {t : SetTable} (h : TabOk b t) (es : Array (Int × Value)) (wanted : Nat) : TabOk b (relayAll t es wanted).2.1 := by
  unfold relayAll
  split
  · rename_i t' order e
    dsimp only
    split
    · unfold SetTable.relaid at e
      have := laid_ok e
      rw [h.led] at this
      exact this
    · exact standIn_ok h _
  · exact standIn_ok h _
end SetX
namespace SetX
open PySem
/-- sets are led where the order of sets does not follow the text -/
def ledOf (w : World) : Bool := !(w.params.followText "set-order")
def val (e : Int × Value) : Int := match e.2 with | .int n _ => n | _ => 0
def Ent (l : List (Int × Value)) : Prop := ∀ e ∈ l, ∃ n t, e = (hashInt n, Value.int n t)
/-- a set of ints: its members in the order of its entries -/
def SetAt (w : World) (h : Heap) (a : Addr) (ns : List Int) : Prop :=
  ∃ o es ep t, h.get? a = some o ∧ o.ExactSet ∧ o.data = .set es ep t ∧ Ent es.toList ∧ es.toList.map val = ns ∧ ns.Nodup ∧ ns.length < scanBound ∧ t.fits es.size = true ∧ TabOk (ledOf w) t
theorem SetAt.keeps {w : World} {h h' : Heap} {a : Addr} {ns : List Int} (S : SetAt w h a ns) (k : ∀ o, h.get? a = some o → h'.get? a = some o) : SetAt w h' a ns := by
  obtain ⟨o, es, ep, t, ho, r⟩ := S
  exact ⟨o, es, ep, t, k o ho, r⟩
theorem Ent.elems {prog : Program} {w : World} {l : List (Int × Value)} (h : Ent l) : ElemsOf (intKind prog w) l := fun e he => by
  obtain ⟨n, t, rfl⟩ := h e he
  exact ⟨⟨n, intKind_is prog w n t, rfl⟩, rfl⟩
theorem is_val {prog : Program} {w : World} {e : Int × Value} (h : ∃ n t, e = (hashInt n, Value.int n t)) (k : Int) : (intKind prog w).is k e.2 = decide (k = val e) := by
  obtain ⟨n, t, rfl⟩ := h
  show Value.isInt k (Value.int n t) = decide (k = n)
  unfold Value.isInt
  by_cases e : k = n
  · subst e; simp
  · have e' : ¬ n = k := fun z => e z.symm
    simp [e, e']
theorem Ent.perm {l l' : List (Int × Value)} (h : Ent l) (p : List.Perm l' l) : Ent l' := fun e he => h e (p.mem_iff.mp he)
theorem Ent.snoc {l : List (Int × Value)} (h : Ent l) (k : Int) (t : Tok) : Ent (l ++ [(hashInt k, Value.int k t)]) := fun e he => by
  rcases List.mem_append.mp he with z | z
  · exact h e z
  · have z' : e = (hashInt k, Value.int k t) := by simpa using z
    exact ⟨k, t, z'⟩
theorem find_none {prog : Program} {w : World} {l : List (Int × Value)} (h : Ent l) {k : Int} : l.findIdx? (fun e => (intKind prog w).is k e.2) = none ↔ k ∉ l.map val := by
  rw [List.findIdx?_eq_none_iff]
  constructor
  · intro q hm
    obtain ⟨e, he, rfl⟩ := List.mem_map.mp hm
    have := q e he
    rw [is_val (h e he)] at this
    simp at this
  · intro q e he
    rw [is_val (h e he)]
    refine decide_eq_false fun z => q ?_
    rw [z]
    exact List.mem_map.mpr ⟨e, he, rfl⟩
section
variable {prog : Program} {w : World} {A : Around} {E : Value → Shared → Prop} {s : Shared} {a : Addr} {ns : List Int} {k : Int} {tk : Tok}
theorem fits_line {n : Nat} (h : n < scanBound) : n ≤ sizeLine := by
  have h1 : scanBound = 4096 := rfl
  rw [h1] at h; rw [sizeLine_eq]; omega
theorem store_at {h : Heap} {o : Obj} {es es' : Array (Int × Value)} {ep : Nat} {t t' : SetTable} (ho : h.get? a = some o) (hd : o.data = .set es ep t) :
    (h.update a (Obj.putSet es' t')).get? a = some { o with data := .set es' (ep + 1) t' } := by
  have z := Heap.get?_update_self (Obj.putSet es' t') ho (by rw [putSet_of es' t' hd]; rfl)
  rw [putSet_of es' t' hd] at z; exact z
theorem find_int {x : Value} (hx : x = .int k tk) {Q : Option Nat → Shared → Prop} (hS : SetAt w s.heap a ns) (h : ∀ r : Option Nat, r.isSome = decide (k ∈ ns) → Q r s) : wpAny (model prog w) A (setFind a x (hashInt k)) Q E s := by
  subst hx
  obtain ⟨o, es, ep, t, ho, hex, hd, he, rfl, hn, hb, hf, ht⟩ := hS
  have hz : es.size < scanBound := by simpa using hb
  unfold setFind setFindIn
  refine wpAny_bind (wpAny_setState_of ho hd hf ?_); dsimp only
  rw [byScan_of (knd := intKind prog w) rfl hz he.elems]; simp only [↓reduceIte]; refine wpAny_bind (wpAny_rule ?_)
  refine wpAny_bind (wpAny_setScan_of (knd := intKind prog w) (k := k) (intKind_is prog w k tk) ho hd hf he.elems ?_)
  cases hr : List.findIdx? (fun e => (intKind prog w).is k e.2) es.toList with
  | none =>
    dsimp only
    refine wpAny_pure (h none ?_)
    have := (find_none he).mp hr
    rw [decide_eq_false this]; rfl
  | some j =>
    dsimp only
    refine wpAny_pure (h (some (0 + j)) ?_)
    have : k ∈ es.toList.map val := by
      refine Decidable.byContradiction fun z => ?_
      rw [(find_none (prog := prog) (w := w) he).mpr z] at hr
      cases hr
    rw [decide_eq_true this]; rfl
/-- an int is put into a set of ints -/
theorem add_int {x : Value} (hx : x = .int k tk) {Q : Bool → Shared → Prop} (hS : SetAt w s.heap a ns) (hroom : ns.length + 1 < scanBound)
    (h : ∀ h' ns', Heap.SameBut a s.heap h' → SetAt w h' a ns' → (∀ y, y ∈ ns' ↔ y ∈ ns ∨ y = k) → ns'.length ≤ ns.length + 1 → Q (!decide (k ∈ ns)) { s with heap := h' }) : wpAny (model prog w) A (setAddHashed a x (hashInt k)) Q E s := by
  subst hx
  obtain ⟨o, es, ep, t, ho, hex, hd, he, rfl, hn, hb, hf, ht⟩ := hS
  have hz : es.size < scanBound := by simpa using hb
  have hz1 : es.size + 1 < scanBound := by simpa using hroom
  have ie : (es.toList.map val).length = es.size := by simp
  unfold setAddHashed setAddHashedIn; refine wpAny_holding (wpAny_bind (wpAny_setState_of ho hd hf ?_)); dsimp only
  rw [byScan_of (knd := intKind prog w) rfl hz he.elems]; simp only [↓reduceIte]
  unfold setAddByScan; refine wpAny_bind ?_; refine wpAny_bind (wpAny_rule ?_)
  refine wpAny_bind (wpAny_setScan_of (knd := intKind prog w) (k := k) (intKind_is prog w k tk) ho hd hf he.elems ?_)
  cases hr : List.findIdx? (fun e => (intKind prog w).is k e.2) es.toList with
  | some j =>
    have hk : k ∈ es.toList.map val := by
      refine Decidable.byContradiction fun z => ?_
      rw [(find_none (prog := prog) (w := w) he).mpr z] at hr
      cases hr
    dsimp only
    refine wpAny_pure (wpAny_pure ?_)
    have q := h s.heap (es.toList.map val) (Heap.SameBut.refl a s.heap) ⟨o, es, ep, t, ho, hex, hd, he, rfl, hn, hb, hf, ht⟩ (fun y => ⟨.inl, fun z => z.elim id fun z => z ▸ hk⟩) (Nat.le_succ _)
    rw [decide_eq_true hk] at q
    exact q
  | none =>
    have hk : k ∉ es.toList.map val := (find_none he).mp hr
    dsimp only
    have hgw : ∀ (c : Bool) {s₁ : Shared} {Q' : Unit → Shared → Prop}, Q' () s₁ → wpAny (model prog w) A (match c with | true => rule "set.scan.the-table-gave-way" | false => pure ()) Q' E s₁ := fun c s₁ Q' hq => by
      cases c <;> first | exact wpAny_pure hq | exact wpAny_rule hq
    have hperm := layNew_perm t es (hashInt k) (.int k tk)
    have hfits := layNew_fits t es (hashInt k) (.int k tk)
    have hok := layNew_ok ht es (hashInt k) (.int k tk)
    generalize hL : layNew t es (hashInt k) (.int k tk) = L at hperm hfits hok ⊢
    have hL' : layNew t es ((intKind prog w).hash k) (.int k tk) = L := hL
    obtain ⟨es1, t1, wd, gave⟩ := L
    first | rw [hL'] | skip
    dsimp only at hperm hfits hok ⊢
    rw [Array.toList_push] at hperm
    have he1 : Ent es1.toList := (he.snoc k tk).perm hperm
    have mem1 : ∀ y, y ∈ es1.toList.map val ↔ y ∈ es.toList.map val ∨ y = k := fun y => by
      rw [(hperm.map val).mem_iff, List.map_append, List.mem_append]
      show _ ∨ y ∈ [k] ↔ _
      rw [List.mem_singleton]
    have nd1 : (es1.toList.map val).Nodup := by
      refine (hperm.map val).nodup_iff.mpr ?_
      rw [List.map_append]
      refine List.nodup_append.mpr ⟨hn, by simp, fun p hp q hq z => ?_⟩
      have hq' : q = k := by simpa [val] using hq
      exact hk (hq' ▸ z ▸ hp)
    have sz1 : es1.size = es.size + 1 := by
      have := hperm.length_eq
      simpa using this
    have hb1 : (es1.toList.map val).length < scanBound := by simpa [sz1] using hz1
    have hend : ∀ h', Heap.SameBut a s.heap h' → ∀ es2 : Array (Int × Value), SetAt w h' a (es2.toList.map val) → List.Perm es2.toList es1.toList → Q true { s with heap := h' } := fun h' sb es2 S2 p2 => by
      have q := h h' (es2.toList.map val) sb S2 (fun y => by rw [(p2.map val).mem_iff]; exact mem1 y) (by rw [(p2.map val).length_eq]; simp [sz1])
      rw [decide_eq_false hk] at q
      exact q
    -- the tail, by the table that is stored
    have tail : ∀ t2 : SetTable, t2.fits es1.size = true → TabOk (ledOf w) t2 → ∀ R : Option Bool → Shared → Prop, (∀ h', Heap.SameBut a s.heap h' → ∀ es2 : Array (Int × Value), SetAt w h' a (es2.toList.map val) → List.Perm es2.toList es1.toList → R (some true) { s with heap := h' }) →
        ∀ g : Bool → Sem Unit, (∀ (c : Bool) (s₁ : Shared) (Q' : Unit → Shared → Prop), Q' () s₁ → wpAny (model prog w) A (g c) Q' E s₁) → wpAny (model prog w) A (do
          storeSet a es1 t2
          if (!wd && t2.tooFull) = true then do
              g (relayAll t2 es1 (SetTable.grown es1.size)).2.2
              storeSet a (relayAll t2 es1 (SetTable.grown es1.size)).1 (relayAll t2 es1 (SetTable.grown es1.size)).2.1
              pure (some true)
            else pure (some true)) R E s := by
      intro t2 hf2 hk2 R hR g hg
      refine wpAny_bind (wpAny_storeSet_of ho hd ?_ (fits_line (by rw [sz1]; exact hz1)))
      have e1 := store_at (es' := es1) (t' := t2) ho hd
      have sb1 := Heap.SameBut.update s.heap a (Obj.putSet es1 t2)
      split
      · have p2 := relayAll_perm t2 es1 (SetTable.grown es1.size)
        have f2 := relayAll_fits t2 es1 (SetTable.grown es1.size)
        have k2 := relayAll_ok hk2 es1 (SetTable.grown es1.size)
        generalize relayAll t2 es1 (SetTable.grown es1.size) = Rl at p2 f2 k2 ⊢
        obtain ⟨es2, t3, gave2⟩ := Rl
        dsimp only at p2 f2 k2 ⊢
        have sz2 : es2.size = es1.size := by rw [← Array.length_toList, p2.length_eq, Array.length_toList]
        refine wpAny_bind (hg _ _ _ ?_)
        refine wpAny_bind (wpAny_storeSet_of e1 rfl ?_ (fits_line (by rw [sz2, sz1]; exact hz1)))
        have e2 := store_at (es' := es2) (t' := t3) e1 rfl
        exact wpAny_pure (hR _ (sb1.trans (Heap.SameBut.update _ a _)) es2 ⟨_, es2, _, t3, e2, hex, rfl, he1.perm p2, rfl, (p2.map val).nodup_iff.mpr nd1, by rw [(p2.map val).length_eq]; exact hb1, f2, k2⟩ p2)
      · exact wpAny_pure (hR _ sb1 es1 ⟨_, es1, _, t2, e1, hex, rfl, he1, rfl, nd1, hb1, hf2, hk2⟩ .rfl)
    refine wpAny_bind (hgw _ ?_)
    split
    · refine wpAny_bind ?_
      rw [hashByValue_scannable 8 rfl]
      refine wpAny_pure ?_
      refine tail _ ?_ ?_ _ ?_ _ ?_
      · exact hfits
      · exact hok
      · intro h' sb es2 S2 p2; dsimp only; exact wpAny_pure (hend h' sb es2 S2 p2)
      · intro c s₁ Q' hq; cases c <;> first | exact wpAny_pure hq | exact wpAny_rule hq
    · refine wpAny_bind (wpAny_pure ?_)
      simp only [↓reduceIte]
      refine tail _ hfits hok _ ?_ _ ?_
      · intro h' sb es2 S2 p2; dsimp only; exact wpAny_pure (hend h' sb es2 S2 p2)
      · intro c s₁ Q' hq; cases c <;> first | exact wpAny_pure hq | exact wpAny_rule hq
end
end SetX
namespace SetX
open PySem PyProof.Rows
section
variable {prog : Program} {w : World} {A : Around} {R : Result → Shared → Prop} {I : Addr} {fp wr : List Addr} {G : Array GenState → Array GenState → Prop} {n : Nat} {P : Nat → Value → Prop} {St : Nat → Shared → Prop}
theorem update_loopX (W : WalksS prog w A.in1 I fp wr G n P St) (S : Addr) (hSf : S ∉ fp) (vl : Nat → Int) (hval : ∀ i v, P i v → ∃ t, v = .int (vl i) t) (hb : n + 1 < scanBound) :
    ∀ (k i : Nat) (s : Shared) (ns : List Int), n - i = k → i ≤ n → St i s → SetAt w s.heap S ns → (∀ y, y ∈ ns ↔ ∃ j, j < i ∧ y = vl j) → ns.length ≤ i →
      (∀ s' ns', Moved (S :: wr) G s s' → SetAt w s'.heap S ns' → (∀ y, y ∈ ns' ↔ ∃ j, j < n ∧ y = vl j) → R (.ok (.ret .none)) s') → codeAny (model prog w) A (.builtin "set.update.loop" ⟨[.ref S, .ref I], []⟩) R s := by
  have nw : S ∉ wr := fun z => hSf (W.sub _ z)
  have up : ∀ b ∈ wr, b ∈ S :: wr := fun b z => List.mem_cons_of_mem _ z
  intro k
  induction k with
  | zero =>
    intro i s ns hk hi hst hS hm hl hR
    have e : i = n := by omega
    subst e
    refine codeAny_builtin F.entry_set_update_loop ?_; rw [Around.under_plainId F.plain_set_update_loop _]; show wpAny _ A.in1 (pyNext (.ref I) >>= _) _ _ s
    refine wpAny_bind (W.done s _ _ hst fun s' mv => ?_); show wpAny _ A.in1 (ret Value.none) _ _ s'
    exact wpAny_pure (hR s' ns (mv.mono up) (hS.keeps fun o ho => mv.heap S o nw ho) hm)
  | succ k ih =>
    intro i s ns hk hi hst hS hm hl hR
    have lt : i < n := by omega
    refine codeAny_builtin F.entry_set_update_loop ?_; rw [Around.under_plainId F.plain_set_update_loop _]; show wpAny _ A.in1 (pyNext (.ref I) >>= _) _ _ s
    refine wpAny_bind (W.item i s _ _ lt hst fun v s' hP hst' mv => ?_)
    obtain ⟨t, rfl⟩ := hval i v hP
    have hS' : SetAt w s'.heap S ns := hS.keeps fun o ho => mv.heap S o nw ho
    show wpAny _ A.in1 (holding [Value.int (vl i) t] (setAdd S (.int (vl i) t)) >>= _) _ _ s'
    refine wpAny_bind (wpAny_holding ?_); unfold setAdd; refine wpAny_holding ?_
    refine wpAny_bind ((intKind prog w).pyHash (k := vl i) (intKind_is _ _ _ _) ?_)
    refine add_int (s := { s' with toks := s'.toks + 1 }) (k := vl i) (tk := t) rfl hS' (by omega) fun h' ns' sb S2 m2 l2 => ?_
    refine wpAny_pure ⟨plainId_quiet F.plain_set_update_loop _, ih (i + 1) _ ns' (by omega) lt (W.frame _ s' _ _ hst' (Nat.le_succ _) fun b hb o e => ?_) S2 (fun y => ?_) (by omega) fun s'' ns'' mv2 S3 m3 => ?_⟩
    · rw [sb.2 b (fun z : b = S => hSf (by rw [← z]; exact hb))]; exact e
    · rw [m2, hm]
      constructor
      · rintro (⟨j, hj, e⟩ | e)
        · exact ⟨j, by omega, e⟩
        · exact ⟨i, by omega, e⟩
      · rintro ⟨j, hj, e⟩
        by_cases z : j = i
        · exact .inr (by rw [e, z])
        · exact .inl ⟨j, by omega, e⟩
    · refine hR s'' ns'' (Moved.trans W.gtrans ((mv.mono up).then_heap (Nat.le_succ _) fun b o hb e => ?_) mv2) S3 m3
      rw [sb.2 b (fun z : b = S => hb (by rw [z]; exact List.mem_cons_self))]; exact e
end
section
variable {prog : Program} {w : World} {A : Around} {E : Value → Shared → Prop} {s : Shared}
abbrev newSetObj (w : World) : Obj := { cls := .type "set", dict := none, data := .set #[] 0 (.fresh 0 0 (ledOf w)) }
theorem fresh_ok (b : Bool) : TabOk b (.fresh 0 0 b) := ⟨rfl, fun a c h1 h2 => absurd h2 (by show ¬ c < 0; omega)⟩
theorem setAt_new {h : Heap} {a : Addr} (e : h.get? a = some (newSetObj w)) : SetAt w h a [] := ⟨_, #[], 0, _, e, ⟨rfl, rfl, rfl⟩, rfl, fun e he => by simp at he, rfl, List.nodup_nil, by decide, rfl, fresh_ok _⟩
theorem set_new_led (a : Value) {Q₁ : Value → Shared → Prop} (h : Q₁ (.ref s.heap.objs.size) { s with heap := s.heap.push (newSetObj w) }) :
    codeAny (model prog w) A (.call (.builtin "set.__new__") ⟨[.type "set", a], []⟩) (wants Q₁ E) s := by
  refine codeAny_of_tree ?_
  show wpAny _ A.in1 (do checkBuiltinCall "set.__new__" ⟨[.type "set", a], []⟩; again (.builtin "set.__new__" ⟨[.type "set", a], []⟩)) _ _ s
  refine wpAny_bind (wpAny_of_eq (F.newCall_set_1 a) (wpAny_pure ⟨plainId_quiet F.plain_set_new _, codeAny_builtin F.entry_set_new ?_⟩))
  rw [Around.under_plainId F.plain_set_new _]; unfold Builtin.«set.__new__» Builtin.Frozenset.newClass
  have hsub := sub_set_self
  obtain ⟨hp, g, d, tk, os⟩ := s
  dsimp only
  wp_walk
  refine wpAny_askSetting (wpAny_pure ?_); dsimp only; simp only [newObj]; refine wpAny_bind (wpAny_alloc (wpAny_pure ?_))
  exact wpAny_pure h
set_option maxRecDepth 100000 in
set_option maxHeartbeats 8000000 in
/-- set(l) of a list of ints -/
theorem call_set_listX {l : Addr} {items : Array Value} {ns : List Int} {Q : Value → Shared → Prop} (hh : A.handled = none) (hl : s.heap.IsList l items) (hi : PyProof.Rows.IntsAre items.toList ns) (hb : items.size + 1 < scanBound)
    (h : ∀ (h' : Heap) (tk : Nat) (ms : List Int), SetAt w h' s.heap.objs.size ms → (∀ y, y ∈ ms ↔ y ∈ ns) → (∀ b o, b < s.heap.objs.size → s.heap.get? b = some o → h'.get? b = some o) → Q (.ref s.heap.objs.size) { s with heap := h', toks := tk }) :
    wpAny (model prog w) A (call (.type "set") [.ref l]) Q E s := by
  obtain ⟨c, tl, hmro⟩ := F.called_set.mro
  have hmade := F.called_set.made
  have hsub := F.called_set.sub
  refine wpAny_call (codeAny_of_tree ?_); show wpAny _ _ (callAny (.type "set") _) _ _ _
  refine wpAny_pure ⟨Code.quiet_builtin _ (by decide +kernel), codeAny_builtin F.entry_type_call ?_⟩
  rw [Around.under_plain (weight_type_call_type "set" [.ref l] []) rfl]
  have h1 := F.called_set.notType
  have h2 := F.called_set.canCreate
  have hct := F.typeCall_set_1 (.ref l)
  repeat (any_goals (first | assumption | wp_step))
  refine codeAny_mono (set_new_led (.ref l) (E := E) (Q₁ := fun obj s₁ => obj = .ref s.heap.objs.size ∧ s₁ = { s with heap := s.heap.push (newSetObj w) }) ⟨rfl, rfl⟩) fun r s₁ hr => ?_
  cases r with
  | error e => exact hr
  | ok fl =>
    cases fl with
    | ret obj =>
      obtain ⟨rfl, rfl⟩ := hr
      have hS : (s.heap.push (newSetObj w)).get? s.heap.objs.size = some (newSetObj w) := Heap.get?_push_size _ rfl
      have hT : Shared.TypeIs { s with heap := s.heap.push (newSetObj w) } (.ref s.heap.objs.size) "set" := ⟨_, hS, rfl⟩
      have hli := F.called_set.init.lookup
      have hbi := F.called_set.init.bind (.ref s.heap.objs.size)
      repeat (any_goals (first | assumption | wp_step))
      refine codeAny_mono (codeAny_call_builtin (R := wants (fun r s₂ => r = .none ∧ ∃ h' tk ms, s₂ = { s with heap := h', toks := tk } ∧ SetAt w h' s.heap.objs.size ms ∧ (∀ y, y ∈ ms ↔ y ∈ ns) ∧ (∀ b o, b < s.heap.objs.size → s.heap.get? b = some o → h'.get? b = some o)) E)
        F.called_set.init.plain F.entry_set_init (check_set_init_1 hT ?_)) fun r₂ s₂ hr₂ => ?_
      · obtain ⟨ol, hol, hcl, nl, hdl⟩ := hl
        obtain ⟨ocls, odict, odata, oslots⟩ := ol
        simp only at hcl hdl
        subst hcl; subst hdl
        have hol' : (s.heap.push (newSetObj w)).get? l = some { cls := .type "list", dict := odict, data := .seq items nl, slots := oslots } := Heap.get?_push_of_some _ hol
        have hsls := F.sub_list_set
        have hslf := F.sub_list_frozenset
        have hne : (Value.type "list" == Value.type "dict") = false := by decide
        have hl1 : (s.heap.push (newSetObj w)).IsList l items := ⟨_, hol', rfl, nl, rfl⟩
        unfold Builtin.«set.__init__» noKeywords Builtin.Frozenset.updateFrom
        generalize hPI : pyIter = PI
        wp_walk
        subst hPI
        refine wpAny_pyIter_list hl1 ?_; refine wpAny_bind (wpAny_runValue ?_)
        have hlS : l < s.heap.objs.size := Heap.lt_size hol
        have hh3 : A.in1.in1.in1.handled = none := by simp [hh]
        have zs : (s.heap.push (newSetObj w)).objs.size = s.heap.objs.size + 1 := Heap.size_push ..
        have hval : ∀ (i : Nat) (v : Value), items[i]? = some v → ∃ t, v = .int ((fun i => ns.getD i 0) i) t := fun i v hv => PyProof.Rows.IntsAre.int_at hi i v (by rw [Array.getElem?_toList]; exact hv)
        have zn : items.size = ns.length := by have := IntsAre.length hi; simpa using this
        refine update_loopX ((Walks.list hh3 _ l (by rw [zs]; exact Nat.ne_of_lt (Nat.lt_succ_of_lt hlS)) items).toS) s.heap.objs.size (by rw [zs]; simp only [List.mem_cons, List.mem_singleton, List.not_mem_nil, or_false, not_or]; exact ⟨Nat.ne_of_lt (Nat.lt_succ_self _), Nat.ne_of_gt hlS⟩) (fun i => ns.getD i 0) hval hb (items.size - 0) 0 _ [] (by omega) (Nat.zero_le _)
          ⟨⟨_, Heap.get?_push_size _ rfl, rfl, rfl⟩, (hl1.push _)⟩ (setAt_new (Heap.get?_push_of_some _ hS)) (fun y => by simp) (Nat.zero_le _) ?_
        intro s' ms mv S2 m2
        obtain ⟨h', g', d', tk', os'⟩ := s'
        have eg : g' = s.gens := mv.gens
        have ed : d' = s.drawn := mv.drawn
        have eo : os' = s.os := mv.os
        subst eg; subst ed; subst eo
        show wpAny _ _ _ _ _ _
        refine wpAny_pure ?_
        show wpAny _ _ (ret Value.none) _ _ _
        refine wpAny_pure ⟨rfl, h', tk', ms, rfl, S2, fun y => ?_, fun b o hb e => ?_⟩
        · rw [m2 y, zn]
          constructor
          · rintro ⟨j, hj, rfl⟩
            have : ns.getD j 0 = ns[j] := by simp [List.getD, hj]
            show ns.getD j 0 ∈ ns
            rw [this]; exact List.getElem_mem hj
          · intro hy
            obtain ⟨j, hj, rfl⟩ := List.mem_iff_getElem.mp hy
            exact ⟨j, hj, by simp [List.getD, hj]⟩
        · have hb1 : b ≠ s.heap.objs.size := Nat.ne_of_lt hb
          have hb2 : b ≠ (s.heap.push (newSetObj w)).objs.size := by rw [zs]; exact Nat.ne_of_lt (Nat.lt_succ_of_lt hb)
          exact mv.heap b o (by simp only [List.mem_cons, List.mem_singleton, List.not_mem_nil, or_false, not_or]; exact ⟨hb1, hb2⟩) (Heap.get?_push_of_some _ (Heap.get?_push_of_some _ e))
      · cases r₂ with
        | error e => exact hr₂
        | ok fl₂ =>
          cases fl₂ with
          | ret r =>
            obtain ⟨rfl, h', tk, ms, rfl, S2, m2, hk'⟩ := hr₂
            repeat (any_goals (first | assumption | wp_step))
            exact h _ _ _ S2 m2 hk'
          | _ => exact hr₂.elim
    | _ => exact hr.elim
end
end SetX

end
section
namespace SetX
open PySem PyProof.Rows
theorem perm_erase {α : Type} : ∀ (l : List α) (i : Nat) (h : i < l.length), List.Perm (l[i] :: l.eraseIdx i) l
  | [], i, h => absurd h (by simp)
  | x :: l, 0, h => .rfl
  | x :: l, i + 1, h => by
    have h' : i < l.length := by simpa using h
    show List.Perm (l[i] :: x :: l.eraseIdx i) (x :: l)
    exact (List.Perm.swap x l[i] _).trans ((perm_erase l i h').cons x)
theorem pick_go {α : Type} (next : Nat → Nat) : ∀ (fuel k : Nat) (left : List α) (out : Array α), left.length = fuel → List.Perm (pickOrder.go next fuel k left out).toList (out.toList ++ left)
  | 0, k, left, out, h => by
    have e : left = [] := List.length_eq_zero_iff.mp h
    subst e
    show List.Perm out.toList (out.toList ++ [])
    rw [List.append_nil]
  | fuel + 1, k, left, out, h => by
    show List.Perm (match left[next k % left.length]? with
      | some x => pickOrder.go next fuel (k + 1) (left.eraseIdx (next k % left.length)) (out.push x)
      | none => out).toList _
    have hlt : next k % left.length < left.length := Nat.mod_lt _ (by omega)
    rw [List.getElem?_eq_getElem hlt]
    dsimp only
    have hz : (left.eraseIdx (next k % left.length)).length = fuel := by rw [List.length_eraseIdx_of_lt hlt]; omega
    refine (pick_go next fuel (k + 1) _ _ hz).trans ?_
    rw [Array.toList_push, List.append_assoc]
    refine List.Perm.append_left _ ?_
    exact perm_erase _ _ hlt
theorem pickOrder_perm {α : Type} (next : Nat → Nat) (xs : Array α) : List.Perm (pickOrder next xs).toList xs.toList := by
  unfold pickOrder
  have := pick_go next xs.size 0 xs.toList #[] (by simp)
  simpa using this
section
variable {prog : Program} {w : World} {A : Around} {E : Value → Shared → Prop} {s : Shared} {a : Addr} {ns : List Int}
theorem wpAny_choose {src : Source} {n : Nat} {Q : Nat → Shared → Prop} (hn : n ≠ 0) (h : ∀ k d, k < n → Q k { s with drawn := d }) : wpAny (model prog w) A (choose src n) Q E s := by
  intro Γ p hΓ
  exact ⟨hn, h _ _ (Nat.mod_lt _ (Nat.pos_of_ne_zero hn))⟩
theorem drawOrder_of {α : Type} : ∀ (n : Nat) (xs : List α) (s : Shared) (Q : List α → Shared → Prop), xs.length = n → (∀ ys d, List.Perm ys xs → Q ys { s with drawn := d }) → wpAny (model prog w) A (drawOrder n xs) Q E s
  | 0, xs, s, Q, hl, h => by
    have e : xs = [] := List.length_eq_zero_iff.mp hl
    subst e
    exact wpAny_pure (h [] s.drawn .nil)
  | n + 1, [], s, Q, hl, h => by simp at hl
  | n + 1, x :: xs, s, Q, hl, h => by
    unfold drawOrder
    refine wpAny_bind (wpAny_choose (by simp) fun k d hk => ?_)
    rw [List.getElem?_eq_getElem hk]
    dsimp only
    refine wpAny_bind (drawOrder_of n _ _ _ (by rw [List.length_eraseIdx_of_lt hk]; omega) fun ys d' p => ?_)
    refine wpAny_pure (h _ d' ?_)
    exact (p.cons _).trans (perm_erase _ _ hk)
theorem setWalk_of {o : Obj} {es : Array (Int × Value)} {ep : Nat} {t : SetTable} {Q : Array (Int × Value) → Shared → Prop} (ho : s.heap.get? a = some o) (hd : o.data = .set es ep t) (hf : t.fits es.size = true) (hl : t.led = ledOf w)
    (h : ∀ es' d, List.Perm es'.toList es.toList → Q es' { s with drawn := d }) : wpAny (model prog w) A (setWalk a) Q E s := by
  unfold setWalk setsByText
  refine wpAny_bind (wpAny_setState_of ho hd hf ?_); dsimp only
  refine wpAny_bind (wpAny_bind (wpAny_askSetting (wpAny_pure ?_)))
  by_cases hb : (model prog w).w.params.followText "set-order" = true
  · dsimp only
    rw [if_pos hb]
    refine wpAny_bind (wpAny_askSetting (wpAny_pure ?_))
    exact h _ s.drawn (pickOrder_perm _ _)
  · dsimp only
    rw [if_neg hb]
    have hb' : ¬ w.params.followText "set-order" = true := hb
    have hl' : t.led = true := by rw [hl]; unfold ledOf; simp [hb']
    split
    · refine wpAny_bind (drawOrder_of _ _ _ _ (by simp) fun ys d p => ?_)
      exact wpAny_pure (h _ d (by simpa using p))
    · refine wpAny_bind ?_
      show wpAny _ _ (if (!t.led && decide (es.size > 1)) = true then _ else _) _ _ _
      rw [hl']
      simp only [Bool.not_true, Bool.false_and, Bool.false_eq_true, if_false]
      exact wpAny_pure (wpAny_pure (h es s.drawn .rfl))
end
end SetX
namespace SetX
open PySem PyProof.Rows
section
variable {prog : Program} {w : World} {A : Around} {E : Value → Shared → Prop} {s : Shared} {a b : Addr} {ns ms : List Int}
theorem forIn_arr {M : Model} {α β : Type} {s : Shared} (f : α → β → Sem (ForInStep β)) (I : List α → β → Shared → Prop) (Q : β → Shared → Prop)
    (turn : ∀ x rest c s, I (x :: rest) c s → wpAny M A (f x c) (fun r s' => match r with | .yield c' => I rest c' s' | .done c' => Q c' s') E s) (fin : ∀ c s, I [] c s → Q c s) (xs : Array α) (c : β) (h : I xs.toList c s) : wpAny M A (forIn xs c f) Q E s := by
  rw [← Array.forIn_toList]; exact wpAny_forIn_list f I Q turn fin _ c h
/-- no member of a set of ints asks a method -/
theorem setsQuiet_of : ∀ (l : List Addr) {Q : Bool → Shared → Prop}, (∀ c ∈ l, ∃ ks, SetAt w s.heap c ks) → Q true s → wpAny (model prog w) A (setsQuiet l) Q E s := by
  intro l Q hl hQ
  unfold setsQuiet
  refine wpAny_bind ?_
  refine wpAny_forIn_list _ (fun rest r s' => r = ⟨none, ()⟩ ∧ s' = s ∧ ∀ c ∈ rest, ∃ ks, SetAt w s.heap c ks) _ ?_ ?_ l _ ⟨rfl, rfl, hl⟩
  · rintro c rest r s' ⟨rfl, rfl, hc⟩
    obtain ⟨ks, o, es, ep, t, ho, hex, hd, he, _, _, _, hf, _⟩ := hc c List.mem_cons_self
    refine wpAny_bind (wpAny_setEntries_of ho hd hf ?_)
    refine wpAny_bind ?_
    refine forIn_arr _ (fun rest' r' s'' => r' = ⟨none, ()⟩ ∧ s'' = s' ∧ ∀ e ∈ rest', e ∈ es.toList) _ ?_ ?_ es _ ⟨rfl, rfl, fun e z => z⟩
    · rintro ⟨hv, x⟩ rest' r' s'' ⟨rfl, rfl, hm⟩
      obtain ⟨n, tk, e⟩ := he _ (hm _ List.mem_cons_self)
      have e2 : x = .int n tk := congrArg Prod.snd e
      subst e2
      exact wpAny_pure ⟨rfl, rfl, fun e z => hm e (List.mem_cons_of_mem _ z)⟩
    · rintro r' s'' ⟨rfl, rfl, _⟩
      exact wpAny_pure ⟨rfl, rfl, fun c' z => hc c' (List.mem_cons_of_mem _ z)⟩
  · rintro r s' ⟨rfl, rfl, _⟩
    exact wpAny_pure hQ
theorem walkUnseen_of {others : List Addr} {r : Addr} {o : Obj} {es : Array (Int × Value)} {ep : Nat} {t : SetTable} {Q : Array (Int × Value) → Shared → Prop} (ho : s.heap.get? a = some o) (hex : o.ExactSet) (hd : o.data = .set es ep t) (he : Ent es.toList) (hnd : (es.toList.map val).Nodup)
    (hb : (es.toList.map val).length < scanBound) (hf : t.fits es.size = true) (ht : TabOk (ledOf w) t) (hoth : ∀ c ∈ others, ∃ ks, SetAt w s.heap c ks) (hr : SetAt w s.heap r [])
    (h : ∀ es' h' d, List.Perm es'.toList es.toList → Heap.SameBut r s.heap h' → SetAt w h' r [] → Q es' { s with heap := h', drawn := d }) : wpAny (model prog w) A (setWalkUnseen a others (some r)) Q E s := by
  unfold setWalkUnseen setsByText
  refine wpAny_bind (wpAny_setState_of ho hd hf ?_); dsimp only
  refine wpAny_bind (wpAny_bind (wpAny_askSetting (wpAny_pure ?_)))
  dsimp only
  have plainW : ∀ (Q' : Array (Int × Value) → Shared → Prop), (∀ es' d, List.Perm es'.toList es.toList → Q' es' { s with drawn := d }) → wpAny (model prog w) A (setWalk a) Q' E s := fun Q' q => setWalk_of ho hd hf ht.led q
  split
  · exact plainW _ fun es' d p => h es' s.heap d p (.refl ..) hr
  · refine wpAny_bind (setsQuiet_of (a :: others) (fun c hc => ?_) ?_)
    · rcases List.mem_cons.mp hc with z | z
      · subst z; exact ⟨_, o, es, ep, t, ho, hex, hd, he, rfl, hnd, hb, hf, ht⟩
      · exact hoth c z
    · simp only [Bool.not_true, Bool.false_eq_true, if_false]
      refine wpAny_bind (wpAny_rule ?_)
      obtain ⟨o2, es2, ep2, t2, ho2, hex2, hd2, he2, m2, nd2, hb2, hf2, ht2⟩ := id hr
      refine wpAny_bind (wpAny_setState_of ho2 hd2 hf2 ?_); dsimp only
      have z2 : es2.toList = [] := List.map_eq_nil_iff.mp m2
      have z2' : es2.size = 0 := by rw [← Array.length_toList, z2]; rfl
      split
      · refine wpAny_bind (wpAny_storeSet_of ho2 hd2 ?_ (by rw [z2']; exact Nat.zero_le _))
        have e1 := store_at (es' := es2) (t' := { t2 with led := t2.led && t.led, plain := t2.plain && t.plain }) ho2 hd2
        refine wpAny_pure (h es _ s.drawn .rfl (Heap.SameBut.update ..) ⟨_, es2, _, _, e1, hex2, rfl, he2, m2, nd2, hb2, hf2, ?_, ht2.rise⟩)
        show (t2.led && t.led) = ledOf w
        rw [ht2.led, ht.led]; simp
      · exact wpAny_pure (h es s.heap s.drawn .rfl (.refl ..) hr)
theorem sub_set_froz : isSubtype (.type "set") (.type "frozenset") = pure false := by rw [isSubtype_type]; kernel_rfl
theorem entry_set_and : entryFor table "set.__and__" = some Builtin.«frozenset.__and__» := entryFor_alias (id' := "frozenset.__and__") (by kernel_rfl) rfl (by decide +kernel) (by kernel_rfl)
theorem SetAt.ty {s : Shared} (S : SetAt w s.heap a ns) : s.TypeIs (.ref a) "set" := let ⟨o, _, _, _, ho, hex, _⟩ := S; ⟨o, ho, hex.1⟩
theorem anySet_of {Q : Bool → Shared → Prop} (S : SetAt w s.heap a ns) (h : Q true s) : wpAny (model prog w) A (Builtin.Frozenset.isAnySet (.ref a)) Q E s := by
  unfold Builtin.Frozenset.isAnySet
  show wpAny _ _ (isInstance (.ref a) (.type "set") >>= _) _ _ _
  refine wpAny_bind (wpAny_isInstance S.ty sub_set_self ?_)
  exact wpAny_pure h
theorem newSet_led {Q : Value → Shared → Prop} (h : Q (.ref s.heap.objs.size) { s with heap := s.heap.push (newSetObj w) }) : wpAny (model prog w) A (newSet (.type "set")) Q E s := by
  unfold newSet setsByText
  refine wpAny_bind (wpAny_bind (wpAny_askSetting (wpAny_pure ?_))); dsimp only; simp only [newObj]
  exact wpAny_bind (wpAny_alloc (wpAny_pure h))
set_option maxHeartbeats 8000000 in
theorem inter_of {Q : Value → Shared → Prop} {idn : String} (hab : b ≠ a) (S : SetAt w s.heap a ns) (T : SetAt w s.heap b ms)
    (h : ∀ h' d ks, SetAt w h' s.heap.objs.size ks → (∀ y, y ∈ ks ↔ y ∈ ns ∧ y ∈ ms) → (∀ c o, s.heap.get? c = some o → h'.get? c = some o) → Q (.ref s.heap.objs.size) { s with heap := h', drawn := d }) :
    wpAny (model prog w) A (Builtin.Frozenset.intersection idn a (.ref b)) Q E s := by
  unfold Builtin.Frozenset.intersection
  have hne : (Value.ref b == Value.ref a) = false := by
    rw [beq_eq_false_iff_ne]; intro z; exact hab (Value.ref.inj z)
  rw [if_neg (by rw [hne]; simp)]
  unfold Builtin.Frozenset.baseOf
  refine wpAny_bind (wpAny_bind (wpAny_isInstance S.ty sub_set_self (wpAny_pure ?_)))
  simp only [if_true]
  refine wpAny_bind (newSet_led ?_)
  have k1 : ∀ c o, s.heap.get? c = some o → (s.heap.push (newSetObj w)).get? c = some o := fun c o e => Heap.get?_push_of_some _ e
  have S1 : SetAt w (s.heap.push (newSetObj w)) a ns := S.keeps fun o e => k1 a o e
  have T1 : SetAt w (s.heap.push (newSetObj w)) b ms := T.keeps fun o e => k1 b o e
  have R1 : SetAt w (s.heap.push (newSetObj w)) s.heap.objs.size [] := setAt_new (Heap.get?_push_size _ rfl)
  have la : a < s.heap.objs.size := by obtain ⟨o, _, _, _, e, _⟩ := S; exact Heap.lt_size e
  have lb : b < s.heap.objs.size := by obtain ⟨o, _, _, _, e, _⟩ := T; exact Heap.lt_size e
  generalize hs1 : ({ s with heap := s.heap.push (newSetObj w) } : Shared) = s1
  have ks1 : ∀ c o, s.heap.get? c = some o → s1.heap.get? c = some o := fun c o e => by rw [← hs1]; exact k1 c o e
  have S1' : SetAt w s1.heap a ns := by rw [← hs1]; exact S1
  have T1' : SetAt w s1.heap b ms := by rw [← hs1]; exact T1
  have R1' : SetAt w s1.heap s.heap.objs.size [] := by rw [← hs1]; exact R1
  have fin1 : ∀ h' d ks, SetAt w h' s.heap.objs.size ks → (∀ y, y ∈ ks ↔ y ∈ ns ∧ y ∈ ms) → (∀ c o, c ≠ s.heap.objs.size → s1.heap.get? c = some o → h'.get? c = some o) → Q (.ref s.heap.objs.size) { s1 with heap := h', drawn := d } := fun h' d ks q1 q2 q3 => by
    have := h h' d ks q1 q2 fun c o e => q3 c o (Nat.ne_of_lt (Heap.lt_size e)) (ks1 c o e)
    rw [← hs1]; exact this
  show wpAny _ _ (Builtin.Frozenset.addrOf (.ref s.heap.objs.size) >>= _) _ _ _
  refine wpAny_bind (wpAny_pure ?_)
  refine wpAny_bind (wpAny_holding ?_)
  refine wpAny_bind (anySet_of T1' ?_)
  simp only [if_true]
  show wpAny _ _ (Builtin.Frozenset.addrOf (.ref b) >>= _) _ _ _
  refine wpAny_bind (wpAny_pure ?_)
  unfold Builtin.Frozenset.sizeOf
  obtain ⟨oa, ea, pa, ta, hoa, hxa, hda, hea, hma, hna, hba, hfa, hta⟩ := id S1'
  obtain ⟨ob, eb, pb, tb, hob, hxb, hdb, heb, hmb, hnb, hbb, hfb, htb⟩ := id T1'
  refine wpAny_bind (wpAny_bind (wpAny_setEntries_of hob hdb hfb (wpAny_pure ?_)))
  refine wpAny_bind (wpAny_bind (wpAny_setEntries_of hoa hda hfa (wpAny_pure ?_)))
  -- whichever is walked
  have core : ∀ (ad wk : Addr) (as ws : List Int) (R' : Unit → Shared → Prop), ad < s.heap.objs.size → wk < s.heap.objs.size → SetAt w s1.heap ad as → SetAt w s1.heap wk ws →
      (∀ h' d ks, SetAt w h' s.heap.objs.size ks → (∀ y, y ∈ ks ↔ y ∈ as ∧ y ∈ ws) → (∀ c o, c ≠ s.heap.objs.size → s1.heap.get? c = some o → h'.get? c = some o) → R' () { s1 with heap := h', drawn := d }) →
      wpAny (model prog w) A (do
        let was ← setEpoch wk
        let lst ← setWalkUnseen wk [ad, s.heap.objs.size] (some s.heap.objs.size)
        forIn lst PUnit.unit fun x _ => do
          holding [x.snd] do
            let fd ← setFind ad x.snd x.fst
            if fd.isSome = true then do
                let _ ← setAddHashed s.heap.objs.size x.snd x.fst
                pure ()
              else pure ()
          Builtin.Frozenset.unchanged idn wk was
          pure (ForInStep.yield PUnit.unit)
        pure ()) R' E s1 := by
    intro ad wk as ws R' lad lwk SA SW q
    obtain ⟨ow, ew, pw, tw, how, hxw, hdw, hew, hmw, hnw, hbw, hfw, htw⟩ := id SW
    refine wpAny_bind (wpAny_setEpoch_of how hdw hfw ?_)
    refine wpAny_bind (walkUnseen_of how hxw hdw hew (by rw [hmw]; exact hnw) (by rw [hmw]; exact hbw) hfw htw (fun c hc => ?_) R1' fun es' h2 d2 p2 sb2 R2 => ?_)
    · rcases List.mem_cons.mp hc with z | z
      · subst z; exact ⟨_, SA⟩
      · have z' : c = s.heap.objs.size := by simpa using z
        subst z'; exact ⟨_, R1'⟩
    · refine wpAny_bind ?_
      refine forIn_arr _ (fun rest _ s' => ∃ h' ks, s' = { s1 with heap := h', drawn := d2 } ∧ SetAt w h' s.heap.objs.size ks ∧ (∀ c o, c ≠ s.heap.objs.size → s1.heap.get? c = some o → h'.get? c = some o) ∧ (∀ e ∈ rest, e ∈ ew.toList) ∧
          (∀ y, y ∈ ks ↔ y ∈ as ∧ y ∈ ws ∧ y ∉ rest.map val) ∧ (rest.map val).Nodup ∧ ks.length + rest.length ≤ ew.size) _ ?_ ?_ es' _ ⟨h2, [], rfl, R2, fun c o hc e => (sb2.2 c hc).trans e, fun e he => p2.mem_iff.mp he, fun y => ?_, (p2.map val).nodup_iff.mpr (by rw [hmw]; exact hnw), ?_⟩
      · rintro ⟨hv, x⟩ rest r s' ⟨h', ks, rfl, SK, kk, hm, hks, hnd, hlen⟩
        obtain ⟨n, tk, e⟩ := hew _ (hm _ List.mem_cons_self)
        have e1 : hv = hashInt n := congrArg Prod.fst e
        have e2 : x = .int n tk := congrArg Prod.snd e
        subst e1; subst e2
        have SA' : SetAt w h' ad as := SA.keeps fun o z => kk ad o (Nat.ne_of_lt lad) z
        have hwk : ∀ g : Heap, (∀ c o, c ≠ s.heap.objs.size → s1.heap.get? c = some o → g.get? c = some o) → g.get? wk = some ow := fun g kg => kg wk ow (Nat.ne_of_lt lwk) how
        have hnw' : n ∈ ws := by
          rw [← hmw]; exact List.mem_map.mpr ⟨_, hm _ List.mem_cons_self, rfl⟩
        have hvn : (((hashInt n, Value.int n tk) :: rest).map val) = n :: rest.map val := rfl
        rw [hvn] at hnd hks
        obtain ⟨hn1, hn2⟩ := List.nodup_cons.mp hnd
        have unch : ∀ (g : Heap) (R'' : ForInStep PUnit → Shared → Prop), (∀ c o, c ≠ s.heap.objs.size → s1.heap.get? c = some o → g.get? c = some o) → R'' (.yield ⟨⟩) { s1 with heap := g, drawn := d2 } →
            wpAny (model prog w) A (do Builtin.Frozenset.unchanged idn wk pw; pure (ForInStep.yield PUnit.unit)) R'' E { s1 with heap := g, drawn := d2 } := fun g R'' kg hR => by
          unfold Builtin.Frozenset.unchanged
          refine wpAny_bind (wpAny_bind (wpAny_setEpoch_of (hwk g kg) hdw hfw ?_))
          rw [if_neg (by simp)]
          exact wpAny_pure (wpAny_pure hR)
        refine wpAny_bind (wpAny_holding ?_)
        refine wpAny_bind (find_int (k := n) (tk := tk) rfl SA' fun fr hfr => ?_)
        by_cases hin : n ∈ as
        · have e3 : fr.isSome = true := by rw [hfr]; exact decide_eq_true hin
          rw [if_pos e3]
          have hroom : ks.length + 1 < scanBound := by
            have z : ew.size < scanBound := by have := hbw; rw [← hmw] at this; simpa using this
            simp only [List.length_cons] at hlen
            have hz : ks.length + 1 ≤ ew.size := by omega
            rcases Nat.lt_or_eq_of_le hz with q1 | q1
            · exact Nat.lt_trans q1 z
            · rw [q1]; exact z
          refine wpAny_bind (add_int (k := n) (tk := tk) (s := { s1 with heap := h', drawn := d2 }) rfl SK hroom fun h3 ks3 sb3 SK3 m3 l3 => ?_)
          refine wpAny_pure ?_
          have kk3 : ∀ c o, c ≠ s.heap.objs.size → s1.heap.get? c = some o → h3.get? c = some o := fun c o hc z => (sb3.2 c hc).trans (kk c o hc z)
          refine unch h3 _ kk3 ⟨h3, ks3, rfl, SK3, kk3, fun e z => hm e (List.mem_cons_of_mem _ z), fun y => ?_, hn2, ?_⟩
          · rw [m3, hks]
            constructor
            · rintro (⟨q1, q2, q3⟩ | rfl)
              · exact ⟨q1, q2, fun z => q3 (List.mem_cons_of_mem _ z)⟩
              · exact ⟨hin, hnw', hn1⟩
            · rintro ⟨q1, q2, q3⟩
              by_cases z : y = n
              · exact .inr z
              · exact .inl ⟨q1, q2, fun z' => (List.mem_cons.mp z').elim z q3⟩
          · simp only [List.length_cons] at hlen; omega
        · have e3 : fr.isSome = false := by rw [hfr]; exact decide_eq_false hin
          rw [if_neg (by rw [e3]; simp)]
          refine wpAny_pure ?_
          refine unch h' _ kk ⟨h', ks, rfl, SK, kk, fun e z => hm e (List.mem_cons_of_mem _ z), fun y => ?_, hn2, ?_⟩
          · rw [hks]
            constructor
            · rintro ⟨q1, q2, q3⟩
              exact ⟨q1, q2, fun z => q3 (List.mem_cons_of_mem _ z)⟩
            · rintro ⟨q1, q2, q3⟩
              exact ⟨q1, q2, fun z' => (List.mem_cons.mp z').elim (fun z => hin (z ▸ q1)) q3⟩
          · simp only [List.length_cons] at hlen; omega
      · rintro _ s' ⟨h', ks, rfl, SK, kk, _, hks, _, _⟩
        exact wpAny_pure (q h' d2 ks SK (fun y => by rw [hks]; simp) kk)
      · constructor
        · intro z; exact absurd z (by simp)
        · rintro ⟨_, z1, z2⟩
          exfalso
          apply z2
          rw [(p2.map val).mem_iff, hmw]; exact z1
      · have := p2.length_eq; simp at this; simp [this]
  by_cases hc : eb.size > ea.size
  · simp only [hc, if_true]
    refine core b a ms ns _ lb la T1' S1' fun h' d ks q1 q2 q3 => ?_
    exact wpAny_pure (fin1 h' d ks q1 (fun y => by rw [q2]; exact And.comm) q3)
  · simp only [hc, if_false]
    refine core a b ns ms _ la lb S1' T1' fun h' d ks q1 q2 q3 => ?_
    exact wpAny_pure (fin1 h' d ks q1 q2 q3)
end
end SetX
namespace SetX
open PySem PyProof.Rows
theorem slot_si_next : Slot "set_iterator" "__next__" "set_iterator.__next__" :=
  .of (owner := "set_iterator") (n := "__next__") (by rw [typeLookup_type, builtinLookup_eq_fast]; kernel_rfl) (by decide +kernel) (by decide +kernel) (by decide +kernel) (by first | exact .inl (by decide +kernel) | exact .inr (by decide +kernel)) (by rw [isSubtype_type]; kernel_rfl)
theorem slot_si_iter : Slot "set_iterator" "__iter__" "set_iterator.__iter__" :=
  .of (owner := "set_iterator") (n := "__iter__") (by rw [typeLookup_type, builtinLookup_eq_fast]; kernel_rfl) (by decide +kernel) (by decide +kernel) (by decide +kernel) (by first | exact .inl (by decide +kernel) | exact .inr (by decide +kernel)) (by rw [isSubtype_type]; kernel_rfl)
theorem entry_si_next : entryFor table "set_iterator.__next__" = some Builtin.«set_iterator.__next__» := by first | exact entryFor_of_tree (by kernel_rfl) | exact entryFor_of_fast (by kernel_rfl)
theorem entry_si_iter : entryFor table "set_iterator.__iter__" = some Builtin.«dict_keyiterator.__iter__» := entryFor_alias (id' := "dict_keyiterator.__iter__") (by kernel_rfl) rfl (by decide +kernel) (by kernel_rfl)
theorem args_si_next (a : Value) : argsOk "set_iterator.__next__" ⟨[a], []⟩ := by unfold argsOk; kernel_rfl
theorem args_si_iter (a : Value) : argsOk "set_iterator.__iter__" ⟨[a], []⟩ := by unfold argsOk; kernel_rfl
theorem entry_set_iter : entryFor table "set.__iter__" = some Builtin.«frozenset.__iter__» := entryFor_alias (id' := "frozenset.__iter__") (by kernel_rfl) rfl (by decide +kernel) (by kernel_rfl)
theorem set_len_lookup : typeLookup (.type "set") "__len__" = pure (some (.builtin "set.__len__")) := by rw [typeLookup_type, builtinLookup_eq_fast]; kernel_rfl
end SetX

end
section
namespace SetX
open PySem PyProof.Rows
section
variable {prog : Program} {w : World} {A : Around} {E : Value → Shared → Prop} {s : Shared}
/-- a set's iterator: what it begins with, the turn -/
def SIter (h : Heap) (it : Addr) (first : Value) (i : Nat) (a : Addr) (n ep : Nat) : Prop :=
  h.get? it = some { cls := .type "set_iterator", dict := none, data := .fields #[first, rawInt i, .ref a, rawInt n, rawInt ep], slots := #[] }
theorem siter_self {it a : Addr} {first : Value} {i n ep : Nat} {Q : Value → Shared → Prop} (hit : SIter s.heap it first i a n ep) (h : Q (.ref it) s) : wpAny (model prog w) A (pyIter (.ref it)) Q E s := by
  have hT : s.TypeIs (.ref it) "set_iterator" := ⟨_, hit, rfl⟩
  refine wpAny_pyIter_slot hT slot_si_iter (wpAny_call_entry slot_si_iter hT entry_si_iter ?_ (args_si_iter _))
  show wpAny _ _ (ret (.ref it)) _ _ s
  exact wpAny_pure ⟨_, rfl, "set_iterator", _, hT, slot_si_next.lookup, h⟩
/-- the next one, where the iterator goes by slots -/
theorem next_slot {it a : Addr} {o : Obj} {es : Array (Int × Value)} {ep : Nat} {t : SetTable} {sl : Int} {i : Nat} {x : Value} {nx : Nat} {Q : Option Value → Shared → Prop} (ho : s.heap.get? a = some o) (hd : o.data = .set es ep t) (hf : t.fits es.size = true)
    (hit : SIter s.heap it (rawInt sl) i a es.size ep) (hn : ∀ (s : Shared) (A : Around) (Q : Option (Value × Nat) → Shared → Prop) (E : Value → Shared → Prop), s.heap.get? a = some o → Q (some (x, nx)) s → wpAny (model prog w) A (setNext a sl.toNat i ep) Q E s)
    (h : ∀ h', SIter h' it (rawInt nx) (i + 1) a es.size ep → Heap.SameBut it s.heap h' → Q (some x) { s with heap := h' }) : wpAny (model prog w) A (pyNext (.ref it)) Q E s := by
  have hT : s.TypeIs (.ref it) "set_iterator" := ⟨_, hit, rfl⟩
  unfold pyNext
  refine wpAny_bind (wpAny_attempt (wpAny_callSpecial?_slot (name := Str.ofString "__next__") hT slot_si_next (wpAny_call_entry slot_si_next hT entry_si_next ?_ (args_si_next _))))
  unfold Builtin.«set_iterator.__next__»
  refine wpAny_bind (wpAny_pure ?_)
  refine wpAny_bind (wpAny_fieldsOf hit rfl ?_)
  show wpAny _ _ (setEntries a >>= _) _ _ _
  refine wpAny_bind (wpAny_setEntries_of ho hd hf ?_)
  rw [if_neg (by simp)]
  show wpAny _ _ (setNext a sl.toNat ((i : Nat) : Int).toNat ((ep : Nat) : Int).toNat >>= _) _ _ _
  simp only [Int.toNat_natCast]
  refine wpAny_bind (hn _ _ _ _ ho ?_)
  dsimp only
  refine wpAny_bind (wpAny_setField_rec hit (by simp) fun h1 e1 sb1 => ?_)
  refine wpAny_bind (wpAny_setField_rec (s := { s with heap := h1 }) e1 (by simp) fun h2 e2 sb2 => ?_)
  have sb2' : Heap.SameBut it h1 h2 := sb2
  refine wpAny_pure ⟨x, rfl, wpAny_pure (h h2 ?_ (sb1.trans sb2'))⟩
  have e2' : h2.get? it = some { cls := .type "set_iterator", dict := none, data := .fields ((#[rawInt sl, rawInt i, .ref a, rawInt es.size, rawInt ep].setIfInBounds 0 (rawInt nx)).setIfInBounds 1 (rawInt ((i : Int) + 1))), slots := #[] } := e2
  unfold SIter
  rw [e2']
  simp [rawInt]
theorem stop_tail {it : Addr} {cls : Value} {vs : Array Value} {Q : Option Value → Shared → Prop} (hh : A.handled = none) (hit : s.heap.get? it = some { cls := cls, dict := none, data := .fields vs, slots := #[] }) (hk : 2 < vs.size) {R : Fin → Shared → Prop} {E' : Value → Shared → Prop}
    (h : ∀ h' e, Heap.ExtBut it s.heap h' → (∃ o, h'.get? e = some o ∧ o.cls = .type "StopIteration") → E' (.ref e) { s with heap := h' }) : wpAny (model prog w) A (do setField (.ref it) 2 .none; raiseNew (← newExc (.type "StopIteration") [])) R E' s := by
  refine wpAny_bind (wpAny_setField_rec hit hk fun h1 e1 sb1 => ?_)
  show wpAny _ _ (newExc (.type "StopIteration") [] >>= _) _ _ _
  refine wpAny_bind ?_; simp only [newExc, newTuple]; refine wpAny_bind (wpAny_newObj_type ?_ (by size_fits))
  refine wpAny_bind (m := firstArgMember _ _) (wpAny_of_eq (a := Value.none) (by first | rfl | (simp only [firstArgMember]; rfl)) ?_); refine wpAny_newObj_type ?_ (by size_fits)
  simp only [raiseNew]; refine wpAny_bind (wpAny_handled ?_); rw [hh]
  refine wpAny_bind (wpAny_pure (wpAny_throw ?_)); exact h _ _ ((sb1.extBut.push _).push _) ⟨_, Heap.get?_push_size _ rfl, rfl⟩
theorem end_slot {it a : Addr} {o : Obj} {es : Array (Int × Value)} {ep : Nat} {t : SetTable} {sl : Int} {i : Nat} {Q : Option Value → Shared → Prop} (hh : A.handled = none) (ho : s.heap.get? a = some o) (hd : o.data = .set es ep t) (hf : t.fits es.size = true)
    (hit : SIter s.heap it (rawInt sl) i a es.size ep) (hn : ∀ (s : Shared) (A : Around) (Q : Option (Value × Nat) → Shared → Prop) (E : Value → Shared → Prop), s.heap.get? a = some o → Q none s → wpAny (model prog w) A (setNext a sl.toNat i ep) Q E s)
    (h : ∀ h', Heap.ExtBut it s.heap h' → Q none { s with heap := h' }) : wpAny (model prog w) A (pyNext (.ref it)) Q E s := by
  have hT : s.TypeIs (.ref it) "set_iterator" := ⟨_, hit, rfl⟩
  unfold pyNext
  refine wpAny_bind (wpAny_attempt (wpAny_callSpecial?_slot (name := Str.ofString "__next__") hT slot_si_next (wpAny_call_entry slot_si_next hT entry_si_next ?_ (args_si_next _))))
  unfold Builtin.«set_iterator.__next__»
  refine wpAny_bind (wpAny_pure ?_)
  refine wpAny_bind (wpAny_fieldsOf hit rfl ?_)
  show wpAny _ _ (setEntries a >>= _) _ _ _
  refine wpAny_bind (wpAny_setEntries_of ho hd hf ?_)
  rw [if_neg (by simp)]
  show wpAny _ _ (setNext a sl.toNat ((i : Nat) : Int).toNat ((ep : Nat) : Int).toNat >>= _) _ _ _
  simp only [Int.toNat_natCast]
  refine wpAny_bind (hn _ _ _ _ ho ?_)
  dsimp only
  refine stop_tail (Q := Q) (A := A.in1) hh hit (by simp) fun h' e eb ⟨oe, q1, q2⟩ => ?_
  refine wpAny_bind (wpAny_isInstance (T := "StopIteration") (b := true) ⟨oe, q1, q2⟩ isSubtype_stop ?_)
  exact wpAny_pure (h _ eb)
/-- the next one, where the iterator goes by drawn places -/
theorem next_drawn {it a p : Addr} {o : Obj} {es : Array (Int × Value)} {ep : Nat} {t : SetTable} {ys : List Nat} {i j : Nat} {hx : Int} {x : Value} {Q : Option Value → Shared → Prop} (ho : s.heap.get? a = some o) (hd : o.data = .set es ep t) (hf : t.fits es.size = true)
    (hp : s.heap.get? p = some { cls := .type "tuple", data := .seq (ys.map fun (k : Nat) => rawInt k).toArray }) (hit : SIter s.heap it (.ref p) i a es.size ep) (hy : ys[i]? = some j) (hj : es[j]? = some (hx, x))
    (h : ∀ h', SIter h' it (.ref p) (i + 1) a es.size ep → Heap.SameBut it s.heap h' → Q (some x) { s with heap := h' }) : wpAny (model prog w) A (pyNext (.ref it)) Q E s := by
  have hT : s.TypeIs (.ref it) "set_iterator" := ⟨_, hit, rfl⟩
  unfold pyNext
  refine wpAny_bind (wpAny_attempt (wpAny_callSpecial?_slot (name := Str.ofString "__next__") hT slot_si_next (wpAny_call_entry slot_si_next hT entry_si_next ?_ (args_si_next _))))
  unfold Builtin.«set_iterator.__next__»
  refine wpAny_bind (wpAny_pure ?_)
  refine wpAny_bind (wpAny_fieldsOf hit rfl ?_)
  show wpAny _ _ (setEntries a >>= _) _ _ _
  refine wpAny_bind (wpAny_setEntries_of ho hd hf ?_)
  rw [if_neg (by simp)]
  show wpAny _ _ (seqItems? (.ref p) >>= _) _ _ _
  refine wpAny_bind (wpAny_seqItems hp rfl ?_)
  have e0 : (ys.map fun (k : Nat) => rawInt k).toArray[((i : Nat) : Int).toNat]? = some (rawInt (j : Int)) := by
    rw [Int.toNat_natCast]; simp [hy]
  dsimp only
  show wpAny _ _ (match (ys.map fun (k : Nat) => rawInt k).toArray[((i : Nat) : Int).toNat]? with | some (.int place _) => _ | some _ => _ | none => _) _ _ _
  rw [e0]
  show wpAny _ _ (setNextDrawn a ((j : Nat) : Int).toNat ((ep : Nat) : Int).toNat >>= _) _ _ _
  simp only [Int.toNat_natCast]
  unfold setNextDrawn
  refine wpAny_bind (wpAny_bind (wpAny_setState_of ho hd hf ?_))
  dsimp only
  rw [if_neg (by simp), hj]
  refine wpAny_pure ?_
  refine wpAny_bind (wpAny_setField_rec hit (by simp) fun h2 e2 sb2 => ?_)
  refine wpAny_pure ⟨x, rfl, wpAny_pure (h h2 ?_ sb2)⟩
  unfold SIter
  rw [e2]
  simp [rawInt]
theorem end_drawn {it a p : Addr} {o : Obj} {es : Array (Int × Value)} {ep : Nat} {t : SetTable} {ys : List Nat} {i : Nat} {Q : Option Value → Shared → Prop} (hh : A.handled = none) (ho : s.heap.get? a = some o) (hd : o.data = .set es ep t) (hf : t.fits es.size = true)
    (hp : s.heap.get? p = some { cls := .type "tuple", data := .seq (ys.map fun (k : Nat) => rawInt k).toArray }) (hit : SIter s.heap it (.ref p) i a es.size ep) (hy : ys[i]? = none)
    (h : ∀ h', Heap.ExtBut it s.heap h' → Q none { s with heap := h' }) : wpAny (model prog w) A (pyNext (.ref it)) Q E s := by
  have hT : s.TypeIs (.ref it) "set_iterator" := ⟨_, hit, rfl⟩
  unfold pyNext
  refine wpAny_bind (wpAny_attempt (wpAny_callSpecial?_slot (name := Str.ofString "__next__") hT slot_si_next (wpAny_call_entry slot_si_next hT entry_si_next ?_ (args_si_next _))))
  unfold Builtin.«set_iterator.__next__»
  refine wpAny_bind (wpAny_pure ?_)
  refine wpAny_bind (wpAny_fieldsOf hit rfl ?_)
  show wpAny _ _ (setEntries a >>= _) _ _ _
  refine wpAny_bind (wpAny_setEntries_of ho hd hf ?_)
  rw [if_neg (by simp)]
  show wpAny _ _ (seqItems? (.ref p) >>= _) _ _ _
  refine wpAny_bind (wpAny_seqItems hp rfl ?_)
  have e0 : (ys.map fun (k : Nat) => rawInt k).toArray[((i : Nat) : Int).toNat]? = none := by
    rw [Int.toNat_natCast]; simpa using hy
  dsimp only
  show wpAny _ _ (match (ys.map fun (k : Nat) => rawInt k).toArray[((i : Nat) : Int).toNat]? with | some (.int place _) => _ | some _ => _ | none => _) _ _ _
  rw [e0]
  dsimp only
  refine wpAny_bind (wpAny_setField_rec hit (by simp) fun h2 e2 sb2 => ?_)
  refine stop_tail (Q := Q) (A := A.in1) (s := { s with heap := h2 }) hh e2 (by simp) fun h' e eb ⟨oe, q1, q2⟩ => ?_
  have eb' : Heap.ExtBut it h2 h' := eb
  refine wpAny_bind (wpAny_isInstance (s := { s with heap := h' }) (T := "StopIteration") (b := true) ⟨oe, q1, q2⟩ isSubtype_stop ?_)
  exact wpAny_pure (h _ fun b ob hb z => eb' b ob hb ((sb2.2 b hb).trans z))
end
end SetX

end
section
namespace SetX
open PySem PyProof.Rows
section
variable {prog : Program} {w : World} {A : Around} {E : Value → Shared → Prop} {s : Shared}
theorem setNext_text {a : Addr} {o : Obj} {es : Array (Int × Value)} {ep : Nat} {t : SetTable} {sl i : Nat} {Q : Option (Value × Nat) → Shared → Prop} (ho : s.heap.get? a = some o) (hd : o.data = .set es ep t) (hf : t.fits es.size = true)
    (hb : w.params.followText "set-order" = true) (h : Q (((pickOrder (w.params.setOrder a ep) es)[i]?).map fun e => (e.2, sl)) s) : wpAny (model prog w) A (setNext a sl i ep) Q E s := by
  unfold setNext setsByText
  refine wpAny_bind (wpAny_setState_of ho hd hf ?_); dsimp only
  refine wpAny_bind (wpAny_bind (wpAny_askSetting (wpAny_pure ?_)))
  have hb' : (model prog w).w.params.followText "set-order" = true := hb
  dsimp only
  rw [if_pos hb', if_neg (by simp)]
  unfold setWalk setsByText
  refine wpAny_bind (wpAny_bind (wpAny_setState_of ho hd hf ?_)); dsimp only
  refine wpAny_bind (wpAny_bind (wpAny_askSetting (wpAny_pure ?_)))
  dsimp only
  rw [if_pos hb']
  exact wpAny_bind (wpAny_askSetting (wpAny_pure (wpAny_pure h)))
theorem setNext_led {a : Addr} {o : Obj} {es : Array (Int × Value)} {ep : Nat} {t : SetTable} {sl i : Nat} {Q : Option (Value × Nat) → Shared → Prop} (ho : s.heap.get? a = some o) (hd : o.data = .set es ep t) (hf : t.fits es.size = true)
    (hb : ¬ w.params.followText "set-order" = true) (hl : t.led = true) (hdr : ¬ (!t.plain && decide (es.size > 1)) = true) (h : Q (match es[SetTable.below t.place sl]?, t.place[SetTable.below t.place sl]? with | some (_, x), some j => some (x, j + 1) | _, _ => none) s) :
    wpAny (model prog w) A (setNext a sl i ep) Q E s := by
  unfold setNext setsByText
  refine wpAny_bind (wpAny_setState_of ho hd hf ?_); dsimp only
  refine wpAny_bind (wpAny_bind (wpAny_askSetting (wpAny_pure ?_)))
  have hb' : ¬ (model prog w).w.params.followText "set-order" = true := hb
  dsimp only
  rw [if_neg hb']
  show wpAny _ _ (if (!t.plain && decide (es.size > 1)) = true then _ else _) _ _ _
  rw [if_neg hdr]
  refine wpAny_bind ?_
  show wpAny _ _ (if (!t.led && !es.isEmpty) = true then _ else _) _ _ _
  rw [hl]
  simp only [Bool.not_true, Bool.false_and, Bool.false_eq_true, if_false]
  exact wpAny_pure (wpAny_pure h)
/-- the slot at which a led iterator stands -/
def slotAt (t : SetTable) (i : Nat) : Nat := if i = 0 then 0 else t.place.getD (i - 1) 0 + 1
theorem below_slotAt {t : SetTable} (R : Rise t.place) {i : Nat} (hi : i ≤ t.place.size) : SetTable.below t.place (slotAt t i) = i := by
  obtain ⟨h1, h2, h3⟩ := below_spec R (slotAt t i)
  by_cases h0 : i = 0
  · subst h0
    have e : slotAt t 0 = 0 := by simp [slotAt]
    rw [e] at h2 ⊢
    by_cases z : SetTable.below t.place 0 = 0
    · exact z
    · have := h2 0 (by omega)
      omega
  · have e : slotAt t i = t.place.getD (i - 1) 0 + 1 := by simp [slotAt, h0]
    rw [e] at h1 h2 h3 ⊢
    rcases Nat.lt_trichotomy (SetTable.below t.place (t.place.getD (i - 1) 0 + 1)) i with z | z | z
    · have q := h3 (i - 1) (by omega) (by omega)
      omega
    · exact z
    · have q := h2 i z
      have q2 := R (i - 1) i (by omega) (by omega)
      omega
theorem fits_size {t : SetTable} {n : Nat} (h : t.fits n = true) : t.place.size = n := by
  unfold SetTable.fits at h
  simp only [Bool.and_eq_true, beq_iff_eq] at h
  exact h.1
abbrev Gid : Array GenState → Array GenState → Prop := fun a b => b = a
theorem moved_of {I : Addr} {h' : Heap} (hk : ∀ b o, b ≠ I → s.heap.get? b = some o → h'.get? b = some o) : Moved [I] Gid s { s with heap := h' } := ⟨fun b o hb e => hk b o (fun z => hb (by simp [z])) e, rfl, rfl, rfl, Nat.le_refl _⟩
/-- a set's iterator walks the members in some order -/
theorem set_iter {Q : Value → Shared → Prop} {a : Addr} {ns : List Int} (S : SetAt w s.heap a ns)
    (h : ∀ (it : Addr) (fp : List Addr) (P : Nat → Value → Prop) (St : Nat → Shared → Prop) (ord : List (Int × Value)) (s1 : Shared), (∀ A' : Around, A'.handled = none → WalksS prog w A' it fp [it] Gid ord.length P St) → St 0 s1 → (∀ i v, P i v → ∃ e, ord[i]? = some e ∧ v = e.2) → Ent ord → List.Perm (ord.map val) ns →
      (∀ b ∈ fp, b < s1.heap.objs.size) → it ∈ fp → (∀ b o, s.heap.get? b = some o → s1.heap.get? b = some o) → s1.gens = s.gens → s1.os = s.os → s.toks ≤ s1.toks → (∀ i s', St i s' → s'.TypeIs (.ref it) "set_iterator") → (∀ b ∈ fp, b = a ∨ s.heap.objs.size ≤ b) → s.heap.objs.size ≤ it → Q (.ref it) s1) :
    wpAny (model prog w) A (pyIter (.ref a)) Q E s := by
  obtain ⟨o, es, ep, t, ho, hex, hd, he, rfl, hn, hb, hf, ht⟩ := id S
  have hT := S.ty
  have hsz := fits_size hf
  refine wpAny_pyIter_slot hT F.slot_set_iter (wpAny_call_entry F.slot_set_iter hT entry_set_iter ?_ (F.args_set_iter_1 _))
  unfold Builtin.«frozenset.__iter__»
  refine wpAny_bind (m := Builtin.Frozenset.slot0 "__iter__" _) (wpAny_pure ?_)
  unfold Builtin.Frozenset.sizeOf
  refine wpAny_bind (wpAny_bind (wpAny_setEntries_of ho hd hf (wpAny_pure ?_)))
  unfold setDrawn setsByText
  refine wpAny_bind (wpAny_bind (wpAny_setState_of ho hd hf ?_)); dsimp only
  refine wpAny_bind (wpAny_bind (wpAny_askSetting (wpAny_pure ?_)))
  refine wpAny_pure ?_
  show wpAny _ _ (if (!((model prog w).w.params.followText "set-order") && (!t.plain && decide (es.size > 1))) = true then _ else _) _ _ _
  have la : a < s.heap.objs.size := Heap.lt_size ho
  by_cases hdr : (!(w.params.followText "set-order") && (!t.plain && decide (es.size > 1))) = true
  · rw [if_pos (show (!((model prog w).w.params.followText "set-order") && (!t.plain && decide (es.size > 1))) = true from hdr)]
    refine wpAny_bind (drawOrder_of _ _ _ _ (by simp) fun ys d p => ?_)
    have hyl : ys.length = es.size := by have := p.length_eq; simpa using this
    have hz64 : es.size ≤ sizeLine := fits_line (by simpa using hb)
    have hy : ∀ (i : Nat), i < es.size → ∃ j e, ys[i]? = some j ∧ es[j]? = some e := fun i hi => by
      have h1 : i < ys.length := by omega
      have hm : ys[i] ∈ List.range es.size := p.mem_iff.mp (List.getElem_mem h1)
      have hm' : ys[i] < es.size := by simpa using hm
      exact ⟨ys[i], es[ys[i]], by simp [h1], by simp [hm']⟩
    refine wpAny_bind (wpAny_newTuple (items := ys.map fun (i : Nat) => rawInt (i : Int)) ?_ (by rw [List.length_map, hyl]; exact hz64))
    refine wpAny_bind (wpAny_setEpoch_of (o := o) (Heap.get?_push_of_some _ ho) hd hf ?_)
    show wpAny _ _ (newFields "set_iterator" _ >>= _) _ _ _
    refine wpAny_bind (wpAny_newObj_type ?_)
    refine wpAny_pure ⟨_, rfl, ?_⟩
    generalize hh1 : s.heap.push { cls := .type "tuple", data := .seq (List.map (fun (i : Nat) => rawInt (i : Int)) ys).toArray } = h1
    have e1 : h1.objs.size = s.heap.objs.size + 1 := by rw [← hh1]; exact Heap.size_push ..
    have hp1 : h1.get? s.heap.objs.size = some { cls := .type "tuple", data := .seq (ys.map fun (k : Nat) => rawInt k).toArray } := by rw [← hh1]; exact Heap.get?_push_size _ rfl
    have k1 : ∀ b o, s.heap.get? b = some o → h1.get? b = some o := fun b ob z => by rw [← hh1]; exact Heap.get?_push_of_some _ z
    generalize hh2 : h1.push { cls := .type "set_iterator", dict := none, data := .fields [Value.ref s.heap.objs.size, rawInt 0, .ref a, rawInt es.size, rawInt ep].toArray } = h2
    have k2 : ∀ b o, h1.get? b = some o → h2.get? b = some o := fun b ob z => by rw [← hh2]; exact Heap.get?_push_of_some _ z
    have hit : SIter h2 h1.objs.size (.ref s.heap.objs.size) 0 a es.size ep := by rw [← hh2]; exact Heap.get?_push_size _ rfl
    refine ⟨"set_iterator", _, ⟨_, hit, rfl⟩, slot_si_next.lookup, ?_⟩
    have nia : a ≠ h1.objs.size := by rw [e1]; exact Nat.ne_of_lt (Nat.lt_succ_of_lt la)
    have nip : s.heap.objs.size ≠ h1.objs.size := by rw [e1]; exact Nat.ne_of_lt (Nat.lt_succ_self _)
    refine h h1.objs.size [h1.objs.size, a, s.heap.objs.size] (fun i v => ∃ e, (ys.filterMap (es[·]?))[i]? = some e ∧ v = e.2) (fun i s' => SIter s'.heap h1.objs.size (.ref s.heap.objs.size) i a es.size ep ∧ s'.heap.get? a = some o ∧ s'.heap.get? s.heap.objs.size = some { cls := .type "tuple", data := .seq (ys.map fun (k : Nat) => rawInt k).toArray })
      (ys.filterMap (es[·]?)) _ (fun A' hA' => ?_) ⟨hit, k2 _ _ (k1 _ _ ho), k2 _ _ hp1⟩ (fun i v z => z) ?_ ?_ (fun b hb' => ?_) (by simp) (fun b ob z => k2 _ _ (k1 _ _ z)) rfl rfl (Nat.le_refl _) (fun i s' st => ⟨_, st.1, rfl⟩) (fun b hb' => ?_) (by rw [e1]; exact Nat.le_succ _)
    · have hfm : ∀ (i : Nat), (ys.filterMap (es[·]?))[i]? = (ys[i]?).bind (es[·]?) := by
        have all : ∀ l : List Nat, (∀ j ∈ l, j < es.size) → ∀ (i : Nat), (l.filterMap (es[·]?))[i]? = (l[i]?).bind (es[·]?) := by
          intro l
          induction l with
          | nil => intro _ i; simp
          | cons j r ih =>
            intro hl i
            have hj : j < es.size := hl j List.mem_cons_self
            rw [List.filterMap_cons, Array.getElem?_eq_getElem hj]
            dsimp only
            cases i with
            | zero => simp [hj]
            | succ i => simpa using ih (fun j' z => hl j' (List.mem_cons_of_mem _ z)) i
        exact all ys fun j z => by simpa using p.mem_iff.mp z
      have hlen : (ys.filterMap (es[·]?)).length = es.size := by
        have q : List.Perm (ys.filterMap (es[·]?)) es.toList := (p.filterMap _).trans (by rw [filterMap_getElem?_range])
        simpa using q.length_eq
      rw [hlen]
      exact { sub := fun b z => by simp at z; simp [z], grefl := fun _ => rfl, gtrans := fun _ _ _ z1 z2 => z2.trans z1,
              frame := fun i s' h' tk st _ hk => ⟨hk _ (by simp) _ st.1, hk _ (by simp) _ st.2.1, hk _ (by simp) _ st.2.2⟩,
              item := fun i s' Q' E' hi st hQ => by
                obtain ⟨j, e, hj, hej⟩ := hy i hi
                obtain ⟨hx, x⟩ := e
                refine next_drawn st.2.1 hd hf st.2.2 st.1 hj hej fun h' st' sb => hQ x { s' with heap := h' } ⟨(hx, x), by rw [hfm, hj]; exact hej, rfl⟩ ⟨st', (sb.2 _ nia).trans st.2.1, (sb.2 _ nip).trans st.2.2⟩ (moved_of fun b ob hb' z => (sb.2 b hb').trans z),
              done := fun s' Q' E' st hQ => end_drawn hA' st.2.1 hd hf st.2.2 st.1 (by simp [hyl]) fun h' eb => hQ { s' with heap := h' } (moved_of fun b ob hb' z => eb b ob hb' z),
              self := fun i s' Q' E' st hQ => siter_self st.1 hQ }
    · intro e z
      obtain ⟨j, _, hj⟩ := List.mem_filterMap.mp z
      exact he e (by obtain ⟨hj1, hj2⟩ := Array.getElem?_eq_some_iff.mp hj; rw [← hj2]; exact Array.getElem_mem_toList hj1)
    · have q : List.Perm (ys.filterMap (es[·]?)) es.toList := (p.filterMap _).trans (by rw [filterMap_getElem?_range])
      exact q.map val
    · have z2 : h2.objs.size = h1.objs.size + 1 := by rw [← hh2]; exact Heap.size_push ..
      show b < h2.objs.size
      rw [z2, e1]
      simp only [List.mem_cons, List.mem_singleton, List.not_mem_nil, or_false] at hb'
      rcases hb' with z | z | z
      · rw [z, e1]; exact Nat.lt_succ_self _
      · rw [z]; exact Nat.lt_succ_of_lt (Nat.lt_succ_of_lt la)
      · rw [z]; exact Nat.lt_succ_of_lt (Nat.lt_succ_self _)
    · simp only [List.mem_cons, List.mem_singleton, List.not_mem_nil, or_false] at hb'
      rcases hb' with z | z | z
      · right; rw [z, e1]; exact Nat.le_succ _
      · exact .inl z
      · right; rw [z]; exact Nat.le_refl _
  · rw [if_neg (show ¬ (!((model prog w).w.params.followText "set-order") && (!t.plain && decide (es.size > 1))) = true from hdr)]
    refine wpAny_bind (wpAny_pure ?_)
    refine wpAny_bind (wpAny_setEpoch_of ho hd hf ?_)
    show wpAny _ _ (newFields "set_iterator" _ >>= _) _ _ _
    refine wpAny_bind (wpAny_newObj_type ?_)
    refine wpAny_pure ⟨_, rfl, ?_⟩
    generalize hh2 : s.heap.push { cls := .type "set_iterator", dict := none, data := .fields [rawInt 0, rawInt 0, .ref a, rawInt es.size, rawInt ep].toArray } = h2
    have k2 : ∀ b o, s.heap.get? b = some o → h2.get? b = some o := fun b ob z => by rw [← hh2]; exact Heap.get?_push_of_some _ z
    have hit : SIter h2 s.heap.objs.size (rawInt 0) 0 a es.size ep := by rw [← hh2]; exact Heap.get?_push_size _ rfl
    have nia : a ≠ s.heap.objs.size := Nat.ne_of_lt la
    refine ⟨"set_iterator", _, ⟨_, hit, rfl⟩, slot_si_next.lookup, ?_⟩
    have lts : ∀ b ∈ [s.heap.objs.size, a], b < h2.objs.size := fun b hb' => by
      have z2 : h2.objs.size = s.heap.objs.size + 1 := by rw [← hh2]; exact Heap.size_push ..
      rw [z2]
      simp only [List.mem_cons, List.mem_singleton, List.not_mem_nil, or_false] at hb'
      rcases hb' with z | z
      · rw [z]; exact Nat.lt_succ_self _
      · rw [z]; exact Nat.lt_succ_of_lt la
    -- one walk for both orders
    have go : ∀ (ord : List (Int × Value)) (sl : Nat → Nat), ord.length = es.size → sl 0 = 0 → List.Perm ord es.toList →
        (∀ (i : Nat) (e : Int × Value), ord[i]? = some e → ∀ (s : Shared) (A : Around) (Q : Option (Value × Nat) → Shared → Prop) (E : Value → Shared → Prop), s.heap.get? a = some o → Q (some (e.2, sl (i + 1))) s → wpAny (model prog w) A (setNext a ((sl i : Nat) : Int).toNat i ep) Q E s) →
        (∀ (s : Shared) (A : Around) (Q : Option (Value × Nat) → Shared → Prop) (E : Value → Shared → Prop), s.heap.get? a = some o → Q none s → wpAny (model prog w) A (setNext a ((sl es.size : Nat) : Int).toNat es.size ep) Q E s) →
        Q (.ref s.heap.objs.size) { s with heap := h2 } := by
      intro ord sl hol hsl0 hop hnx hend
      refine h s.heap.objs.size [s.heap.objs.size, a] (fun i v => ∃ e, ord[i]? = some e ∧ v = e.2) (fun i s' => SIter s'.heap s.heap.objs.size (rawInt (sl i)) i a es.size ep ∧ s'.heap.get? a = some o) ord _ (fun A' hA' => ?_) ⟨by rw [hsl0]; exact hit, k2 _ _ ho⟩ (fun i v z => z)
        (he.perm hop) (hop.map val) lts (by simp) (fun b ob z => k2 _ _ z) rfl rfl (Nat.le_refl _) (fun i s' st => ⟨_, st.1, rfl⟩) (fun b hb' => (by
          simp only [List.mem_cons, List.mem_singleton, List.not_mem_nil, or_false] at hb'
          rcases hb' with z | z
          · right; rw [z]; exact Nat.le_refl _
          · exact .inl z)) (Nat.le_refl _)
      rw [hol]
      exact { sub := fun b z => by simp at z; simp [z], grefl := fun _ => rfl, gtrans := fun _ _ _ z1 z2 => z2.trans z1,
              frame := fun i s' h' tk st _ hk => ⟨hk _ (by simp) _ st.1, hk _ (by simp) _ st.2⟩,
              item := fun i s' Q' E' hi st hQ => by
                have hi' : i < ord.length := by omega
                have hoi : ord[i]? = some ord[i] := by simp [hi']
                refine next_slot (x := ord[i].2) (nx := sl (i + 1)) st.2 hd hf st.1 (hnx i _ hoi) fun h' st' sb => hQ _ { s' with heap := h' } ⟨_, hoi, rfl⟩ ⟨st', (sb.2 _ nia).trans st.2⟩ (moved_of fun b ob hb' z => (sb.2 b hb').trans z),
              done := fun s' Q' E' st hQ => end_slot hA' st.2 hd hf st.1 hend fun h' eb => hQ { s' with heap := h' } (moved_of fun b ob hb' z => eb b ob hb' z),
              self := fun i s' Q' E' st hQ => siter_self st.1 hQ }
    by_cases hbt : w.params.followText "set-order" = true
    · have hpp := pickOrder_perm (w.params.setOrder a ep) es
      have hpl : (pickOrder (w.params.setOrder a ep) es).size = es.size := by have := hpp.length_eq; simpa using this
      refine go (pickOrder (w.params.setOrder a ep) es).toList (fun _ => 0) (by simpa using hpl) rfl hpp (fun i e hie s' A' Q' E' ho' q => ?_) fun s' A' Q' E' ho' q => ?_
      · refine setNext_text ho' hd hf hbt ?_
        have : (pickOrder (w.params.setOrder a ep) es)[i]? = some e := by simpa using hie
        rw [this]; exact q
      · refine setNext_text ho' hd hf hbt ?_
        have : (pickOrder (w.params.setOrder a ep) es)[es.size]? = none := by simp [hpl]
        rw [this]; exact q
    · have hl : t.led = true := by rw [ht.led]; unfold ledOf; simp [hbt]
      have hdr' : ¬ (!t.plain && decide (es.size > 1)) = true := fun z => hdr (by rw [z]; simp [hbt])
      refine go es.toList (slotAt t) (by simp) rfl .rfl (fun i e hie s' A' Q' E' ho' q => ?_) fun s' A' Q' E' ho' q => ?_
      · refine setNext_led ho' hd hf hbt hl hdr' ?_
        have hi : i < es.size := by have := (List.getElem?_eq_some_iff.mp hie).1; simpa using this
        rw [Int.toNat_natCast, below_slotAt ht.rise (by omega)]
        have e1 : es[i]? = some e := by simpa using hie
        have e2 : t.place[i]? = some (t.place.getD i 0) := by rw [getD_nat t.place i 0 (by omega)]; simp [show i < t.place.size by omega]
        rw [e1, e2]
        obtain ⟨hx, x⟩ := e
        have e3 : slotAt t (i + 1) = t.place.getD i 0 + 1 := by simp [slotAt]
        rw [e3] at q
        exact q
      · refine setNext_led ho' hd hf hbt hl hdr' ?_
        rw [Int.toNat_natCast, below_slotAt ht.rise (by omega)]
        have e1 : es[es.size]? = none := by simp
        rw [e1]
        exact q
end
end SetX

end
section
/-! THE HAND LAYER, for ints, bools, texts, own classes, LISTS and tuples (index, slices, in, append, pop ..), calls, loops. Paste it whole ahead of your own text; what your proof does not reach may be deleted. -/
namespace L2
open PySem PySem.Spec PyProof.Rows

/-- a key: an int or a str -/
abbrev Key := Sum Int Str
def keyIs : Key → Value → Bool
  | .inl k, v => Value.isInt k v
  | .inr x, v => Value.isStrOf x v
def keyH (w : World) : Key → Int
  | .inl k => hashInt k
  | .inr x => hashStr w x
theorem keyIs_shape : ∀ {k : Key} {v : Value}, keyIs k v = true → (∃ i t, k = Sum.inl i ∧ v = Value.int i t) ∨ (∃ x t, k = Sum.inr x ∧ v = Value.str x t)
  | .inl i, v, h => by
    obtain ⟨t, e⟩ := Value.isInt_shape (k := i) (v := v) h
    exact .inl ⟨i, t, rfl, e⟩
  | .inr x, v, h => by
    obtain ⟨t, e⟩ := Value.isStrOf_shape (x := x) (v := v) h
    exact .inr ⟨x, t, rfl, e⟩
theorem keyIs_int (i : Int) (t : Tok) : keyIs (.inl i) (.int i t) = true := by simp [keyIs, Value.isInt]
theorem keyIs_str (x : Str) (t : Tok) : keyIs (.inr x) (.str x t) = true := by simp [keyIs, Value.isStrOf]
theorem key_ll (a b : Int) : decide ((Sum.inl a : Key) = Sum.inl b) = (a == b) := by
  by_cases e : a = b
  · subst e; simp
  · have h : ¬ (Sum.inl a : Key) = Sum.inl b := fun q => e (Sum.inl.inj q)
    rw [decide_eq_false h]
    exact (beq_eq_false_iff_ne.mpr e).symm
theorem key_rr (a b : Str) : decide ((Sum.inr a : Key) = Sum.inr b) = decide (a = b) := by
  by_cases e : a = b
  · subst e; simp
  · have h : ¬ (Sum.inr a : Key) = Sum.inr b := fun q => e (Sum.inr.inj q)
    rw [decide_eq_false h, decide_eq_false e]
theorem key_lr (a : Int) (b : Str) : decide ((Sum.inl a : Key) = Sum.inr b) = false := decide_eq_false (fun q => nomatch q)
theorem key_rl (a : Str) (b : Int) : decide ((Sum.inr a : Key) = Sum.inl b) = false := decide_eq_false (fun q => nomatch q)

def mixKind (prog : Program) (w : World) : PySem.KeyKind prog w Key where
  is := keyIs
  hash := keyH w
  inj := fun v a b ha hb => by
    rcases keyIs_shape ha with ⟨i, t, rfl, rfl⟩ | ⟨x, t, rfl, rfl⟩
    · rcases keyIs_shape hb with ⟨j, u, rfl, e⟩ | ⟨y, u, rfl, e⟩
      · injection e with e1 _; rw [e1]
      · exact nomatch e
    · rcases keyIs_shape hb with ⟨j, u, rfl, e⟩ | ⟨y, u, rfl, e⟩
      · exact nomatch e
      · injection e with e1 _; rw [e1]
  byValue := fun k v h => by
    rcases keyIs_shape h with ⟨i, t, rfl, rfl⟩ | ⟨x, t, rfl, rfl⟩ <;> rfl
  pyHash := fun hv h => by
    rcases keyIs_shape hv with ⟨i, t, rfl, rfl⟩ | ⟨x, t, rfl, rfl⟩
    · exact wpAny_pyHash_int h
    · exact wpAny_pyHash_str h
  eqBool := fun hu hv h => by
    rcases keyIs_shape hu with ⟨i, t, rfl, rfl⟩ | ⟨x, t, rfl, rfl⟩
    · rcases keyIs_shape hv with ⟨j, u, rfl, rfl⟩ | ⟨y, u, rfl, rfl⟩
      · rw [key_ll] at h; exact wpAny_eqBool_int h
      · rw [key_lr] at h; exact SeqAt.EqAt.int_str i t y u _ _ _ _ h
    · rcases keyIs_shape hv with ⟨j, u, rfl, rfl⟩ | ⟨y, u, rfl, rfl⟩
      · rw [key_rl] at h; exact SeqAt.EqAt.str_int x t j u _ _ _ _ h
      · rw [key_rr] at h; exact wpAny_eqBool_str h
  «strs» := fun k x t v h => by
    rcases keyIs_shape h with ⟨i, u, rfl, e⟩ | ⟨y, u, rfl, e⟩
    · exact nomatch e
    · injection e with e1 _
      subst e1
      cases v <;> rfl

theorem mixKind_is (prog : Program) (w : World) (k : Key) (v : Value) : (mixKind prog w).is k v = keyIs k v := rfl
theorem mixKind_int (prog : Program) (w : World) (i : Int) (t : Tok) : (mixKind prog w).is (.inl i) (.int i t) = true := keyIs_int i t
theorem mixKind_str (prog : Program) (w : World) (x : Str) (t : Tok) : (mixKind prog w).is (.inr x) (.str x t) = true := keyIs_str x t
end L2

namespace L2
open PySem PySem.Spec PyProof.Rows

/-- a value, without the heap -/
inductive V where
  | non | bl (b : Bool) | int (i : Int) | str (x : Str) | byt (b : Array UInt8) | flt (b : UInt64) | ref (a : Addr) | ty (n : String)
  deriving DecidableEq

def RelV : V → Value → Prop
  | .non, u => u = Value.none
  | .bl b, u => u = Value.bool b
  | .int i, u => ∃ t, u = Value.int i t
  | .str x, u => ∃ t, u = Value.str x t
  | .byt b, u => ∃ t, u = Value.bytes b t
  | .flt b, u => ∃ t, u = Value.float b t
  | .ref a, u => u = Value.ref a
  | .ty n, u => u = Value.type n

abbrev Vals : List V → List Value → Prop := Paired RelV
theorem Vals.length {xs : List V} {us : List Value} (r : Vals xs us) : xs.length = us.length := Paired.length r
theorem Vals.get : ∀ {xs : List V} {us : List Value} {i : Nat} {x : V}, Vals xs us → xs[i]? = some x → ∃ u, us[i]? = some u ∧ RelV x u
  | _, _, _, _, .nil, e => by simp at e
  | _, _, 0, _, .cons r _, e => by simp at e; subst e; exact ⟨_, rfl, r⟩
  | _, _, i + 1, x, .cons _ t, e => by
    obtain ⟨u, h1, h2⟩ := Vals.get (i := i) (x := x) t (by simpa using e)
    exact ⟨u, by simpa using h1, h2⟩
theorem Vals.set {x : V} {u : Value} (r : RelV x u) : ∀ {xs : List V} {us : List Value} (i : Nat), Vals xs us → Vals (xs.set i x) (us.set i u)
  | _, _, _, .nil => .nil
  | _, _, 0, .cons _ t => .cons r t
  | _, _, i + 1, .cons q t => .cons q (Vals.set r i t)
theorem Vals.append : ∀ {xs ys : List V} {us ws : List Value}, Vals xs us → Vals ys ws → Vals (xs ++ ys) (us ++ ws)
  | _, _, _, _, .nil, s => s
  | _, _, _, _, .cons r t, s => .cons r (Vals.append t s)
theorem Vals.take : ∀ {xs : List V} {us : List Value} (n : Nat), Vals xs us → Vals (xs.take n) (us.take n)
  | _, _, 0, _ => .nil
  | _, _, _ + 1, .nil => .nil
  | _, _, n + 1, .cons r t => .cons r (Vals.take n t)
theorem Vals.drop : ∀ {xs : List V} {us : List Value} (n : Nat), Vals xs us → Vals (xs.drop n) (us.drop n)
  | _, _, 0, r => r
  | _, _, _ + 1, .nil => .nil
  | _, _, n + 1, .cons _ t => Vals.drop n t
theorem Vals.none_of : ∀ {xs : List V} {us : List Value} {i : Nat}, Vals xs us → xs[i]? = none → us[i]? = none := fun {xs us i} r e => by
  have h1 := r.length
  have h2 : xs.length ≤ i := List.getElem?_eq_none_iff.mp e
  exact List.getElem?_eq_none_iff.mpr (by omega)

def RelO : Option V → Option Value → Prop
  | some v, some u => RelV v u
  | none, none => True
  | _, _ => False
def KV {κ : Type} : List (κ × V) → List (κ × Value) → Prop := Paired fun (p : κ × V) (q : κ × Value) => p.1 = q.1 ∧ RelV p.2 q.2

/-- a key of a dict (00_mix): an int or a text -/
def kV : Key → V
  | .inl i => .int i
  | .inr x => .str x

/-- what stands at a tracked address -/
inductive HO where
  /-- a list -/
  | lst (xs : List V)
  /-- a tuple (never changes) -/
  | tup (xs : List V)
  /-- a dict whose keys are ints and texts; one whose keys are tuples of ints and texts (the empty one is both) -/
  | dK (kvs : List (Key × V)) | dT (kvs : List (List Key × V))
  /-- a set of ints: its members, its size -/
  | set (S : Int → Bool) (n : Nat)
  /-- an instance of the class at C, its dict at dx, its attributes -/
  | ins (C dx : Addr) (fs : List (Str × V))
  /-- the dict of the instance at x -/
  | own (x : Addr)
  /-- the dict of an exception -/
  | xd (fs : List (Str × V))
  /-- a bound method, f of x -/
  | met (f x : Addr)
  /-- a range object lo, lo + 1, .. below hi -/
  | rng (lo hi : Int)
  /-- a thing that is known to the object (the script; a dict while a loop walks it): read, never written while it is so -/
  | frz (o : Obj) (u : HO)
  /-- a code object's table -/
  | tbl (ps : Array Value)
  /-- any other thing, by what is true of its one object (a def of one's own: SetO a S n := HO.ext fun h => ..) -/
  | ext (φ : Heap → Prop)

abbrev Hp := Addr → Option HO
def upd (H : Hp) (a : Addr) (o : HO) : Hp := fun b => if b = a then some o else H b
theorem upd_same {H : Hp} {a : Addr} {o : HO} : upd H a o a = some o := by unfold upd; rw [if_pos rfl]
theorem upd_ne {H : Hp} {a b : Addr} {o : HO} (h : b ≠ a) : upd H a o b = H b := by unfold upd; rw [if_neg h]
theorem upd_upd {H : Hp} {a : Addr} {o u : HO} : upd (upd H a o) a u = upd H a u := by
  funext b; unfold upd; split <;> rfl
/-- two objects of different content stand apart -/
theorem ne_of {H : Hp} {a b : Addr} {o u : HO} (h : H a = some o) (h' : H b = some u) (d : o ≠ u) : a ≠ b := by
  intro e; subst e; rw [h] at h'; exact d (Option.some.inj h')
theorem ne_of_none {H : Hp} {a b : Addr} {o : HO} (h : H a = some o) (h' : H b = none) : a ≠ b := by
  intro e; subst e; rw [h] at h'; cases h'

section
variable (P : Program) (w : World)
def ObjOk (H : Hp) (h : Heap) (a : Addr) : HO → Prop
  | .lst xs => xs.length ≤ sizeLine ∧ ∃ (its : List Value) (n : Nat), Vals xs its ∧ h.get? a = some { cls := .type "list", data := .seq its.toArray n }
  | .tup xs => xs.length ≤ sizeLine ∧ ∃ its : List Value, Vals xs its ∧ IsTup h a its.toArray
  | .dK kvs => kvs.length ≤ sizeLine ∧ (a == sysModules) = false ∧ ∃ vs, KV kvs vs ∧ h.DictOf (mixKind P w) a vs
  | .dT kvs => kvs.length ≤ sizeLine ∧ (a == sysModules) = false ∧ ∃ xs : List (List Key × Addr × Value),
      Paired (fun (p : List Key × V) (q : List Key × Addr × Value) => p.1 = q.1 ∧ H q.2.1 = some (.tup (p.1.map kV)) ∧ RelV p.2 q.2.2) kvs xs ∧
      ∃ o es ep, h.get? a = some o ∧ o.ExactDict ∧ o.data = .dict es ep ∧ es.toList = xs.map (entryOfKey (tupleKind (mixKind P w))) ∧ (xs.map (·.1)).Nodup
  | .set S n => h.SetOf (intKind P w) a S n
  | .ins C dx fs => H dx = some (.own a) ∧ fs.length ≤ 1000 ∧ dx ≠ a ∧ h.get? a = some (PySem.W.instObj C dx) ∧
      ∃ mA, h.Ns1 dx mA ∧ (∀ f, RelO (fs.lookup f) (mA f)) ∧ PySem.Within mA (fs.map (·.1))
  | .own _ => ∃ o, h.get? a = some o
  | .xd fs => ∃ mA, h.Ns1 a mA ∧ ∀ f, RelO (fs.lookup f) (mA f)
  | .rng lo hi => ∃ t u v, h.get? a = some { cls := .type "range", data := .fields #[.int lo t, .int hi u, .int 1 v] }
  | .frz o u => h.get? a = some o ∧ ObjOk H h a u
  | .tbl ps => h.get? a = some { cls := .none, data := .fields ps }
  | .met f x => h.get? a = some (PySem.W.methodObj (.ref f) (.ref x))
  | .ext φ => φ h ∧ (∃ o, h.get? a = some o) ∧ ∀ h1 h2 : Heap, φ h1 → (∀ o, h1.get? a = some o → h2.get? a = some o) → φ h2
/-- the abstract heap is held -/
def HOk (H : Hp) (h : Heap) : Prop := ∀ a o, H a = some o → ObjOk P w H h a o
end

section
variable {P : Program} {w : World} {H H' : Hp} {h h' : Heap} {a : Addr} {o : HO}
theorem ObjOk.lt (x : ObjOk P w H h a o) : a < h.objs.size := by
  cases o with
  | lst xs => obtain ⟨_, _, _, _, e⟩ := x; exact Heap.lt_size e
  | tup xs => obtain ⟨_, _, _, p⟩ := x; exact p.lt
  | dK kvs => obtain ⟨_, _, _, _, o, _, _, e, _⟩ := x; exact Heap.lt_size e
  | dT kvs => obtain ⟨_, _, _, _, o, _, _, e, _⟩ := x; exact Heap.lt_size e
  | set S n => obtain ⟨o, _, _, _, e, _⟩ := x; exact Heap.lt_size e
  | ins C dx fs => obtain ⟨_, _, _, e, _⟩ := x; exact Heap.lt_size e
  | own y => obtain ⟨_, e⟩ := x; exact Heap.lt_size e
  | xd fs => obtain ⟨_, ⟨_, _, _, e, _⟩, _⟩ := x; exact Heap.lt_size e
  | rng lo hi => obtain ⟨_, _, _, e⟩ := x; exact Heap.lt_size e
  | frz ob u => obtain ⟨e, _⟩ := x; exact Heap.lt_size e
  | tbl ps => exact Heap.lt_size (show h.get? a = some _ from x)
  | met f y => exact Heap.lt_size (show h.get? a = some _ from x)
  | ext φ => obtain ⟨_, ⟨_, e⟩, _⟩ := x; exact Heap.lt_size e
theorem Paired.mapP {α β : Type} {F G : α → β → Prop} : ∀ {l₁ : List α} {l₂ : List β}, Paired F l₁ l₂ → (∀ a b, F a b → G a b) → Paired G l₁ l₂
  | _, _, .nil, _ => .nil
  | _, _, .cons r t, f => .cons (f _ _ r) (Paired.mapP t f)
theorem Paired.imp' {α β : Type} {F G : α → β → Prop} (f : ∀ a b, F a b → G a b) {l₁ : List α} {l₂ : List β} (r : Paired F l₁ l₂) : Paired G l₁ l₂ := Paired.mapP r f
/-- what an object's description leans on: its own object, its own dict, the tuples -/
theorem ObjOk.stay (x : ObjOk P w H h a o) (k : ∀ b u, (b = a ∨ H b = some (.own a)) → h.get? b = some u → h'.get? b = some u)
    (ho : ∀ b, H b = some (.own a) → H' b = some (.own a)) (ht : ∀ b xs, H b = some (.tup xs) → H' b = some (.tup xs)) : ObjOk P w H' h' a o := by
  induction o with
  | lst xs => obtain ⟨z, its, n, r, e⟩ := x; exact ⟨z, its, n, r, k _ _ (.inl rfl) e⟩
  | tup xs => obtain ⟨z, its, r, ob, e, c⟩ := x; exact ⟨z, its, r, ob, k _ _ (.inl rfl) e, c⟩
  | dK kvs => obtain ⟨z, y, vs, r, ob, es, ep, e, c⟩ := x; exact ⟨z, y, vs, r, ob, es, ep, k _ _ (.inl rfl) e, c⟩
  | dT kvs =>
    obtain ⟨z, y, xs, r, ob, es, ep, e, c⟩ := x
    exact ⟨z, y, xs, Paired.mapP r fun p q z => ⟨z.1, ht _ _ z.2.1, z.2.2⟩, ob, es, ep, k _ _ (.inl rfl) e, c⟩
  | set S n => obtain ⟨ob, es, ep, t, e, c⟩ := x; exact ⟨ob, es, ep, t, k _ _ (.inl rfl) e, c⟩
  | ins C dx fs =>
    obtain ⟨d, z, ne, e, mA, ⟨od, es, ep, e2, c⟩, r⟩ := x
    exact ⟨ho _ d, z, ne, k _ _ (.inl rfl) e, mA, ⟨od, es, ep, k _ _ (.inr d) e2, c⟩, r⟩
  | own y => obtain ⟨ob, e⟩ := x; exact ⟨ob, k _ _ (.inl rfl) e⟩
  | xd fs => obtain ⟨mA, ⟨od, es, ep, e, c⟩, r⟩ := x; exact ⟨mA, ⟨od, es, ep, k _ _ (.inl rfl) e, c⟩, r⟩
  | rng lo hi => obtain ⟨t, u, v, e⟩ := x; exact ⟨t, u, v, k _ _ (.inl rfl) e⟩
  | frz ob u ih => obtain ⟨e, q⟩ := x; exact ⟨k _ _ (.inl rfl) e, ih q⟩
  | tbl ps =>
    have e : h.get? a = some { cls := .none, data := .fields ps } := x
    show h'.get? a = some { cls := .none, data := .fields ps }
    exact k a _ (.inl rfl) e
  | met f y =>
    have e : h.get? a = some (PySem.W.methodObj (.ref f) (.ref y)) := x
    show h'.get? a = some (PySem.W.methodObj (.ref f) (.ref y))
    exact k a _ (.inl rfl) e
  | ext φ => obtain ⟨p, ⟨o, e⟩, st⟩ := x; exact ⟨st _ _ p fun o q => k _ _ (.inl rfl) q, ⟨o, k _ _ (.inl rfl) e⟩, st⟩
theorem HOk.lt (x : HOk P w H h) (e : H a = some o) : a < h.objs.size := (x a o e).lt
theorem HOk.fresh (x : HOk P w H h) (e : h.objs.size ≤ a) : H a = none := by
  cases q : H a with
  | none => rfl
  | some u => exact absurd (Nat.lt_of_lt_of_le (x.lt q) e) (Nat.lt_irrefl _)
/-- every object of the heap is kept -/
theorem HOk.kept (x : HOk P w H h) (k : ∀ b u, h.get? b = some u → h'.get? b = some u) : HOk P w H h' := fun a o e =>
  (x a o e).stay (fun b u _ q => k b u q) (fun _ q => q) fun _ _ q => q
/-- a new object is laid and tracked -/
theorem HOk.laid (x : HOk P w H h) (k : ∀ b u, h.get? b = some u → h'.get? b = some u) (hp : h.objs.size ≤ a) (new : ObjOk P w (upd H a o) h' a o) : HOk P w (upd H a o) h' := fun b u e => by
  have hn := x.fresh hp
  by_cases hb : b = a
  · subst hb; rw [upd_same] at e; cases e; exact new
  · rw [upd_ne hb] at e
    exact (x b u e).stay (fun c v _ q => k c v q) (fun c q => by rw [upd_ne (ne_of_none q hn)]; exact q) fun c xs q => by rw [upd_ne (ne_of_none q hn)]; exact q
end

/-- what may be read as u: it is u, or a known u -/
def Rd (H : Hp) (a : Addr) (u : HO) : Prop := H a = some u ∨ ∃ o, H a = some (.frz o u)
theorem Rd.of {H : Hp} {a : Addr} {u : HO} (h : H a = some u) : Rd H a u := .inl h
theorem Rd.ok {P : Program} {w : World} {H : Hp} {h : Heap} {a : Addr} {u : HO} (r : Rd H a u) (x : HOk P w H h) : ObjOk P w H h a u := by
  rcases r with r | ⟨o, r⟩
  · exact x a u r
  · obtain ⟨_, q⟩ := x a _ r
    exact q
/-- what may be written -/
def Mut : Option HO → Prop
  | some (.lst _) => True
  | some (.dK _) => True
  | some (.dT _) => True
  | some (.set _ _) => True
  | some (.ins _ _ _) => True
  | some (.ext _) => True
  | _ => False
section
variable {P : Program} {w : World} {H : Hp} {h h' : Heap} {x e : Addr} {o' : HO}
/-- the object at e is changed: x itself, or the dict of the instance x -/
theorem HOk.write (ok : HOk P w H h) (mu : Mut (H x)) (he : e = x ∨ H e = some (.own x)) (k : ∀ b u, b ≠ e → h.get? b = some u → h'.get? b = some u) (heo : ∃ u, h'.get? e = some u)
    (new : ObjOk P w (upd H x o') h' x o') : HOk P w (upd H x o') h' := fun b u q => by
  have nown : ∀ c y, H c = some (.own y) → c ≠ x := fun c y r z => by subst z; rw [r] at mu; exact mu
  have ntup : ∀ c xs, H c = some (.tup xs) → c ≠ x := fun c xs r z => by subst z; rw [r] at mu; exact mu
  by_cases hb : b = x
  · subst hb; rw [upd_same] at q; cases q; exact new
  · rw [upd_ne hb] at q
    by_cases hbe : b = e
    · have q' : H b = some (.own x) := by
        rcases he with z | z
        · exact absurd (hbe.trans z) hb
        · rw [hbe]; exact z
      rw [q] at q'; cases q'
      obtain ⟨v, hv⟩ := heo
      exact ⟨v, by rw [hbe]; exact hv⟩
    · refine (ok b u q).stay (fun c v hc r => k c v ?_ r) (fun c r => by rw [upd_ne (nown c b r)]; exact r) fun c xs r => by rw [upd_ne (ntup c xs r)]; exact r
      rcases hc with rfl | hc
      · exact hbe
      · rintro rfl
        rcases he with z | z
        · exact nown c b hc z
        · rw [hc] at z; cases z; exact hb rfl
end

/-! ### kept unless tracked; of the frames at fs (the callers') the slots may change (an exception that passes writes there); of the records at ex (iterators) nothing is said -/
structure Un (fs ex : List Addr) (H H' : Hp) (h h' : Heap) : Prop where
  keep : ∀ b o, h.get? b = some o → H b = none → b ∉ fs → b ∉ ex → h'.get? b = some o
  slot : ∀ b o, h.get? b = some o → H b = none → b ∈ fs → b ∉ ex → ∃ sl, h'.get? b = some { o with slots := sl }
  free : ∀ b o, h.get? b = some o → H b = none → b ∉ ex → H' b = none
  there : ∀ b o, h.get? b = some o → b ∉ ex → ∃ o', h'.get? b = some o'
  tups : ∀ b xs, H b = some (.tup xs) → H' b = some (.tup xs)
  frzs : ∀ b o u, H b = some (.frz o u) → H' b = some (.frz o u)
  tbls : ∀ b ps, H b = some (.tbl ps) → ∃ more, H' b = some (.tbl (ps ++ more))
section
variable {fs fs' ex ex' : List Addr} {H H1 H2 : Hp} {h h1 h2 h' : Heap} {a x e : Addr} {o : HO}
theorem Un.any (u : Un fs ex H H1 h h1) {b : Addr} {ob : Obj} (q : h.get? b = some ob) (n : H b = none) (hx : b ∉ ex) : ∃ sl, h1.get? b = some { ob with slots := sl } := by
  by_cases hb : b ∈ fs
  · exact u.slot b ob q n hb hx
  · exact ⟨ob.slots, u.keep b ob q n hb hx⟩
theorem Un.trans (a : Un fs ex H H1 h h1) (b : Un fs ex H1 H2 h1 h2) : Un fs ex H H2 h h2 where
  keep := fun c ob q n hc hx => b.keep c ob (a.keep c ob q n hc hx) (a.free c ob q n hx) hc hx
  slot := fun c ob q n hc hx => by
    obtain ⟨sl, e1⟩ := a.slot c ob q n hc hx
    obtain ⟨sl', e2⟩ := b.slot c _ e1 (a.free c ob q n hx) hc hx
    exact ⟨sl', e2⟩
  free := fun c ob q n hx => by
    obtain ⟨o', e1⟩ := a.there c ob q hx
    exact b.free c o' e1 (a.free c ob q n hx) hx
  there := fun c ob q hx => by
    obtain ⟨o', e1⟩ := a.there c ob q hx
    exact b.there c o' e1 hx
  tups := fun c xs q => b.tups c xs (a.tups c xs q)
  frzs := fun c ob xs q => b.frzs c ob xs (a.frzs c ob xs q)
  tbls := fun c ps q => by
    obtain ⟨m1, e1⟩ := a.tbls c ps q
    obtain ⟨m2, e2⟩ := b.tbls c _ e1
    exact ⟨m1 ++ m2, by rw [e2, Array.append_assoc]⟩
theorem Un.kept (k : ∀ b u, h.get? b = some u → h'.get? b = some u) : Un fs ex H H h h' :=
  ⟨fun b ob q _ _ _ => k b ob q, fun b ob q _ _ _ => ⟨ob.slots, k b ob q⟩, fun _ _ _ n _ => n, fun b ob q _ => ⟨ob, k b ob q⟩, fun _ _ q => q, fun _ _ _ q => q, fun _ ps q => ⟨#[], by rw [q]; simp⟩⟩
theorem Un.refl : Un fs ex H H h h := Un.kept fun _ _ q => q
theorem Un.laid (k : ∀ b u, h.get? b = some u → h'.get? b = some u) (hp : h.objs.size ≤ a) (hn : H a = none) : Un fs ex H (upd H a o) h h' where
  keep := fun b u q _ _ _ => k b u q
  slot := fun b u q _ _ _ => ⟨u.slots, k b u q⟩
  free := fun b u q n _ => by rw [upd_ne (Nat.ne_of_lt (Nat.lt_of_lt_of_le (Heap.lt_size q) hp))]; exact n
  there := fun b u q _ => ⟨u, k b u q⟩
  tups := fun b xs q => by rw [upd_ne (ne_of_none q hn)]; exact q
  frzs := fun b u xs q => by rw [upd_ne (ne_of_none q hn)]; exact q
  tbls := fun b ps q => ⟨#[], by rw [upd_ne (ne_of_none q hn), q]; simp⟩
theorem Un.write (mu : Mut (H x)) (he : e = x ∨ H e = some (.own x)) (k : ∀ b u, b ≠ e → h.get? b = some u → h'.get? b = some u) (heo : ∃ u, h'.get? e = some u) : Un fs ex H (upd H x o) h h' := by
  have hx : ∀ b, H b = none → b ≠ x := fun b n z => by subst z; rw [n] at mu; exact mu
  have hb : ∀ b, H b = none → b ≠ e := fun b n z => by
    subst z
    rcases he with r | r
    · exact hx b n r
    · rw [n] at r; cases r
  have hm : ∀ b u, H b = some u → ¬ Mut (some u) → b ≠ x := fun b u q nm z => by subst z; rw [q] at mu; exact nm mu
  refine ⟨fun b u q n _ _ => k b u (hb b n) q, fun b u q n _ _ => ⟨u.slots, k b u (hb b n) q⟩, fun b u q n _ => by rw [upd_ne (hx b n)]; exact n, fun b u q _ => ?_,
    fun b xs q => by rw [upd_ne (hm b _ q fun z => z)]; exact q, fun b u xs q => by rw [upd_ne (hm b _ q fun z => z)]; exact q, fun b ps q => ⟨#[], by rw [upd_ne (hm b _ q fun z => z), q]; simp⟩⟩
  by_cases hbe : b = e
  · subst hbe; exact heo
  · exact ⟨u, k b u hbe q⟩
theorem Un.mono (u : Un fs ex H H1 h h1) (hs : ∀ b ∈ fs, b ∈ fs') (hx : ∀ b ∈ ex, b ∈ ex') : Un fs' ex' H H1 h h1 :=
  ⟨fun b ob q n hb he => u.keep b ob q n (fun z => hb (hs b z)) fun z => he (hx b z), fun _ _ q n _ he => u.any q n fun z => he (hx _ z), fun b ob q n he => u.free b ob q n fun z => he (hx b z), fun b ob q he => u.there b ob q fun z => he (hx b z), u.tups, u.frzs, u.tbls⟩
end

/-! ### the heap without what is tracked -/
def trk (h : Heap) (H : Hp) : List Addr := (List.range h.objs.size).filter fun a => (H a).isSome
def hidT (h : Heap) (H : Hp) : Heap := PySem.W.hideAll h (trk h H)
theorem hidT_size (h : Heap) (H : Hp) : (hidT h H).objs.size = h.objs.size := PySem.W.hideAll_size _ _
theorem hidT_get {h : Heap} {H : Hp} {b : Addr} {o : Obj} (e : h.get? b = some o) (n : H b = none) : (hidT h H).get? b = some o :=
  PySem.W.hideAll_get _ e fun hm => by
    have q : (H b).isSome = true := (List.mem_filter.mp hm).2
    rw [n] at q; simp at q
theorem of_hidT {h : Heap} {H : Hp} {b : Addr} {o : Obj} (e : (hidT h H).get? b = some o) : h.get? b = some o ∧ H b = none := by
  have e' : h.get? b = some o := PySem.W.of_hideAll (trk h H) e
  refine ⟨e', ?_⟩
  cases q : H b with
  | none => rfl
  | some x =>
    have hm : b ∈ trk h H := List.mem_filter.mpr ⟨List.mem_range.mpr (Heap.lt_size e'), by simp [q]⟩
    have z : (hidT h H).get? b = none := PySem.W.hideAll_none (trk h H) hm
    rw [z] at e; cases e

/-! ### OpenK's ledger, filled with every new object but one -/
def allNews (g h : Heap) (L : Addr) : List (Addr × Obj) := (List.range h.objs.size).filterMap fun a => if a = L ∨ (g.get? a).isSome = true then none else (h.get? a).map fun o => (a, o)
theorem mem_allNews {g h : Heap} {L a : Addr} {o : Obj} (h1 : a ≠ L) (h2 : g.get? a = none) (h3 : h.get? a = some o) : (a, o) ∈ allNews g h L :=
  List.mem_filterMap.mpr ⟨a, List.mem_range.mpr (Heap.lt_size h3), by simp [h1, h2, h3]⟩
theorem of_mem_allNews {g h : Heap} {L : Addr} {p : Addr × Obj} (hp : p ∈ allNews g h L) : p.1 ≠ L ∧ g.get? p.1 = none ∧ h.get? p.1 = some p.2 := by
  obtain ⟨b, _, e⟩ := List.mem_filterMap.mp hp
  split at e
  · cases e
  · rename_i hn
    cases q : h.get? b with
    | none => rw [q] at e; simp at e
    | some u =>
      rw [q] at e
      simp only [Option.map_some, Option.some.injEq] at e
      subst e
      refine ⟨fun z => hn (.inl z), ?_, q⟩
      show g.get? b = none
      cases r : g.get? b with
      | none => rfl
      | some v => exact (hn (.inr (by simp [r]))).elim
def rest (g h : Heap) (L d : Addr) : List (Addr × Obj) := (allNews g h L).filter fun p => decide (p.1 ≠ d)
theorem rest_ne {g h : Heap} {L d : Addr} : ∀ p ∈ rest g h L d, p.1 ≠ d := fun p hp => of_decide_eq_true (List.mem_filter.mp hp).2
theorem mem_rest {g h : Heap} {L d a : Addr} {o : Obj} (h1 : a ≠ L) (h2 : g.get? a = none) (h3 : h.get? a = some o) (h4 : a ≠ d) : (a, o) ∈ rest g h L d :=
  List.mem_filter.mpr ⟨mem_allNews h1 h2 h3, decide_eq_true h4⟩
theorem news_all {g h : Heap} {L : Addr} : News g L h (allNews g h L) := fun p hp => let ⟨a, b, c⟩ := of_mem_allNews hp; ⟨c, a, b⟩
theorem news_at {g h : Heap} {L d : Addr} {o : Obj} (h1 : d ≠ L) (h2 : g.get? d = none) (h3 : h.get? d = some o) : News g L h ((d, o) :: rest g h L d) := fun p hp => by
  rcases List.mem_cons.mp hp with rfl | hp
  · exact ⟨h3, h1, h2⟩
  · exact news_all p (List.mem_filter.mp hp).1
/-- behind a rule that changed d alone: all else but the frame is kept -/
theorem kept_of_news {g h h' : Heap} {L d : Addr} {m : Str → Option Value} (k : ∀ b o, g.get? b = some o → h.get? b = some o) (F : Fr g L h' m) (N : News g L h' (rest g h L d)) :
    ∀ b o, b ≠ L → b ≠ d → h.get? b = some o → h'.get? b = some o := fun b o h1 h2 e => by
  cases q : g.get? b with
  | some u =>
    have := k b u q
    rw [e] at this; cases this
    exact F.keep b _ q
  | none => exact (N (b, o) (mem_rest h1 q e h2)).1
end L2

namespace L2
open PySem PySem.Spec PyProof.Rows

/-- the module's facts, over the base: the heap at the law's entry without what is tracked there -/
structure Mod (K : PySem.W.Frag) (mg : Str → Option Value) (base : Heap) : Prop where
  kin : K.In base
  glob : base.Ns mainGlobals mg
  blt : ∃ mb, base.Ns builtinsNs mb ∧ ∀ x : Str, x ≠ "__name__" → mb x = bootBuiltins x
  nolimit : base.NoLimit

/-- the context: a def's body (or a comprehension's block) running. base: fixed through the whole law; s₀, H₀: the entry; outer: the frames whose slots others may change (a def's callers); stack: all frames that run;
   ex: iterators that were made ahead of the entry and are walked here (a comprehension's); fn: the names whose cells were made at the entry (a def: all; a comprehension's block: its own); calm: not within an except suite; pn: pins that every state bears; xe: what is wanted of an exception that leaves the code -/
structure Cx where
  prog : Program
  w : World
  K : PySem.W.Frag
  mg : Str → Option Value
  base : Heap
  A : Around
  N : List Str
  s₀ : Shared
  H₀ : Hp
  env : Env
  outer : List Env
  stack : List Env
  ex : List Addr
  fn : Str → Bool
  calm : Bool
  pn : List (Addr × Obj)
  xe : Value → Shared → Prop
/-- the callers' frames -/
def frs (l : List Env) : List Addr := l.filterMap (·.frame)
abbrev Cx.fs (X : Cx) : List Addr := frs X.outer

def Vis (sc : Scope) (x : Str) : Prop := sc.names.lookup x = some .local ∨ sc.names.lookup x = some .cell ∨ sc.names.lookup x = some .free
def Loc (sc : Scope) (x : Str) : Prop := sc.names.lookup x = some .local ∨ sc.names.lookup x = some .cell
def Look (env : Env) (h : Heap) (m : Str → Option Value) (x : Str) (u : Value) : Prop :=
  (env.kindOf x = some .local ∧ m x = some u) ∨ ((env.kindOf x = some .cell ∨ env.kindOf x = some .free) ∧ ∃ c, env.cells.lookup x = some c ∧ h.IsCell c (some u))

structure Cx.Ok (X : Cx) : Prop where
  mod : Mod X.K X.mg X.base
  kind : X.env.scope.kind = .function
  glob : X.env.globals = mainGlobals
  blt : X.env.builtins = builtinsNs
  above : X.s₀.heap.objs.size ≤ X.env.locals
  inj : ∀ x y c, X.env.cells.lookup x = some c → X.env.cells.lookup y = some c → x = y
  has : ∀ x, (X.env.kindOf x = some .cell ∨ X.env.kindOf x = some .free) → ∃ c, X.env.cells.lookup x = some c
  cab : ∀ x c, X.fn x = true → X.env.cells.lookup x = some c → X.s₀.heap.objs.size ≤ c
  hd : X.calm = true → X.A.handled = none
  frames : X.A.frames = some X.stack
  stk : X.stack = X.outer ∨ (X.stack = X.env :: X.outer ∧ X.env.frame = some X.env.locals)
  exf : ∀ b ∈ X.ex, b ≠ X.env.locals ∧ ∀ x c, X.env.cells.lookup x = some c → c ≠ b
  bs : ∀ b o, X.base.get? b = some o → X.s₀.heap.get? b = some o ∧ X.H₀ b = none
  bsz : X.base.objs.size ≤ X.s₀.heap.objs.size
  noex : ∀ b o, X.base.get? b = some o → b ∉ X.ex
  exfs : ∀ b ∈ X.ex, b ∉ X.fs
  funs : X.s₀.heap.FunFrames X.base X.outer
  frf : ∀ b ∈ X.fs, X.H₀ b = none

structure Inv (X : Cx) (pins : List (Addr × Obj)) (σ : List (Option V)) (H : Hp) (s : Shared) : Prop where
  ok : X.Ok
  os : s.os = X.s₀.os
  bare : AllBare s.gens
  base : Un X.fs X.ex X.H₀ H X.s₀.heap s.heap
  loc : ∃ m, s.heap.Ns X.env.locals m ∧ ∀ (i : Nat) (x : Str) (v : V), X.N[i]? = some x → σ[i]? = some (some v) → Vis X.env.scope x → ∃ u, RelV v u ∧ Look X.env s.heap m x u
  cell : ∀ x c, X.env.cells.lookup x = some c → ∃ v, s.heap.IsCell c v
  free : H X.env.locals = none
  freeC : ∀ x c, X.env.cells.lookup x = some c → H c = none
  pin : ∀ p ∈ X.pn ++ pins, s.heap.get? p.1 = some p.2 ∧ H p.1 = none ∧ p.1 ≠ X.env.locals ∧ p.1 ∉ X.fs ∧ ∀ v, p.2.data ≠ .cell v
  hok : HOk X.prog X.w H s.heap
  len : σ.length = X.N.length

section
variable {X : Cx} {pins : List (Addr × Obj)} {σ : List (Option V)} {H H' : Hp} {s : Shared} {h' : Heap}

theorem Cx.Ok.nofr (ok : X.Ok) {b : Addr} {o : Obj} (e : X.base.get? b = some o) : b ∉ X.fs := fun hb => by
  have := (ok.funs.mem hb).1
  rw [e] at this; cases this
theorem Inv.bs (I : Inv X pins σ H s) : ∀ b o, X.base.get? b = some o → s.heap.get? b = some o ∧ H b = none := fun b o e =>
  ⟨I.base.keep b o (I.ok.bs b o e).1 (I.ok.bs b o e).2 (I.ok.nofr e) (I.ok.noex b o e), I.base.free b o (I.ok.bs b o e).1 (I.ok.bs b o e).2 (I.ok.noex b o e)⟩
theorem Inv.bk (I : Inv X pins σ H s) : ∀ b o, X.base.get? b = some o → s.heap.get? b = some o := fun b o e => (I.bs b o e).1
theorem Inv.mod (I : Inv X pins σ H s) : Mod X.K X.mg X.base := I.ok.mod
theorem Inv.kIn (I : Inv X pins σ H s) : X.K.In s.heap := I.ok.mod.kin.keeps I.bk
theorem Inv.nolimit (I : Inv X pins σ H s) : s.heap.NoLimit := I.ok.mod.nolimit.keeps I.bk
/-- the frame over the base: for OpenK's rules (K.In X.base is I.mod.kin) -/
theorem Inv.fr (I : Inv X pins σ H s) : ∃ m, Fr X.base X.env.locals s.heap m :=
  let ⟨m, hn, _⟩ := I.loc
  ⟨m, hn, I.bk, Nat.le_trans I.ok.bsz I.ok.above⟩
theorem Inv.lt (I : Inv X pins σ H s) : X.env.locals < s.heap.objs.size := let ⟨_, hn, _⟩ := I.loc; hn.lt
theorem Inv.sz (I : Inv X pins σ H s) : X.s₀.heap.objs.size ≤ s.heap.objs.size := Nat.le_trans I.ok.above (Nat.le_of_lt I.lt)
theorem Inv.nofs (I : Inv X pins σ H s) {a : Addr} (h : s.heap.objs.size ≤ a) : a ∉ X.fs := fun hb => by
  obtain ⟨_, o, ho, _⟩ := I.ok.funs.mem hb
  exact absurd (Nat.lt_of_lt_of_le (Heap.lt_size ho) (Nat.le_trans I.sz h)) (Nat.lt_irrefl _)
theorem Inv.cne (I : Inv X pins σ H s) : ∀ x c, X.env.cells.lookup x = some c → c ≠ X.env.locals := fun x c e z => by
  obtain ⟨v, o, ho, hd⟩ := I.cell x c e
  obtain ⟨m, ⟨o', es, ep, ho', hd', _⟩, _⟩ := I.loc
  rw [z, ho'] at ho; cases ho; rw [hd'] at hd; cases hd
theorem Inv.funs (I : Inv X pins σ H s) : s.heap.FunFrames X.base X.outer := by
  have all : ∀ (l : List Env), (∀ b ∈ frs l, b ∈ X.fs) → X.s₀.heap.FunFrames X.base l → s.heap.FunFrames X.base l := by
    intro l
    induction l with
    | nil => intro _ _; trivial
    | cons env r ih =>
      intro hs hl
      obtain ⟨hk, ⟨L, o, hf, hn, ho, hd⟩, hr⟩ := hl
      have hL : L ∈ X.fs := hs L (by unfold frs; rw [List.filterMap_cons, hf]; exact List.mem_cons_self)
      obtain ⟨sl, e⟩ := I.base.slot L o ho (I.ok.frf L hL) hL fun z => I.ok.exfs L z hL
      exact ⟨hk, ⟨L, _, hf, hn, e, hd⟩, ih (fun b hb => hs b (by unfold frs; rw [List.filterMap_cons, hf]; exact List.mem_cons_of_mem _ hb)) hr⟩
  exact all X.outer (fun _ hb => hb) I.ok.funs

/-- the frames that run, for a call -/
theorem Inv.stack (I : Inv X pins σ H s) : s.heap.FunFrames X.base X.stack := by
  rcases I.ok.stk with e | ⟨e, hf⟩
  · rw [e]; exact I.funs
  · rw [e]
    obtain ⟨m, hn, _⟩ := I.loc
    refine .cons (by rw [I.ok.kind]; decide) hf hn ?_ I.funs
    exact Heap.get?_none_of_le (Nat.le_trans I.ok.bsz I.ok.above)
theorem Inv.stkSub (I : Inv X pins σ H s) : ∀ b ∈ frs X.stack, b ∈ X.env.locals :: X.fs := fun b hb => by
  rcases I.ok.stk with e | ⟨e, hf⟩
  · rw [e] at hb; exact List.mem_cons_of_mem _ hb
  · rw [e] at hb
    unfold frs at hb
    rw [List.filterMap_cons, hf] at hb
    exact hb
theorem Inv.stkFree (I : Inv X pins σ H s) : ∀ b ∈ frs X.stack, H b = none := fun b hb => by
  rcases List.mem_cons.mp (I.stkSub b hb) with e | hb
  · rw [e]; exact I.free
  · obtain ⟨_, o, ho, _⟩ := I.ok.funs.mem hb
    exact I.base.free b o ho (I.ok.frf b hb) fun z => I.ok.exfs b z hb

/-- THE STEP: the untracked objects but the frame and the records at ch are kept (the callers' frames up to slots), the frame's map is kept, the new abstract heap is held -/
theorem Inv.step {g' : Array GenState} {t' : Nat} {d' : Drawn} {ch : List Addr} (I : Inv X pins σ H s)
    (hch : ∀ b ∈ ch, (b ∈ X.ex ∨ X.s₀.heap.objs.size ≤ b) ∧ b ≠ X.env.locals ∧ (∀ x c, X.env.cells.lookup x = some c → c ≠ b) ∧ ∀ p ∈ X.pn ++ pins, p.1 ≠ b)
    (keep : ∀ b o, b ≠ X.env.locals → b ∉ X.fs → b ∉ ch → s.heap.get? b = some o → H b = none → h'.get? b = some o)
    (slot : ∀ b o, b ≠ X.env.locals → b ∈ X.fs → b ∉ ch → s.heap.get? b = some o → H b = none → ∃ sl, h'.get? b = some { o with slots := sl }) (free : ∀ b o, b ∉ ch → s.heap.get? b = some o → H b = none → H' b = none)
    (there : ∀ b o, b ∉ ch → s.heap.get? b = some o → ∃ o', h'.get? b = some o')
    (tups : ∀ b xs, H b = some (.tup xs) → H' b = some (.tup xs)) (frzs : ∀ b o u, H b = some (.frz o u) → H' b = some (.frz o u)) (tbls : ∀ b ps, H b = some (.tbl ps) → ∃ more, H' b = some (.tbl (ps ++ more)))
    (ns : ∀ m, s.heap.Ns X.env.locals m → h'.Ns X.env.locals m) (hok : HOk X.prog X.w H' h') (hg : AllBare g') :
    Inv X pins σ H' { s with heap := h', gens := g', drawn := d', toks := t' } := by
  have neL : ∀ b o, X.s₀.heap.get? b = some o → b ≠ X.env.locals := fun b o e => Nat.ne_of_lt (Nat.lt_of_lt_of_le (Heap.lt_size e) I.ok.above)
  have neC : ∀ b o, X.s₀.heap.get? b = some o → b ∉ X.ex → b ∉ ch := fun b o e hx hb => by
    rcases (hch b hb).1 with z | z
    · exact hx z
    · exact absurd (Nat.lt_of_lt_of_le (Heap.lt_size e) z) (Nat.lt_irrefl _)
  have cellK : ∀ x c, X.env.cells.lookup x = some c → ∀ v, s.heap.IsCell c v → h'.IsCell c v := fun x c e v ⟨o, ho, hd⟩ => by
    have nch : c ∉ ch := fun z => (hch c z).2.2.1 x c e rfl
    by_cases hc : c ∈ X.fs
    · obtain ⟨sl, q⟩ := slot c o (I.cne x c e) hc nch ho (I.freeC x c e)
      exact ⟨_, q, hd⟩
    · exact ⟨o, keep c o (I.cne x c e) hc nch ho (I.freeC x c e), hd⟩
  refine ⟨I.ok, I.os, hg, ⟨fun b o e n hb hx => ?_, fun b o e n hb hx => ?_, fun b o e n hx => ?_, fun b o e hx => ?_, fun b xs e => tups b xs (I.base.tups b xs e), fun b o xs e => frzs b o xs (I.base.frzs b o xs e), fun b ps e => ?_⟩, ?_, fun x c e => ?_, ?_, fun x c e => ?_, fun p hp => ?_, hok, I.len⟩
  · exact keep b o (neL b o e) hb (neC b o e hx) (I.base.keep b o e n hb hx) (I.base.free b o e n hx)
  · obtain ⟨sl, e1⟩ := I.base.slot b o e n hb hx
    obtain ⟨sl', e2⟩ := slot b _ (neL b o e) hb (neC b o e hx) e1 (I.base.free b o e n hx)
    exact ⟨sl', e2⟩
  · obtain ⟨o', e1⟩ := I.base.there b o e hx
    exact free b o' (neC b o e hx) e1 (I.base.free b o e n hx)
  · obtain ⟨o', e1⟩ := I.base.there b o e hx
    exact there b o' (neC b o e hx) e1
  · obtain ⟨m1, e1⟩ := I.base.tbls b ps e
    obtain ⟨m2, e2⟩ := tbls b _ e1
    exact ⟨m1 ++ m2, by rw [e2, Array.append_assoc]⟩
  · obtain ⟨m, hn, hl⟩ := I.loc
    refine ⟨m, ns m hn, fun i x v e1 e2 e3 => ?_⟩
    obtain ⟨u, r, l⟩ := hl i x v e1 e2 e3
    refine ⟨u, r, ?_⟩
    rcases l with l | ⟨k, c, e, z⟩
    · exact .inl l
    · exact .inr ⟨k, c, e, cellK x c e _ z⟩
  · obtain ⟨v, z⟩ := I.cell x c e
    exact ⟨v, cellK x c e v z⟩
  · obtain ⟨m, ⟨o, _, _, ho, _⟩, _⟩ := I.loc
    exact free _ o (fun z => (hch _ z).2.1 rfl) ho I.free
  · obtain ⟨v, o, ho, hd⟩ := I.cell x c e
    exact free c o (fun z => (hch c z).2.2.1 x c e rfl) ho (I.freeC x c e)
  · obtain ⟨e, n, ne, nf, d⟩ := I.pin p hp
    have nch : p.1 ∉ ch := fun z => (hch p.1 z).2.2.2 p hp rfl
    exact ⟨keep p.1 p.2 ne nf nch e n, free p.1 p.2 nch e n, ne, nf, d⟩
/-- .. where the frame's own object is kept too -/
theorem Inv.un {t' : Nat} (I : Inv X pins σ H s) (u : Un X.fs [] H H' s.heap h') (hok : HOk X.prog X.w H' h') : Inv X pins σ H' { s with heap := h', toks := t' } := by
  obtain ⟨m, ⟨o, es, ep, ho, r⟩, _⟩ := id I.loc
  obtain ⟨sl, hL⟩ := u.any ho I.free (by simp)
  exact I.step (g' := s.gens) (d' := s.drawn) (ch := []) (fun _ z => nomatch z) (fun b o _ hb _ e n => u.keep b o e n hb (by simp)) (fun b o _ hb _ e n => u.slot b o e n hb (by simp)) (fun b o _ e n => u.free b o e n (by simp)) (fun b o _ e => u.there b o e (by simp)) u.tups u.frzs u.tbls (fun m' hm => by
    obtain ⟨o', es', ep', ho', r'⟩ := hm
    rw [ho] at ho'; cases ho'
    exact ⟨_, es', ep', hL, r'⟩) hok I.bare
/-- behind a call (or a comprehension's block): the slots of this frame may have changed too, the records at ch may have turned -/
theorem Inv.call {g' : Array GenState} {t' : Nat} {d' : Drawn} {ch : List Addr} (I : Inv X pins σ H s) (u : Un (frs X.stack) ch H H' s.heap h') (hok : HOk X.prog X.w H' h') (hg : AllBare g')
    (hch : ∀ b ∈ ch, (b ∈ X.ex ∨ X.s₀.heap.objs.size ≤ b) ∧ b ≠ X.env.locals ∧ (∀ x c, X.env.cells.lookup x = some c → c ≠ b) ∧ ∀ p ∈ X.pn ++ pins, p.1 ≠ b) :
    Inv X pins σ H' { s with heap := h', gens := g', drawn := d', toks := t' } := by
  obtain ⟨m, ⟨o, es, ep, ho, r⟩, _⟩ := id I.loc
  obtain ⟨sl, hL⟩ := u.any ho I.free fun z => (hch _ z).2.1 rfl
  exact I.step (ch := ch) hch (fun b o hL hb hc e n => u.keep b o e n (fun z => (List.mem_cons.mp (I.stkSub b z)).elim hL hb) hc) (fun b o _ _ hc e n => u.any e n hc) (fun b o hc e n => u.free b o e n hc) (fun b o hc e => u.there b o e hc) u.tups u.frzs u.tbls (fun m' hm => by
    obtain ⟨o', es', ep', ho', r'⟩ := hm
    rw [ho] at ho'; cases ho'
    exact ⟨_, es', ep', hL, r'⟩) hok hg
/-- an untracked record of ours (an iterator) has turned -/
theorem Inv.turned {t' : Nat} {it : Addr} (I : Inv X pins σ H s) (k : ∀ b o, b ≠ it → s.heap.get? b = some o → h'.get? b = some o) (hn : H it = none) (hL : it ≠ X.env.locals)
    (h1 : it ∈ X.ex ∨ X.s₀.heap.objs.size ≤ it) (h2 : ∀ x c, X.env.cells.lookup x = some c → c ≠ it) (h3 : ∀ p ∈ X.pn ++ pins, p.1 ≠ it) : Inv X pins σ H { s with heap := h', toks := t' } := by
  have nit : ∀ b u, H b = some u → b ≠ it := fun b u e z => by rw [z, hn] at e; cases e
  refine I.step (g' := s.gens) (d' := s.drawn) (ch := [it]) (fun b hb => ?_) (fun b o _ _ hc e _ => k b o (fun z => hc (by simp [z])) e) (fun b o _ _ hc e _ => ⟨o.slots, k b o (fun z => hc (by simp [z])) e⟩) (fun _ _ _ _ n => n)
    (fun b o hc e => ⟨o, k b o (fun z => hc (by simp [z])) e⟩) (fun _ _ e => e) (fun _ _ _ e => e) (fun b ps e => ⟨#[], by rw [e]; simp⟩) (fun m hm => ?_) (fun b u e => ?_) I.bare
  · have e : b = it := by simpa using hb
    subst e
    exact ⟨h1, hL, h2, h3⟩
  · obtain ⟨o, es, ep, ho, r⟩ := hm
    exact ⟨o, es, ep, k _ o (Ne.symm hL) ho, r⟩
  · refine (I.hok b u e).stay (fun c v hc q => k c v ?_ q) (fun _ q => q) fun _ _ q => q
    rcases hc with z | z
    · rw [z]; exact nit b u e
    · exact nit c _ z
theorem Inv.tok (I : Inv X pins σ H s) (t : Nat) : Inv X pins σ H { s with toks := t } := I.un (h' := s.heap) (t' := t) Un.refl I.hok
/-- all objects kept -/
theorem Inv.kept {t' : Nat} (I : Inv X pins σ H s) (k : ∀ b u, s.heap.get? b = some u → h'.get? b = some u) : Inv X pins σ H { s with heap := h', toks := t' } := I.un (Un.kept k) (I.hok.kept k)
/-- a new object laid and tracked -/
theorem Inv.laid {a : Addr} {o : HO} {t' : Nat} (I : Inv X pins σ H s) (k : ∀ b u, s.heap.get? b = some u → h'.get? b = some u) (hp : s.heap.objs.size ≤ a) (new : ObjOk X.prog X.w (upd H a o) h' a o) :
    Inv X pins σ (upd H a o) { s with heap := h', toks := t' } := I.un (Un.laid k hp (I.hok.fresh hp)) (I.hok.laid k hp new)
/-- an object written -/
theorem Inv.write {x e : Addr} {o : HO} {t' : Nat} (I : Inv X pins σ H s) (mu : Mut (H x)) (he : e = x ∨ H e = some (.own x)) (k : ∀ b u, b ≠ e → s.heap.get? b = some u → h'.get? b = some u) (heo : ∃ u, h'.get? e = some u)
    (new : ObjOk X.prog X.w (upd H x o) h' x o) : Inv X pins σ (upd H x o) { s with heap := h', toks := t' } := I.un (Un.write mu he k heo) (I.hok.write mu he k heo new)
/-- forgetting slots, pins -/
theorem Inv.weak {σ' : List (Option V)} (I : Inv X pins σ H s) (hl : σ'.length = σ.length) (w : ∀ (i : Nat) v, σ'[i]? = some (some v) → σ[i]? = some (some v)) : Inv X pins σ' H s :=
  ⟨I.ok, I.os, I.bare, I.base, let ⟨m, hn, hl'⟩ := I.loc; ⟨m, hn, fun i x v e1 e2 e3 => hl' i x v e1 (w i v e2) e3⟩, I.cell, I.free, I.freeC, I.pin, I.hok, hl.trans I.len⟩
theorem Inv.pins_of {pins' : List (Addr × Obj)} (I : Inv X pins σ H s) (h : ∀ p ∈ pins', s.heap.get? p.1 = some p.2 ∧ H p.1 = none ∧ p.1 ≠ X.env.locals ∧ p.1 ∉ X.fs ∧ ∀ v, p.2.data ≠ .cell v) : Inv X pins' σ H s :=
  ⟨I.ok, I.os, I.bare, I.base, I.loc, I.cell, I.free, I.freeC, fun p hp => (List.mem_append.mp hp).elim (fun z => I.pin p (List.mem_append_left _ z)) (h p), I.hok, I.len⟩

theorem nodup_ix {N : List Str} (hN : N.Nodup) {i j : Nat} {x : Str} (a : N[i]? = some x) (b : N[j]? = some x) : i = j := by
  obtain ⟨h1, e1⟩ := List.getElem?_eq_some_iff.mp a
  obtain ⟨h2, e2⟩ := List.getElem?_eq_some_iff.mp b
  exact (List.getElem_inj hN).mp (e1.trans e2.symm)

/-- a name is stored; what changed -/
theorem store_ok2 {M : Model} {A : Around} {E : Value → Shared → Prop} {i : Nat} {x : Str} {v : V} {u : Value} {Q : Unit → Shared → Prop} (I : Inv X pins σ H s) (hN : X.N.Nodup) (hi : X.N[i]? = some x) (hx : Loc X.env.scope x) (r : RelV v u)
    (h : ∀ s', Inv X pins (σ.set i (some v)) H s' → (∃ a, Heap.SameBut a s.heap s'.heap ∧ (a = X.env.locals ∨ X.env.cells.lookup x = some a)) → Q () s') (hf : X.fn x = true ∨ X.env.scope.names.lookup x = some .local := by first | exact .inl rfl | exact .inr rfl | assumption) : wpAny M A (storeName X.env x u) Q E s := by
  obtain ⟨m, hn, hl⟩ := id I.loc
  have hcls : (X.env.scope.kind == .class || (X.env.scope.kind == .module && X.env.locals != X.env.globals)) = false := by rw [I.ok.kind]; rfl
  have hiσ : i < σ.length := by rw [I.len]; exact (List.getElem?_eq_some_iff.mp hi).1
  have cne := I.cne
  have tracked : ∀ {a : Addr} {h' : Heap}, (∃ o, s.heap.get? a = some o ∧ H a = none) → Heap.SameBut a s.heap h' → HOk X.prog X.w H h' := fun {a h'} ha hs b ob e => by
    obtain ⟨_, _, hfree⟩ := ha
    refine (I.hok b ob e).stay (fun c w' hc q => (hs.2 c ?_).trans q) (fun _ q => q) fun _ _ q => q
    rintro rfl
    rcases hc with rfl | hc
    · rw [hfree] at e; cases e
    · rw [hfree] at hc; cases hc
  rcases hx with hk | hk
  · refine wpAny_storeName_local hk hn (fun h' hn' hs => ?_) hcls
    obtain ⟨oL, _, _, hoL, _⟩ := id hn
    refine h _ ⟨I.ok, I.os, I.bare, ⟨fun b o e n hb hx => ?_, fun b o e n hb hx => ?_, I.base.free, fun b o e hx => ?_, I.base.tups, I.base.frzs, I.base.tbls⟩, ⟨_, hn', fun j y v' e1 e2 e3 => ?_⟩, fun y c e => ?_, I.free, I.freeC, fun p hp => ?_, tracked ⟨oL, hoL, I.free⟩ hs, by simpa using I.len⟩ ⟨_, hs, .inl rfl⟩
    · exact (hs.2 b (Nat.ne_of_lt (Nat.lt_of_lt_of_le (Heap.lt_size e) I.ok.above))).trans (I.base.keep b o e n hb hx)
    · obtain ⟨sl, e1⟩ := I.base.slot b o e n hb hx
      exact ⟨sl, (hs.2 b (Nat.ne_of_lt (Nat.lt_of_lt_of_le (Heap.lt_size e) I.ok.above))).trans e1⟩
    · obtain ⟨o', e1⟩ := I.base.there b o e hx
      exact ⟨o', (hs.2 b (Nat.ne_of_lt (Nat.lt_of_lt_of_le (Heap.lt_size e) I.ok.above))).trans e1⟩
    · by_cases hj : j = i
      · subst hj
        rw [hi] at e1; cases e1
        rw [List.getElem?_set_self hiσ] at e2
        cases e2
        exact ⟨u, r, .inl ⟨hk, by simp⟩⟩
      · rw [List.getElem?_set_ne (Ne.symm hj)] at e2
        obtain ⟨u', r', q⟩ := hl j y v' e1 e2 e3
        refine ⟨u', r', ?_⟩
        rcases q with ⟨k, e⟩ | ⟨k, c, e, z⟩
        · refine .inl ⟨k, ?_⟩
          have : y ≠ x := fun e => hj (nodup_ix hN e1 (e ▸ hi))
          simp [this, e]
        · exact .inr ⟨k, c, e, z.sameBut hs (cne y c e)⟩
    · obtain ⟨w', z⟩ := I.cell y c e
      exact ⟨w', z.sameBut hs (cne y c e)⟩
    · obtain ⟨e, n, ne, nf, d⟩ := I.pin p hp
      exact ⟨(hs.2 p.1 ne).trans e, n, ne, nf, d⟩
  · have hfn : X.fn x = true := by
      rcases hf with z | z
      · exact z
      · rw [z] at hk; cases hk
    obtain ⟨c, hc⟩ := I.ok.has x (.inl hk)
    obtain ⟨w', z⟩ := I.cell x c hc
    refine wpAny_storeName_cell I.ok.kind hk hc z (fun h' hc' hs => ?_)
    obtain ⟨oc, hoc, hocd⟩ := id z
    refine h { s with heap := h' } ⟨I.ok, I.os, I.bare, ⟨fun b o e n hb hx => ?_, fun b o e n hb hx => ?_, I.base.free, fun b o e hx => ?_, I.base.tups, I.base.frzs, I.base.tbls⟩, ⟨m, hn.sameBut hs (Ne.symm (cne x c hc)), fun j y v' e1 e2 e3 => ?_⟩, fun y c' e => ?_, I.free, I.freeC, fun p hp => ?_, tracked ⟨oc, hoc, I.freeC x c hc⟩ hs, by simpa using I.len⟩ ⟨c, hs, .inr hc⟩
    · exact (hs.2 b (Nat.ne_of_lt (Nat.lt_of_lt_of_le (Heap.lt_size e) (I.ok.cab x c hfn hc)))).trans (I.base.keep b o e n hb hx)
    · obtain ⟨sl, e1⟩ := I.base.slot b o e n hb hx
      exact ⟨sl, (hs.2 b (Nat.ne_of_lt (Nat.lt_of_lt_of_le (Heap.lt_size e) (I.ok.cab x c hfn hc)))).trans e1⟩
    · obtain ⟨o', e1⟩ := I.base.there b o e hx
      exact ⟨o', (hs.2 b (Nat.ne_of_lt (Nat.lt_of_lt_of_le (Heap.lt_size e) (I.ok.cab x c hfn hc)))).trans e1⟩
    · by_cases hj : j = i
      · subst hj
        rw [hi] at e1; cases e1
        rw [List.getElem?_set_self hiσ] at e2
        cases e2
        exact ⟨u, r, .inr ⟨.inl hk, c, hc, hc'⟩⟩
      · rw [List.getElem?_set_ne (Ne.symm hj)] at e2
        obtain ⟨u', r', q⟩ := hl j y v' e1 e2 e3
        refine ⟨u', r', ?_⟩
        rcases q with q | ⟨k, c', e, z'⟩
        · exact .inl q
        · refine .inr ⟨k, c', e, z'.sameBut hs ?_⟩
          rintro rfl
          exact hj (nodup_ix hN e1 (I.ok.inj _ _ _ e hc ▸ hi))
    · by_cases hcc : c' = c
      · subst hcc; exact ⟨_, hc'⟩
      · obtain ⟨w2, z2⟩ := I.cell y c' e
        exact ⟨w2, z2.sameBut hs hcc⟩
    · obtain ⟨e, n, ne, nf, d⟩ := I.pin p hp
      refine ⟨(hs.2 p.1 ?_).trans e, n, ne, nf, d⟩
      intro q
      rw [q, hoc] at e
      have q' : oc = p.2 := Option.some.inj e
      exact d w' (by rw [← q']; exact hocd)
theorem store_ok {M : Model} {A : Around} {E : Value → Shared → Prop} {i : Nat} {x : Str} {v : V} {u : Value} {Q : Unit → Shared → Prop} (I : Inv X pins σ H s) (hN : X.N.Nodup) (hi : X.N[i]? = some x) (hx : Loc X.env.scope x) (r : RelV v u)
    (h : ∀ s', Inv X pins (σ.set i (some v)) H s' → Q () s') (hf : X.fn x = true ∨ X.env.scope.names.lookup x = some .local := by first | exact .inl rfl | exact .inr rfl | assumption) : wpAny M A (storeName X.env x u) Q E s :=
  store_ok2 I hN hi hx r (fun s' I' _ => h s' I') hf
/-- behind a call or a block, the state as it is -/
theorem Inv.call' {s' : Shared} {ch : List Addr} (I : Inv X pins σ H s) (ho : s'.os = s.os) (u : Un (frs X.stack) ch H H' s.heap s'.heap) (hok : HOk X.prog X.w H' s'.heap) (hg : AllBare s'.gens)
    (hch : ∀ b ∈ ch, (b ∈ X.ex ∨ X.s₀.heap.objs.size ≤ b) ∧ b ≠ X.env.locals ∧ (∀ x c, X.env.cells.lookup x = some c → c ≠ b) ∧ ∀ p ∈ X.pn ++ pins, p.1 ≠ b) : Inv X pins σ H' s' := by
  obtain ⟨h', g', d', t', o'⟩ := s'
  have e : o' = s.os := ho
  subst e
  exact I.call (g' := g') (t' := t') (d' := d') u hok hg hch
end

/-! ### the judgements -/
/-- an exception: its class, its own dict's address (where it has one), the abstract heap behind it -/
abbrev XK := Value → Option Addr → Hp → Prop
abbrev St := List (Option V)
abbrev VK := V → Hp → Prop
/-- an expression's reading; a test's; an argument list's -/
abbrev TE := St → Hp → VK → Prop
abbrev TT := St → Hp → (Bool → Hp → Prop) → Prop
abbrev TA := St → Hp → (List V → Hp → Prop) → Prop
/-- what is wanted behind a statement -/
structure Ends where
  nx : St → Hp → Prop
  rt : VK
  bk : St → Hp → Prop := fun _ _ => False
  ct : St → Hp → Prop := fun _ _ => False
abbrev TS := Ends → St → Hp → Prop

def EP (X : Cx) (pins : List (Addr × Obj)) (σ : St) (Q : VK) (u : Value) (s' : Shared) : Prop := ∃ v H', Inv X pins σ H' s' ∧ RelV v u ∧ Q v H'
def TP (X : Cx) (pins : List (Addr × Obj)) (σ : St) (Q : Bool → Hp → Prop) (b : Bool) (s' : Shared) : Prop := ∃ H', Inv X pins σ H' s' ∧ Q b H'
def AP (X : Cx) (pins : List (Addr × Obj)) (σ : St) (Q : List V → Hp → Prop) (us : List Value) (s' : Shared) : Prop := ∃ vs H', Inv X pins σ H' s' ∧ Vals vs us ∧ Q vs H'
def SP (X : Cx) (pins : List (Addr × Obj)) (D : Ends) (f : Flow) (s' : Shared) : Prop :=
  match f with
  | .next => ∃ σ' H', Inv X pins σ' H' s' ∧ D.nx σ' H'
  | .brk => ∃ σ' H', Inv X pins σ' H' s' ∧ D.bk σ' H'
  | .cont => ∃ σ' H', Inv X pins σ' H' s' ∧ D.ct σ' H'
  | .ret u => ∃ v σ' H', Inv X pins σ' H' s' ∧ RelV v u ∧ D.rt v H'

def PE (X : Cx) (e : Expr) (t : TE) : Prop :=
  ∀ (pins : List (Addr × Obj)) (s : Shared) (σ : St) (H : Hp) (Q : VK), Inv X pins σ H s → t σ H Q → wpAny (model X.prog X.w) X.A (eval e X.env) (EP X pins σ Q) X.xe s
def PT (X : Cx) (e : Expr) (t : TT) : Prop :=
  ∀ (pins : List (Addr × Obj)) (s : Shared) (σ : St) (H : Hp) (Q : Bool → Hp → Prop), Inv X pins σ H s → t σ H Q → wpAny (model X.prog X.w) X.A (isTrue e X.env (eval e X.env)) (TP X pins σ Q) X.xe s
/-- a test whatever its 'whole' is (and, or) -/
def PW (X : Cx) (e : Expr) (t : TT) : Prop :=
  ∀ (whole : Sem Value) (pins : List (Addr × Obj)) (s : Shared) (σ : St) (H : Hp) (Q : Bool → Hp → Prop), Inv X pins σ H s → t σ H Q → wpAny (model X.prog X.w) X.A (isTrue e X.env whole) (TP X pins σ Q) X.xe s
theorem PW.pt {X : Cx} {e : Expr} {t : TT} (h : PW X e t) : PT X e t := h _
/-- an argument list (no star), from the left -/
def PA (X : Cx) (es : List Expr) (t : TA) : Prop :=
  ∀ (pos : Pos) (pins : List (Addr × Obj)) (s : Shared) (σ : St) (H : Hp) (Q : List V → Hp → Prop), Inv X pins σ H s → t σ H Q → wpAny (model X.prog X.w) X.A (spliced (backTo pos (starEach es X.env))) (AP X pins σ Q) X.xe s
def PS (X : Cx) (st : Stmt) (t : TS) : Prop :=
  ∀ (pins : List (Addr × Obj)) (s : Shared) (σ : St) (H : Hp) (D : Ends), Inv X pins σ H s → t D σ H → wpAny (model X.prog X.w) X.A (exec st X.env) (SP X pins D) X.xe s
def PSs (X : Cx) (st : List Stmt) (t : TS) : Prop :=
  ∀ (pins : List (Addr × Obj)) (s : Shared) (σ : St) (H : Hp) (D : Ends), Inv X pins σ H s → t D σ H → wpAny (model X.prog X.w) X.A (execs st X.env) (SP X pins D) X.xe s
/-- weaken the end -/
theorem thn {α : Type} {t : Sem α} {Q Q' : α → Shared → Prop} {M : Model} {A : Around} {E : Value → Shared → Prop} {s : Shared} (h : wpAny M A t Q E s) (hQ : ∀ a s, Q a s → Q' a s) : wpAny M A t Q' E s := wpAny_mono h hQ fun _ _ x => x
end L2

namespace L2
open PySem PySem.Spec PyProof.Rows
section
variable {X : Cx}

/-- two expressions in a row -/
theorem bin {a b : Expr} {ta tb : TE} (ha : PE X a ta) (hb : PE X b tb) {pins : List (Addr × Obj)} {s : Shared} {σ : St} {H : Hp} {R : V → V → Hp → Prop} (I : Inv X pins σ H s) (h : ta σ H fun x H1 => tb σ H1 fun y H2 => R x y H2)
    {α : Type} {Q : α → Shared → Prop} {f : Value → Value → Sem α}
    (hf : ∀ v u s2 x y H2, Inv X pins σ H2 s2 → RelV x v → RelV y u → R x y H2 → wpAny (model X.prog X.w) X.A (f v u) Q X.xe s2) :
    wpAny (model X.prog X.w) X.A (eval a X.env) (fun v s₁ => wpAny (model X.prog X.w) X.A (eval b X.env) (fun u s₂ => wpAny (model X.prog X.w) X.A (f v u) Q X.xe s₂) X.xe s₁) X.xe s := by
  refine thn (ha pins s σ H _ I h) fun v s1 ⟨x, H1, I1, r1, q1⟩ => ?_
  refine thn (hb pins s1 σ H1 _ I1 q1) fun u s2 ⟨y, H2, I2, r2, q2⟩ => ?_
  exact hf v u s2 x y H2 I2 r1 r2 q2

/-! ### names and constants -/
def tVar (i : Nat) : TE := fun σ H Q => ∃ v, σ[i]? = some (some v) ∧ Q v H
def tC (v : V) : TE := fun _ H Q => Q v H
theorem pe_var {i : Nat} {x : Str} {pos : Pos} (hN : X.N[i]? = some x) (hv : Vis X.env.scope x) (hd : (x == ("__debug__" : Str)) = false := by decide) (hcd : (x == ("__classdict__" : Str)) = false := by decide) : PE X (.Name x pos) (tVar i) := by
  intro pins s σ H Q I h
  obtain ⟨v, e, h⟩ := h
  obtain ⟨m, hn, hl⟩ := I.loc
  obtain ⟨u, r, l⟩ := hl i x v hN e hv
  have fin : EP X pins σ Q u s := ⟨v, H, I, r, h⟩
  rcases l with ⟨hk, hm⟩ | ⟨hk, c, hc, hcell⟩
  · exact wpAny_Name (wpAny_loadName_local I.ok.kind hk hn hm fin) hd
  · rcases hk with hk | hk
    · exact wpAny_Name (wpAny_loadName_cell I.ok.kind hk hc hcell fin) hd
    · exact wpAny_Name (wpAny_loadName_free I.ok.kind hk hc hcell fin hcd) hd
theorem pe_int {i j pos} : PE X (.Constant (.int i) j pos) (tC (.int i)) := fun _ _ _ H _ I h => wpAny_Constant_int ⟨.int i, H, I.tok _, ⟨_, rfl⟩, h⟩
theorem pe_bl {b j pos} : PE X (.Constant (.bool b) j pos) (tC (.bl b)) := fun _ _ _ H _ I h => Constant_bool ⟨.bl b, H, I, rfl, h⟩
theorem pe_non {j pos} : PE X (.Constant .none j pos) (tC .non) := fun _ _ _ H _ I h => Constant_none ⟨.non, H, I, rfl, h⟩
theorem pe_str {x j pos} : PE X (.Constant (.str x) j pos) (tC (.str x)) := fun _ _ _ H _ I h => Calls.Constant_str ⟨.str x, H, I.tok _, ⟨_, rfl⟩, h⟩

/-- a global name of the def -/
def Gl (X : Cx) (x : Str) : Prop := X.env.kindOf x = some .globalImplicit
theorem ld_glob {E : Value → Shared → Prop} {pins : List (Addr × Obj)} {s : Shared} {σ : St} {H : Hp} {x : Str} {u : Value} {pos : Pos} {Q : Value → Shared → Prop} (I : Inv X pins σ H s) (hg : Gl X x) (hm : X.mg x = some u) (h : Q u s)
    (hd : (x == ("__debug__" : Str)) = false := by decide) : wpAny (model X.prog X.w) X.A (eval (.Name x pos) X.env) Q E s :=
  Calls.Name_function_global I.ok.kind hg (Calls.loadGlobal_global (by rw [I.ok.glob]; exact I.mod.glob.keeps I.bk) hm h) hd
theorem ld_blt {E : Value → Shared → Prop} {pins : List (Addr × Obj)} {s : Shared} {σ : St} {H : Hp} {x : Str} {u : Value} {pos : Pos} {Q : Value → Shared → Prop} (I : Inv X pins σ H s) (hg : Gl X x) (hm : X.mg x = none) (hv : bootBuiltins x = some u) (h : Q u s)
    (hn : x ≠ "__name__" := by decide) (hd : (x == ("__debug__" : Str)) = false := by decide) : wpAny (model X.prog X.w) X.A (eval (.Name x pos) X.env) Q E s := by
  obtain ⟨mb, h1, h2⟩ := I.mod.blt
  exact Calls.Name_function_global I.ok.kind hg (Calls.loadGlobal_builtin (by rw [I.ok.glob]; exact I.mod.glob.keeps I.bk) hm (by rw [I.ok.blt]; exact h1.keeps I.bk) ((h2 x hn).trans hv) h) hd
/-- a module's constant, a class, a function, as a value -/
theorem pe_glob {x : Str} {v : V} {u : Value} {pos : Pos} (hg : Gl X x) (hm : X.mg x = some u) (r : RelV v u) (hd : (x == ("__debug__" : Str)) = false := by decide) : PE X (.Name x pos) (tC v) :=
  fun _ _ _ H _ I h => ld_glob I hg hm ⟨v, H, I, r, h⟩ hd
theorem pe_bltn {x : Str} {v : V} {u : Value} {pos : Pos} (hg : Gl X x) (hm : X.mg x = none) (hv : bootBuiltins x = some u) (r : RelV v u) (hn : x ≠ "__name__" := by decide) (hd : (x == ("__debug__" : Str)) = false := by decide) : PE X (.Name x pos) (tC v) :=
  fun _ _ _ H _ I h => ld_blt I hg hm hv ⟨v, H, I, r, h⟩ hn hd

/-! ### arithmetic -/
/-- two ints -/
def t2I (ta tb : TE) (k : Int → Int → Hp → Prop) : St → Hp → Prop := fun σ H => ta σ H fun x H1 => tb σ H1 fun y H2 => ∃ i j, x = .int i ∧ y = .int j ∧ k i j H2
def tAdd (ta tb : TE) : TE := fun σ H Q => t2I ta tb (fun i j H2 => Q (.int (i + j)) H2) σ H
def tSub (ta tb : TE) : TE := fun σ H Q => t2I ta tb (fun i j H2 => Q (.int (i - j)) H2) σ H
/-- the left factor below 2^64 -/
def tMul (ta tb : TE) : TE := fun σ H Q => t2I ta tb (fun i j H2 => (-(2 ^ 64) < i ∧ i < 2 ^ 64) ∧ Q (.int (i * j)) H2) σ H
variable {a b : Expr} {ta tb : TE} {pos : Pos}
theorem pe_add (ha : PE X a ta) (hb : PE X b tb) : PE X (.BinOp a .Add b pos) (tAdd ta tb) := by
  intro pins s σ H Q I h
  refine wpAny_BinOp (bin ha hb I h fun v u s2 x y H2 I2 rx ry q => ?_)
  obtain ⟨i, j, rfl, rfl, q⟩ := q
  obtain ⟨t, rfl⟩ := rx
  obtain ⟨t', rfl⟩ := ry
  exact add_int ⟨.int _, H2, I2.tok _, ⟨_, rfl⟩, q⟩
theorem pe_sub (ha : PE X a ta) (hb : PE X b tb) : PE X (.BinOp a .Sub b pos) (tSub ta tb) := by
  intro pins s σ H Q I h
  refine wpAny_BinOp (bin ha hb I h fun v u s2 x y H2 I2 rx ry q => ?_)
  obtain ⟨i, j, rfl, rfl, q⟩ := q
  obtain ⟨t, rfl⟩ := rx
  obtain ⟨t', rfl⟩ := ry
  exact sub_int ⟨.int _, H2, I2.tok _, ⟨_, rfl⟩, q⟩
theorem pe_mul (ha : PE X a ta) (hb : PE X b tb) : PE X (.BinOp a .Mult b pos) (tMul ta tb) := by
  intro pins s σ H Q I h
  refine wpAny_BinOp (bin ha hb I h fun v u s2 x y H2 I2 rx ry q => ?_)
  obtain ⟨i, j, rfl, rfl, ⟨q1, q2⟩, q⟩ := q
  obtain ⟨t, rfl⟩ := rx
  obtain ⟨t', rfl⟩ := ry
  exact mul_int ⟨.int _, H2, I2.tok _, ⟨_, rfl⟩, q⟩ (.of_left (intBits_le_64 q1 q2))

/-! ### comparisons -/
def PC (X : Cx) (op : CmpOp) (a b : Expr) (t : TE) : Prop :=
  ∀ (pins : List (Addr × Obj)) (s : Shared) (σ : St) (H : Hp) (Q : VK), Inv X pins σ H s → t σ H Q →
    wpAny (model X.prog X.w) X.A (eval a X.env) (fun v s₁ => wpAny (model X.prog X.w) X.A (eval b X.env) (fun u s₂ => wpAny (model X.prog X.w) X.A (compareOp op v u) (EP X pins σ Q) X.xe s₂) X.xe s₁) X.xe s
theorem nobehind (b : Expr) {op : CmpOp} (h : op ≠ .In) (h2 : op ≠ .NotIn) : behindInMarks op b = false := by
  have e1 : (op == CmpOp.In) = false := by cases op <;> first | rfl | exact absurd rfl h
  have e2 : (op == CmpOp.NotIn) = false := by cases op <;> first | rfl | exact absurd rfl h2
  cases b <;> simp [behindInMarks, e1, e2]
def tCmp (p : Int → Int → Bool) (ta tb : TE) : TE := fun σ H Q => t2I ta tb (fun i j H2 => Q (.bl (p i j)) H2) σ H
abbrev tLt : TE → TE → TE := tCmp fun i j => decide (i < j)
abbrev tLe : TE → TE → TE := tCmp fun i j => decide (i ≤ j)
abbrev tGt : TE → TE → TE := tCmp fun i j => decide (j < i)
abbrev tGe : TE → TE → TE := tCmp fun i j => decide (j ≤ i)
abbrev tEqI : TE → TE → TE := tCmp fun i j => decide (i = j)
abbrev tNeI : TE → TE → TE := tCmp fun i j => !decide (i = j)
/-- a comparison of two ints, by its rule -/
theorem pc_int {op : CmpOp} {p : Int → Int → Bool} (ha : PE X a ta) (hb : PE X b tb)
    (rule : ∀ (i j : Int) (t u : Tok) (Q : Value → Shared → Prop) (s : Shared), Q (.bool (p i j)) s → wpAny (model X.prog X.w) X.A (compareOp op (.int i t) (.int j u)) Q X.xe s) : PC X op a b (tCmp p ta tb) := by
  intro pins s σ H Q I h
  refine bin ha hb I h fun v u s2 x y H2 I2 rx ry q => ?_
  obtain ⟨i, j, rfl, rfl, q⟩ := q
  obtain ⟨t, rfl⟩ := rx
  obtain ⟨t', rfl⟩ := ry
  exact rule i j t t' _ s2 ⟨.bl _, H2, I2, rfl, q⟩
theorem pc_lt (ha : PE X a ta) (hb : PE X b tb) : PC X .Lt a b (tLt ta tb) := pc_int ha hb fun _ _ _ _ _ _ h => lt_int h
theorem pc_le (ha : PE X a ta) (hb : PE X b tb) : PC X .LtE a b (tLe ta tb) := pc_int ha hb fun _ _ _ _ _ _ h => le_int h
theorem pc_gt (ha : PE X a ta) (hb : PE X b tb) : PC X .Gt a b (tGt ta tb) := pc_int ha hb fun _ _ _ _ _ _ h => gt_int h
theorem pc_ge (ha : PE X a ta) (hb : PE X b tb) : PC X .GtE a b (tGe ta tb) := pc_int ha hb fun _ _ _ _ _ _ h => ge_int h
theorem pc_eqI (ha : PE X a ta) (hb : PE X b tb) : PC X .Eq a b (tEqI ta tb) := pc_int ha hb fun _ _ _ _ _ _ h => eq_int (by rw [Bool.beq_eq_decide_eq]; exact h)
theorem pc_neI (ha : PE X a ta) (hb : PE X b tb) : PC X .NotEq a b (tNeI ta tb) := pc_int ha hb fun _ _ _ _ _ _ h => ne_int (by rw [bne, Bool.beq_eq_decide_eq]; exact h)
/-- is None -/
def tIsN (ta : TE) : TE := fun σ H Q => ta σ H fun x H1 => Q (.bl (decide (x = .non))) H1
def tNotN (ta : TE) : TE := fun σ H Q => ta σ H fun x H1 => Q (.bl (!decide (x = .non))) H1
theorem RelV.none_iff {x : V} {v : Value} (r : RelV x v) : (v == Value.none) = decide (x = .non) := by
  cases x with
  | non => cases r; rfl
  | bl _ => cases r; rfl
  | int _ => obtain ⟨t, rfl⟩ := r; rfl
  | str _ => obtain ⟨t, rfl⟩ := r; rfl
  | byt _ => obtain ⟨t, rfl⟩ := r; rfl
  | flt _ => obtain ⟨t, rfl⟩ := r; rfl
  | ref _ => cases r; rfl
  | ty _ => cases r; rfl
theorem pc_isN {j pos'} (ha : PE X a ta) : PC X .Is a (.Constant .none j pos') (tIsN ta) := by
  intro pins s σ H Q I h
  refine thn (ha pins s σ H _ I h) fun v s1 ⟨x, H1, I1, r1, q1⟩ => ?_
  exact Constant_none (is_none_gen ⟨.bl _, H1, I1, by rw [r1.none_iff]; rfl, q1⟩)
theorem pc_notN {j pos'} (ha : PE X a ta) : PC X .IsNot a (.Constant .none j pos') (tNotN ta) := by
  intro pins s σ H Q I h
  refine thn (ha pins s σ H _ I h) fun v s1 ⟨x, H1, I1, r1, q1⟩ => ?_
  exact Constant_none (isnot_none_gen ⟨.bl _, H1, I1, by rw [r1.none_iff]; rfl, q1⟩)
/-- a comparison as a value, as a test -/
def tB (t : TE) : TT := fun σ H Q => t σ H fun x H1 => ∃ c, x = .bl c ∧ Q c H1
theorem pe_cmp {op : CmpOp} {t : TE} (h : PC X op a b t) (h1 : behindInMarks op b = false := by first | exact nobehind _ (by decide) (by decide) | rfl) : PE X (.Compare a [op] [b] pos) t := fun pins s σ H Q I hw => wpAny_Compare1 (h pins s σ H Q I hw) h1
theorem pt_cmp {op : CmpOp} {t : TE} (h : PC X op a b t) (h1 : behindInMarks op b = false := by first | exact nobehind _ (by decide) (by decide) | rfl) : PT X (.Compare a [op] [b] pos) (tB t) := by
  intro pins s σ H Q I hw
  refine wpAny_isTrue_Compare1 (thn (h pins s σ H _ I hw) fun v s1 h1 => thn h1 fun u s2 h2 => thn h2 fun c s3 ⟨x, H1, I1, r1, q1⟩ => ?_) h1
  obtain ⟨d, rfl, q⟩ := q1
  cases r1
  exact wpAny_truthy_bool ⟨H1, I1, q⟩
/-- an expression whose value is a bool, as a test -/
theorem pt_val {e : Expr} {t : TE} (h : PE X e t) (he : ∀ whole, isTrue e X.env whole = (do let v ← whole; standAt e.pos; holding [v] (truthy v)) := by intro _; rfl) : PT X e (tB t) := by
  intro pins s σ H Q I hw
  refine isTrue_plain (thn (h pins s σ H _ I hw) fun v s1 ⟨x, H1, I1, r1, q1⟩ => ?_) (he _)
  obtain ⟨d, rfl, q⟩ := q1
  cases r1
  exact wpAny_truthy_bool ⟨H1, I1, q⟩

/-! ### and, or, not -/
variable {tA tB' : TT} {rest : List Expr}
def tAnd (t u : TT) : TT := fun σ H Q => t σ H fun c H1 => if c = true then u σ H1 Q else Q false H1
def tOr (t u : TT) : TT := fun σ H Q => t σ H fun c H1 => if c = true then Q true H1 else u σ H1 Q
def tNot (t : TT) : TT := fun σ H Q => t σ H fun c H1 => Q (!c) H1
theorem pw_and1 (ha : PT X a tA) : PW X (.BoolOp .And [a] pos) tA := by
  intro wh pins s σ H Q I h
  refine isTrue_and (thn (ha pins s σ H Q I h) fun c s1 e => ?_)
  cases c with
  | true => exact isTrue_and_nil e
  | false => exact e
theorem pw_or1 (ha : PT X a tA) : PW X (.BoolOp .Or [a] pos) tA := by
  intro wh pins s σ H Q I h
  refine isTrue_or (thn (ha pins s σ H Q I h) fun c s1 e => ?_)
  cases c with
  | false => exact isTrue_or_nil e
  | true => exact e
theorem pw_and (ha : PT X a tA) (hb : PW X (.BoolOp .And (b :: rest) pos) tB') : PW X (.BoolOp .And (a :: b :: rest) pos) (tAnd tA tB') := by
  intro wh pins s σ H Q I h
  refine isTrue_and (thn (ha pins s σ H _ I h) fun c s1 ⟨H1, I1, q1⟩ => ?_)
  cases c with
  | true => exact hb wh pins s1 σ H1 Q I1 q1
  | false => exact ⟨H1, I1, q1⟩
theorem pw_or (ha : PT X a tA) (hb : PW X (.BoolOp .Or (b :: rest) pos) tB') : PW X (.BoolOp .Or (a :: b :: rest) pos) (tOr tA tB') := by
  intro wh pins s σ H Q I h
  refine isTrue_or (thn (ha pins s σ H _ I h) fun c s1 ⟨H1, I1, q1⟩ => ?_)
  cases c with
  | true => exact ⟨H1, I1, q1⟩
  | false => exact hb wh pins s1 σ H1 Q I1 q1
theorem pt_not (ha : PT X a tA) : PT X (.UnaryOp .Not a pos) (tNot tA) := by
  intro pins s σ H Q I h
  exact isTrue_not (ha pins s σ H (fun c H1 => Q (!c) H1) I h)
/-- .. as values (bools) -/
def tAndV (ta tb : TE) : TE := fun σ H Q => ta σ H fun x H1 => ∃ c, x = .bl c ∧ if c = true then tb σ H1 Q else Q (.bl false) H1
def tOrV (ta tb : TE) : TE := fun σ H Q => ta σ H fun x H1 => ∃ c, x = .bl c ∧ if c = true then Q (.bl true) H1 else tb σ H1 Q
def tNotV (ta : TE) : TE := fun σ H Q => ta σ H fun x H1 => ∃ c, x = .bl c ∧ Q (.bl (!c)) H1
theorem pe_one {op} {t : TE} (h : PE X a t) : PE X (.BoolOp op [a] pos) t := fun pins s σ H Q I hw => BoolOp_one (h pins s σ H Q I hw)
theorem pe_and (ha : PE X a ta) (hb : PE X (.BoolOp .And (b :: rest) pos) tb) : PE X (.BoolOp .And (a :: b :: rest) pos) (tAndV ta tb) := by
  intro pins s σ H Q I h
  refine BoolOp_and (thn (ha pins s σ H _ I h) fun v s1 ⟨x, H1, I1, r1, q1⟩ => ?_)
  obtain ⟨c, rfl, q1⟩ := q1
  cases r1
  refine wpAny_truthy_bool ?_
  cases c with
  | true => exact hb pins s1 σ H1 Q I1 q1
  | false => exact ⟨.bl false, H1, I1, rfl, q1⟩
theorem pe_or (ha : PE X a ta) (hb : PE X (.BoolOp .Or (b :: rest) pos) tb) : PE X (.BoolOp .Or (a :: b :: rest) pos) (tOrV ta tb) := by
  intro pins s σ H Q I h
  refine BoolOp_or (thn (ha pins s σ H _ I h) fun v s1 ⟨x, H1, I1, r1, q1⟩ => ?_)
  obtain ⟨c, rfl, q1⟩ := q1
  cases r1
  refine wpAny_truthy_bool ?_
  cases c with
  | false => exact hb pins s1 σ H1 Q I1 q1
  | true => exact ⟨.bl true, H1, I1, rfl, q1⟩
theorem pe_not (ha : PE X a ta) : PE X (.UnaryOp .Not a pos) (tNotV ta) := by
  intro pins s σ H Q I h
  refine UnaryOp_ (thn (ha pins s σ H _ I h) fun v s1 ⟨x, H1, I1, r1, q1⟩ => ?_)
  obtain ⟨c, rfl, q1⟩ := q1
  cases r1
  exact not_of (wpAny_truthy_bool ⟨.bl (!c), H1, I1, rfl, q1⟩)
/-- a if t else b -/
def tIf (t : TT) (ta tb : TE) : TE := fun σ H Q => t σ H fun c H1 => if c = true then ta σ H1 Q else tb σ H1 Q
theorem pe_ifExp {c : Expr} (hc : PT X c tA) (ha : PE X a ta) (hb : PE X b tb) : PE X (.IfExp c a b pos) (tIf tA ta tb) := by
  intro pins s σ H Q I h
  refine wpAny_IfExp (thn (hc pins s σ H _ I h) fun d s1 ⟨H1, I1, q1⟩ => ?_)
  cases d with
  | true => exact ha pins s1 σ H1 Q I1 q1
  | false => exact hb pins s1 σ H1 Q I1 q1
end
end L2

namespace L2
open PySem PySem.Spec PyProof.Rows

/-! ### a list, a tuple that is read: tracked, frozen, or an object of the module -/
def SqL (K : PySem.W.Frag) (H : Hp) (a : Addr) (xs : List V) : Prop :=
  Rd H a (.lst xs) ∨
    ∃ (o : Obj) (its : Array Value) (n : Nat), K.lookup a = some o ∧ o.cls = .type "list" ∧ o.dict = none ∧ o.data = .seq its n ∧ its.size ≤ sizeLine ∧ Vals xs its.toList
def SqT (K : PySem.W.Frag) (H : Hp) (a : Addr) (xs : List V) : Prop :=
  Rd H a (.tup xs) ∨
    ∃ (o : Obj) (its : Array Value) (n : Nat), K.lookup a = some o ∧ o.cls = .type "tuple" ∧ o.data = .seq its n ∧ its.size ≤ sizeLine ∧ Vals xs its.toList
def absV : Value → Option V
  | .none => some .non
  | .bool b => some (.bl b)
  | .int i _ => some (.int i)
  | .str x _ => some (.str x)
  | .bytes b _ => some (.byt b)
  | .float b _ => some (.flt b)
  | .ref a => some (.ref a)
  | .type n => some (.ty n)
  | _ => none
theorem RelV.abs {x : V} {u : Value} (r : RelV x u) : absV u = some x := by
  cases x with
  | non => cases r; rfl
  | bl _ => cases r; rfl
  | int _ => obtain ⟨t, rfl⟩ := r; rfl
  | str _ => obtain ⟨t, rfl⟩ := r; rfl
  | byt _ => obtain ⟨t, rfl⟩ := r; rfl
  | flt _ => obtain ⟨t, rfl⟩ := r; rfl
  | ref _ => cases r; rfl
  | ty _ => cases r; rfl
theorem RelV.inj {x y : V} {u : Value} (r : RelV x u) (q : RelV y u) : x = y := Option.some.inj (r.abs.symm.trans q.abs)
theorem Vals.inj : ∀ {xs ys : List V} {us : List Value}, Vals xs us → Vals ys us → xs = ys
  | _, _, _, .nil, .nil => rfl
  | _, _, _, .cons r t, .cons r' t' => by rw [r.inj r', Vals.inj t t']
section
variable {X : Cx} {pins : List (Addr × Obj)} {σ : St} {H : Hp} {s : Shared} {a : Addr} {xs ys : List V}
theorem SqL.of {K : PySem.W.Frag} (h : H a = some (.lst xs)) : SqL K H a xs := .inl (.inl h)
theorem SqT.of {K : PySem.W.Frag} (h : H a = some (.tup xs)) : SqT K H a xs := .inl (.inl h)
theorem Inv.list (I : Inv X pins σ H s) (h : SqL X.K H a xs) : ∃ its : List Value, Vals xs its ∧ PlainL s.heap a its.toArray ∧ xs.length ≤ sizeLine := by
  rcases h with h | ⟨o, its, n, hk, hc, hd, hs, hz, r⟩
  · obtain ⟨z, its, n, r, e⟩ := h.ok I.hok
    exact ⟨its, r, ⟨_, n, e, rfl, rfl, rfl⟩, z⟩
  · refine ⟨its.toList, r, ⟨o, n, I.kIn a o hk, hc, hd, by simpa using hs⟩, ?_⟩
    have e := r.length
    simp only [Array.length_toList] at e
    omega
theorem Inv.tuple (I : Inv X pins σ H s) (h : SqT X.K H a xs) : ∃ its : List Value, Vals xs its ∧ IsTup s.heap a its.toArray ∧ xs.length ≤ sizeLine := by
  rcases h with h | ⟨o, its, n, hk, hc, hs, hz, r⟩
  · obtain ⟨z, its, r, p⟩ := h.ok I.hok
    exact ⟨its, r, p, z⟩
  · refine ⟨its.toList, r, ⟨o, I.kIn a o hk, hc, n, by simpa using hs⟩, ?_⟩
    have e := r.length
    simp only [Array.length_toList] at e
    omega
theorem Inv.list_inj (I : Inv X pins σ H s) (h : SqL X.K H a xs) (h' : SqL X.K H a ys) : xs = ys := by
  obtain ⟨its, r, ⟨o, n, e, _, _, d⟩, _⟩ := I.list h
  obtain ⟨its', r', ⟨o', n', e', _, _, d'⟩, _⟩ := I.list h'
  rw [e] at e'; cases e'
  rw [d] at d'
  injection d' with d1 _
  have : its = its' := by simpa using congrArg Array.toList d1
  subst this
  exact r.inj r'
theorem Inv.tuple_inj (I : Inv X pins σ H s) (h : SqT X.K H a xs) (h' : SqT X.K H a ys) : xs = ys := by
  obtain ⟨its, r, ⟨o, e, _, n, d⟩, _⟩ := I.tuple h
  obtain ⟨its', r', ⟨o', e', _, n', d'⟩, _⟩ := I.tuple h'
  rw [e] at e'; cases e'
  rw [d] at d'
  injection d' with d1 _
  have : its = its' := by simpa using congrArg Array.toList d1
  subst this
  exact r.inj r'
end

/-! ### another wish about exceptions -/
abbrev Cx.wish (X : Cx) (E : Value → Shared → Prop) : Cx := { X with xe := E }
/-- no exception leaves -/
abbrev Cx.nox (X : Cx) : Cx := X.wish fun _ _ => False
theorem Cx.Ok.wish {X : Cx} (ok : X.Ok) (E : Value → Shared → Prop) : (X.wish E).Ok :=
  ⟨ok.mod, ok.kind, ok.glob, ok.blt, ok.above, ok.inj, ok.has, ok.cab, ok.hd, ok.frames, ok.stk, ok.exf, ok.bs, ok.bsz, ok.noex, ok.exfs, ok.funs, ok.frf⟩
theorem Cx.Ok.unwish {X : Cx} {E : Value → Shared → Prop} (ok : (X.wish E).Ok) : X.Ok :=
  ⟨ok.mod, ok.kind, ok.glob, ok.blt, ok.above, ok.inj, ok.has, ok.cab, ok.hd, ok.frames, ok.stk, ok.exf, ok.bs, ok.bsz, ok.noex, ok.exfs, ok.funs, ok.frf⟩
section
variable {X : Cx} {pins : List (Addr × Obj)} {σ : St} {H : Hp} {s : Shared} {E : Value → Shared → Prop}
theorem Inv.wish (I : Inv X pins σ H s) (E : Value → Shared → Prop) : Inv (X.wish E) pins σ H s := ⟨I.ok.wish E, I.os, I.bare, I.base, I.loc, I.cell, I.free, I.freeC, I.pin, I.hok, I.len⟩
theorem Inv.unwish (I : Inv (X.wish E) pins σ H s) : Inv X pins σ H s := ⟨I.ok.unwish, I.os, I.bare, I.base, I.loc, I.cell, I.free, I.freeC, I.pin, I.hok, I.len⟩
theorem SP.unwish {D : Ends} {f : Flow} {s' : Shared} (h : SP (X.wish E) pins D f s') : SP X pins D f s' := by
  cases f with
  | next => obtain ⟨σ', H', I, q⟩ := h; exact ⟨σ', H', I.unwish, q⟩
  | brk => obtain ⟨σ', H', I, q⟩ := h; exact ⟨σ', H', I.unwish, q⟩
  | cont => obtain ⟨σ', H', I, q⟩ := h; exact ⟨σ', H', I.unwish, q⟩
  | ret u => obtain ⟨v, σ', H', I, r, q⟩ := h; exact ⟨v, σ', H', I.unwish, r, q⟩
theorem PE.nox {e : Expr} {t : TE} (h : PE X.nox e t) : PE X e t := fun pins s σ H Q I hw =>
  wpAny_mono (h pins s σ H Q (I.wish _) hw) (fun _ _ ⟨v, H', I', r, q⟩ => ⟨v, H', I'.unwish, r, q⟩) fun _ _ z => False.elim z
theorem PT.nox {e : Expr} {t : TT} (h : PT X.nox e t) : PT X e t := fun pins s σ H Q I hw =>
  wpAny_mono (h pins s σ H Q (I.wish _) hw) (fun _ _ ⟨H', I', q⟩ => ⟨H', I'.unwish, q⟩) fun _ _ z => False.elim z
theorem PSs.nox {st : List Stmt} {t : TS} (h : PSs X.nox st t) : PSs X st t := fun pins s σ H D I hw =>
  wpAny_mono (h pins s σ H D (I.wish _) hw) (fun _ _ q => q.unwish) fun _ _ z => False.elim z
end

/-! ### blocks and small statements -/
section
variable {X : Cx} {st : Stmt} {rest : List Stmt} {t u : TS} {e : Expr} {te : TE} {pos : Pos}
def tNext : TS := fun D σ H => D.nx σ H
def tSeq (t u : TS) : TS := fun D σ H => t { D with nx := u D } σ H
theorem pss_nil : PSs X [] tNext := fun _ _ σ H _ I h => wpAny_execs_nil ⟨σ, H, I, h⟩
theorem pss_cons (h1 : PS X st t) (h2 : PSs X rest u) : PSs X (st :: rest) (tSeq t u) := by
  intro pins s σ H D I h
  refine wpAny_execs_cons (thn (h1 pins s σ H { D with nx := u D } I h) fun f s1 q => ?_)
  cases f with
  | next =>
    obtain ⟨σ', H', I', q⟩ := q
    exact h2 pins s1 σ' H' D I' q
  | ret v => exact q
  | brk => exact q
  | cont => exact q
theorem pss_one (h1 : PS X st t) : PSs X [st] t := by
  intro pins s σ H D I h
  refine wpAny_execs_cons (thn (h1 pins s σ H D I h) fun f s1 q => ?_)
  cases f with
  | next => exact wpAny_execs_nil q
  | ret v => exact q
  | brk => exact q
  | cont => exact q
def tBreak : TS := fun D σ H => D.bk σ H
def tCont : TS := fun D σ H => D.ct σ H
theorem ps_pass : PS X (.Pass pos) tNext := fun _ _ σ H _ I h => wpAny_Pass ⟨σ, H, I, h⟩
theorem ps_break : PS X (.Break pos) tBreak := fun _ _ σ H _ I h => wpAny_Break ⟨σ, H, I, h⟩
theorem ps_continue : PS X (.Continue pos) tCont := fun _ _ σ H _ I h => wpAny_Continue ⟨σ, H, I, h⟩
/-- in a def's body nothing is shown -/
theorem Inv.quiet {pins : List (Addr × Obj)} {σ : St} {H : Hp} {s : Shared} (I : Inv X pins σ H s) : interactive X.env = false := by simp [interactive, I.ok.kind]
/-- a docstring -/
theorem ps_doc {x j pos pos'} : PS X (.Expr (.Constant (.str x) j pos) pos') tNext := fun _ s σ H _ I h => wpAny_Expr (Calls.Constant_str (show SP X _ _ .next { s with toks := s.toks + 1 } from ⟨σ, H, I.tok _, h⟩)) I.quiet
/-- an expression whose value is dropped -/
def tDrop (te : TE) : TS := fun D σ H => te σ H fun _ H1 => D.nx σ H1
theorem ps_expr (he : PE X e te) (hs : swapsWith e none pos.line X.env = pure false := by rfl) : PS X (.Expr e pos) (tDrop te) := by
  intro pins s σ H D I h
  exact wpAny_Expr_any (thn (he pins s σ H _ I h) fun v s1 ⟨x, H1, I1, r1, q1⟩ => ⟨σ, H1, I1, q1⟩) I.quiet hs
def tRet (te : TE) : TS := fun D σ H => te σ H D.rt
theorem ps_ret (he : PE X e te) : PS X (.Return (some e) pos) (tRet te) := by
  intro pins s σ H D I h
  exact wpAny_Return_some (thn (he pins s σ H _ I h) fun v s1 ⟨x, H1, I1, r1, q1⟩ => ⟨x, σ, H1, I1, r1, q1⟩)
def tRetN : TS := fun D _ H => D.rt .non H
theorem ps_retN : PS X (.Return none pos) tRetN := fun _ _ σ H _ I h => wpAny_Return_none ⟨.non, σ, H, I, rfl, h⟩
def tIfS (c : TT) (t u : TS) : TS := fun D σ H => c σ H fun b H1 => if b = true then t D σ H1 else u D σ H1
theorem ps_if {c : Expr} {a b : List Stmt} {tc : TT} (hc : PT X c tc) (ha : PSs X a t) (hb : PSs X b u) : PS X (.If c a b pos) (tIfS tc t u) := by
  intro pins s σ H D I h
  refine wpAny_If (thn (hc pins s σ H _ I h) fun d s1 ⟨H1, I1, q1⟩ => ?_)
  cases d with
  | true => exact ha pins s1 σ H1 D I1 q1
  | false => exact hb pins s1 σ H1 D I1 q1
/-- code that the proof never comes to -/
def tNever : TS := fun _ _ _ => False
theorem ps_never : PS X st tNever := fun _ _ _ _ _ _ h => h.elim
theorem pss_never {sts : List Stmt} : PSs X sts tNever := fun _ _ _ _ _ _ h => h.elim
end

/-! ### targets -/
abbrev TG := V → St → Hp → (St → Hp → Prop) → Prop
abbrev TGs := List V → St → Hp → (St → Hp → Prop) → Prop
def PG (X : Cx) (target : Expr) (t : TG) : Prop :=
  ∀ (pins : List (Addr × Obj)) (s : Shared) (σ : St) (H : Hp) (v : V) (u : Value) (Q : St → Hp → Prop), Inv X pins σ H s → RelV v u → t v σ H Q →
    wpAny (model X.prog X.w) X.A (assign target X.env u) (fun _ s' => ∃ σ' H', Inv X pins σ' H' s' ∧ Q σ' H') X.xe s
/-- several targets, one after another -/
def PGs (X : Cx) (ts : List Expr) (t : TGs) : Prop :=
  ∀ (pins : List (Addr × Obj)) (s : Shared) (σ : St) (H : Hp) (vs : List V) (us : List Value) (Q : St → Hp → Prop), Inv X pins σ H s → Vals vs us → t vs σ H Q →
    wpAny (model X.prog X.w) X.A (assignInOrder ((assignEach ts X.env).map (·.2)) us) (fun _ s' => ∃ σ' H', Inv X pins σ' H' s' ∧ Q σ' H') X.xe s
/-- o[i] = v, by values -/
abbrev TSet := V → V → V → Hp → (Hp → Prop) → Prop
def PSet (X : Cx) (t : TSet) : Prop :=
  ∀ (pins : List (Addr × Obj)) (s : Shared) (σ : St) (H : Hp) (o i v : V) (ov iv u : Value) (Q : Hp → Prop), Inv X pins σ H s → RelV o ov → RelV i iv → RelV v u → t o i v H Q →
    wpAny (model X.prog X.w) X.A (setItem ov iv u) (fun _ s' => ∃ H', Inv X pins σ H' s' ∧ Q H') X.xe s
/-- a op= b, by values -/
abbrev TIp := V → V → Hp → VK → Prop
def PIp (X : Cx) (op : Operator) (t : TIp) : Prop :=
  ∀ (pins : List (Addr × Obj)) (s : Shared) (σ : St) (H : Hp) (x y : V) (v u : Value) (Q : VK), Inv X pins σ H s → RelV x v → RelV y u → t x y H Q →
    wpAny (model X.prog X.w) X.A (inplaceOp op v u) (EP X pins σ Q) X.xe s
section
variable {X : Cx} {pos : Pos}
def gName (i : Nat) : TG := fun v σ H Q => Q (σ.set i (some v)) H
theorem pg_name {i : Nat} {x : Str} (hN : X.N.Nodup) (hi : X.N[i]? = some x) (hx : Loc X.env.scope x) (hf : X.fn x = true ∨ X.env.scope.names.lookup x = some .local := by first | exact .inl rfl | exact .inr rfl | assumption) : PG X (.Name x pos) (gName i) := by
  intro pins s σ H v u Q I r h
  exact wpAny_assign_Name (store_ok I hN hi hx r (fun s' I' => ⟨_, H, I', h⟩) hf)
def gNil : TGs := fun vs σ H Q => vs = [] ∧ Q σ H
def gCons (t : TG) (u : TGs) : TGs := fun vs σ H Q => ∃ v r, vs = v :: r ∧ t v σ H fun σ' H' => u r σ' H' Q
theorem pgs_nil : PGs X [] gNil := by
  intro pins s σ H vs us Q I r h
  obtain ⟨e, h⟩ := h
  subst e
  cases r
  exact assignInOrder_nil ⟨σ, H, I, h⟩
theorem pgs_cons {e : Expr} {es : List Expr} {t : TG} {u : TGs} (h1 : PG X e t) (h2 : PGs X es u)
    (hs : (assignEach (e :: es) X.env).map (·.2) = assign e X.env :: (assignEach es X.env).map (·.2) := by rfl) : PGs X (e :: es) (gCons t u) := by
  intro pins s σ H vs us Q I r h
  obtain ⟨v, vr, e1, h⟩ := h
  subst e1
  cases r with
  | cons r rr =>
    rw [hs]
    refine assignInOrder_cons (thn (h1 pins s σ H _ _ _ I r h) fun _ s1 ⟨σ1, H1, I1, q1⟩ => ?_)
    exact h2 pins s1 σ1 H1 _ _ Q I1 rr q1
/-- (a, b, ..) = a tuple of that length -/
def gTup (K : PySem.W.Frag) (n : Nat) (t : TGs) : TG := fun v σ H Q => ∃ a xs, v = .ref a ∧ SqT K H a xs ∧ xs.length = n ∧ t xs σ H Q
theorem pg_tup {es : List Expr} {k : Nat} {t : TGs} {n : Nat} (hc : X.calm = true) (h : PGs X es t)
    (hn : (assignEach es X.env).length = n := by rfl) (hst : (assignEach es X.env).findIdx? (·.1) = none := by rfl) : PG X (.Tuple es k pos) (gTup X.K n t) := by
  intro pins s σ H v u Q I r hw
  obtain ⟨a, xs, e1, hq, hl, hw⟩ := hw
  subst e1
  cases r
  obtain ⟨its, rv, ht, hz⟩ := I.tuple hq
  refine assign_Tuple_tuple (I.ok.hd hc) ht (by simp [hn, ← hl, rv.length]) hst fun h' hx => ?_
  have I1 : Inv X pins σ H { s with heap := h' } := I.kept (t' := s.toks) fun b o e => hx b o (Nat.ne_of_lt (Heap.lt_size e)) e
  exact h pins _ σ H xs _ Q I1 (by simpa using rv) hw
/-- o[i] = .. -/
def gSub (to ti : TE) (t : TSet) : TG := fun v σ H Q => to σ H fun o H1 => ti σ H1 fun i H2 => t o i v H2 fun H3 => Q σ H3
theorem pg_sub {o i : Expr} {to ti : TE} {t : TSet} (ho : PE X o to) (hi : PE X i ti) (hs : PSet X t)
    (ha : ∀ v, assign (.Subscript o i pos) X.env v = (do
      let ov ← holding [v] (eval o X.env)
      let iv ← holding [v, ov] (eval i X.env)
      standAt pos
      holding [v, ov, iv] (setItem ov iv v)
      release [v, ov, iv] []) := by intro _; rfl) : PG X (.Subscript o i pos) (gSub to ti t) := by
  intro pins s σ H v u Q I r h
  rw [ha]
  refine wpAny_bind (wpAny_holding (thn (ho pins s σ H _ I h) fun ov s1 ⟨x, H1, I1, r1, q1⟩ => ?_))
  refine wpAny_bind (wpAny_holding (thn (hi pins s1 σ H1 _ I1 q1) fun iv s2 ⟨y, H2, I2, r2, q2⟩ => ?_))
  refine wpAny_bind (wpAny_standAt (wpAny_bind (wpAny_holding (thn (hs pins s2 σ H2 x y v ov iv u _ I2 r1 r2 r q2) fun _ s3 ⟨H3, I3, q3⟩ => ?_))))
  exact wpAny_release ⟨σ, H3, I3, q3⟩
/-- target = value -/
def tAsg (te : TE) (g : TG) : TS := fun D σ H => te σ H fun x H1 => g x σ H1 D.nx
theorem ps_asg {tg e : Expr} {te : TE} {g : TG} (he : PE X e te) (hg : PG X tg g) (hs : swapsWithSole [tg] e pos.line X.env = pure false := by rfl) (hw : swappedStores [tg] e X.env = pure none := by rfl)
    (h1 : (assignEach [tg] X.env).map (·.2) = [assign tg X.env] := by rfl) : PS X (.Assign [tg] e pos) (tAsg te g) := by
  intro pins s σ H D I h
  refine wpAny_Assign_stores (thn (he pins s σ H _ I h) fun v s1 ⟨x, H1, I1, r1, q1⟩ => ?_) hs hw
  rw [h1]
  exact thn (hg pins s1 σ H1 x v _ I1 r1 q1) fun _ s2 q => q
/-- name = value -/
theorem ps_set {i : Nat} {x : Str} {e : Expr} {te : TE} {pos' : Pos} (hN : X.N.Nodup) (hi : X.N[i]? = some x) (hx : Loc X.env.scope x) (he : PE X e te) (hs : swapsWith e (some (.Name x pos')) pos.line X.env = pure false := by rfl) (hf : X.fn x = true ∨ X.env.scope.names.lookup x = some .local := by first | exact .inl rfl | exact .inr rfl | assumption) :
    PS X (.Assign [.Name x pos'] e pos) (tAsg te (gName i)) := by
  intro pins s σ H D I h
  refine wpAny_Assign_Name (thn (he pins s σ H _ I h) fun v s1 ⟨y, H1, I1, r1, q1⟩ => ?_) hs
  exact store_ok I1 hN hi hx r1 (fun s2 I2 => ⟨_, H1, I2, q1⟩) hf
/-- a, b = x, y with plain local names: stored from the right; the pair itself is not tracked (the opening rows as in PyProof/Rows/TupAssign.lean:23) -/
def tPar (i j : Nat) (ta : TA) : TS := fun D σ H => ta σ H fun vs H1 => ∃ v w, vs = [v, w] ∧ D.nx ((σ.set i (some v)).set j (some w)) H1
theorem ps_par {i j : Nat} {x y : Str} {a b : Expr} {ta : TA} {px py pt : Pos} {kt k2 pt2} (hc : X.calm = true) (hN : X.N.Nodup) (hi : X.N[i]? = some x) (hj : X.N[j]? = some y) (hij : i ≠ j)
    (hx : X.env.scope.names.lookup x = some .local) (hy : X.env.scope.names.lookup y = some .local) (ha : PA X [a, b] ta)
    (hw : swappedStores [.Tuple [.Name x px, .Name y py] kt pt] (.Tuple [a, b] k2 pt2) X.env = pure (some [x, y]))
    (hs : swapsWithSole [.Tuple [.Name x px, .Name y py] kt pt] (.Tuple [a, b] k2 pt2) pos.line X.env = pure false := by rfl) :
    PS X (.Assign [.Tuple [.Name x px, .Name y py] kt pt] (.Tuple [a, b] k2 pt2) pos) (tPar i j ta) := by
  intro pins s σ H D I h
  rw [exec_Assign_arm]
  refine wpAny_bind (wpAny_standAt ?_)
  rw [hs]
  refine wpAny_bind (wpAny_pure ?_)
  rw [if_neg (by decide)]
  refine wpAny_bind (Tuple_ (thn (ha _ pins s σ H _ I h) fun us s1 ⟨vs, H1, I1, r1, q1⟩ => ?_))
  obtain ⟨v, w, e1, q1⟩ := q1
  subst e1
  obtain ⟨u1, u2, rfl, rv, rw'⟩ : ∃ u1 u2, us = [u1, u2] ∧ RelV v u1 ∧ RelV w u2 := by
    cases r1 with
    | cons p q =>
      cases q with
      | cons p' q' =>
        cases q'
        exact ⟨_, _, rfl, p, p'⟩
  refine wpAny_newObj_type ?_ (by show 2 ≤ sizeLine; decide)
  have I2 : Inv X pins σ H1 { s1 with heap := s1.heap.push { cls := .type "tuple", data := .seq [u1, u2].toArray } } := I1.kept (t' := s1.toks) fun b o e => Heap.get?_push_of_some _ e
  rw [hw]
  refine wpAny_bind (wpAny_pure ?_)
  show wpAny (model X.prog X.w) X.A (do rule "assign.swapped-stores"; let items ← unpackItems (.ref s1.heap.objs.size) 2 none; assignInOrder [fun v => bindName X.env y v, fun v => bindName X.env x v] items.reverse; pure Flow.next) _ _ _
  refine wpAny_bind (wpAny_rule (wpAny_bind (unpackItems_tuple (items := #[u1, u2]) (I.ok.hd hc) (IsTup.new s1.heap _) fun h' hx' => ?_)))
  have I3 := I2.kept (h' := h') (t' := s1.toks) fun b o e => hx' b o (Nat.ne_of_lt (Heap.lt_size e)) e
  show wpAny _ _ (assignInOrder [fun v => bindName X.env y v, fun v => bindName X.env x v] [u2, u1] >>= fun _ => pure Flow.next) _ _ _
  refine wpAny_bind (assignInOrder_cons (wpAny_bindName (store_ok I3 hN hj (.inl hy) rw' (fun s2 I4 => ?_) (.inr hy))))
  refine assignInOrder_cons (wpAny_bindName (store_ok I4 hN hi (.inl hx) rv (fun s3 I5 => assignInOrder_nil (wpAny_pure ?_)) (.inr hx)))
  rw [List.set_comm _ _ (Ne.symm hij)] at I5
  exact ⟨_, H1, I5, q1⟩
/-- name op= e -/
def tAug (i : Nat) (te : TE) (ti : TIp) : TS := fun D σ H => ∃ x, σ[i]? = some (some x) ∧ te σ H fun y H1 => ti x y H1 fun z H2 => D.nx (σ.set i (some z)) H2
theorem ps_aug {i : Nat} {x : Str} {e : Expr} {te : TE} {op : Operator} {ti : TIp} {pos' : Pos} (hN : X.N.Nodup) (hi : X.N[i]? = some x) (hx : Loc X.env.scope x) (he : PE X e te) (ho : PIp X op ti) (hf : X.fn x = true ∨ X.env.scope.names.lookup x = some .local := by first | exact .inl rfl | exact .inr rfl | assumption) :
    PS X (.AugAssign (.Name x pos') op e pos) (tAug i te ti) := by
  intro pins s σ H D I h
  obtain ⟨v, e1, h⟩ := h
  obtain ⟨m, hn, hl⟩ := I.loc
  have vis : Vis X.env.scope x := by rcases hx with k | k; exact .inl k; exact .inr (.inl k)
  obtain ⟨u, r, l⟩ := hl i x v hi e1 vis
  refine wpAny_AugAssign_Name ?_
  have go : wpAny (model X.prog X.w) X.A (eval e X.env) (fun w s₂ => wpAny (model X.prog X.w) X.A (inplaceOp op u w) (fun r s₃ => wpAny (model X.prog X.w) X.A (storeName X.env x r) (fun _ => SP X pins D .next) X.xe s₃) X.xe s₂) X.xe s := by
    refine thn (he pins s σ H _ I h) fun w s1 ⟨y, H1, I1, r1, q1⟩ => ?_
    refine thn (ho pins s1 σ H1 v y u w _ I1 r r1 q1) fun z s2 ⟨zv, H2, I2, r2, q2⟩ => ?_
    exact store_ok I2 hN hi hx r2 (fun s3 I3 => ⟨_, H2, I3, q2⟩) hf
  rcases l with ⟨hk, hm⟩ | ⟨hk, c, hc, hcell⟩
  · exact wpAny_loadName_local I.ok.kind hk hn hm go
  · rcases hk with hk | hk
    · exact wpAny_loadName_cell I.ok.kind hk hc hcell go
    · rcases hx with k | k
      · have : X.env.scope.names.lookup x = some .free := hk
        rw [k] at this; cases this
      · have : X.env.scope.names.lookup x = some .free := hk
        rw [k] at this; cases this
/-- o[i] op= e -/
def tAugS (to ti te : TE) (tget : V → V → Hp → VK → Prop) (tip : TIp) (tset : TSet) : TS := fun D σ H => to σ H fun o H1 => ti σ H1 fun i H2 => tget o i H2 fun x H3 => te σ H3 fun y H4 => tip x y H4 fun z H5 => tset o i z H5 fun H6 => D.nx σ H6
/-- o[i], by values -/
def PGet (X : Cx) (t : V → V → Hp → VK → Prop) : Prop :=
  ∀ (pins : List (Addr × Obj)) (s : Shared) (σ : St) (H : Hp) (o i : V) (ov iv : Value) (Q : VK), Inv X pins σ H s → RelV o ov → RelV i iv → t o i H Q →
    wpAny (model X.prog X.w) X.A (getItem ov iv) (EP X pins σ Q) X.xe s
theorem ps_augS {o i e : Expr} {to ti te : TE} {tget : V → V → Hp → VK → Prop} {tip : TIp} {tset : TSet} {op : Operator} {tpos : Pos} (ho : PE X o to) (hi : PE X i ti) (hg : PGet X tget) (he : PE X e te) (hp : PIp X op tip) (hs : PSet X tset)
    (ha : ∀ ov iv new, augStore i ov iv new = (do holding [new, ov, iv] (setItem ov iv new); release [new, ov, iv] []; pure .next) := by intros; rfl) : PS X (.AugAssign (.Subscript o i tpos) op e pos) (tAugS to ti te tget tip tset) := by
  intro pins s σ H D I h
  refine wpAny_AugAssign_SubscriptAny (thn (ho pins s σ H _ I h) fun ov s1 ⟨x1, H1, I1, r1, q1⟩ => ?_) ha
  refine thn (hi pins s1 σ H1 _ I1 q1) fun iv s2 ⟨x2, H2, I2, r2, q2⟩ => ?_
  refine thn (hg pins s2 σ H2 x1 x2 ov iv _ I2 r1 r2 q2) fun old s3 ⟨x3, H3, I3, r3, q3⟩ => ?_
  refine thn (he pins s3 σ H3 _ I3 q3) fun v s4 ⟨x4, H4, I4, r4, q4⟩ => ?_
  refine thn (hp pins s4 σ H4 x3 x4 old v _ I4 r3 r4 q4) fun new s5 ⟨x5, H5, I5, r5, q5⟩ => ?_
  exact thn (hs pins s5 σ H5 x1 x2 x5 ov iv new _ I5 r1 r2 r5 q5) fun _ s6 ⟨H6, I6, q6⟩ => ⟨σ, H6, I6, q6⟩
/-- ints -/
def ipI (f : Int → Int → Int) : TIp := fun x y H Q => ∃ i j, x = .int i ∧ y = .int j ∧ Q (.int (f i j)) H
theorem ip_add : PIp X .Add (ipI fun i j => i + j) := by
  intro pins s σ H x y v u Q I r1 r2 h
  obtain ⟨i, j, e1, e2, q⟩ := h
  subst e1; subst e2
  obtain ⟨t, rfl⟩ := r1
  obtain ⟨t', rfl⟩ := r2
  exact iadd_int ⟨.int _, H, I.tok _, ⟨_, rfl⟩, q⟩
theorem ip_sub : PIp X .Sub (ipI fun i j => i - j) := by
  intro pins s σ H x y v u Q I r1 r2 h
  obtain ⟨i, j, e1, e2, q⟩ := h
  subst e1; subst e2
  obtain ⟨t, rfl⟩ := r1
  obtain ⟨t', rfl⟩ := r2
  exact isub_int ⟨.int _, H, I.tok _, ⟨_, rfl⟩, q⟩
end

/-! ### while -/
section
variable {X : Cx} {pos : Pos}
/-- the invariant W with its measure -/
def tWhile (c : TT) (tb : TS) : TS := fun D σ H => ∃ W : Nat → St → Hp → Prop, (∃ m, W m σ H) ∧ ∀ m σ H, W m σ H →
  c σ H fun b H1 => if b = true then ∃ N : St → Hp → Prop, (∀ σ' H', N σ' H' → ∃ m', m' < m ∧ W m' σ' H') ∧ tb { D with nx := N, ct := N, bk := D.nx } σ H1 else D.nx σ H1
theorem ps_while {c : Expr} {body : List Stmt} {tc : TT} {tb : TS} (hp : PassesOwn (model X.prog X.w) X.A X.env X.xe) (hc : PT X c tc) (hb : PSs X body tb) : PS X (.While c body [] pos) (tWhile tc tb) := by
  intro pins s σ H D I h
  obtain ⟨W, ⟨m0, w0⟩, turn⟩ := h
  refine wpAny_While (codeAny_whileLoop (fun n s' => ∃ σ' H', Inv X pins σ' H' s' ∧ W n σ' H') ?_ m0 ⟨σ, H, I, w0⟩)
  rintro n s1 ⟨σ1, H1, I1, w1⟩
  refine wpAny_passesOwn hp (thn (hc pins s1 σ1 H1 _ I1 (turn n σ1 H1 w1)) fun b s2 ⟨H2, I2, q2⟩ => ?_)
  cases b with
  | true =>
    obtain ⟨N, hN, q2⟩ := q2
    rw [if_pos rfl]
    refine wpAny_passesOwn hp (thn (hb pins s2 σ1 H2 _ I2 q2) fun f s3 q3 => ?_)
    cases f with
    | next =>
      obtain ⟨σ3, H3, I3, n3⟩ := q3
      obtain ⟨m', hm, w3⟩ := hN σ3 H3 n3
      exact ⟨m', hm, σ3, H3, I3, w3⟩
    | cont =>
      obtain ⟨σ3, H3, I3, n3⟩ := q3
      obtain ⟨m', hm, w3⟩ := hN σ3 H3 n3
      exact ⟨m', hm, σ3, H3, I3, w3⟩
    | brk => exact q3
    | ret v => exact q3
  | false =>
    rw [if_neg Bool.false_ne_true]
    exact wpAny_execs_nil ⟨σ1, H2, I2, q2⟩
end

/-! ### what a loop or a comprehension walks -/
/-- at turn i: it yields x (the heap may grow), or it stops -/
structure It where
  go : Nat → Hp → Prop
  yld : Nat → Hp → V → Hp → Prop
  stop : Nat → Hp → Prop
/-- the iterator's own objects may turn: they are not the frame's, not pinned, younger than the entry (or a comprehension's own) -/
def FpOk (X : Cx) (pins : List (Addr × Obj)) (H : Hp) (b : Addr) : Prop :=
  H b = none ∧ b ≠ X.env.locals ∧ b ∉ X.fs ∧ (b ∈ X.ex ∨ X.s₀.heap.objs.size ≤ b) ∧ (∀ x c, X.env.cells.lookup x = some c → c ≠ b) ∧ ∀ p ∈ X.pn ++ pins, p.1 ≠ b
theorem Inv.fpOk {X : Cx} {pins : List (Addr × Obj)} {σ : St} {H H' : Hp} {s : Shared} {b : Addr} (I : Inv X pins σ H s) (hb : s.heap.objs.size ≤ b) (hn : H' b = none) : FpOk X pins H' b := by
  refine ⟨hn, Nat.ne_of_gt (Nat.lt_of_lt_of_le I.lt hb), I.nofs hb, .inr (Nat.le_trans I.sz hb), fun x c e z => ?_, fun p hp z => ?_⟩
  · obtain ⟨v, q⟩ := I.cell x c e
    exact absurd (Nat.lt_of_lt_of_le q.lt (by rw [z]; exact hb)) (Nat.lt_irrefl _)
  · exact absurd (Nat.lt_of_lt_of_le (Heap.lt_size (I.pin p hp).1) (by rw [z]; exact hb)) (Nat.lt_irrefl _)
structure Turn (P : Program) (w : World) (K : PySem.W.Frag) (tg : Expr) (J : It) (fp : List Addr) (it : Addr) (tn : Nat → Heap → Prop) : Prop where
  mem : it ∈ fp
  obj : ∀ i h, tn i h → ∀ b ∈ fp, ∃ o, h.get? b = some o ∧ ∀ v, o.data ≠ .cell v
  keep : ∀ i h h', tn i h → (∀ b ∈ fp, ∀ o, h.get? b = some o → h'.get? b = some o) → tn i h'
  item : ∀ (X : Cx), X.prog = P → X.w = w → X.K = K → X.calm = true → ∀ (i : Nat) (pins : List (Addr × Obj)) (s : Shared) (σ : St) (H : Hp) (E : Value → Shared → Prop), Inv X pins σ H s → (∀ b ∈ fp, FpOk X pins H b) → tn i s.heap → J.go i H →
    wpAny (model P w) X.A (pyNext (.ref it)) (fun r s1 => ∃ u, r = some u ∧
      wpAny (model P w) X.A (letOwnedTupleGo tg (.ref it) u) (fun _ s2 => ∃ x H', Inv X pins σ H' s2 ∧ RelV x u ∧ J.yld i H x H' ∧ tn (i + 1) s2.heap ∧ ∀ b ∈ fp, H' b = none) E s1) E s
  done : ∀ (X : Cx), X.prog = P → X.w = w → X.K = K → X.calm = true → ∀ (i : Nat) (pins : List (Addr × Obj)) (s : Shared) (σ : St) (H : Hp) (E : Value → Shared → Prop), Inv X pins σ H s → (∀ b ∈ fp, FpOk X pins H b) → tn i s.heap → J.stop i H →
    wpAny (model P w) X.A (pyNext (.ref it)) (fun r s1 => r = none ∧ Inv X pins σ H s1) E s
  self : ∀ (A : Around) (i : Nat) (s : Shared) (Q : Value → Shared → Prop) (E : Value → Shared → Prop), tn i s.heap → Q (.ref it) s → wpAny (model P w) A (pyIter (.ref it)) Q E s
abbrev TI := St → Hp → (It → Hp → Prop) → Prop
/-- an iterator has come -/
def PIE (X : Cx) (pins : List (Addr × Obj)) (σ : St) (tg : Expr) (R : It → Hp → Prop) (itv : Value) (s2 : Shared) : Prop :=
  ∃ (it : Addr) (fp : List Addr) (tn : Nat → Heap → Prop) (J : It) (H' : Hp), itv = .ref it ∧ Inv X pins σ H' s2 ∧ Turn X.prog X.w X.K tg J fp it tn ∧ tn 0 s2.heap ∧ (∀ b ∈ fp, FpOk X pins H' b) ∧ R J H'
def PI (X : Cx) (tg iter : Expr) (wi : TI) : Prop :=
  ∀ (pins : List (Addr × Obj)) (s : Shared) (σ : St) (H : Hp) (R : It → Hp → Prop), Inv X pins σ H s → wi σ H R →
    wpAny (model X.prog X.w) X.A (eval iter X.env) (fun v s1 => wpAny (model X.prog X.w) X.A (pyIter v) (PIE X pins σ tg R) X.xe s1) X.xe s

/-- the step ahead of the store is nothing for an iterator that keeps no tuple -/
theorem go_of {M : Model} {A : Around} {E : Value → Shared → Prop} {s : Shared} {tg : Expr} {it : Addr} {u : Value} {o : Obj} {n : String} {vs : Array Value} {Q : Unit → Shared → Prop} (ho : s.heap.get? it = some o) (hc : o.cls = .type n) (hd : o.data = .fields vs)
    (hn : ["enumerate", "zip", "dict_itemiterator", "dict_reverseitemiterator", "odict_iterator", "itertools.zip_longest", "itertools.pairwise"].contains n = false) (hQ : Q () s) : wpAny M A (letOwnedTupleGo tg (.ref it) u) Q E s := by
  unfold letOwnedTupleGo
  cases tg <;> first
    | exact wpAny_pure hQ
    | (cases u <;> first
        | exact wpAny_pure hQ
        | (refine wpAny_bind (wpAny_load ho ?_)
           rw [hc, hd]
           show wpAny M A (if (["enumerate", "zip", "dict_itemiterator", "dict_reverseitemiterator", "odict_iterator", "itertools.zip_longest", "itertools.pairwise"].contains n && vs[0]? == some (rawInt _)) = true then _ else _) Q E s
           rw [if_neg (by intro h; rw [hn, Bool.false_and] at h; cases h)]
           exact wpAny_pure hQ))

/-- the list at a, as it stands at each turn (a loop may append to it) -/
def Itl (K : PySem.W.Frag) (a : Addr) : It :=
  ⟨fun i H => ∃ xs x, SqL K H a xs ∧ xs[i]? = some x, fun i H x H' => H' = H ∧ ∀ xs, SqL K H a xs → xs[i]? = some x, fun i H => ∃ xs, SqL K H a xs ∧ xs.length ≤ i⟩
def Itt (K : PySem.W.Frag) (a : Addr) : It :=
  ⟨fun i H => ∃ xs x, SqT K H a xs ∧ xs[i]? = some x, fun i H x H' => H' = H ∧ ∀ xs, SqT K H a xs → xs[i]? = some x, fun i H => ∃ xs, SqT K H a xs ∧ xs.length ≤ i⟩
/-- lo, lo + 1, .. (n of them) -/
def Itr (lo : Int) (n : Nat) : It := ⟨fun i _ => i < n, fun i H x H' => H' = H ∧ x = .int (lo + i), fun i _ => n ≤ i⟩
theorem turn_list {P : Program} {w : World} {K : PySem.W.Frag} {tg : Expr} (a it : Addr) : Turn P w K tg (Itl K a) [it] it (fun i h => h.IsListIter it a i) where
  mem := by simp
  obj := fun i h st b hb => by
    have e : b = it := by simpa using hb
    subst e
    obtain ⟨o, e, c, d⟩ := st
    exact ⟨o, e, fun v z => by rw [d] at z; cases z⟩
  keep := fun i h h' st k => st.at fun o e => k it (by simp) o e
  item := by
    intro X hP hw hK hc i pins s σ H E I hf st hg
    subst hP hw hK
    obtain ⟨xs, x, hq, hx⟩ := hg
    obtain ⟨its, rv, p, hz⟩ := I.list hq
    obtain ⟨u, hu, ru⟩ := rv.get hx
    obtain ⟨f0, f1, f2, f3, f4, f5⟩ := hf it (by simp)
    refine wpAny_pyNext_list_item st p.isList (x := u) (by simpa using hu) fun h' st' sb => ?_
    have I1 : Inv X pins σ H { s with heap := h' } := I.turned (t' := s.toks) (fun b o hb e => (sb.2 b hb).trans e) f0 f1 f3 f4 f5
    obtain ⟨o, e, c, d⟩ := id st'
    exact ⟨u, rfl, go_of (s := { s with heap := h' }) e c d (by decide) ⟨x, H, I1, ru, ⟨rfl, fun ys hy => by rw [I.list_inj hy hq]; exact hx⟩, st', fun b hb => (hf b hb).1⟩⟩
  done := by
    intro X hP hw hK hc i pins s σ H E I hf st hg
    subst hP hw hK
    obtain ⟨xs, hq, hx⟩ := hg
    obtain ⟨its, rv, p, hz⟩ := I.list hq
    obtain ⟨f0, f1, f2, f3, f4, f5⟩ := hf it (by simp)
    have hl := rv.length
    exact wpAny_pyNext_list_end (I.ok.hd hc) st p.isList (by simp; omega) fun h' eb => ⟨rfl, I.turned (t' := s.toks) (fun b o hb e => eb b o hb e) f0 f1 f3 f4 f5⟩
  self := fun _ _ _ _ _ st h => wpAny_pyIter_listiter st h
theorem turn_tuple {P : Program} {w : World} {K : PySem.W.Frag} {tg : Expr} (a it : Addr) : Turn P w K tg (Itt K a) [it] it (fun i h => h.IsTupleIter it a i) where
  mem := by simp
  obj := fun i h st b hb => by
    have e : b = it := by simpa using hb
    subst e
    obtain ⟨o, e, c, d⟩ := st
    exact ⟨o, e, fun v z => by rw [d] at z; cases z⟩
  keep := fun i h h' st k => st.at fun o e => k it (by simp) o e
  item := by
    intro X hP hw hK hc i pins s σ H E I hf st hg
    subst hP hw hK
    obtain ⟨xs, x, hq, hx⟩ := hg
    obtain ⟨its, rv, p, hz⟩ := I.tuple hq
    obtain ⟨u, hu, ru⟩ := rv.get hx
    obtain ⟨f0, f1, f2, f3, f4, f5⟩ := hf it (by simp)
    refine wpAny_pyNext_tuple_item st (show s.heap.IsTuple a its.toArray from p) (x := u) (by simpa using hu) fun h' st' sb => ?_
    have I1 : Inv X pins σ H { s with heap := h' } := I.turned (t' := s.toks) (fun b o hb e => (sb.2 b hb).trans e) f0 f1 f3 f4 f5
    obtain ⟨o, e, c, d⟩ := id st'
    exact ⟨u, rfl, go_of (s := { s with heap := h' }) e c d (by decide) ⟨x, H, I1, ru, ⟨rfl, fun ys hy => by rw [I.tuple_inj hy hq]; exact hx⟩, st', fun b hb => (hf b hb).1⟩⟩
  done := by
    intro X hP hw hK hc i pins s σ H E I hf st hg
    subst hP hw hK
    obtain ⟨xs, hq, hx⟩ := hg
    obtain ⟨its, rv, p, hz⟩ := I.tuple hq
    obtain ⟨f0, f1, f2, f3, f4, f5⟩ := hf it (by simp)
    have hl := rv.length
    exact wpAny_pyNext_tuple_end (I.ok.hd hc) st (show s.heap.IsTuple a its.toArray from p) (by simp; omega) fun h' eb => ⟨rfl, I.turned (t' := s.toks) (fun b o hb e => eb b o hb e) f0 f1 f3 f4 f5⟩
  self := fun _ _ _ _ _ st h => wpAny_pyIter_tupleiter st h
theorem turn_range {P : Program} {w : World} {K : PySem.W.Frag} {tg : Expr} (it : Addr) (lo : Int) (n : Nat) : Turn P w K tg (Itr lo n) [it] it (fun i h => IsRangeIter h it (lo + (i : Nat) * 1) ((n : Int) - (i : Nat)) 1) where
  mem := by simp
  obj := fun i h st b hb => by
    have e : b = it := by simpa using hb
    subst e
    exact ⟨_, st, fun v z => by
      have z' : Data.fields _ = Data.cell v := z
      cases z'⟩
  keep := fun i h h' st k => k it (by simp) _ st
  item := by
    intro X hP hw hK hc i pins s σ H E I hf st hg
    subst hP hw hK
    obtain ⟨f0, f1, f2, f3, f4, f5⟩ := hf it (by simp)
    have W := Walks.range (prog := X.prog) (w := X.w) (I.ok.hd hc) it lo 1 n
    refine W.item i s _ _ hg st fun v h' tk hv st' kk => ?_
    obtain ⟨t, rfl⟩ := hv
    have I1 : Inv X pins σ H { s with heap := h', toks := tk } := I.turned (fun b o hb e => kk b o (by simpa using hb) e) f0 f1 f3 f4 f5
    refine ⟨_, rfl, go_of (s := { s with heap := h', toks := tk }) (n := "range_iterator") st' rfl rfl (by decide) ⟨.int (lo + i), H, I1, ⟨t, ?_⟩, ⟨rfl, rfl⟩, st', fun b hb => (hf b hb).1⟩⟩
    rw [Int.mul_one]
  done := by
    intro X hP hw hK hc i pins s σ H E I hf st hg
    subst hP hw hK
    obtain ⟨f0, f1, f2, f3, f4, f5⟩ := hf it (by simp)
    exact wpAny_pyNext_range_end (I.ok.hd hc) st (by have : n ≤ i := hg; omega) fun h' eb => ⟨rfl, I.turned (t' := s.toks) (fun b o hb e => eb b o hb e) f0 f1 f3 f4 f5⟩
  self := fun _ _ _ _ _ st h => wpAny_pyIter_rangeiter st h
end L2

namespace L2
open PySem PySem.Spec PyProof.Rows
section
variable {X : Cx} {tg : Expr}
def iList (K : PySem.W.Frag) (tl : TE) : TI := fun σ H R => tl σ H fun x H1 => ∃ a, x = .ref a ∧ (∃ xs, SqL K H1 a xs) ∧ R (Itl K a) H1
def iTup (K : PySem.W.Frag) (tl : TE) : TI := fun σ H R => tl σ H fun x H1 => ∃ a, x = .ref a ∧ (∃ xs, SqT K H1 a xs) ∧ R (Itt K a) H1
theorem pi_list {l : Expr} {tl : TE} (hl : PE X l tl) : PI X tg l (iList X.K tl) := by
  intro pins s σ H R I h
  refine thn (hl pins s σ H _ I h) fun v s1 ⟨x, H1, I1, r1, q1⟩ => ?_
  obtain ⟨a, e, ⟨xs, hq⟩, q⟩ := q1
  subst e
  cases r1
  obtain ⟨its, rv, p, hz⟩ := I1.list hq
  refine wpAny_pyIter_list p.isList ?_
  refine ⟨s1.heap.objs.size, [s1.heap.objs.size], _, _, H1, rfl, I1.kept (t' := s1.toks) fun b o e => Heap.get?_push_of_some _ e, turn_list a _, ⟨_, Heap.get?_push_size _ rfl, rfl, rfl⟩, fun b hb => ?_, q⟩
  have e : b = s1.heap.objs.size := by simpa using hb
  subst e
  exact I1.fpOk (Nat.le_refl _) (I1.hok.fresh (Nat.le_refl _))
theorem pi_tup {l : Expr} {tl : TE} (hl : PE X l tl) : PI X tg l (iTup X.K tl) := by
  intro pins s σ H R I h
  refine thn (hl pins s σ H _ I h) fun v s1 ⟨x, H1, I1, r1, q1⟩ => ?_
  obtain ⟨a, e, ⟨xs, hq⟩, q⟩ := q1
  subst e
  cases r1
  obtain ⟨its, rv, p, hz⟩ := I1.tuple hq
  refine wpAny_pyIter_tuple (show s1.heap.IsTuple a its.toArray from p) ?_
  refine ⟨s1.heap.objs.size, [s1.heap.objs.size], _, _, H1, rfl, I1.kept (t' := s1.toks) fun b o e => Heap.get?_push_of_some _ e, turn_tuple a _, ⟨_, Heap.get?_push_size _ rfl, rfl, rfl⟩, fun b hb => ?_, q⟩
  have e : b = s1.heap.objs.size := by simpa using hb
  subst e
  exact I1.fpOk (Nat.le_refl _) (I1.hok.fresh (Nat.le_refl _))
/-- a range object just made, walked -/
theorem range_it {pins : List (Addr × Obj)} {σ : St} {H : Hp} {s : Shared} {R : It → Hp → Prop} {E : Value → Shared → Prop} {lo hi : Int} {t u v : Tok} {tk : Nat} (I : Inv X pins σ H s) (h1 : -(2 ^ 62) ≤ lo) (h2 : lo < 2 ^ 62) (h3 : -(2 ^ 62) ≤ hi) (h4 : hi < 2 ^ 62)
    (q : R (Itr lo (hi - lo).toNat) H) : wpAny (model X.prog X.w) X.A (pyIter (.ref s.heap.objs.size)) (PIE X pins σ tg R) E { s with heap := s.heap.push { cls := .type "range", data := .fields #[.int lo t, .int hi u, .int 1 v] }, toks := tk } := by
  refine wpAny_pyIter_range (IsRange.new ..) (small_one h1 h2 h3 h4) ?_
  have I1 : Inv X pins σ H { s with heap := s.heap.push { cls := .type "range", data := .fields #[.int lo t, .int hi u, .int 1 v] }, toks := tk } := I.kept fun b o e => Heap.get?_push_of_some _ e
  refine ⟨(s.heap.push { cls := .type "range", data := .fields #[.int lo t, .int hi u, .int 1 v] }).objs.size, [(s.heap.push { cls := .type "range", data := .fields #[.int lo t, .int hi u, .int 1 v] }).objs.size], _, _, H, rfl,
    I1.kept (t' := tk) fun b o e => Heap.get?_push_of_some _ e, turn_range _ lo (hi - lo).toNat, ?_, fun b hb => ?_, q⟩
  · have e1 : lo + ((0 : Nat) : Int) * 1 = lo := by simp
    have e2 : (((hi - lo).toNat : Nat) : Int) - ((0 : Nat) : Int) = Builtin.Range.rangeSize lo hi 1 := by rw [rangeSize_one]; split <;> omega
    show IsRangeIter _ _ (lo + ((0 : Nat) : Int) * 1) ((((hi - lo).toNat : Nat) : Int) - ((0 : Nat) : Int)) 1
    rw [e1, e2]
    exact Heap.get?_push_size _ rfl
  · have e : b = (s.heap.push { cls := .type "range", data := .fields #[.int lo t, .int hi u, .int 1 v] }).objs.size := by simpa using hb
    subst e
    exact I1.fpOk (Nat.le_refl _) (I1.hok.fresh (Nat.le_refl _))
def iRng1 (ta : TA) : TI := fun σ H R => ta σ H fun vs H1 => ∃ j : Int, vs = [.int j] ∧ -(2 ^ 62) ≤ j ∧ j < 2 ^ 62 ∧ R (Itr 0 j.toNat) H1
def iRng2 (ta : TA) : TI := fun σ H R => ta σ H fun vs H1 => ∃ i j : Int, vs = [.int i, .int j] ∧ (-(2 ^ 62) ≤ i ∧ i < 2 ^ 62 ∧ -(2 ^ 62) ≤ j ∧ j < 2 ^ 62) ∧ R (Itr i (j - i).toNat) H1
theorem pi_range1 {a : Expr} {ta : TA} {p pos : Pos} (hg : Gl X "range") (hm : X.mg "range" = none) (ha : PA X [a] ta) (hs : starEach [a] X.env = [(false, eval a X.env)] := by rfl) : PI X tg (.Call (.Name "range" p) [a] [] pos) (iRng1 ta) := by
  intro pins s σ H R I h
  refine Call_ (ld_blt I hg hm boot_range (PyProof.Rows.callWith_type1 (thn (ha pos pins s σ H _ I h) fun us s1 ⟨vs, H1, I1, r1, q1⟩ => ?_) hs rfl))
  obtain ⟨j, e, q1, q2, q⟩ := q1
  subst e
  cases r1 with
  | cons r rr =>
    cases rr
    obtain ⟨t, rfl⟩ := r
    exact call_range_1 (range_it I1 (by omega) (by omega) q1 q2 (by simpa using q))
theorem pi_range2 {a b : Expr} {ta : TA} {p pos : Pos} (hg : Gl X "range") (hm : X.mg "range" = none) (ha : PA X [a, b] ta) (hs : starEach [a, b] X.env = [(false, eval a X.env), (false, eval b X.env)] := by rfl) (hs2 : starEach [b] X.env = [(false, eval b X.env)] := by rfl) :
    PI X tg (.Call (.Name "range" p) [a, b] [] pos) (iRng2 ta) := by
  intro pins s σ H R I h
  refine Call_ (ld_blt I hg hm boot_range (PyProof.Rows.callWith_type1 (thn (ha pos pins s σ H _ I h) fun us s1 ⟨vs, H1, I1, r1, q1⟩ => ?_) (by rw [hs, hs2]) (by rw [hs2]; rfl)))
  obtain ⟨i, j, e, ⟨q1, q2, q3, q4⟩, q⟩ := q1
  subst e
  cases r1 with
  | cons r rr =>
    cases rr with
    | cons r' rr =>
      cases rr
      obtain ⟨t, rfl⟩ := r
      obtain ⟨t', rfl⟩ := r'
      exact call_range_2 (range_it I1 q1 q2 q3 q4 q)

/-! ### for -/
/-- W: the invariant by the turn and a measure; N: what the body is to reach -/
def tFor (wi : TI) (g : TG) (tb : TS) : TS := fun D σ H => wi σ H fun J H1 => ∃ W : Nat → Nat → St → Hp → Prop, (∃ m, W 0 m σ H1) ∧ ∀ i m σ H, W i m σ H →
  (J.stop i H ∧ D.nx σ H) ∨ (J.go i H ∧ ∃ N : St → Hp → Prop, (∀ σ' H', N σ' H' → ∃ m', m' < m ∧ W (i + 1) m' σ' H') ∧ ∀ x H', J.yld i H x H' → g x σ H' fun σ2 H2 => tb { D with nx := N, ct := N, bk := D.nx } σ2 H2)
/-- the records at fp as they stand -/
def pinsAt (fp : List Addr) (h : Heap) : List (Addr × Obj) := fp.filterMap fun b => (h.get? b).map fun o => (b, o)
theorem mem_pinsAt {fp : List Addr} {h : Heap} {b : Addr} {o : Obj} (hb : b ∈ fp) (e : h.get? b = some o) : (b, o) ∈ pinsAt fp h := List.mem_filterMap.mpr ⟨b, hb, by rw [e]; rfl⟩
theorem of_pinsAt {fp : List Addr} {h : Heap} {p : Addr × Obj} (hp : p ∈ pinsAt fp h) : p.1 ∈ fp ∧ h.get? p.1 = some p.2 := by
  obtain ⟨b, hb, e⟩ := List.mem_filterMap.mp hp
  cases q : h.get? b with
  | none => rw [q] at e; cases e
  | some o =>
    rw [q] at e
    have e' : (b, o) = p := Option.some.inj e
    subst e'
    exact ⟨hb, q⟩
theorem Inv.pinned {pins : List (Addr × Obj)} {σ : St} {H : Hp} {s : Shared} {fp : List Addr} (I : Inv X pins σ H s) (hf : ∀ b ∈ fp, FpOk X pins H b) (ho : ∀ b ∈ fp, ∃ o, s.heap.get? b = some o ∧ ∀ v, o.data ≠ .cell v) : Inv X (pins ++ pinsAt fp s.heap) σ H s :=
  I.pins_of fun p hp => (List.mem_append.mp hp).elim (fun z => I.pin p (List.mem_append_right _ z)) fun z => by
    obtain ⟨hb, e⟩ := of_pinsAt z
    obtain ⟨f0, f1, f2, _⟩ := hf p.1 hb
    obtain ⟨o, e', d⟩ := ho p.1 hb
    rw [e] at e'; cases e'
    exact ⟨e, f0, f1, f2, d⟩
theorem Inv.unpinned {pins pl : List (Addr × Obj)} {σ : St} {H : Hp} {s : Shared} (I : Inv X (pins ++ pl) σ H s) : Inv X pins σ H s := I.pins_of fun p hp => I.pin p (List.mem_append_right _ (List.mem_append_left _ hp))
theorem ps_for {iter : Expr} {body : List Stmt} {wi : TI} {g : TG} {tb : TS} {pos : Pos} (hp : PassesOwn (model X.prog X.w) X.A X.env X.xe) (hc : X.calm = true) (hi : PI X tg iter wi) (hg : PG X tg g) (hb : PSs X body tb)
    (hs : ∀ x, foldedSetIterable iter X.env x = pure x := by intro _; rfl) : PS X (.For tg iter body [] pos) (tFor wi g tb) := by
  intro pins s σ H D I h
  refine wpAny_For (thn (hi pins s σ H _ I h) fun v s1 h1 => thn h1 fun itv s2 h2 => ?_) hs
  obtain ⟨it, fp, tn, J, H2, e, I2, T, st2, f2, W, ⟨m0, w0⟩, turn⟩ := h2
  subst e
  -- what stays true of the iterator's objects through the loop
  have stat : ∀ {H' : Hp}, (∀ b ∈ fp, H' b = none) → ∀ b ∈ fp, FpOk X pins H' b := fun hn b hb => ⟨hn b hb, (f2 b hb).2⟩
  refine codeAny_forLoop_any (fun n s' => ∃ i σ' H', Inv X pins σ' H' s' ∧ tn i s'.heap ∧ (∀ b ∈ fp, H' b = none) ∧ W i n σ' H') ?_ m0 ⟨0, σ, H2, I2, st2, fun b hb => (f2 b hb).1, w0⟩
  rintro n s3 ⟨i, σ3, H3, I3, st3, fr3, w3⟩
  rcases turn i n σ3 H3 w3 with ⟨stop, qn⟩ | ⟨go, N, hN, step⟩
  · refine wpAny_passesOwn hp (thn (T.done X rfl rfl rfl hc i pins s3 σ3 H3 X.xe I3 (stat fr3) st3 stop) fun r s4 ⟨hr, I4⟩ => ?_)
    subst hr
    exact wpAny_execs_nil ⟨σ3, H3, I4, qn⟩
  · refine wpAny_passesOwn hp (thn (T.item X rfl rfl rfl hc i pins s3 σ3 H3 X.xe I3 (stat fr3) st3 go) fun r s4 ⟨u, hr, h4⟩ => ?_)
    subst hr
    refine wpAny_passesOwn hp (thn h4 fun _ s5 ⟨x, H5, I5, r5, y5, st5, fr5⟩ => ?_)
    have I5' := I5.pinned (stat fr5) (T.obj _ _ st5)
    refine wpAny_passesOwn hp (thn (hg _ s5 σ3 H5 x u _ I5' r5 (step x H5 y5)) fun _ s6 ⟨σ6, H6, I6, q6⟩ => ?_)
    refine wpAny_passesOwn hp (thn (hb _ s6 σ6 H6 _ I6 q6) fun f s7 q7 => ?_)
    have again : ∀ {σ7 : St} {H7 : Hp}, Inv X (pins ++ pinsAt fp s5.heap) σ7 H7 s7 → N σ7 H7 → ∃ m, m < n ∧ ∃ i σ' H', Inv X pins σ' H' s7 ∧ tn i s7.heap ∧ (∀ b ∈ fp, H' b = none) ∧ W i m σ' H' := fun {σ7 H7} I7 n7 => by
      obtain ⟨m', hm, w7⟩ := hN σ7 H7 n7
      refine ⟨m', hm, i + 1, σ7, H7, I7.unpinned, T.keep _ _ _ st5 fun b hb o e => (I7.pin (b, o) (List.mem_append_right _ (List.mem_append_right _ (mem_pinsAt hb e)))).1, fun b hb => ?_, w7⟩
      obtain ⟨o, e, d⟩ := T.obj _ _ st5 b hb
      exact (I7.pin (b, o) (List.mem_append_right _ (List.mem_append_right _ (mem_pinsAt hb e)))).2.1
    cases f with
    | next => obtain ⟨σ7, H7, I7, n7⟩ := q7; exact again I7 n7
    | cont => obtain ⟨σ7, H7, I7, n7⟩ := q7; exact again I7 n7
    | brk => obtain ⟨σ7, H7, I7, q7⟩ := q7; exact ⟨σ7, H7, I7.unpinned, q7⟩
    | ret v => obtain ⟨x7, σ7, H7, I7, r7, q7⟩ := q7; exact ⟨x7, σ7, H7, I7.unpinned, r7, q7⟩
end

/-! ### the forms one uses -/
/-- over a list that the body leaves as it is -/
theorem for_list {K : PySem.W.Frag} {a : Addr} {xs : List V} {g : TG} {tb : TS} {D : Ends} {σ : St} {H : Hp} (Pv : Nat → St → Hp → Prop) (h0 : Pv 0 σ H) (hl : ∀ i σ H, i ≤ xs.length → Pv i σ H → SqL K H a xs)
    (hs : ∀ i x σ H, xs[i]? = some x → Pv i σ H → g x σ H fun σ2 H2 => tb { D with nx := Pv (i + 1), ct := Pv (i + 1), bk := D.nx } σ2 H2) (hd : ∀ σ H, Pv xs.length σ H → D.nx σ H) :
    ∃ W : Nat → Nat → St → Hp → Prop, (∃ m, W 0 m σ H) ∧ ∀ i m σ H, W i m σ H →
      ((Itl K a).stop i H ∧ D.nx σ H) ∨ ((Itl K a).go i H ∧ ∃ N : St → Hp → Prop, (∀ σ' H', N σ' H' → ∃ m', m' < m ∧ W (i + 1) m' σ' H') ∧ ∀ x H', (Itl K a).yld i H x H' → g x σ H' fun σ2 H2 => tb { D with nx := N, ct := N, bk := D.nx } σ2 H2) := by
  refine ⟨fun i m σ H => m = xs.length - i ∧ i ≤ xs.length ∧ Pv i σ H, ⟨xs.length, by simp, Nat.zero_le _, h0⟩, ?_⟩
  rintro i m σ H ⟨rfl, hi, p⟩
  have q := hl i σ H hi p
  by_cases hlt : i < xs.length
  · refine .inr ⟨⟨xs, xs[i], q, by simp [hlt]⟩, Pv (i + 1), fun σ' H' p' => ⟨xs.length - (i + 1), by omega, rfl, hlt, p'⟩, fun x H' y => ?_⟩
    obtain ⟨e, y⟩ := y
    subst e
    exact hs i x σ _ (y xs q) p
  · have e : i = xs.length := by omega
    subst e
    exact .inl ⟨⟨xs, q, Nat.le_refl _⟩, hd σ H p⟩
theorem for_tup {K : PySem.W.Frag} {a : Addr} {xs : List V} {g : TG} {tb : TS} {D : Ends} {σ : St} {H : Hp} (Pv : Nat → St → Hp → Prop) (h0 : Pv 0 σ H) (hl : ∀ i σ H, i ≤ xs.length → Pv i σ H → SqT K H a xs)
    (hs : ∀ i x σ H, xs[i]? = some x → Pv i σ H → g x σ H fun σ2 H2 => tb { D with nx := Pv (i + 1), ct := Pv (i + 1), bk := D.nx } σ2 H2) (hd : ∀ σ H, Pv xs.length σ H → D.nx σ H) :
    ∃ W : Nat → Nat → St → Hp → Prop, (∃ m, W 0 m σ H) ∧ ∀ i m σ H, W i m σ H →
      ((Itt K a).stop i H ∧ D.nx σ H) ∨ ((Itt K a).go i H ∧ ∃ N : St → Hp → Prop, (∀ σ' H', N σ' H' → ∃ m', m' < m ∧ W (i + 1) m' σ' H') ∧ ∀ x H', (Itt K a).yld i H x H' → g x σ H' fun σ2 H2 => tb { D with nx := N, ct := N, bk := D.nx } σ2 H2) := by
  refine ⟨fun i m σ H => m = xs.length - i ∧ i ≤ xs.length ∧ Pv i σ H, ⟨xs.length, by simp, Nat.zero_le _, h0⟩, ?_⟩
  rintro i m σ H ⟨rfl, hi, p⟩
  have q := hl i σ H hi p
  by_cases hlt : i < xs.length
  · refine .inr ⟨⟨xs, xs[i], q, by simp [hlt]⟩, Pv (i + 1), fun σ' H' p' => ⟨xs.length - (i + 1), by omega, rfl, hlt, p'⟩, fun x H' y => ?_⟩
    obtain ⟨e, y⟩ := y
    subst e
    exact hs i x σ _ (y xs q) p
  · have e : i = xs.length := by omega
    subst e
    exact .inl ⟨⟨xs, q, Nat.le_refl _⟩, hd σ H p⟩
theorem for_range {lo : Int} {n : Nat} {g : TG} {tb : TS} {D : Ends} {σ : St} {H : Hp} (Pv : Nat → St → Hp → Prop) (h0 : Pv 0 σ H)
    (hs : ∀ i σ H, i < n → Pv i σ H → g (.int (lo + i)) σ H fun σ2 H2 => tb { D with nx := Pv (i + 1), ct := Pv (i + 1), bk := D.nx } σ2 H2) (hd : ∀ σ H, Pv n σ H → D.nx σ H) :
    ∃ W : Nat → Nat → St → Hp → Prop, (∃ m, W 0 m σ H) ∧ ∀ i m σ H, W i m σ H →
      ((Itr lo n).stop i H ∧ D.nx σ H) ∨ ((Itr lo n).go i H ∧ ∃ N : St → Hp → Prop, (∀ σ' H', N σ' H' → ∃ m', m' < m ∧ W (i + 1) m' σ' H') ∧ ∀ x H', (Itr lo n).yld i H x H' → g x σ H' fun σ2 H2 => tb { D with nx := N, ct := N, bk := D.nx } σ2 H2) := by
  refine ⟨fun i m σ H => m = n - i ∧ i ≤ n ∧ Pv i σ H, ⟨n, by simp, Nat.zero_le _, h0⟩, ?_⟩
  rintro i m σ H ⟨rfl, hi, p⟩
  by_cases hlt : i < n
  · refine .inr ⟨hlt, Pv (i + 1), fun σ' H' p' => ⟨n - (i + 1), by omega, rfl, hlt, p'⟩, fun x H' y => ?_⟩
    obtain ⟨e, y⟩ := y
    subst e y
    exact hs i σ _ hlt p
  · have e : i = n := by omega
    subst e
    exact .inl ⟨Nat.le_refl _, hd σ H p⟩
/-- while, by a word and a measure of the state -/
theorem while_by {c : TT} {tb : TS} {D : Ends} {σ : St} {H : Hp} (Pv : St → Hp → Prop) (μ : St → Hp → Nat) (h0 : Pv σ H)
    (hs : ∀ σ H, Pv σ H → c σ H fun b H1 => if b = true then tb { D with nx := fun σ' H' => Pv σ' H' ∧ μ σ' H' < μ σ H, ct := fun σ' H' => Pv σ' H' ∧ μ σ' H' < μ σ H, bk := D.nx } σ H1 else D.nx σ H1)
    (mono : ∀ σ H Q Q', (∀ b H1, Q b H1 → Q' b H1) → c σ H Q → c σ H Q') : tWhile c tb D σ H := by
  refine ⟨fun m σ H => m = μ σ H ∧ Pv σ H, ⟨_, rfl, h0⟩, ?_⟩
  rintro m σ H ⟨rfl, p⟩
  refine mono σ H _ _ (fun b H1 q => ?_) (hs σ H p)
  cases b with
  | true => exact ⟨_, fun σ' H' ⟨p', l⟩ => ⟨_, l, rfl, p'⟩, q⟩
  | false => exact q
end L2

namespace L2
open PySem PySem.Spec PyProof.Rows

abbrev R2 := V → V → Hp → VK → Prop
/-- a two-place operation on values: f is binaryOp op, inplaceOp op or compareOp op -/
def OpR (X : Cx) (f : Value → Value → Sem Value) (r : R2) : Prop :=
  ∀ (pins : List (Addr × Obj)) (s : Shared) (σ : St) (H : Hp) (x y : V) (v u : Value) (Q : VK), Inv X pins σ H s → RelV x v → RelV y u → r x y H Q →
    wpAny (model X.prog X.w) X.A (f v u) (EP X pins σ Q) X.xe s
/-- a one-place operation -/
def UnR (X : Cx) (f : Value → Sem Value) (r : V → Hp → VK → Prop) : Prop :=
  ∀ (pins : List (Addr × Obj)) (s : Shared) (σ : St) (H : Hp) (x : V) (v : Value) (Q : VK), Inv X pins σ H s → RelV x v → r x H Q →
    wpAny (model X.prog X.w) X.A (f v) (EP X pins σ Q) X.xe s
/-- a call of a value that is known (a builtin, a type) with values -/
def CallR (X : Cx) (f : Value) (r : List V → Hp → VK → Prop) : Prop :=
  ∀ (pins : List (Addr × Obj)) (s : Shared) (σ : St) (H : Hp) (xs : List V) (us : List Value) (Q : VK), Inv X pins σ H s → Vals xs us → r xs H Q →
    wpAny (model X.prog X.w) X.A (call f us) (EP X pins σ Q) X.xe s
/-- a value's truth -/
def TruR (X : Cx) (r : V → Hp → (Bool → Hp → Prop) → Prop) : Prop :=
  ∀ (pins : List (Addr × Obj)) (s : Shared) (σ : St) (H : Hp) (x : V) (v : Value) (Q : Bool → Hp → Prop), Inv X pins σ H s → RelV x v → r x H Q →
    wpAny (model X.prog X.w) X.A (truthy v) (TP X pins σ Q) X.xe s

def tOp (r : R2) (ta tb : TE) : TE := fun σ H Q => ta σ H fun x H1 => tb σ H1 fun y H2 => r x y H2 Q
def tUn (r : V → Hp → VK → Prop) (ta : TE) : TE := fun σ H Q => ta σ H fun x H1 => r x H1 Q
/-- ints in, under C, and a value out -/
def rI (C : Int → Int → Prop) (g : Int → Int → V) : R2 := fun x y H Q => ∃ i j, x = .int i ∧ y = .int j ∧ C i j ∧ Q (g i j) H
def rI0 (g : Int → Int → V) : R2 := fun x y H Q => ∃ i j, x = .int i ∧ y = .int j ∧ Q (g i j) H
def rU (g : Int → V) : V → Hp → VK → Prop := fun x H Q => ∃ i, x = .int i ∧ Q (g i) H

section
variable {X : Cx} {a b c : Expr} {ta tb tc : TE} {pos : Pos}

theorem binT (ha : PE X a ta) (hb : PE X b tb) {pins : List (Addr × Obj)} {s : Shared} {σ : St} {H : Hp} {R : V → V → Hp → Prop} (I : Inv X pins σ H s)
    (h : ta σ H fun x H1 => tb σ H1 fun y H2 => R x y H2) {Q : Value → Shared → Prop} {f : Value → Value → Sem Value}
    (hf : ∀ v u s2 x y H2, Inv X pins σ H2 s2 → RelV x v → RelV y u → R x y H2 → wpAny (model X.prog X.w) X.A (f v u) Q X.xe s2) :
    wpAny (model X.prog X.w) X.A (eval a X.env) (fun v s₁ => wpAny (model X.prog X.w) X.A (eval b X.env) (fun u s₂ => wpAny (model X.prog X.w) X.A (f v u) Q X.xe s₂) X.xe s₁) X.xe s := by
  refine thn (ha pins s σ H _ I h) fun v s1 ⟨x, H1, I1, r1, q1⟩ => ?_
  refine thn (hb pins s1 σ H1 _ I1 q1) fun u s2 ⟨y, H2, I2, r2, q2⟩ => ?_
  exact hf v u s2 x y H2 I2 r1 r2 q2

theorem pe_op {op : Operator} {r : R2} (ho : OpR X (binaryOp op) r) (ha : PE X a ta) (hb : PE X b tb) : PE X (.BinOp a op b pos) (tOp r ta tb) := by
  intro pins s σ H Q I h
  exact wpAny_BinOp (binT ha hb I h fun v u s2 x y H2 I2 rx ry q => ho pins s2 σ H2 x y v u Q I2 rx ry q)
theorem pe_un {op : UnaryOp} {r : V → Hp → VK → Prop} (ho : UnR X (unaryOp op) r) (ha : PE X a ta) : PE X (.UnaryOp op a pos) (tUn r ta) := by
  intro pins s σ H Q I h
  exact UnaryOp_ (thn (ha pins s σ H _ I h) fun v s1 ⟨x, H1, I1, r1, q1⟩ => ho pins s1 σ H1 x v Q I1 r1 q1)
/-- a op= e at a name: the name's slot i -/
theorem augR {op : Operator} {r : R2} (ho : OpR X (inplaceOp op) r) {pins : List (Addr × Obj)} {s : Shared} {σ : St} {H : Hp} {x y : V} {v u : Value} {Q : VK} (I : Inv X pins σ H s)
    (rx : RelV x v) (ry : RelV y u) (q : r x y H Q) : wpAny (model X.prog X.w) X.A (inplaceOp op v u) (EP X pins σ Q) X.xe s := ho pins s σ H x y v u Q I rx ry q

/-! ### ints -/
theorem opI {f : Value → Value → Sem Value} {C : Int → Int → Prop} {g : Int → Int → Int}
    (rule : ∀ (i j : Int) (t u : Tok) (s : Shared) (Q : Value → Shared → Prop) (E : Value → Shared → Prop), C i j → Q (.int (g i j) s.toks) { s with toks := s.toks + 1 } → wpAny (model X.prog X.w) X.A (f (.int i t) (.int j u)) Q E s) :
    OpR X f (rI C fun i j => .int (g i j)) := by
  intro pins s σ H x y v u Q I rx ry h
  obtain ⟨i, j, rfl, rfl, hc, q⟩ := h
  obtain ⟨t, rfl⟩ := rx
  obtain ⟨t', rfl⟩ := ry
  exact rule i j t t' s _ _ hc ⟨.int (g i j), H, I.tok _, ⟨_, rfl⟩, q⟩
theorem opI0 {f : Value → Value → Sem Value} {g : Int → Int → Int}
    (rule : ∀ (i j : Int) (t u : Tok) (s : Shared) (Q : Value → Shared → Prop) (E : Value → Shared → Prop), Q (.int (g i j) s.toks) { s with toks := s.toks + 1 } → wpAny (model X.prog X.w) X.A (f (.int i t) (.int j u)) Q E s) :
    OpR X f (rI0 fun i j => .int (g i j)) := by
  intro pins s σ H x y v u Q I rx ry h
  obtain ⟨i, j, rfl, rfl, q⟩ := h
  obtain ⟨t, rfl⟩ := rx
  obtain ⟨t', rfl⟩ := ry
  exact rule i j t t' s _ _ ⟨.int (g i j), H, I.tok _, ⟨_, rfl⟩, q⟩
theorem opB0 {f : Value → Value → Sem Value} {g : Int → Int → Bool}
    (rule : ∀ (i j : Int) (t u : Tok) (s : Shared) (Q : Value → Shared → Prop) (E : Value → Shared → Prop), Q (.bool (g i j)) s → wpAny (model X.prog X.w) X.A (f (.int i t) (.int j u)) Q E s) :
    OpR X f (rI0 fun i j => .bl (g i j)) := by
  intro pins s σ H x y v u Q I rx ry h
  obtain ⟨i, j, rfl, rfl, q⟩ := h
  obtain ⟨t, rfl⟩ := rx
  obtain ⟨t', rfl⟩ := ry
  exact rule i j t t' s _ _ ⟨.bl (g i j), H, I, rfl, q⟩

def CDiv (i j : Int) : Prop := 0 < j ∧ j < 1073741824
def CDivN (i j : Int) : Prop := j ≠ 0 ∧ j.natAbs < 1073741824
def CPow (i j : Int) : Prop := 0 ≤ j ∧ j ≤ 1000000 ∧ i.natAbs < 2 ^ 64
def CMul (i j : Int) : Prop := (-(2 ^ 64) < i ∧ i < 2 ^ 64) ∨ (-(2 ^ 64) < j ∧ j < 2 ^ 64)
theorem CMul.ok {i j : Int} (h : CMul i j) : IntMulOk i j := by
  rcases h with ⟨h1, h2⟩ | ⟨h1, h2⟩
  · exact .of_left (intBits_le_64 h1 h2)
  · exact .of_right (intBits_le_64 h1 h2)
theorem two_pow_nn (k : Nat) : (0 : Int) ≤ 2 ^ k := by
  rw [two_pow_cast]
  exact Int.natCast_nonneg _

theorem op_add : OpR X (binaryOp .Add) (rI0 fun i j => .int (i + j)) := opI0 fun _ _ _ _ _ _ _ q => add_int q
theorem op_sub : OpR X (binaryOp .Sub) (rI0 fun i j => .int (i - j)) := opI0 fun _ _ _ _ _ _ _ q => sub_int q
theorem op_mul : OpR X (binaryOp .Mult) (rI CMul fun i j => .int (i * j)) := opI fun _ _ _ _ _ _ _ hc q => mul_int q hc.ok
/-- // by a positive divisor -/
theorem op_fdiv : OpR X (binaryOp .FloorDiv) (rI CDiv fun i j => .int (i / j)) := opI fun i j _ _ _ _ _ hc q => by
  have h1 : (0 : Int) < j := hc.1
  have h2 : j < 1073741824 := hc.2
  exact floordiv_int (by omega) (by rw [Int.fdiv_eq_ediv_of_nonneg i (by omega)]; exact q) (.inl (PyProof.noPylong_small (by omega)))
theorem op_fdivN : OpR X (binaryOp .FloorDiv) (rI CDivN fun i j => .int (i.fdiv j)) := opI fun _ _ _ _ _ _ _ hc q => floordiv_int hc.1 q (.inl (PyProof.noPylong_small hc.2))
/-- % by a positive divisor of any size -/
theorem op_mod : OpR X (binaryOp .Mod) (rI (fun _ j => 0 < j) fun i j => .int (i % j)) := opI fun i j _ _ _ _ _ hc q => by
  have h1 : (0 : Int) < j := hc
  exact mod_int' (by omega) (by rw [Int.fmod_eq_emod_of_nonneg i (by omega)]; exact q)
theorem op_modN : OpR X (binaryOp .Mod) (rI (fun _ j => j ≠ 0) fun i j => .int (i.fmod j)) := opI fun _ _ _ _ _ _ _ hc q => mod_int' hc q
theorem op_pow : OpR X (binaryOp .Pow) (rI CPow fun i j => .int (i ^ j.toNat)) := opI fun _ _ _ _ _ _ _ hc q => pow_int_small hc.1 hc.2.1 hc.2.2 q
theorem op_shl : OpR X (binaryOp .LShift) (rI CPow fun i j => .int (i * 2 ^ j.toNat)) := opI fun _ _ _ _ _ _ _ hc q => lshift_int_small hc.1 hc.2.1 hc.2.2 q
theorem op_shr : OpR X (binaryOp .RShift) (rI (fun _ j => 0 ≤ j) fun i j => .int (i / 2 ^ j.toNat)) := opI fun i j _ _ _ _ _ hc q =>
  rshift_int hc (by rw [Int.fdiv_eq_ediv_of_nonneg i (two_pow_nn _)]; exact q)
theorem op_and : OpR X (binaryOp .BitAnd) (rI0 fun i j => .int (Builtin.bitAnd i j)) := opI0 fun _ _ _ _ _ _ _ q => and_int q
theorem op_or : OpR X (binaryOp .BitOr) (rI0 fun i j => .int (Builtin.bitOr i j)) := opI0 fun _ _ _ _ _ _ _ q => or_int q
theorem op_xor : OpR X (binaryOp .BitXor) (rI0 fun i j => .int (Builtin.bitXor i j)) := opI0 fun _ _ _ _ _ _ _ q => xor_int q

theorem iop_add : OpR X (inplaceOp .Add) (rI0 fun i j => .int (i + j)) := opI0 fun _ _ _ _ _ _ _ q => iadd_int q
theorem iop_sub : OpR X (inplaceOp .Sub) (rI0 fun i j => .int (i - j)) := opI0 fun _ _ _ _ _ _ _ q => isub_int q
theorem iop_mul : OpR X (inplaceOp .Mult) (rI CMul fun i j => .int (i * j)) := opI fun _ _ _ _ _ _ _ hc q => imul_int q hc.ok
theorem iop_fdiv : OpR X (inplaceOp .FloorDiv) (rI CDiv fun i j => .int (i / j)) := opI fun i j _ _ _ _ _ hc q => by
  have h1 : (0 : Int) < j := hc.1
  have h2 : j < 1073741824 := hc.2
  exact ifloordiv_int (by omega) (by rw [Int.fdiv_eq_ediv_of_nonneg i (by omega)]; exact q) (.inl (PyProof.noPylong_small (by omega)))
theorem iop_mod : OpR X (inplaceOp .Mod) (rI (fun _ j => 0 < j) fun i j => .int (i % j)) := opI fun i j _ _ _ _ _ hc q => by
  have h1 : (0 : Int) < j := hc
  exact imod_int (by omega) (by rw [Int.fmod_eq_emod_of_nonneg i (by omega)]; exact q)
theorem iop_shl : OpR X (inplaceOp .LShift) (rI CPow fun i j => .int (i * 2 ^ j.toNat)) := opI fun _ _ _ _ _ _ _ hc q => ilshift_int_small hc.1 hc.2.1 hc.2.2 q
theorem iop_shr : OpR X (inplaceOp .RShift) (rI (fun _ j => 0 ≤ j) fun i j => .int (i / 2 ^ j.toNat)) := opI fun i j _ _ _ _ _ hc q =>
  irshift_int hc (by rw [Int.fdiv_eq_ediv_of_nonneg i (two_pow_nn _)]; exact q)
theorem iop_and : OpR X (inplaceOp .BitAnd) (rI0 fun i j => .int (Builtin.bitAnd i j)) := opI0 fun _ _ _ _ _ _ _ q => iand_int q
theorem iop_or : OpR X (inplaceOp .BitOr) (rI0 fun i j => .int (Builtin.bitOr i j)) := opI0 fun _ _ _ _ _ _ _ q => ior_int q
theorem iop_xor : OpR X (inplaceOp .BitXor) (rI0 fun i j => .int (Builtin.bitXor i j)) := opI0 fun _ _ _ _ _ _ _ q => ixor_int q

theorem unI {f : Value → Sem Value} {g : Int → Int}
    (rule : ∀ (i : Int) (t : Tok) (s : Shared) (Q : Value → Shared → Prop) (E : Value → Shared → Prop), Q (.int (g i) s.toks) { s with toks := s.toks + 1 } → wpAny (model X.prog X.w) X.A (f (.int i t)) Q E s) :
    UnR X f (rU fun i => .int (g i)) := by
  intro pins s σ H x v Q I rx h
  obtain ⟨i, rfl, q⟩ := h
  obtain ⟨t, rfl⟩ := rx
  exact rule i t s _ _ ⟨.int (g i), H, I.tok _, ⟨_, rfl⟩, q⟩
theorem un_neg : UnR X (unaryOp .USub) (rU fun i => .int (-i)) := unI fun _ _ _ _ _ q => neg_int q
theorem un_inv : UnR X (unaryOp .Invert) (rU fun i => .int (Builtin.bitNot i)) := unI fun _ _ _ _ _ q => invert_int q

/-! ### bools among ints: n += (a < b) -/
theorem op_add_ib : OpR X (binaryOp .Add) (fun x y H Q => ∃ i k, x = .int i ∧ y = .bl k ∧ Q (.int (i + b2i k)) H) := by
  intro pins s σ H x y v u Q I rx ry h
  obtain ⟨i, k, rfl, rfl, q⟩ := h
  obtain ⟨t, rfl⟩ := rx
  cases ry
  exact add_int_bool ⟨.int (i + b2i k), H, I.tok _, ⟨_, rfl⟩, q⟩
end

/-! ### comparisons -/
/-- the scalars that == tells apart as data does -/
def scal : V → V → Bool
  | .non, .non => true | .non, .int _ => true | .int _, .non => true | .non, .bl _ => true | .bl _, .non => true | .non, .str _ => true | .str _, .non => true
  | .int _, .int _ => true | .bl _, .bl _ => true | .str _, .str _ => true | .byt _, .byt _ => true
  | .int _, .str _ => true | .str _, .int _ => true | .bl _, .str _ => true | .str _, .bl _ => true
  | _, _ => false
def rEq : R2 := fun x y H Q => scal x y = true ∧ Q (.bl (decide (x = y))) H
def rNe : R2 := fun x y H Q => scal x y = true ∧ Q (.bl (!decide (x = y))) H

theorem dec_int {i j : Int} : decide (V.int i = V.int j) = (i == j) := by
  rw [Bool.eq_iff_iff]
  simp
theorem dec_bl {i j : Bool} : decide (V.bl i = V.bl j) = (i == j) := by
  rw [Bool.eq_iff_iff]
  simp
theorem dec_str {i j : Str} : decide (V.str i = V.str j) = (i == j) := by
  rw [Bool.eq_iff_iff]
  simp
theorem dec_byt {i j : Array UInt8} : decide (V.byt i = V.byt j) = (i.toList == j.toList) := by
  rw [Bool.eq_iff_iff]
  cases i
  cases j
  simp

section
variable {X : Cx} {a b c : Expr} {ta tb tc : TE} {pos : Pos}
theorem fin_bl {pins : List (Addr × Obj)} {σ : St} {H : Hp} {s : Shared} {Q : VK} {k k' : Bool} (I : Inv X pins σ H s) (q : Q (.bl k) H) (e : k = k') : EP X pins σ Q (.bool k') s := by
  subst e
  exact ⟨.bl k, H, I, rfl, q⟩
theorem op_eq : OpR X (compareOp .Eq) rEq := by
  intro pins s σ H x y v u Q I rx ry h
  obtain ⟨hs, q⟩ := h
  cases x with
  | non =>
    cases rx
    cases y with
    | non => cases ry; exact PySem.EqNone.eq_none_none (fin_bl I q (by simp))
    | bl j => cases ry; exact PySem.EqNone.eq_none_bool (fin_bl I q (by simp))
    | int j => obtain ⟨t', rfl⟩ := ry; exact PySem.EqNone.eq_none_int (fin_bl I q (by simp))
    | str j => obtain ⟨t', rfl⟩ := ry; exact PySem.EqNone.eq_none_str (fin_bl I q (by simp))
    | _ => exact absurd (show false = true from hs) Bool.false_ne_true
  | bl i =>
    cases rx
    cases y with
    | non => cases ry; exact PySem.EqNone.eq_bool_none (fin_bl I q (by simp))
    | bl j => cases ry; exact eq_bool (fin_bl I q dec_bl)
    | str j => obtain ⟨t', rfl⟩ := ry; exact PySem.EqMixed.eq_bool_str (fin_bl I q (by simp))
    | _ => exact absurd (show false = true from hs) Bool.false_ne_true
  | int i =>
    obtain ⟨t, rfl⟩ := rx
    cases y with
    | non => cases ry; exact PySem.EqNone.eq_int_none (fin_bl I q (by simp))
    | int j => obtain ⟨t', rfl⟩ := ry; exact eq_int (fin_bl I q dec_int)
    | str j => obtain ⟨t', rfl⟩ := ry; exact PySem.EqMixed.eq_int_str (fin_bl I q (by simp))
    | _ => exact absurd (show false = true from hs) Bool.false_ne_true
  | str i =>
    obtain ⟨t, rfl⟩ := rx
    cases y with
    | non => cases ry; exact PySem.EqNone.eq_str_none (fin_bl I q (by simp))
    | bl j => cases ry; exact PySem.EqMixed.eq_str_bool (fin_bl I q (by simp))
    | int j => obtain ⟨t', rfl⟩ := ry; exact PySem.EqMixed.eq_str_int (fin_bl I q (by simp))
    | str j => obtain ⟨t', rfl⟩ := ry; exact eq_str (fin_bl I q dec_str)
    | _ => exact absurd (show false = true from hs) Bool.false_ne_true
  | byt i =>
    obtain ⟨t, rfl⟩ := rx
    cases y with
    | byt j => obtain ⟨t', rfl⟩ := ry; exact PySem.W.eq_bytes (fin_bl I q dec_byt)
    | _ => exact absurd (show false = true from hs) Bool.false_ne_true
  | _ => cases y <;> exact absurd (show false = true from hs) Bool.false_ne_true
theorem op_ne : OpR X (compareOp .NotEq) rNe := by
  intro pins s σ H x y v u Q I rx ry h
  obtain ⟨hs, q⟩ := h
  cases x with
  | non =>
    cases rx
    cases y with
    | non => cases ry; exact PySem.EqNone.ne_none_none (fin_bl I q (by simp))
    | bl j => cases ry; exact PySem.EqNone.ne_none_bool (fin_bl I q (by simp))
    | int j => obtain ⟨t', rfl⟩ := ry; exact PySem.EqNone.ne_none_int (fin_bl I q (by simp))
    | str j => obtain ⟨t', rfl⟩ := ry; exact PySem.EqNone.ne_none_str (fin_bl I q (by simp))
    | _ => exact absurd (show false = true from hs) Bool.false_ne_true
  | bl i =>
    cases rx
    cases y with
    | non => cases ry; exact PySem.EqNone.ne_bool_none (fin_bl I q (by simp))
    | bl j => cases ry; exact ne_bool (fin_bl I q (congrArg not dec_bl))
    | str j => obtain ⟨t', rfl⟩ := ry; exact PySem.EqMixed.ne_bool_str (fin_bl I q (by simp))
    | _ => exact absurd (show false = true from hs) Bool.false_ne_true
  | int i =>
    obtain ⟨t, rfl⟩ := rx
    cases y with
    | non => cases ry; exact PySem.EqNone.ne_int_none (fin_bl I q (by simp))
    | int j => obtain ⟨t', rfl⟩ := ry; exact ne_int (fin_bl I q (congrArg not dec_int))
    | str j => obtain ⟨t', rfl⟩ := ry; exact PySem.EqMixed.ne_int_str (fin_bl I q (by simp))
    | _ => exact absurd (show false = true from hs) Bool.false_ne_true
  | str i =>
    obtain ⟨t, rfl⟩ := rx
    cases y with
    | non => cases ry; exact PySem.EqNone.ne_str_none (fin_bl I q (by simp))
    | bl j => cases ry; exact PySem.EqMixed.ne_str_bool (fin_bl I q (by simp))
    | int j => obtain ⟨t', rfl⟩ := ry; exact PySem.EqMixed.ne_str_int (fin_bl I q (by simp))
    | str j => obtain ⟨t', rfl⟩ := ry; exact ne_str (fin_bl I q (congrArg not dec_str))
    | _ => exact absurd (show false = true from hs) Bool.false_ne_true
  | byt i =>
    obtain ⟨t, rfl⟩ := rx
    cases y with
    | byt j => obtain ⟨t', rfl⟩ := ry; exact PySem.W.ne_bytes (fin_bl I q (congrArg not dec_byt))
    | _ => exact absurd (show false = true from hs) Bool.false_ne_true
  | _ => cases y <;> exact absurd (show false = true from hs) Bool.false_ne_true

theorem op_lt : OpR X (compareOp .Lt) (rI0 fun i j => .bl (decide (i < j))) := opB0 fun _ _ _ _ _ _ _ q => lt_int q
theorem op_le : OpR X (compareOp .LtE) (rI0 fun i j => .bl (decide (i ≤ j))) := opB0 fun _ _ _ _ _ _ _ q => le_int q
theorem op_gt : OpR X (compareOp .Gt) (rI0 fun i j => .bl (decide (j < i))) := opB0 fun _ _ _ _ _ _ _ q => gt_int q
theorem op_ge : OpR X (compareOp .GtE) (rI0 fun i j => .bl (decide (j ≤ i))) := opB0 fun _ _ _ _ _ _ _ q => ge_int q
theorem op_lt_str : OpR X (compareOp .Lt) (fun x y H Q => ∃ i j, x = .str i ∧ y = .str j ∧ Q (.bl (decide (i.cps.toList < j.cps.toList))) H) := by
  intro pins s σ H x y v u Q I rx ry h
  obtain ⟨i, j, rfl, rfl, q⟩ := h
  obtain ⟨t, rfl⟩ := rx
  obtain ⟨t', rfl⟩ := ry
  exact lt_str (fin_bl I q rfl)
/-- the one string within the other -/
theorem op_in_str : OpR X (compareOp .In) (fun x y H Q => ∃ i j, x = .str i ∧ y = .str j ∧ Q (.bl (!(Builtin.Str.occurrences j i 0 j.length 1).isEmpty)) H) := by
  intro pins s σ H x y v u Q I rx ry h
  obtain ⟨i, j, rfl, rfl, q⟩ := h
  obtain ⟨t, rfl⟩ := rx
  obtain ⟨t', rfl⟩ := ry
  exact in_str (fin_bl I q rfl)

/-- is None, is not None: the right side a value none -/
theorem op_isN : OpR X (compareOp .Is) (fun x y H Q => y = .non ∧ Q (.bl (decide (x = .non))) H) := by
  intro pins s σ H x y v u Q I rx ry h
  obtain ⟨rfl, q⟩ := h
  cases ry
  refine is_none_gen (fin_bl I q ?_)
  cases x <;> first
    | (cases rx; rfl)
    | (obtain ⟨t, rfl⟩ := rx; rfl)
theorem op_notN : OpR X (compareOp .IsNot) (fun x y H Q => y = .non ∧ Q (.bl (!decide (x = .non))) H) := by
  intro pins s σ H x y v u Q I rx ry h
  obtain ⟨rfl, q⟩ := h
  cases ry
  refine isnot_none_gen (fin_bl I q ?_)
  cases x <;> first
    | (cases rx; rfl)
    | (obtain ⟨t, rfl⟩ := rx; rfl)

theorem op_notin_str : OpR X (compareOp .NotIn) (fun x y H Q => ∃ i j, x = .str i ∧ y = .str j ∧ Q (.bl (!(!(Builtin.Str.occurrences j i 0 j.length 1).isEmpty))) H) := by
  intro pins s σ H x y v u Q I rx ry h
  obtain ⟨i, j, rfl, rfl, q⟩ := h
  obtain ⟨t, rfl⟩ := rx
  obtain ⟨t', rfl⟩ := ry
  exact notIn_str (fin_bl I q rfl)
/-- is, is not of two objects that are tracked lists or instances -/
def isObj : HO → Bool
  | .lst _ => true
  | .ins _ _ _ => true
  | _ => false
theorem obj_there {pins : List (Addr × Obj)} {s : Shared} {σ : St} {H : Hp} {a : Addr} {o : HO} (I : Inv X pins σ H s) (h : H a = some o) (p : isObj o = true) : ∃ ob, s.heap.get? a = some ob ∧ ob.cls ≠ .type "tuple" := by
  cases o with
  | lst xs =>
    obtain ⟨_, its, n, _, e⟩ : xs.length ≤ sizeLine ∧ ∃ (its : List Value) (n : Nat), Vals xs its ∧ s.heap.get? a = some { cls := .type "list", data := .seq its.toArray n } := I.hok a _ h
    exact ⟨_, e, (by show Value.type "list" ≠ .type "tuple"; decide +kernel)⟩
  | ins C dx fs =>
    have x := I.hok a _ h
    obtain ⟨_, _, _, e, _⟩ := x
    exact ⟨_, e, (by show Value.ref C ≠ .type "tuple"; exact fun z => by cases z)⟩
  | _ => exact absurd (show false = true from p) Bool.false_ne_true
theorem op_is_ref : OpR X (compareOp .Is) (fun x y H Q => ∃ a b oa ob, x = .ref a ∧ y = .ref b ∧ H a = some oa ∧ isObj oa = true ∧ H b = some ob ∧ isObj ob = true ∧ Q (.bl (decide (a = b))) H) := by
  intro pins s σ H x y v u Q I rx ry h
  obtain ⟨a, b, oa, ob, rfl, rfl, ha, pa, hb, pb, q⟩ := h
  cases rx
  cases ry
  obtain ⟨o1, e1, n1⟩ := obj_there I ha pa
  obtain ⟨o2, e2, _⟩ := obj_there I hb pb
  by_cases z : a = b
  · subst z
    exact wpAny_is_ref_self (fin_bl I q (by simp))
  · exact wpAny_is_ref_other z e1 e2 n1 (fin_bl I q (by simp [z]))
theorem op_isnot_ref : OpR X (compareOp .IsNot) (fun x y H Q => ∃ a b oa ob, x = .ref a ∧ y = .ref b ∧ H a = some oa ∧ isObj oa = true ∧ H b = some ob ∧ isObj ob = true ∧ Q (.bl (!decide (a = b))) H) := by
  intro pins s σ H x y v u Q I rx ry h
  obtain ⟨a, b, oa, ob, rfl, rfl, ha, pa, hb, pb, q⟩ := h
  cases rx
  cases ry
  obtain ⟨o1, e1, n1⟩ := obj_there I ha pa
  obtain ⟨o2, e2, _⟩ := obj_there I hb pb
  by_cases z : a = b
  · subst z
    exact wpAny_isNot_ref_self (fin_bl I q (by simp))
  · exact wpAny_isNot_ref_other z e1 e2 n1 (fin_bl I q (by simp [z]))

/-- two rules for one operation: by cases -/
theorem OpR.or {f : Value → Value → Sem Value} {r r' : R2} (h : OpR X f r) (h' : OpR X f r') : OpR X f (fun x y H Q => r x y H Q ∨ r' x y H Q) := by
  intro pins s σ H x y v u Q I rx ry q
  rcases q with q | q
  · exact h pins s σ H x y v u Q I rx ry q
  · exact h' pins s σ H x y v u Q I rx ry q

theorem nomark (b : Expr) {op : CmpOp} (h : op ≠ .In := by decide) (h2 : op ≠ .NotIn := by decide) : behindInMarks op b = false := by
  have e1 : (op == CmpOp.In) = false := by cases op <;> first | rfl | exact absurd rfl h
  have e2 : (op == CmpOp.NotIn) = false := by cases op <;> first | rfl | exact absurd rfl h2
  cases b <;> simp [behindInMarks, e1, e2]
/-- a comparison as a value; hm: nomark b, or (for in, not in) by with_unfolding_all rfl -/
theorem pe_cmpR {op : CmpOp} {r : R2} (ho : OpR X (compareOp op) r) (ha : PE X a ta) (hb : PE X b tb) (hm : behindInMarks op b = false) : PE X (.Compare a [op] [b] pos) (tOp r ta tb) := by
  intro pins s σ H Q I h
  exact wpAny_Compare1 (binT ha hb I h fun v u s2 x y H2 I2 rx ry q => ho pins s2 σ H2 x y v u Q I2 rx ry q) hm
/-- a reading of a value as a test -/
def tTest (t : TE) : TT := fun σ H Q => t σ H fun x H' => ∃ k, x = .bl k ∧ Q k H'
theorem pt_cmpR {op : CmpOp} {r : R2} (ho : OpR X (compareOp op) r) (ha : PE X a ta) (hb : PE X b tb) (hm : behindInMarks op b = false) : PT X (.Compare a [op] [b] pos) (tTest (tOp r ta tb)) := by
  intro pins s σ H Q I h
  refine wpAny_isTrue_Compare1 (thn (ha pins s σ H _ I h) fun v s1 ⟨x, H1, I1, r1, q1⟩ => thn (hb pins s1 σ H1 _ I1 q1) fun u s2 ⟨y, H2, I2, r2, q2⟩ =>
    thn (ho pins s2 σ H2 x y v u _ I2 r1 r2 q2) fun c s3 ⟨z, H3, I3, r3, k, e, q3⟩ => ?_) hm
  subst e
  cases r3
  exact wpAny_truthy_bool ⟨H3, I3, q3⟩
/-- a op1 b op2 c -/
def tChain (r r' : R2) (ta tb tc : TE) : TE := fun σ H Q => ta σ H fun x H1 => tb σ H1 fun y H2 => r x y H2 fun z H3 => ∃ k, z = .bl k ∧
  (if k = true then tc σ H3 fun w' H4 => r' y w' H4 Q else Q (.bl false) H3)
theorem pe_chain {op op' : CmpOp} {r r' : R2} (ho : OpR X (compareOp op) r) (ho' : OpR X (compareOp op') r') (ha : PE X a ta) (hb : PE X b tb) (hc : PE X c tc)
    (hm : lastMarks [op, op'] [b, c] = false := by with_unfolding_all rfl) : PE X (.Compare a [op, op'] [b, c] pos) (tChain r r' ta tb tc) := by
  intro pins s σ H Q I h
  refine Compare_chain (thn (ha pins s σ H _ I h) fun v s1 ⟨x, H1, I1, r1, q1⟩ => chain_link (thn (hb pins s1 σ H1 _ I1 q1) fun u s2 ⟨y, H2, I2, r2, q2⟩ =>
    thn (ho pins s2 σ H2 x y v u _ I2 r1 r2 q2) fun d s3 ⟨z, H3, I3, r3, k, e, q3⟩ => ?_)) hm
  subst e
  cases r3
  refine wpAny_truthy_bool ?_
  cases k with
  | false => exact ite_ff ⟨.bl false, H3, I3, rfl, q3⟩
  | true => exact ite_tt (chain_last (thn (hc pins s3 σ H3 _ I3 q3) fun w' s4 ⟨z', H4, I4, r4, q4⟩ => ho' pins s4 σ H4 y z' u w' Q I4 r2 r4 q4))
theorem pt_chain {op op' : CmpOp} {r r' : R2} (ho : OpR X (compareOp op) r) (ho' : OpR X (compareOp op') r') (ha : PE X a ta) (hb : PE X b tb) (hc : PE X c tc)
    (hm : lastMarks [op, op'] [b, c] = false := by with_unfolding_all rfl) : PT X (.Compare a [op, op'] [b, c] pos) (tTest (tChain r r' ta tb tc)) := by
  intro pins s σ H Q I h
  refine isTrue_chain (thn (ha pins s σ H _ I h) fun v s1 ⟨x, H1, I1, r1, q1⟩ => test_link (thn (hb pins s1 σ H1 _ I1 q1) fun u s2 ⟨y, H2, I2, r2, q2⟩ =>
    thn (ho pins s2 σ H2 x y v u _ I2 r1 r2 q2) fun d s3 ⟨z, H3, I3, r3, k, e, q3⟩ => ?_)) hm
  subst e
  cases r3
  refine wpAny_truthy_bool ?_
  cases k with
  | false =>
    obtain ⟨k', e', q'⟩ := q3
    cases e'
    exact ite_ff ⟨H3, I3, q'⟩
  | true =>
    refine ite_tt (test_last (thn (hc pins s3 σ H3 _ I3 q3) fun w' s4 ⟨z', H4, I4, r4, q4⟩ => thn (ho' pins s4 σ H4 y z' u w' _ I4 r2 r4 q4) fun d' s5 ⟨z2, H5, I5, r5, k2, e2, q5⟩ => ?_))
    subst e2
    cases r5
    exact wpAny_truthy_bool ⟨H5, I5, q5⟩

/-! ### truth -/
/-- a value's truth by the abstract heap -/
def TruV (K : PySem.W.Frag) (x : V) (H : Hp) (k : Bool) : Prop :=
  match x with
  | .non => k = false
  | .bl b => k = b
  | .int i => k = (i != 0)
  | .str y => y.length ≤ sizeLine ∧ k = ((y.length : Int) != 0)
  | .byt y => y.size ≤ sizeLine ∧ k = ((y.size : Int) != 0)
  | .ref p => (∃ xs, SqL K H p xs ∧ k = !xs.isEmpty) ∨ (∃ xs, SqT K H p xs ∧ k = !xs.isEmpty) ∨ ∃ kvs, H p = some (.dK kvs) ∧ k = !kvs.isEmpty
  | _ => False
theorem isEmpty_kv {κ : Type} {kvs : List (κ × V)} {vs : List (κ × Value)} (r : KV kvs vs) : (!vs.isEmpty) = !kvs.isEmpty := by
  cases r <;> rfl
theorem isEmpty_of {xs : List V} {its : List Value} (r : Vals xs its) : (!its.toArray.isEmpty) = !xs.isEmpty := by
  cases r <;> simp
theorem line63 : (sizeLine : Nat) < 2 ^ 63 := by rw [sizeLine_eq]; decide
theorem tru_ok : TruR X (fun x H Q => ∃ k, TruV X.K x H k ∧ Q k H) := by
  intro pins s σ H x v Q I rx h
  obtain ⟨k, e, q⟩ := h
  have hl := line63
  have hs : sizeLine = 16777216 := sizeLine_eq
  cases x with
  | non =>
    cases rx
    have e' : k = false := e
    subst e'
    exact truthy_none ⟨H, I, q⟩
  | bl b =>
    cases rx
    have e' : k = b := e
    subst e'
    exact wpAny_truthy_bool ⟨H, I, q⟩
  | int i =>
    obtain ⟨t, rfl⟩ := rx
    have e' : k = (i != 0) := e
    subst e'
    exact PySem.P.truthy_int ⟨H, I, q⟩
  | str y =>
    obtain ⟨t, rfl⟩ := rx
    obtain ⟨hy, e'⟩ : y.length ≤ sizeLine ∧ k = ((y.length : Int) != 0) := e
    subst e'
    exact PySem.P.truthy_str (by omega) ⟨H, I.tok _, q⟩
  | byt y =>
    obtain ⟨t, rfl⟩ := rx
    obtain ⟨hy, e'⟩ : y.size ≤ sizeLine ∧ k = ((y.size : Int) != 0) := e
    subst e'
    exact PySem.W.truthy_bytes (by omega) ⟨H, I.tok _, q⟩
  | ref p =>
    cases rx
    have e' : (∃ xs, SqL X.K H p xs ∧ k = !xs.isEmpty) ∨ (∃ xs, SqT X.K H p xs ∧ k = !xs.isEmpty) ∨ ∃ kvs, H p = some (.dK kvs) ∧ k = !kvs.isEmpty := e
    rcases e' with ⟨xs, hx, e'⟩ | ⟨xs, hx, e'⟩ | ⟨kvs, hx, e'⟩
    · subst e'
      obtain ⟨its, r, pl, hz⟩ := I.list hx
      have hlen := r.length
      exact wpAny_truthy_list pl.isList (by simp only [List.size_toArray]; omega) ⟨H, I.tok _, by rw [isEmpty_of r]; exact q⟩
    · subst e'
      obtain ⟨its, r, pl, hz⟩ := I.tuple hx
      have hlen := r.length
      exact truthy_tuple pl (by simp only [List.size_toArray]; omega) ⟨H, I.tok _, by rw [isEmpty_of r]; exact q⟩
    · subst e'
      obtain ⟨hz, hS, vs, r, m⟩ : kvs.length ≤ sizeLine ∧ (p == sysModules) = false ∧ ∃ vs, KV kvs vs ∧ s.heap.DictOf (mixKind X.prog X.w) p vs := I.hok p _ hx
      have hlen : kvs.length = vs.length := Paired.length r
      exact wpAny_truthy_dict hS m (by omega) ⟨H, I.tok _, by rw [isEmpty_kv r]; exact q⟩
  | _ => exact (show False from e).elim
/-- any expression whose test is its value's truth (a name, a call, a subscript, a field ..: he by fun _ => rfl) -/
theorem pt_truth (ha : PE X a ta) (he : ∀ whole, isTrue a X.env whole = (do let v ← whole; standAt a.pos; holding [v] (truthy v))) :
    PT X a (fun σ H Q => ta σ H fun x H' => ∃ k, TruV X.K x H' k ∧ Q k H') := by
  intro pins s σ H Q I h
  exact isTrue_plain (thn (ha pins s σ H _ I h) fun v s1 ⟨x, H1, I1, r1, q1⟩ => tru_ok pins s1 σ H1 x v Q I1 r1 q1) (he _)

/-! ### strs and bytes -/
theorem pe_byt {x : List UInt8} {k : Nat} : PE X (.Constant (.bytes x) k pos) (fun _ H Q => Q (.byt x.toArray) H) := fun _ _ _ H _ I h => PySem.W.Constant_bytes ⟨.byt x.toArray, H, I.tok _, ⟨_, rfl⟩, h⟩
theorem op_add_str : OpR X (binaryOp .Add) (fun x y H Q => ∃ i j, x = .str i ∧ y = .str j ∧ i.length + j.length ≤ sizeLine ∧ Q (.str (i ++ j)) H) := by
  intro pins s σ H x y v u Q I rx ry h
  obtain ⟨i, j, rfl, rfl, hz, q⟩ := h
  obtain ⟨t, rfl⟩ := rx
  obtain ⟨t', rfl⟩ := ry
  exact add_str (fun t' tk => ⟨.str (i ++ j), H, I.tok _, ⟨_, rfl⟩, q⟩) hz
theorem iop_add_str : OpR X (inplaceOp .Add) (fun x y H Q => ∃ i j, x = .str i ∧ y = .str j ∧ i.length + j.length ≤ sizeLine ∧ Q (.str (i ++ j)) H) := by
  intro pins s σ H x y v u Q I rx ry h
  obtain ⟨i, j, rfl, rfl, hz, q⟩ := h
  obtain ⟨t, rfl⟩ := rx
  obtain ⟨t', rfl⟩ := ry
  exact iadd_str (fun t' tk => ⟨.str (i ++ j), H, I.tok _, ⟨_, rfl⟩, q⟩) hz
theorem op_add_byt : OpR X (binaryOp .Add) (fun x y H Q => ∃ i j, x = .byt i ∧ y = .byt j ∧ i.size + j.size ≤ 16777216 ∧ Q (.byt (i ++ j)) H) := by
  intro pins s σ H x y v u Q I rx ry h
  obtain ⟨i, j, rfl, rfl, hz, q⟩ := h
  obtain ⟨t, rfl⟩ := rx
  obtain ⟨t', rfl⟩ := ry
  exact PySem.W.KBy.add_bytes hz (fun t' tk => ⟨.byt (i ++ j), H, I.tok _, ⟨_, rfl⟩, q⟩)

def PlainIxT (b : Expr) : Prop := ∀ o i, subscripted b false o i = operate [o, i] (getItem o i)
/-- s[i], 0 ≤ i < len -/
theorem pe_item_str (ha : PE X a ta) (hb : PE X b tb) (hs : PlainIxT b) :
    PE X (.Subscript a b pos) (tOp (fun x y H Q => ∃ z i c, x = .str z ∧ y = .int i ∧ 0 ≤ i ∧ i < 2 ^ 63 ∧ i < z.length ∧ z.cps[i.toNat]? = some c ∧ Q (.str ⟨#[c]⟩) H) ta tb) := by
  intro pins s σ H Q I h
  refine Subscript_ (binT ha hb I h fun v u s2 x y H2 I2 rx ry q => ?_)
  obtain ⟨z, i, c, rfl, rfl, h0, h63, h1, hc, q⟩ := q
  obtain ⟨t, rfl⟩ := rx
  obtain ⟨t', rfl⟩ := ry
  have e : seqIndex? i z.length = some i.toNat := PySem.StrLaws.seqIndex_nonneg h0 h1
  exact tail_any (typeIs_str s2 z t) slot_str_getitem.lookup (getItem_str (c := c) (by
    have e1 : decide (i < -(2 ^ 63 : Int)) = false := decide_eq_false (by omega)
    have e2 : decide (i ≥ 2 ^ 63) = false := decide_eq_false (by omega)
    rw [e1, e2] <;> rfl) (by rw [e]; exact hc) ⟨.str ⟨#[c]⟩, H2, I2.tok _, ⟨_, rfl⟩, q⟩) (hs _ _)
/-- b[i], 0 ≤ i < len -/
theorem pe_item_byt (ha : PE X a ta) (hb : PE X b tb) (hs : PlainIxT b) :
    PE X (.Subscript a b pos) (tOp (fun x y H Q => ∃ (z : List UInt8) (i : Int), x = .byt z.toArray ∧ y = .int i ∧ z.length ≤ sizeLine ∧ 0 ≤ i ∧ i < z.length ∧ Q (.int ((z.getD i.toNat 0).toNat : Nat)) H) ta tb) := by
  intro pins s σ H Q I h
  refine Subscript_ (binT ha hb I h fun v u s2 x y H2 I2 rx ry q => ?_)
  obtain ⟨z, i, rfl, rfl, hz, h0, h1, q⟩ := q
  obtain ⟨t, rfl⟩ := rx
  obtain ⟨t', rfl⟩ := ry
  have hl : sizeLine = 16777216 := sizeLine_eq
  exact tail_any (PySem.W.typeIs_bytes s2 z.toArray t) PySem.W.FB.slot_bytes_getitem.lookup (PySem.W.getItem_bytes (by omega) h0 h1 ⟨.int ((z.getD i.toNat 0).toNat : Nat), H2, I2.tok _, ⟨_, rfl⟩, q⟩) (hs _ _)

/-! ### scalar builtins, by CallR -/
theorem vals1 {x : V} {us : List Value} (r : Vals [x] us) : ∃ u, us = [u] ∧ RelV x u := by
  cases r with
  | cons r1 r2 => cases r2; exact ⟨_, rfl, r1⟩
theorem vals2 {x y : V} {us : List Value} (r : Vals [x, y] us) : ∃ u w', us = [u, w'] ∧ RelV x u ∧ RelV y w' := by
  cases r with
  | cons r1 r2 =>
    cases r2 with
    | cons r3 r4 => cases r4; exact ⟨_, _, rfl, r1, r3⟩
theorem call_abs : CallR X (.builtin "abs") (fun xs H Q => ∃ i, xs = [.int i] ∧ Q (.int (if i < 0 then -i else i)) H) := by
  intro pins s σ H xs us Q I r h
  obtain ⟨i, rfl, q⟩ := h
  obtain ⟨u, rfl, t, rfl⟩ := vals1 r
  exact call_abs_int fun u tk => ⟨.int (if i < 0 then -i else i), H, I.tok _, ⟨_, rfl⟩, q⟩
theorem call_max2 (hc : X.calm = true) : CallR X (.builtin "max") (fun xs H Q => ∃ i j, xs = [.int i, .int j] ∧ Q (.int (if j > i then j else i)) H) := by
  intro pins s σ H xs us Q I r h
  obtain ⟨i, j, rfl, q⟩ := h
  obtain ⟨u, w', rfl, ⟨t, rfl⟩, ⟨t', rfl⟩⟩ := vals2 r
  refine max_two_ints (I.ok.hd hc) fun h' tk k => ⟨_, H, I.kept k, ?_, q⟩
  by_cases hj : j > i
  · rw [if_pos hj, if_pos hj]; exact ⟨_, rfl⟩
  · rw [if_neg hj, if_neg hj]; exact ⟨_, rfl⟩
theorem call_min2 (hc : X.calm = true) : CallR X (.builtin "min") (fun xs H Q => ∃ i j, xs = [.int i, .int j] ∧ Q (.int (if j < i then j else i)) H) := by
  intro pins s σ H xs us Q I r h
  obtain ⟨i, j, rfl, q⟩ := h
  obtain ⟨u, w', rfl, ⟨t, rfl⟩, ⟨t', rfl⟩⟩ := vals2 r
  refine min_two_ints (I.ok.hd hc) fun h' tk k => ⟨_, H, I.kept k, ?_, q⟩
  by_cases hj : j < i
  · rw [if_pos hj, if_pos hj]; exact ⟨_, rfl⟩
  · rw [if_neg hj, if_neg hj]; exact ⟨_, rfl⟩
theorem call_int1 : CallR X (.type "int") (fun xs H Q => (∃ i, xs = [.int i] ∧ Q (.int i) H) ∨ ∃ k, xs = [.bl k] ∧ Q (.int (if k then 1 else 0)) H) := by
  intro pins s σ H xs us Q I r h
  rcases h with ⟨i, rfl, q⟩ | ⟨k, rfl, q⟩
  · obtain ⟨u, rfl, t, rfl⟩ := vals1 r
    exact call_int_int ⟨.int i, H, I, ⟨_, rfl⟩, q⟩
  · obtain ⟨u, rfl, r1⟩ := vals1 r
    cases r1
    exact call_int_bool ⟨.int (if k then 1 else 0), H, I.tok _, ⟨_, rfl⟩, q⟩
theorem call_bool1 : CallR X (.type "bool") (fun xs H Q => (∃ i, xs = [.int i] ∧ Q (.bl (i != 0)) H) ∨ ∃ k, xs = [.bl k] ∧ Q (.bl k) H) := by
  intro pins s σ H xs us Q I r h
  rcases h with ⟨i, rfl, q⟩ | ⟨k, rfl, q⟩
  · obtain ⟨u, rfl, t, rfl⟩ := vals1 r
    exact call_bool_int ⟨.bl (i != 0), H, I, rfl, q⟩
  · obtain ⟨u, rfl, r1⟩ := vals1 r
    cases r1
    exact call_bool_bool ⟨.bl k, H, I, rfl, q⟩
theorem call_str_int : CallR X (.type "str") (fun xs H Q => ∃ i, xs = [.int i] ∧ i.natAbs.log2 < 1920 ∧ Q (.str (toString i)) H) := by
  intro pins s σ H xs us Q I r h
  obtain ⟨i, rfl, hz, q⟩ := h
  obtain ⟨u, rfl, t, rfl⟩ := vals1 r
  exact PySem.P.str_of_int hz ⟨.str _, H, I.tok _, ⟨_, rfl⟩, q⟩
theorem call_ord : CallR X (.builtin "ord") (fun xs H Q => ∃ x, xs = [.str x] ∧ x.length = 1 ∧ Q (.int (x.cps.getD 0 0 : Nat)) H) := by
  intro pins s σ H xs us Q I r h
  obtain ⟨x, rfl, hz, q⟩ := h
  obtain ⟨u, rfl, t, rfl⟩ := vals1 r
  exact ord_of_one hz ⟨.int _, H, I.tok _, ⟨_, rfl⟩, q⟩
theorem call_chr : CallR X (.builtin "chr") (fun xs H Q => ∃ i, xs = [.int i] ∧ 0 ≤ i ∧ i ≤ 1114111 ∧ Q (.str ⟨#[i.toNat]⟩) H) := by
  intro pins s σ H xs us Q I r h
  obtain ⟨i, rfl, h0, h1, q⟩ := h
  obtain ⟨u, rfl, t, rfl⟩ := vals1 r
  exact chr_of_range h0 h1 ⟨.str _, H, I.tok _, ⟨_, rfl⟩, q⟩
/-- len of a str, a bytes, a list, a tuple -/
def LenV (K : PySem.W.Frag) (x : V) (H : Hp) (n : Nat) : Prop :=
  match x with
  | .str y => y.length ≤ sizeLine ∧ n = y.length
  | .byt y => y.size ≤ sizeLine ∧ n = y.size
  | .ref p => (∃ xs, SqL K H p xs ∧ n = xs.length) ∨ ∃ xs, SqT K H p xs ∧ n = xs.length
  | _ => False
theorem call_len : CallR X (.builtin "len") (fun xs H Q => ∃ x n, xs = [x] ∧ LenV X.K x H n ∧ Q (.int n) H) := by
  intro pins s σ H xs us Q I r h
  obtain ⟨x, n, rfl, e, q⟩ := h
  obtain ⟨u, rfl, rx⟩ := vals1 r
  have hl := line63
  have hs : sizeLine = 16777216 := sizeLine_eq
  cases x with
  | str y =>
    obtain ⟨t, rfl⟩ := rx
    obtain ⟨hy, e'⟩ : y.length ≤ sizeLine ∧ n = y.length := e
    subst e'
    exact len_str (by omega) ⟨.int _, H, I.tok _, ⟨_, rfl⟩, q⟩
  | byt y =>
    obtain ⟨t, rfl⟩ := rx
    obtain ⟨hy, e'⟩ : y.size ≤ sizeLine ∧ n = y.size := e
    subst e'
    exact PySem.W.len_bytes (by omega) ⟨.int _, H, I.tok _, ⟨_, rfl⟩, q⟩
  | ref p =>
    cases rx
    have e' : (∃ xs, SqL X.K H p xs ∧ n = xs.length) ∨ ∃ xs, SqT X.K H p xs ∧ n = xs.length := e
    rcases e' with ⟨xs, hx, e'⟩ | ⟨xs, hx, e'⟩
    · subst e'
      obtain ⟨its, r', pl, hz⟩ := I.list hx
      have hlen := r'.length
      exact Calls.call_len_list pl.isList (by simp only [List.size_toArray]; omega) ⟨.int xs.length, H, I.tok _, ⟨_, by simp only [List.size_toArray]; rw [hlen]⟩, q⟩
    · subst e'
      obtain ⟨its, r', pl, hz⟩ := I.tuple hx
      have hlen := r'.length
      exact len_tuple pl (by simp only [List.size_toArray]; omega) ⟨.int xs.length, H, I.tok _, ⟨_, by simp only [List.size_toArray]; rw [hlen]⟩, q⟩
  | _ => exact (show False from e).elim
/-- divmod: a new tuple -/
theorem call_divmod : CallR X (.builtin "divmod") (fun xs H Q => ∃ i j, xs = [.int i, .int j] ∧ CDiv i j ∧ ∀ p, H p = none → Q (.ref p) (upd H p (.tup [.int (i / j), .int (i % j)]))) := by
  intro pins s σ H xs us Q I r h
  obtain ⟨i, j, rfl, ⟨h1, h2⟩, q⟩ := h
  obtain ⟨u, w', rfl, ⟨t, rfl⟩, ⟨t', rfl⟩⟩ := vals2 r
  refine divmod_int (by omega) ?_ (.inl (PyProof.noPylong_small (by omega)))
  rw [Int.fdiv_eq_ediv_of_nonneg i (by omega), Int.fmod_eq_emod_of_nonneg i (by omega)]
  have hn : H s.heap.objs.size = none := I.hok.fresh (Nat.le_refl _)
  refine ⟨.ref s.heap.objs.size, _, ?_, rfl, q _ hn⟩
  refine I.laid (fun b o e => Heap.get?_push_of_some _ e) (Nat.le_refl _) ⟨by simp only [List.length_cons, List.length_nil]; rw [sizeLine_eq]; decide, [.int (i / j) s.toks, .int (i % j) (s.toks + 1)], .cons ⟨_, rfl⟩ (.cons ⟨_, rfl⟩ .nil), ?_⟩
  exact ⟨_, Heap.get?_push_size s.heap rfl, rfl, 0, rfl⟩
end
end L2

namespace L2
open PySem PySem.Spec PyProof.Rows

/-! ### an instance, its attributes a map -/
structure ObjM (h : Heap) (x dx C : Addr) (mA : Str → Option Value) : Prop where
  obj : h.get? x = some (PySem.W.instObj C dx)
  ns : h.Ns1 dx mA
  ne : dx ≠ x

theorem lookIn_ns {h : Heap} {dx : Addr} {mA : Str → Option Value} (n : h.Ns1 dx mA) : ∃ od, h.get? dx = some od ∧ ∀ name, PySem.W.lookIn name od = some (mA name) := by
  obtain ⟨o, es, ep, ho, hd, hk, _, hm⟩ := n
  refine ⟨o, ho, fun name => ?_⟩
  have e := hm name
  unfold nsFind findBy at e
  rw [← Array.find?_toList] at e
  unfold PySem.W.lookIn
  rw [hd]
  dsimp only
  split
  · rename_i y q
    rw [q] at e
    exact congrArg some e
  · rename_i q
    rw [q] at e
    have a : es.toList.any (·.refKey) = false := by
      rw [List.any_eq_false]
      intro y hy
      obtain ⟨z, t, hkey⟩ := hk y (Array.mem_toList_iff.mp hy)
      simp [DictEntry.refKey, hkey]
    have a' : ¬ es.toList.any (·.refKey) = true := by rw [a]; exact Bool.false_ne_true
    rw [if_neg a']
    exact congrArg some e

theorem ObjM.look {h : Heap} {x dx C : Addr} {mA : Str → Option Value} (I : ObjM h x dx C mA) : ∃ od, PySem.W.InstAt h x (PySem.W.instObj C dx) C (some od) ∧ ∀ name, PySem.W.lookIn name od = some (mA name) :=
  let ⟨od, ho, hl⟩ := lookIn_ns I.ns
  ⟨od, ⟨I.obj, rfl, rfl, ho⟩, hl⟩

section
variable {prog : Program} {w : World} {A : Around} {E : Value → Shared → Prop} {s : Shared} {K : PySem.W.Frag} {x dx C f : Addr} {mA : Str → Option Value} {name : Str} {v : Value}

theorem get_map {expr : Bool} {Q : Value → Shared → Prop} (X : K.In s.heap) (I : ObjM s.heap x dx C mA) (hg : PySem.W.plainGet K C name = true) (hh : PySem.W.hasDictIn K C = true)
    (ha : PySem.W.findIn K (.ref C) name = some none) (hv : mA name = some v) (hv' : PySem.W.handedIn v = true) (h : Q v { s with toks := s.toks + 1 }) :
    wpAny (model prog w) A (getAttr (.ref x) name expr) Q E s := by
  obtain ⟨od, J, hl⟩ := I.look
  exact PySem.W.get_value X J (PySem.W.plainGet_of hg).1 (PySem.W.findObj_own hh ha rfl (by rw [hl, hv])) hv' h

theorem get_const {expr : Bool} {a : Value} {Q : Value → Shared → Prop} (X : K.In s.heap) (I : ObjM s.heap x dx C mA) (hg : PySem.W.plainGet K C name = true) (hh : PySem.W.hasDictIn K C = true)
    (ha : PySem.W.findIn K (.ref C) name = some (some a)) (hn : PySem.W.specialIn K a "__get__" = some none) (hc : PySem.W.copiedNames.contains name = false) (hv : mA name = none) (hv' : PySem.W.handedIn a = true)
    (h : Q a { s with toks := s.toks + 1 }) : wpAny (model prog w) A (getAttr (.ref x) name expr) Q E s := by
  obtain ⟨od, J, hl⟩ := I.look
  exact PySem.W.get_value X J (PySem.W.plainGet_of hg).1 (PySem.W.findObj_cls hh ha hn hv' hc (by rw [hl, hv])) hv' h

theorem get_meth {pl : Sem Bool} {Q : Value × List Value → Shared → Prop} (X : K.In s.heap) (I : ObjM s.heap x dx C mA) (hg : PySem.W.plainGet K C name = true)
    (hf : PySem.W.findIn K (.ref C) name = some (some (.ref f))) (ht : PySem.W.isFn K (.ref f) = true) (hv : mA name = none) (h : Q (.ref f, [.ref x]) s) :
    wpAny (model prog w) A (getMethod (.ref x) name pl) Q E s := by
  obtain ⟨od, J, hl⟩ := I.look
  exact PySem.W.method_fn X J (PySem.W.plainGet_of hg).1 (PySem.W.plainGet_of hg).2 hf (beq_iff_eq.mp ht) (by show (PySem.W.lookIn name od).map (·.isSome) = some false; rw [hl, hv]; rfl) h

theorem set_map {ns : List Str} {Q : Unit → Shared → Prop} (X : K.In s.heap) (I : ObjM s.heap x dx C mA)
    (hs : PySem.W.findIn K (.ref C) "__setattr__" = some (some (.builtin "object.__setattr__"))) (hp : PySem.W.plainOver K C = true) (ht : PySem.W.takerIn K C name = some none) (hh : PySem.W.hasDictIn K C = true)
    (hw : PySem.Within mA ns) (hsz : ns.length ≤ sizeLine)
    (h : ∀ h', ObjM h' x dx C (fun y => if y = name then some v else mA y) → Heap.SameBut dx s.heap h' → Q () { s with heap := h', toks := s.toks + 2 }) :
    wpAny (model prog w) A (setAttr (.ref x) name v) Q E s := by
  obtain ⟨od, J, hl⟩ := I.look
  refine PySem.W.set_plain X J hs (PySem.W.osa_open (s := { s with toks := s.toks + 1 }) (r := none) X J hp ht fun b => ?_)
  obtain ⟨cd, hc, hd'⟩ := PySem.W.any_some hh
  have hx : s.heap.get? x = some ⟨.ref C, some dx, .plain, #[]⟩ := I.obj
  refine wpAny_bind (wpAny_pure (wpAny_bind (wpAny_bind (wpAny_loadPart hx (wpAny_bind (PySem.W.Looks.here (s := { s with toks := s.toks + 1 }) (PySem.W.looks_clsIn X hc) ?_))))))
  rw [hd']
  refine wpAny_pure (a := some dx) (wpAny_bind (wpAny_pure (wpAny_bind ?_)))
  refine wpAny_nsSet1 (s := { s with toks := s.toks + 1 }) I.ns fun h' hn2 hs2 => ?_
  obtain ⟨oD, esD, epD, hoD, hdD, hcD⟩ := hn2.count (PySem.Within.cons name v hw)
  refine wpAny_bind (wpAny_lookBehind hoD (by rw [hdD]; exact pastItsLine_dict (Nat.le_trans hcD (by rw [List.length_cons]; omega))) ?_)
  exact wpAny_pure (h _ ⟨(hs2.2 _ (Ne.symm I.ne)).trans I.obj, hn2, I.ne⟩ hs2)

/-- C(..): the dict at the heap's end, the instance behind it; then its __init__ -/
theorem make_map {R : Result → Shared → Prop} {vs : List Value} {kw : List (Str × Value)} (X : K.In s.heap) (hm : PySem.W.makesIn K C = true)
    (hi : PySem.W.findIn K (.ref C) "__init__" = some (some (.ref f))) (hf : PySem.W.typeIn K (.ref f) = some (.type "function"))
    (h : codeAny (model prog w) (A.under (.builtin "type.__call__" ⟨.ref C :: vs, kw⟩)) (.call (.ref f) ⟨.ref (s.heap.objs.size + 1) :: vs, kw⟩) (PySem.W.InitBack (s.heap.objs.size + 1) R)
      { s with heap := (s.heap.push PySem.W.emptyDict).push (PySem.W.instObj C s.heap.objs.size) }) :
    codeAny (model prog w) A (.call (.ref C) ⟨vs, kw⟩) R s := by
  obtain ⟨hh, g, d, t, os⟩ := s
  exact PySem.W.make_core (PySem.W.makes_of X hm) (PySem.W.looks_findIn X hi) (fun self => PySem.W.bind_fn X self hf) (.inl rfl) h
/-- C() where there is no __init__ but object's -/
theorem make_map0 {R : Result → Shared → Prop} (X : K.In s.heap) (hm : PySem.W.makesIn K C = true)
    (hi : PySem.W.findIn K (.ref C) "__init__" = some (some (.builtin "object.__init__")))
    (hb : ∀ self, PySem.W.Looks (model prog w) s.heap (bindSpecial (.builtin "object.__init__") self) (.builtin "object.__init__", [self]))
    (h : codeAny (model prog w) (A.under (.builtin "type.__call__" ⟨[.ref C], []⟩)) (.call (.builtin "object.__init__") ⟨[.ref (s.heap.objs.size + 1)], []⟩) (PySem.W.InitBack (s.heap.objs.size + 1) R)
      { s with heap := (s.heap.push PySem.W.emptyDict).push (PySem.W.instObj C s.heap.objs.size) }) :
    codeAny (model prog w) A (.call (.ref C) ⟨[], []⟩) R s := by
  obtain ⟨hh, g, d, t, os⟩ := s
  exact PySem.W.make_core (PySem.W.makes_of X hm) (PySem.W.looks_findIn X hi) hb (.inr ⟨rfl, rfl⟩) h
end

/-! ### the attributes as a list of pairs -/
def putF (f : Str) (v : V) : List (Str × V) → List (Str × V)
  | [] => [(f, v)]
  | (g, x) :: r => if g = f then (g, v) :: r else (g, x) :: putF f v r
theorem lookup_putF (f g : Str) (v : V) : ∀ fs : List (Str × V), (putF f v fs).lookup g = if g = f then some v else fs.lookup g
  | [] => by
    show List.lookup g [(f, v)] = _
    by_cases h : g = f
    · have hb : (g == f) = true := beq_iff_eq.mpr h
      simp only [List.lookup, hb, if_pos h]
    · have hb : (g == f) = false := beq_eq_false_iff_ne.mpr h
      simp only [List.lookup, hb, if_neg h]
  | (k, x) :: r => by
    have ih := lookup_putF f g v r
    rw [show putF f v ((k, x) :: r) = (if k = f then (k, v) :: r else (k, x) :: putF f v r) from rfl]
    by_cases hk : k = f
    · rw [if_pos hk]
      by_cases h : g = k
      · have hb : (g == k) = true := beq_iff_eq.mpr h
        simp only [List.lookup, hb, if_pos (h.trans hk)]
      · have hb : (g == k) = false := beq_eq_false_iff_ne.mpr h
        simp only [List.lookup, hb, if_neg (fun e : g = f => h (e.trans hk.symm))]
    · rw [if_neg hk]
      by_cases h : g = k
      · have hb : (g == k) = true := beq_iff_eq.mpr h
        simp only [List.lookup, hb, if_neg (fun e : g = f => hk (h.symm.trans e))]
      · have hb : (g == k) = false := beq_eq_false_iff_ne.mpr h
        simp only [List.lookup, hb]
        exact ih
theorem keys_putF (f : Str) (v : V) : ∀ fs : List (Str × V), f ∈ (putF f v fs).map (·.1) ∧ ∀ g, g ∈ fs.map (·.1) → g ∈ (putF f v fs).map (·.1)
  | [] => ⟨by simp [putF], fun g h => by simp at h⟩
  | (k, x) :: r => by
    obtain ⟨i1, i2⟩ := keys_putF f v r
    rw [show putF f v ((k, x) :: r) = (if k = f then (k, v) :: r else (k, x) :: putF f v r) from rfl]
    by_cases hk : k = f
    · rw [if_pos hk]
      subst hk
      exact ⟨by simp, fun g h => by simpa using h⟩
    · rw [if_neg hk]
      refine ⟨?_, fun g h => ?_⟩
      · rw [List.map_cons]
        exact List.mem_cons_of_mem _ i1
      · rw [List.map_cons] at h ⊢
        rcases List.mem_cons.mp h with e | e
        · exact List.mem_cons.mpr (.inl e)
        · exact List.mem_cons_of_mem _ (i2 g e)
theorem length_putF (f : Str) (v : V) : ∀ fs : List (Str × V), (putF f v fs).length ≤ fs.length + 1
  | [] => by simp [putF]
  | (k, x) :: r => by
    have ih := length_putF f v r
    rw [show putF f v ((k, x) :: r) = (if k = f then (k, v) :: r else (k, x) :: putF f v r) from rfl]
    by_cases hk : k = f
    · rw [if_pos hk, List.length_cons, List.length_cons]; omega
    · rw [if_neg hk, List.length_cons, List.length_cons]; omega

theorem RelO.some_of {v : V} {o : Option Value} (r : RelO (some v) o) : ∃ u, o = some u ∧ RelV v u := by
  cases o with
  | none => exact (show False from r).elim
  | some u => exact ⟨u, rfl, r⟩
theorem RelO.none_of {o : Option Value} (r : RelO none o) : o = none := by
  cases o with
  | none => rfl
  | some u => exact (show False from r).elim
theorem handed_of {v : V} {u : Value} (r : RelV v u) : PySem.W.handedIn u = true := by
  cases v with
  | non => cases (show u = Value.none from r); rfl
  | bl b => cases (show u = Value.bool b from r); rfl
  | int i => obtain ⟨t, e⟩ := (show ∃ t, u = Value.int i t from r); cases e; rfl
  | str x => obtain ⟨t, e⟩ := (show ∃ t, u = Value.str x t from r); cases e; rfl
  | byt b => obtain ⟨t, e⟩ := (show ∃ t, u = Value.bytes b t from r); cases e; rfl
  | flt b => obtain ⟨t, e⟩ := (show ∃ t, u = Value.float b t from r); cases e; rfl
  | ref a => cases (show u = Value.ref a from r); rfl
  | ty n => cases (show u = Value.type n from r); rfl

section
variable {P : Program} {w : World} {H H' : Hp} {h h' : Heap} {a C dx : Addr} {fs fs' : List (Str × V)}
theorem ins_get (hok : HOk P w H h) (e : H a = some (.ins C dx fs)) : ∃ mA, ObjM h a dx C mA ∧ (∀ f, RelO (fs.lookup f) (mA f)) ∧ PySem.Within mA (fs.map (·.1)) ∧ fs.length ≤ 1000 ∧ H dx = some (.own a) := by
  obtain ⟨d, z, ne, ob, mA, n, r, q⟩ := (show ObjOk P w H h a (.ins C dx fs) from hok a _ e)
  exact ⟨mA, ⟨ob, n, ne⟩, r, q, z, d⟩
end

/-! ### what of the text a class must have -/
structure Cls (K : PySem.W.Frag) (C : Addr) : Prop where
  pg : PySem.W.plainGet K C Str.empty = true
  hd : PySem.W.hasDictIn K C = true
  po : PySem.W.plainOver K C = true
  sa : PySem.W.findIn K (.ref C) "__setattr__" = some (some (.builtin "object.__setattr__"))
theorem Cls.get {K : PySem.W.Frag} {C : Addr} (c : Cls K C) (f : Str) : PySem.W.plainGet K C f = true := c.pg
/-- no class of it has the name -/
def NoAttr (K : PySem.W.Frag) (C : Addr) (f : Str) : Prop := PySem.W.findIn K (.ref C) f = some none
theorem NoAttr.taker {K : PySem.W.Frag} {C : Addr} {f : Str} (n : NoAttr K C f) : PySem.W.takerIn K C f = some none := by
  unfold PySem.W.takerIn
  rw [show PySem.W.findIn K (.ref C) f = some none from n]
  rfl
/-- a constant of the class -/
structure Con (K : PySem.W.Frag) (C : Addr) (f : Str) (v : V) (u : Value) : Prop where
  at_ : PySem.W.findIn K (.ref C) f = some (some u)
  rel : RelV v u
  get : PySem.W.specialIn K u "__get__" = some none
  cp : PySem.W.copiedNames.contains f = false
/-- a method: a plain def of the class or of one above it -/
structure Meth (K : PySem.W.Frag) (C : Addr) (m : Str) (f : Addr) : Prop where
  at_ : PySem.W.findIn K (.ref C) m = some (some (.ref f))
  fn : PySem.W.isFn K (.ref f) = true
  kp : PySem.W.keepIn K (.ref f) = true

section
variable {X : Cx} {pins : List (Addr × Obj)} {σ : St} {H : Hp} {s : Shared} {a C dx : Addr} {fs : List (Str × V)} {f : Str} {v : V} {A : Around} {E : Value → Shared → Prop}

theorem getattr_ok {b : Bool} {Q : Value → Shared → Prop} (I : Inv X pins σ H s) (e : H a = some (.ins C dx fs)) (c : Cls X.K C) (n : NoAttr X.K C f) (l : fs.lookup f = some v)
    (h : ∀ u s', Inv X pins σ H s' → RelV v u → Q u s') : wpAny (model X.prog X.w) A (getAttr (.ref a) f b) Q E s := by
  obtain ⟨mA, O, r, _, _, _⟩ := ins_get I.hok e
  obtain ⟨u, hu, ru⟩ := RelO.some_of (v := v) (o := mA f) (by rw [← l]; exact r f)
  exact get_map I.kIn O (c.get f) c.hd n hu (handed_of ru) (h u _ (I.tok _) ru)

theorem getcon_ok {b : Bool} {u : Value} {Q : Value → Shared → Prop} (I : Inv X pins σ H s) (e : H a = some (.ins C dx fs)) (c : Cls X.K C) (k : Con X.K C f v u) (l : fs.lookup f = none)
    (h : ∀ s', Inv X pins σ H s' → Q u s') : wpAny (model X.prog X.w) A (getAttr (.ref a) f b) Q E s := by
  obtain ⟨mA, O, r, _, _, _⟩ := ins_get I.hok e
  have hn : mA f = none := RelO.none_of (by rw [← l]; exact r f)
  exact get_const I.kIn O (c.get f) c.hd k.at_ k.get k.cp hn (handed_of k.rel) (h _ (I.tok _))

theorem getmeth_ok {m : Str} {g : Addr} {pl : Sem Bool} {Q : Value × List Value → Shared → Prop} (I : Inv X pins σ H s) (e : H a = some (.ins C dx fs)) (c : Cls X.K C) (k : Meth X.K C m g) (l : fs.lookup m = none)
    (h : Q (.ref g, [.ref a]) s) : wpAny (model X.prog X.w) A (getMethod (.ref a) m pl) Q E s := by
  obtain ⟨mA, O, r, _, _, _⟩ := ins_get I.hok e
  have hn : mA m = none := RelO.none_of (by rw [← l]; exact r m)
  exact get_meth I.kIn O (c.get m) k.at_ k.fn hn h

theorem setattr_ok {y : V} {u : Value} {Q : Unit → Shared → Prop} (I : Inv X pins σ H s) (e : H a = some (.ins C dx fs)) (c : Cls X.K C) (n : NoAttr X.K C f) (hl : fs.length < 1000) (ry : RelV y u)
    (h : ∀ s', Inv X pins σ (upd H a (.ins C dx (putF f y fs))) s' → Q () s') : wpAny (model X.prog X.w) A (setAttr (.ref a) f u) Q E s := by
  obtain ⟨mA, O, r, wi, _, ho⟩ := ins_get I.hok e
  have hz : (fs.map (·.1)).length ≤ sizeLine := by rw [List.length_map, sizeLine_eq]; omega
  refine set_map I.kIn O c.sa c.po n.taker c.hd wi hz fun h' O' sb => h _ ?_
  have hd : ∃ o, h'.get? dx = some o := let ⟨o, _, _, e', _⟩ := O'.ns; ⟨o, e'⟩
  refine I.write (x := a) (e := dx) (by rw [e]; exact True.intro) (.inr ho) (fun b q hb z => (sb.2 b hb).trans z) hd ?_
  refine ⟨by rw [upd_ne O.ne]; exact ho, ?_, O.ne, O'.obj, _, O'.ns, fun g => ?_, fun g hg => ?_⟩
  · have := length_putF f y fs; omega
  · show RelO ((putF f y fs).lookup g) (if g = f then some u else mA g)
    rw [lookup_putF]
    by_cases q : g = f
    · rw [if_pos q, if_pos q]; exact ry
    · rw [if_neg q, if_neg q]; exact r g
  · by_cases q : g = f
    · rw [q]; exact (keys_putF f y fs).1
    · refine (keys_putF f y fs).2 g (wi g fun z => hg ?_)
      show (if g = f then some u else mA g) = none
      rw [if_neg q]; exact z

/-- a new instance, tracked, without attributes -/
theorem Inv.made (I : Inv X pins σ H s) : Inv X pins σ (upd (upd H s.heap.objs.size (.own (s.heap.objs.size + 1))) (s.heap.objs.size + 1) (.ins C s.heap.objs.size []))
    { s with heap := (s.heap.push PySem.W.emptyDict).push (PySem.W.instObj C s.heap.objs.size) } := by
  have e1 : (s.heap.push PySem.W.emptyDict).get? s.heap.objs.size = some PySem.W.emptyDict := Heap.get?_push_size s.heap rfl
  have e2 : ((s.heap.push PySem.W.emptyDict).push (PySem.W.instObj C s.heap.objs.size)).get? (s.heap.objs.size + 1) = some (PySem.W.instObj C s.heap.objs.size) := by
    have := Heap.get?_push_size (s.heap.push PySem.W.emptyDict) (o := PySem.W.instObj C s.heap.objs.size) rfl
    rwa [Heap.size_push] at this
  have e3 : (s.heap.push PySem.W.emptyDict).Ns s.heap.objs.size (fun _ => none) := ⟨PySem.W.emptyDict, #[], _, e1, rfl, (fun e he => absurd he (by simp)), fun _ => rfl⟩
  have I1 := I.laid (a := s.heap.objs.size) (o := .own (s.heap.objs.size + 1)) (h' := s.heap.push PySem.W.emptyDict) (t' := s.toks) (fun b u q => Heap.get?_push_of_some _ q) (Nat.le_refl _) ⟨_, e1⟩
  refine I1.laid (a := s.heap.objs.size + 1) (o := .ins C s.heap.objs.size []) (t' := s.toks) (fun b u q => Heap.get?_push_of_some _ q) (Nat.le_of_eq (Heap.size_push _ _)) ?_
  have ne : s.heap.objs.size ≠ s.heap.objs.size + 1 := Nat.ne_of_lt (Nat.lt_succ_self _)
  refine ⟨by rw [upd_ne ne, upd_same], Nat.zero_le _, ne, e2, fun _ => none, (Heap.Ns1.of_empty e3).at fun o q => Heap.get?_push_of_some _ q, fun _ => True.intro, fun y hy => absurd rfl hy⟩

/-- e.f where nothing but the object is asked: through attributeBase (super) and the last hold -/
theorem attr_of {prog : Program} {w : World} {env : Env} {e : Expr} {f : Str} {pos : Pos} {s : Shared} {Q : Value → Shared → Prop} (hb : attributeBase e f env (eval e env) = eval e env)
    (h : wpAny (model prog w) A (eval e env) (fun o s₁ => wpAny (model prog w) A (getAttr o f true) Q E s₁) E s) : wpAny (model prog w) A (eval (.Attribute e f pos) env) Q E s :=
  Attribute_any_ h (by rw [arm_eval_Attribute, hb])
end

/-! ### readings and rules -/
/-- e.f, an attribute of the instance -/
def tFld (K : PySem.W.Frag) (ta : TE) (f : Str) : TE := fun σ H Q => ta σ H fun x H1 => ∃ a C dx fs v, x = .ref a ∧ H1 a = some (.ins C dx fs) ∧ Cls K C ∧ NoAttr K C f ∧ fs.lookup f = some v ∧ Q v H1
/-- e.f, a constant of the class -/
def tCon (K : PySem.W.Frag) (ta : TE) (f : Str) : TE := fun σ H Q => ta σ H fun x H1 => ∃ a C dx fs v u, x = .ref a ∧ H1 a = some (.ins C dx fs) ∧ Cls K C ∧ Con K C f v u ∧ fs.lookup f = none ∧ Q v H1
/-- e.f = value -/
def sFld (K : PySem.W.Frag) (ta tv : TE) (f : Str) : TS := fun D σ H => tv σ H fun y H1 => ta σ H1 fun x H2 => ∃ a C dx fs, x = .ref a ∧ H2 a = some (.ins C dx fs) ∧ Cls K C ∧ NoAttr K C f ∧ fs.length < 1000 ∧
  D.nx σ (upd H2 a (.ins C dx (putF f y fs)))
/-- an augmented operator on two values -/
def InOp (X : Cx) (op : Operator) (rd : V → V → Hp → VK → Prop) : Prop :=
  ∀ (pins : List (Addr × Obj)) (s : Shared) (σ : St) (H : Hp) (x y : V) (u v : Value) (Q : VK), Inv X pins σ H s → RelV x u → RelV y v → rd x y H Q → wpAny (model X.prog X.w) X.A (inplaceOp op u v) (EP X pins σ Q) X.xe s
/-- e.f op= value -/
def sFldAug (K : PySem.W.Frag) (ta tv : TE) (rd : V → V → Hp → VK → Prop) (f : Str) : TS := fun D σ H => ta σ H fun x H1 => ∃ a C dx fs v, x = .ref a ∧ H1 a = some (.ins C dx fs) ∧ Cls K C ∧ NoAttr K C f ∧ fs.lookup f = some v ∧
  tv σ H1 fun y H2 => rd v y H2 fun z H3 => ∃ dx' fs', H3 a = some (.ins C dx' fs') ∧ fs'.length < 1000 ∧ D.nx σ (upd H3 a (.ins C dx' (putF f z fs')))

section
variable {X : Cx} {o e value : Expr} {f : Str} {pos pos' tpos : Pos} {ta tv : TE}
theorem pe_fld (he : PE X e ta) (hb : attributeBase e f X.env (eval e X.env) = eval e X.env) : PE X (.Attribute e f pos) (tFld X.K ta f) := by
  intro pins s σ H Q I h
  refine attr_of hb (thn (he pins s σ H _ I h) fun u s1 ⟨x, H1, I1, rx, a, C, dx, fs, v, ex, ea, c, n, l, q⟩ => ?_)
  subst ex
  obtain rfl : u = Value.ref a := rx
  exact getattr_ok I1 ea c n l fun u' s2 I2 ru => ⟨v, H1, I2, ru, q⟩
theorem pe_con (he : PE X e ta) (hb : attributeBase e f X.env (eval e X.env) = eval e X.env) : PE X (.Attribute e f pos) (tCon X.K ta f) := by
  intro pins s σ H Q I h
  refine attr_of hb (thn (he pins s σ H _ I h) fun u s1 ⟨x, H1, I1, rx, a, C, dx, fs, v, u0, ex, ea, c, k, l, q⟩ => ?_)
  subst ex
  obtain rfl : u = Value.ref a := rx
  exact getcon_ok I1 ea c k l fun s2 I2 => ⟨v, H1, I2, k.rel, q⟩
theorem ps_fld (ha : PE X o ta) (hv : PE X value tv) (hs : swapsWith value (some (.Attribute o f pos')) pos.line X.env = pure false) : PS X (.Assign [.Attribute o f pos'] value pos) (sFld X.K ta tv f) := by
  intro pins s σ H D I h
  refine plainObj_wpAny_Assign_Attribute (thn (hv pins s σ H _ I h) fun u s1 ⟨y, H1, I1, ry, q⟩ => thn (ha pins s1 σ H1 _ I1 q) fun ov s2 ⟨x, H2, I2, rx, a, C, dx, fs, ex, ea, c, n, l, q2⟩ => ?_) hs
  subst ex
  obtain rfl : ov = Value.ref a := rx
  exact setattr_ok I2 ea c n l ry fun s3 I3 => ⟨σ, _, I3, q2⟩
theorem ps_fldaug {op : Operator} {rd : V → V → Hp → VK → Prop} (ha : PE X o ta) (hv : PE X value tv) (hop : InOp X op rd) : PS X (.AugAssign (.Attribute o f tpos) op value pos) (sFldAug X.K ta tv rd f) := by
  intro pins s σ H D I h
  refine wpAny_AugAssign_AttributeAny (thn (ha pins s σ H _ I h) fun ov s1 ⟨x, H1, I1, rx, a, C, dx, fs, v, ex, ea, c, n, l, q⟩ => ?_)
  subst ex
  obtain rfl : ov = Value.ref a := rx
  refine getattr_ok I1 ea c n l fun u s2 I2 ru => thn (hv pins s2 σ H1 _ I2 q) fun w3 s3 ⟨y, H2, I3, ry, q3⟩ => thn (hop pins s3 σ H2 v y u w3 _ I3 ru ry q3) fun w4 s4 ⟨z, H3, I4, rz, dx', fs', ea', l', q4⟩ => ?_
  exact setattr_ok I4 ea' c n l' rz fun s5 I5 => ⟨σ, _, I5, q4⟩
def rAdd : V → V → Hp → VK → Prop := fun x y H Q => ∃ i j, x = .int i ∧ y = .int j ∧ Q (.int (i + j)) H
def rSub : V → V → Hp → VK → Prop := fun x y H Q => ∃ i j, x = .int i ∧ y = .int j ∧ Q (.int (i - j)) H
theorem in_add : InOp X .Add rAdd := by
  rintro pins s σ H x y u v Q I rx ry ⟨i, j, rfl, rfl, q⟩
  obtain ⟨t, rfl⟩ := (show ∃ t, u = Value.int i t from rx)
  obtain ⟨t', rfl⟩ := (show ∃ t', v = Value.int j t' from ry)
  exact PyProof.Rows.iadd_int ⟨.int (i + j), H, I.tok _, ⟨_, rfl⟩, q⟩
theorem in_sub : InOp X .Sub rSub := by
  rintro pins s σ H x y u v Q I rx ry ⟨i, j, rfl, rfl, q⟩
  obtain ⟨t, rfl⟩ := (show ∃ t, u = Value.int i t from rx)
  obtain ⟨t', rfl⟩ := (show ∃ t', v = Value.int j t' from ry)
  exact PyProof.Rows.isub_int ⟨.int (i - j), H, I.tok _, ⟨_, rfl⟩, q⟩

/-- what is between an instance and its method: the tree of a method call -/
theorem methcall_of {pl : Sem Bool} {m : Str} {apos : Pos} {args : List Expr} {pins : List (Addr × Obj)} {s : Shared} {σ : St} {H : Hp} {Q : Value → Shared → Prop} {te : TE} (he : PE X e te) (I : Inv X pins σ H s)
    (h : te σ H fun x H1 => ∃ a C dx fs g, x = .ref a ∧ H1 a = some (.ins C dx fs) ∧ Cls X.K C ∧ Meth X.K C m g ∧ fs.lookup m = none ∧
      ∀ s1, Inv X pins σ H1 s1 → wpAny (model X.prog X.w) X.A (callWith pos (.ref g) [.ref a] (backTo pos (starEach args X.env)) (backToKw pos (keywordEach [] X.env))) Q X.xe s1)
    (ht : eval (.Call (.Attribute e m apos) args [] pos) X.env = (do
      let ov ← eval e X.env
      standAt apos.atName
      let (f, first) ← holding [ov] (getMethod ov m pl)
      callWith pos f first (backTo pos (starEach args X.env)) (backToKw pos (keywordEach [] X.env)))) :
    wpAny (model X.prog X.w) X.A (eval (.Call (.Attribute e m apos) args [] pos) X.env) Q X.xe s := by
  refine PySem.W.methodCall_KW (pl := pl) (thn (he pins s σ H _ I h) fun u s1 ⟨x, H1, I1, rx, a, C, dx, fs, g, ex, ea, c, k, l, q⟩ => ?_) ht
  subst ex
  obtain rfl : u = Value.ref a := rx
  exact getmeth_ok I1 ea c k l (q s1 I1)
end

/-! ### isinstance -/
section
variable {X : Cx} {pins : List (Addr × Obj)} {σ : St} {H : Hp} {s : Shared} {A : Around} {E : Value → Shared → Prop} {Q : Value → Shared → Prop} {c : Value} {b : Bool}
/-- the type of a value, as the fragment's deciders take it; for an instance its class -/
inductive TyOf (K : PySem.W.Frag) (H : Hp) : V → Value → Prop where
  | non : TyOf K H .non (.type "NoneType")
  | bl (x : Bool) : TyOf K H (.bl x) (.type "bool")
  | int (i : Int) : TyOf K H (.int i) (.type "int")
  | str (x : Str) : TyOf K H (.str x) (.type "str")
  | flt (x : UInt64) : TyOf K H (.flt x) (.type "float")
  | lst {a : Addr} {xs : List V} (e : H a = some (.lst xs)) : TyOf K H (.ref a) (.type "list")
  | frz {a : Addr} {o : Obj} {xs : List V} (e : H a = some (.frz o (.lst xs))) : TyOf K H (.ref a) (.type "list")
  | tup {a : Addr} {xs : List V} (e : H a = some (.tup xs)) : TyOf K H (.ref a) (.type "tuple")
  | dK {a : Addr} {kvs : List (Key × V)} (e : H a = some (.dK kvs)) : TyOf K H (.ref a) (.type "dict")
  | dT {a : Addr} {kvs : List (List Key × V)} (e : H a = some (.dT kvs)) : TyOf K H (.ref a) (.type "dict")
  | ins {a C dx : Addr} {fs : List (Str × V)} (e : H a = some (.ins C dx fs)) (cl : Cls K C) (ha : PySem.W.findIn K (.ref C) "__class__" = some (some (.builtin "object.__class__")))
      (hn : PySem.W.specialIn K (.builtin "object.__class__") "__get__" = some (some (.builtin "getset_descriptor.__get__"))) (htk : PySem.W.takesIn K (.builtin "object.__class__") = some true)
      (hm : PySem.W.mroIn K C (.type "object") = some true) : TyOf K H (.ref a) (.ref C)
/-- isinstance(x, c) for one class c, a built-in or an own one: kitOne's answer -/
theorem isinst_ok {x : V} {u t : Value} (I : Inv X pins σ H s) (rx : RelV x u) (ty : TyOf X.K H x t) (e : PySem.W.kitOne X.K t c = some b) (h : ∀ tk, Q (.bool b) { s with toks := tk }) :
    wpAny (model X.prog X.w) A (call (.builtin "isinstance") [u, c]) Q E s := by
  cases ty with
  | non => cases (show u = Value.none from rx); exact PySem.W.kia_one PySem.W.kitx_none I.kIn True.intro e (fun z => nomatch z) h
  | bl y => cases (show u = Value.bool y from rx); exact PySem.W.kia_one PySem.W.kitx_bool I.kIn True.intro e (fun z => nomatch z) h
  | int i => obtain ⟨t, q⟩ := (show ∃ t, u = Value.int i t from rx); cases q; exact PySem.W.kia_one PySem.W.kitx_int I.kIn True.intro e (fun z => nomatch z) h
  | str y => obtain ⟨t, q⟩ := (show ∃ t, u = Value.str y t from rx); cases q; exact PySem.W.kia_one PySem.W.kitx_str I.kIn True.intro e (fun z => nomatch z) h
  | flt y => obtain ⟨t, q⟩ := (show ∃ t, u = Value.float y t from rx); cases q; exact PySem.W.kia_one PySem.W.kitx_float I.kIn True.intro e (fun z => nomatch z) h
  | @lst a xs ea =>
    cases (show u = Value.ref a from rx)
    obtain ⟨_, _, n, _, h1⟩ := (show ObjOk X.prog X.w H s.heap a (.lst xs) from I.hok a _ ea)
    exact PySem.W.kia_one PySem.W.kitx_list I.kIn ⟨_, h1, rfl⟩ e (fun z => nomatch z) h
  | @frz a ob xs ea =>
    cases (show u = Value.ref a from rx)
    obtain ⟨_, _, _, n, _, h1⟩ := (show ObjOk X.prog X.w H s.heap a (.frz ob (.lst xs)) from I.hok a _ ea)
    exact PySem.W.kia_one PySem.W.kitx_list I.kIn ⟨_, h1, rfl⟩ e (fun z => nomatch z) h
  | @tup a xs ea =>
    cases (show u = Value.ref a from rx)
    obtain ⟨_, _, _, p⟩ := (show ObjOk X.prog X.w H s.heap a (.tup xs) from I.hok a _ ea)
    obtain ⟨o, h1, h2, _⟩ := p
    exact PySem.W.kia_one PySem.W.kitx_tuple I.kIn ⟨o, h1, h2⟩ e (fun z => nomatch z) h
  | @dK a kvs ea =>
    cases (show u = Value.ref a from rx)
    obtain ⟨_, _, vs, _, p⟩ := (show ObjOk X.prog X.w H s.heap a (.dK kvs) from I.hok a _ ea)
    obtain ⟨o, es, ep, h1, h2, _⟩ := p
    exact PySem.W.kia_one PySem.W.kitx_dict I.kIn ⟨o, h1, h2.1⟩ e (fun z => nomatch z) h
  | @dT a kvs ea =>
    cases (show u = Value.ref a from rx)
    obtain ⟨_, _, xs, _, o, es, ep, h1, h2, _⟩ := (show ObjOk X.prog X.w H s.heap a (.dT kvs) from I.hok a _ ea)
    exact PySem.W.kia_one PySem.W.kitx_dict I.kIn ⟨o, h1, h2.1⟩ e (fun z => nomatch z) h
  | @ins a C dx fs ea cl ha hn htk hm =>
    cases (show u = Value.ref a from rx)
    obtain ⟨mA, O, _⟩ := ins_get I.hok ea
    obtain ⟨od, J, _⟩ := O.look
    exact PySem.W.kia_one (PySem.W.kitx_own (cl.get _) cl.hd ha hn htk hm) I.kIn J e (fun z => nomatch z) h
end
end L2

namespace L2
open PySem PySem.Spec PyProof.Rows

/-! ### room -/
structure Room (k : Nat) (A : Around) : Prop where
  hd : A.handled = none
  dp : A.depth + 3 * k + 5 < recursionLimit
  un : A.units + 16 * k + 200 < cLine
theorem Room.mono {j k : Nat} {A : Around} (r : Room k A) (h : j ≤ k) : Room j A := ⟨r.hd, by have := r.dp; omega, by have := r.un; omega⟩
theorem Room.deeper {k : Nat} {A : Around} (r : Room (k + 1) A) (env : Env) : Room k (A.deeper env) :=
  ⟨r.hd, by have := r.dp; show A.depth + 1 + 3 * k + 5 < _; omega, by have := r.un; show A.units + 3 + 16 * k + 200 < _; omega⟩
theorem Room.in1 {k : Nat} {A : Around} (r : Room (k + 1) A) : Room k A.in1 :=
  ⟨r.hd, by have := r.dp; show A.depth + 3 * k + 5 < _; omega, by have := r.un; show A.units + 1 + 16 * k + 200 < _; omega⟩
theorem make_depth {A : Around} {C : Addr} {us : List Value} {kw : List (Str × Value)} : (A.under (.builtin "type.__call__" ⟨.ref C :: us, kw⟩)).depth = A.depth + 1 := by
  first | rfl | simp [Around.under, Code.weight, Code.isCreation, Code.isGuard, Code.isCaller, Code.frames, Code.isFrame, guardIds]
theorem make_units {A : Around} {C : Addr} {us : List Value} {kw : List (Str × Value)} : (A.under (.builtin "type.__call__" ⟨.ref C :: us, kw⟩)).units = A.units + 1 := by
  first | rfl | simp [Around.under, Code.cUnits, Code.frames, Code.isFrame]
theorem Room.make {k : Nat} {A : Around} (r : Room (k + 1) A) (C : Addr) (us : List Value) (kw : List (Str × Value)) : Room k (A.under (.builtin "type.__call__" ⟨.ref C :: us, kw⟩)) :=
  ⟨r.hd, by have := r.dp; rw [make_depth]; omega, by have := r.un; rw [make_units]; omega⟩
theorem Room.depth {k : Nat} {A : Around} (r : Room k A) : A.depth < recursionLimit := by have := r.dp; omega
theorem Room.units {k : Nat} {A : Around} (r : Room k A) : A.units + 64 < cLine := by have := r.un; omega
theorem Room.units0 {k : Nat} {A : Around} (r : Room k A) : A.units < cLine := by have := r.un; omega

/-! ### argument lists and displays -/
def tNil : TA := fun _ H Q => Q [] H
def tCons (ta : TE) (tr : TA) : TA := fun σ H Q => ta σ H fun x H1 => tr σ H1 fun xs H2 => Q (x :: xs) H2
section
variable {X : Cx} {e : Expr} {es : List Expr} {te : TE} {t : TA} {pos : Pos}
theorem pa_nil : PA X [] tNil := fun _ _ _ _ H Q I h => Calls.spliced_nil ⟨[], H, I, .nil, h⟩
theorem pa_cons (ha : PE X e te) (hr : PA X es t) (hs : starEach (e :: es) X.env = (false, eval e X.env) :: starEach es X.env := by rfl) : PA X (e :: es) (tCons te t) := by
  intro pos pins s σ H Q I h
  rw [hs]
  show wpAny _ _ (spliced ((false, eval e X.env) :: backTo pos (starEach es X.env))) _ _ s
  refine Calls.spliced_cons (thn (ha pins s σ H _ I h) fun u s1 ⟨x, H1, I1, r1, q1⟩ => ?_)
  exact thn (hr pos pins s1 σ H1 _ I1 q1) fun us s2 ⟨xs, H2, I2, r2, q2⟩ => ⟨x :: xs, H2, I2, .cons r1 r2, q2⟩

/-- a tuple, a list of written items -/
def tTup (t : TA) : TE := fun σ H Q => t σ H fun xs H1 => xs.length ≤ sizeLine ∧ ∀ p, H1 p = none → Q (.ref p) (upd H1 p (.tup xs))
def tLst (t : TA) : TE := fun σ H Q => t σ H fun xs H1 => xs.length ≤ sizeLine ∧ ∀ p, H1 p = none → Q (.ref p) (upd H1 p (.lst xs))
theorem pe_tup {x1} (h : PA X es t) : PE X (.Tuple es x1 pos) (tTup t) := by
  intro pins s σ H Q I hq
  refine wpAny_Tuple_spliced (thn (h pos pins s σ H _ I hq) fun us s1 ⟨xs, H1, I1, r, z, q⟩ => ⟨by rw [← r.length]; exact z, ?_⟩)
  have hf : H1 s1.heap.objs.size = none := I1.hok.fresh (Nat.le_refl _)
  refine ⟨.ref s1.heap.objs.size, upd H1 s1.heap.objs.size (.tup xs), I1.laid (t' := s1.toks) (fun b u e => Heap.get?_push_of_some _ e) (Nat.le_refl _) ?_, rfl, q _ hf⟩
  exact ⟨z, us, r, ⟨_, Heap.get?_push_size _ rfl, rfl, _, rfl⟩⟩
theorem pe_lst (h : PA X es t) : PE X (.List es pos) (tLst t) := by
  intro pins s σ H Q I hq
  refine wpAny_List_spliced (thn (h pos pins s σ H _ I hq) fun us s1 ⟨xs, H1, I1, r, z, q⟩ => ⟨by rw [← r.length]; exact z, ?_⟩)
  have hf : H1 s1.heap.objs.size = none := I1.hok.fresh (Nat.le_refl _)
  refine ⟨.ref s1.heap.objs.size, upd H1 s1.heap.objs.size (.lst xs), I1.laid (t' := s1.toks) (fun b u e => Heap.get?_push_of_some _ e) (Nat.le_refl _) ?_, rfl, q _ hf⟩
  exact ⟨z, us, 0, r, Heap.get?_push_size _ rfl⟩
end

/-! ### what a def promises -/
/-- a def's promise: the bound arguments in the parameters' order, the heap, the wanted end, the wanted exception -/
abbrev Sp := List V → Hp → VK → XK → Prop
/-- how an exception lies behind a call (file 08 gives it): the callers' frames, abstract heap and state ahead of the call, the wish, the exception, the state -/
abbrev CXT := List Env → Hp → Shared → XK → Value → Shared → Prop

/-- the state at a call -/
structure Env0 (P : Program) (w : World) (K : PySem.W.Frag) (mg : Str → Option Value) (base : Heap) (A : Around) (outer : List Env) (s : Shared) (H : Hp) : Prop where
  frames : A.frames = some outer
  mod : Mod K mg base
  bs : ∀ b o, base.get? b = some o → s.heap.get? b = some o ∧ H b = none
  bsz : base.objs.size ≤ s.heap.objs.size
  funs : s.heap.FunFrames base outer
  frf : ∀ b ∈ frs outer, H b = none
  hok : HOk P w H s.heap
  bare : AllBare s.gens
/-- a call's end -/
def CE (outer : List Env) (P : Program) (w : World) (H : Hp) (s : Shared) (Q : VK) (u : Value) (s' : Shared) : Prop :=
  ∃ v H', s'.os = s.os ∧ AllBare s'.gens ∧ Un (frs outer) [] H H' s.heap s'.heap ∧ HOk P w H' s'.heap ∧ RelV v u ∧ Q v H'
def CR (CX : CXT) (outer : List Env) (P : Program) (w : World) (H : Hp) (s : Shared) (Q : VK) (E : XK) (r : Result) (s' : Shared) : Prop :=
  match r with
  | .ok (.ret u) => CE outer P w H s Q u s'
  | .ok _ => False
  | .error e => CX outer H s E e s'
structure FnOk (P : Program) (w : World) (K : PySem.W.Frag) (mg : Str → Option Value) (base : Heap) (CX : CXT) (k : Nat) (f : Addr) (fd : FuncData) (ps : List Str) (sp : Sp) : Prop where
  len : ∀ vs H Q E, sp vs H Q E → vs.length = ps.length
  run : ∀ (A : Around) (outer : List Env) (s : Shared) (H : Hp) (args : Args) (us : List Value) (vs : List V) (Q : VK) (E : XK), Room k A → Env0 P w K mg base A outer s H → BindsTo s fd args (ps.zip us) → Vals vs us → sp vs H Q E →
    codeAny (model P w) A (.call (.ref f) args) (CR CX outer P w H s Q E) s
theorem FnOk.mono {P : Program} {w : World} {K : PySem.W.Frag} {mg : Str → Option Value} {base : Heap} {CX : CXT} {j k : Nat} {f : Addr} {fd : FuncData} {ps : List Str} {sp : Sp} (F : FnOk P w K mg base CX j f fd ps sp) (h : j ≤ k) :
    FnOk P w K mg base CX k f fd ps sp := ⟨F.len, fun A outer s H args us vs Q E hr => F.run A outer s H args us vs Q E (hr.mono h)⟩
/-- a weaker promise -/
theorem FnOk.imp {P : Program} {w : World} {K : PySem.W.Frag} {mg : Str → Option Value} {base : Heap} {CX : CXT} {k : Nat} {f : Addr} {fd : FuncData} {ps : List Str} {sp sp' : Sp} (F : FnOk P w K mg base CX k f fd ps sp)
    (h : ∀ vs H Q E, sp' vs H Q E → sp vs H Q E) : FnOk P w K mg base CX k f fd ps sp' :=
  ⟨fun vs H Q E q => F.len vs H Q E (h _ _ _ _ q), fun A outer s H args us vs Q E hr he hb hv hs => F.run A outer s H args us vs Q E hr he hb hv (h _ _ _ _ hs)⟩

theorem Env0.make {P : Program} {w : World} {K : PySem.W.Frag} {mg : Str → Option Value} {base : Heap} {A : Around} {outer : List Env} {s : Shared} {H : Hp} (e : Env0 P w K mg base A outer s H) (C : Addr) (us : List Value) (kw : List (Str × Value)) :
    Env0 P w K mg base (A.under (.builtin "type.__call__" ⟨.ref C :: us, kw⟩)) outer s H := ⟨by first | exact e.frames | (simpa [Around.under, Code.envs, Code.isFrame, pushEnvs] using e.frames), e.mod, e.bs, e.bsz, e.funs, e.frf, e.hok, e.bare⟩
theorem Env0.in1 {P : Program} {w : World} {K : PySem.W.Frag} {mg : Str → Option Value} {base : Heap} {A : Around} {outer : List Env} {s : Shared} {H : Hp} (e : Env0 P w K mg base A outer s H) :
    Env0 P w K mg base A.in1 outer s H := ⟨e.frames, e.mod, e.bs, e.bsz, e.funs, e.frf, e.hok, e.bare⟩

section
variable {X : Cx} {pins : List (Addr × Obj)} {σ : St} {H : Hp} {s s' : Shared}
/-- from a body: what a callee wants -/
theorem Inv.env0 (I : Inv X pins σ H s) : Env0 X.prog X.w X.K X.mg X.base X.A X.stack s H :=
  ⟨I.ok.frames, I.ok.mod, I.bs, Nat.le_trans I.ok.bsz I.sz, I.stack, I.stkFree, I.hok, I.bare⟩
/-- behind a call -/
theorem Inv.after {Q : VK} {u : Value} (I : Inv X pins σ H s) (h : CE X.stack X.prog X.w H s Q u s') : EP X pins σ Q u s' := by
  obtain ⟨v, H', os, bare, un, hok, r, q⟩ := h
  obtain ⟨hh, g, d, t, os'⟩ := s'
  obtain rfl : os' = s.os := os
  exact ⟨v, H', I.call (h' := hh) (g' := g) (d' := d) (t' := t) (ch := []) un hok bare (fun b z => absurd z (by simp)), r, q⟩
end

/-! ### calls -/
/-- f(..): the written arguments, then the defaults dvs; E: what is wanted of an exception -/
def tCall (sp : Sp) (dvs : List V) (E : XK) (t : TA) : TE := fun σ H Q => t σ H fun vs H1 => sp (vs ++ dvs) H1 Q E
/-- o.m(..) of an instance of the class at C -/
def tMeth (C : Addr) (m : Str) (sp : Sp) (dvs : List V) (E : XK) (ta : TE) (t : TA) : TE := fun σ H Q => ta σ H fun x H1 => ∃ a dx fs, x = .ref a ∧ H1 a = some (.ins C dx fs) ∧ fs.lookup m = none ∧
  t σ H1 fun vs H2 => sp (x :: (vs ++ dvs)) H2 Q E
/-- C(..): a new instance and its dict, then __init__ -/
def tMake (C : Addr) (sp : Sp) (dvs : List V) (E : XK) (t : TA) : TE := fun σ H Q => t σ H fun vs H1 => ∀ x dx, H1 x = none → H1 dx = none → dx ≠ x →
  sp (.ref x :: (vs ++ dvs)) (upd (upd H1 dx (.own x)) x (.ins C dx [])) (fun v H2 => v = .non ∧ Q (.ref x) H2) E

/-- how the parameters are bound: us the positional arguments, kw the keywords' values by name, ds the defaults that fill up -/
def Binds (K : PySem.W.Frag) (fd : FuncData) (ps : List Str) (ds : List Value) : Prop :=
  ∀ (s : Shared) (us : List Value), K.In s.heap → (us ++ ds).length = ps.length → BindsTo s fd ⟨us, []⟩ (ps.zip (us ++ ds))
/-- every parameter is given -/
theorem Binds.all {K : PySem.W.Frag} {fd : FuncData} {ps : List Str} (h : ∀ us : List Value, us.length = ps.length → bindArgs fd ⟨us, []⟩ = pure (ps.zip us)) : Binds K fd ps [] := fun s us _ hl => by
  rw [List.append_nil] at hl ⊢
  exact .of_eq (h us hl)

/-- an exception of a callee reaches what this body wants of exceptions -/
def Passes (CX : CXT) (X : Cx) (E : XK) : Prop := ∀ (pins : List (Addr × Obj)) (σ : St) (H : Hp) (s : Shared) (e : Value) (s' : Shared), Inv X pins σ H s → CX X.stack H s E e s' → X.xe e s'

section
variable {X : Cx} {CX : CXT} {k : Nat} {f C : Addr} {fd : FuncData} {ps : List Str} {sp : Sp} {dvs : List V} {ds : List Value} {E : XK} {x m : Str} {p pos apos : Pos} {e o : Expr} {es : List Expr} {ta : TE} {t : TA}

/-- the callee runs -/
theorem run_fn {pins : List (Addr × Obj)} {σ : St} {H : Hp} {s : Shared} {Q : VK} {us : List Value} {vs : List V} (F : FnOk X.prog X.w X.K X.mg X.base CX k f fd ps sp) (hr : Room k X.A) (hb : Binds X.K fd ps ds) (hd : Vals dvs ds) (hx : Passes CX X E)
    (I : Inv X pins σ H s) (r : Vals vs us) (h : sp (vs ++ dvs) H Q E) : wpAny (model X.prog X.w) X.A (call (.ref f) us) (EP X pins σ Q) X.xe s := by
  have r2 : Vals (vs ++ dvs) (us ++ ds) := r.append hd
  have hl : (us ++ ds).length = ps.length := by rw [← r2.length]; exact F.len _ _ _ _ h
  refine wpAny_call (codeAny_mono (F.run X.A X.stack s H ⟨us, []⟩ (us ++ ds) (vs ++ dvs) Q E hr I.env0 (hb s us I.kIn hl) r2 h) fun r s' hq => ?_)
  cases r with
  | error e => exact hx pins σ H s e s' I hq
  | ok fl =>
    cases fl with
    | ret u => exact I.after hq
    | next => exact False.elim hq
    | brk => exact False.elim hq
    | cont => exact False.elim hq

theorem pe_call (F : FnOk X.prog X.w X.K X.mg X.base CX k f fd ps sp) (hr : Room k X.A) (hg : Gl X x) (hm : X.mg x = some (.ref f)) (hk : PySem.W.keepIn X.K (.ref f) = true) (hb : Binds X.K fd ps ds) (hd : Vals dvs ds) (hx : Passes CX X E)
    (ha : PA X (e :: es) t) (hdb : (x == ("__debug__" : Str)) = false := by decide) (he : starEach (e :: es) X.env = (false, eval e X.env) :: starEach es X.env := by rfl) (hpl : (backTo pos (starEach es X.env)).any (·.1) = false := by rfl) :
    PE X (.Call (.Name x p) (e :: es) [] pos) (tCall sp dvs E t) := by
  intro pins s σ H Q I h
  refine wpAny_Call_Name_kw (ld_glob I hg hm ?_ hdb)
  refine PySem.W.callWith_K (h₀ := X.base) I.ok.mod.kin hk (thn (ha pos pins s σ H _ I h) fun us s1 ⟨vs, H1, I1, r, q⟩ => ⟨I1.kIn, ?_⟩) he hpl
  exact run_fn F hr hb hd hx I1 r q
theorem pe_call0 (F : FnOk X.prog X.w X.K X.mg X.base CX k f fd ps sp) (hr : Room k X.A) (hg : Gl X x) (hm : X.mg x = some (.ref f)) (hk : PySem.W.keepIn X.K (.ref f) = true) (hb : Binds X.K fd ps ds) (hd : Vals dvs ds) (hx : Passes CX X E)
    (hdb : (x == ("__debug__" : Str)) = false := by decide) : PE X (.Call (.Name x p) [] [] pos) (tCall sp dvs E tNil) := by
  intro pins s σ H Q I h
  refine wpAny_Call_Name_kw (ld_glob I hg hm ?_ hdb)
  exact PySem.W.callWith_K0 I.kIn hk (run_fn (us := []) F hr hb hd hx I .nil h)

/-- o.m(e, ..) -/
theorem pe_meth {pl : Sem Bool} (he : PE X o ta) (c : Cls X.K C) (hm : Meth X.K C m f) (F : FnOk X.prog X.w X.K X.mg X.base CX k f fd ps sp) (hr : Room k X.A) (hb : Binds X.K fd ps ds) (hd : Vals dvs ds) (hx : Passes CX X E) (ha : PA X (e :: es) t)
    (hst : starEach (e :: es) X.env = (false, eval e X.env) :: starEach es X.env := by rfl) (hpl : (backTo pos (starEach es X.env)).any (·.1) = false := by rfl)
    (ht : eval (.Call (.Attribute o m apos) (e :: es) [] pos) X.env = (do
      let ov ← eval o X.env
      standAt apos.atName
      let (f, first) ← holding [ov] (getMethod ov m pl)
      callWith pos f first (backTo pos (starEach (e :: es) X.env)) (backToKw pos (keywordEach [] X.env))) := by rfl) :
    PE X (.Call (.Attribute o m apos) (e :: es) [] pos) (tMeth C m sp dvs E ta t) := by
  intro pins s σ H Q I h
  refine PySem.W.methodCall_KW (pl := pl) (thn (he pins s σ H _ I h) fun u s1 ⟨x, H1, I1, rx, a, dx, fs, ex, ea, l, q⟩ => ?_) ht
  subst ex
  obtain rfl : u = Value.ref a := rx
  refine getmeth_ok I1 ea c hm l ?_
  refine PySem.W.callWith_K (first := [.ref a]) (h₀ := X.base) I.ok.mod.kin hm.kp (thn (ha pos pins s1 σ H1 _ I1 q) fun us s2 ⟨vs, H2, I2, r, q2⟩ => ⟨I2.kIn, ?_⟩) hst hpl
  exact run_fn (us := .ref a :: us) (vs := .ref a :: vs) F hr hb hd hx I2 (.cons rfl r) q2
/-- o.m() -/
theorem pe_meth0 {pl : Sem Bool} (he : PE X o ta) (c : Cls X.K C) (hm : Meth X.K C m f) (F : FnOk X.prog X.w X.K X.mg X.base CX k f fd ps sp) (hr : Room k X.A) (hb : Binds X.K fd ps ds) (hd : Vals dvs ds) (hx : Passes CX X E)
    (ht : eval (.Call (.Attribute o m apos) [] [] pos) X.env = (do
      let ov ← eval o X.env
      standAt apos.atName
      let (f, first) ← holding [ov] (getMethod ov m pl)
      callWith pos f first (backTo pos (starEach [] X.env)) (backToKw pos (keywordEach [] X.env))) := by rfl) :
    PE X (.Call (.Attribute o m apos) [] [] pos) (tMeth C m sp dvs E ta tNil) := by
  intro pins s σ H Q I h
  refine PySem.W.methodCall_KW (pl := pl) (thn (he pins s σ H _ I h) fun u s1 ⟨x, H1, I1, rx, a, dx, fs, ex, ea, l, q⟩ => ?_) ht
  subst ex
  obtain rfl : u = Value.ref a := rx
  refine getmeth_ok I1 ea c hm l ?_
  exact PySem.W.callWith_K0 (first := [.ref a]) I1.kIn hm.kp (run_fn (us := [.ref a]) (vs := [.ref a]) F hr hb hd hx I1 (.cons rfl .nil) q)

/-- what a class must have to be made -/
structure Mk (K : PySem.W.Frag) (C f : Addr) : Prop where
  makes : PySem.W.makesIn K C = true
  init : PySem.W.findIn K (.ref C) "__init__" = some (some (.ref f))
  fn : PySem.W.isFn K (.ref f) = true
  kp : PySem.W.keepIn K (.ref C) = true

theorem run_make {pins : List (Addr × Obj)} {σ : St} {H : Hp} {s : Shared} {Q : VK} {us : List Value} {vs : List V} (M : Mk X.K C f) (F : FnOk X.prog X.w X.K X.mg X.base CX k f fd ps sp) (hr : Room (k + 1) X.A) (hb : Binds X.K fd ps ds) (hd : Vals dvs ds)
    (hx : Passes CX X E) (I : Inv X pins σ H s) (r : Vals vs us)
    (h : ∀ x dx, H x = none → H dx = none → dx ≠ x → sp (.ref x :: (vs ++ dvs)) (upd (upd H dx (.own x)) x (.ins C dx [])) (fun v H2 => v = .non ∧ Q (.ref x) H2) E) :
    wpAny (model X.prog X.w) X.A (call (.ref C) us) (EP X pins σ Q) X.xe s := by
  have hq := h (s.heap.objs.size + 1) s.heap.objs.size (I.hok.fresh (Nat.le_succ _)) (I.hok.fresh (Nat.le_refl _)) (Nat.ne_of_lt (Nat.lt_succ_self _))
  have I2 := Inv.made (C := C) I
  have r2 : Vals (V.ref (s.heap.objs.size + 1) :: (vs ++ dvs)) (Value.ref (s.heap.objs.size + 1) :: (us ++ ds)) := .cons rfl (r.append hd)
  have hl : (Value.ref (s.heap.objs.size + 1) :: us ++ ds).length = ps.length := by
    have e := r2.length
    rw [F.len _ _ _ _ hq] at e
    exact e.symm
  refine wpAny_call (make_map (f := f) I.kIn M.makes M.init (beq_iff_eq.mp M.fn) (codeAny_mono (F.run _ X.stack _ _ ⟨Value.ref (s.heap.objs.size + 1) :: us, []⟩ (Value.ref (s.heap.objs.size + 1) :: (us ++ ds)) _ _ E (hr.make C us [])
    (I2.env0.make C us []) (hb _ (Value.ref (s.heap.objs.size + 1) :: us) I2.kIn hl) r2 hq) fun r s' hq' => ?_))
  cases r with
  | error e => exact hx pins σ _ _ e s' I2 hq'
  | ok fl =>
    cases fl with
    | ret u =>
      obtain ⟨v, H', I3, rv, ev, q3⟩ := I2.after hq'
      subst ev
      exact ⟨rv, ⟨V.ref (s.heap.objs.size + 1), H', I3, rfl, q3⟩⟩
    | next => exact False.elim hq'
    | brk => exact False.elim hq'
    | cont => exact False.elim hq'
theorem pe_make (M : Mk X.K C f) (F : FnOk X.prog X.w X.K X.mg X.base CX k f fd ps sp) (hr : Room (k + 1) X.A) (hg : Gl X x) (hm : X.mg x = some (.ref C)) (hb : Binds X.K fd ps ds) (hd : Vals dvs ds) (hx : Passes CX X E)
    (ha : PA X (e :: es) t) (hdb : (x == ("__debug__" : Str)) = false := by decide) (he : starEach (e :: es) X.env = (false, eval e X.env) :: starEach es X.env := by rfl) (hpl : (backTo pos (starEach es X.env)).any (·.1) = false := by rfl) :
    PE X (.Call (.Name x p) (e :: es) [] pos) (tMake C sp dvs E t) := by
  intro pins s σ H Q I h
  refine wpAny_Call_Name_kw (ld_glob I hg hm ?_ hdb)
  refine PySem.W.callWith_K (h₀ := X.base) I.ok.mod.kin M.kp (thn (ha pos pins s σ H _ I h) fun us s1 ⟨vs, H1, I1, r, q⟩ => ⟨I1.kIn, ?_⟩) he hpl
  exact run_make M F hr hb hd hx I1 r q
theorem pe_make0 (M : Mk X.K C f) (F : FnOk X.prog X.w X.K X.mg X.base CX k f fd ps sp) (hr : Room (k + 1) X.A) (hg : Gl X x) (hm : X.mg x = some (.ref C)) (hb : Binds X.K fd ps ds) (hd : Vals dvs ds) (hx : Passes CX X E)
    (hdb : (x == ("__debug__" : Str)) = false := by decide) : PE X (.Call (.Name x p) [] [] pos) (tMake C sp dvs E tNil) := by
  intro pins s σ H Q I h
  refine wpAny_Call_Name_kw (ld_glob I hg hm ?_ hdb)
  exact PySem.W.callWith_K0 I.kIn M.kp (run_make (us := []) M F hr hb hd hx I .nil h)
end

/-! ### keywords -/
/-- the values of the keywords, from the left -/
def PK (X : Cx) (kws : List Keyword) (t : TA) : Prop :=
  ∀ (pos : Pos) (pins : List (Addr × Obj)) (s : Shared) (σ : St) (H : Hp) (Q : List V → Hp → Prop), Inv X pins σ H s → t σ H Q → wpAny (model X.prog X.w) X.A (evalAll ((backToKw pos (keywordEach kws X.env)).map (·.2))) (AP X pins σ Q) X.xe s
section
variable {X : Cx} {CX : CXT} {k : Nat} {f C : Addr} {fd : FuncData} {ps ks : List Str} {sp : Sp} {E : XK} {x m : Str} {p pos apos kpos : Pos} {e o : Expr} {es : List Expr} {kws : List Keyword} {te ta : TE} {t tk : TA} {nm : Option Str}
theorem pk_nil : PK X [] tNil := fun _ _ _ _ H Q I h => wpAny_evalAll_nil ⟨[], H, I, .nil, h⟩
theorem pk_cons (ha : PE X e te) (hr : PK X kws t) : PK X (⟨nm, e, kpos⟩ :: kws) (tCons te t) := by
  intro pos pins s σ H Q I h
  show wpAny _ _ (evalAll ((do let v ← eval e X.env; standAt pos; pure v) :: (backToKw pos (keywordEach kws X.env)).map (·.2))) _ _ s
  refine wpAny_evalAll_cons (wpAny_bind (thn (ha pins s σ H _ I h) fun u s1 ⟨x, H1, I1, r1, q1⟩ => wpAny_bind (wpAny_standAt (wpAny_pure ?_))))
  exact thn (hr pos pins s1 σ H1 _ I1 q1) fun us s2 ⟨xs, H2, I2, r2, q2⟩ => ⟨x :: xs, H2, I2, .cons r1 r2, q2⟩

/-- how a call with keywords binds: g puts the positional values us and the keywords' values ws (names ks) in the parameters' order, defaults among them -/
structure KBinds (K : PySem.W.Frag) (fd : FuncData) (ps ks : List Str) (g : List Value → List Value → List Value) (gV : List V → List V → List V) : Prop where
  to : ∀ (s : Shared) (us ws : List Value), K.In s.heap → (g us ws).length = ps.length → BindsTo s fd ⟨us, ks.zip ws⟩ (ps.zip (g us ws))
  rel : ∀ {vs : List V} {us : List Value} {zs : List V} {ws : List Value}, Vals vs us → Vals zs ws → Vals (gV vs zs) (g us ws)
def tCallK (sp : Sp) (gV : List V → List V → List V) (E : XK) (t tk : TA) : TE := fun σ H Q => t σ H fun vs H1 => tk σ H1 fun zs H2 => sp (gV vs zs) H2 Q E
variable {g : List Value → List Value → List Value} {gV : List V → List V → List V}
theorem run_fnk {pins : List (Addr × Obj)} {σ : St} {H : Hp} {s : Shared} {Q : VK} {us ws : List Value} {vs zs : List V} (F : FnOk X.prog X.w X.K X.mg X.base CX k f fd ps sp) (hr : Room k X.A) (hb : KBinds X.K fd ps ks g gV) (hx : Passes CX X E)
    (I : Inv X pins σ H s) (r : Vals vs us) (rz : Vals zs ws) (h : sp (gV vs zs) H Q E) : wpAny (model X.prog X.w) X.A (call (.ref f) us (ks.zip ws)) (EP X pins σ Q) X.xe s := by
  have r2 := hb.rel r rz
  have hl : (g us ws).length = ps.length := by rw [← r2.length]; exact F.len _ _ _ _ h
  refine wpAny_call (codeAny_mono (F.run X.A X.stack s H ⟨us, ks.zip ws⟩ (g us ws) (gV vs zs) Q E hr I.env0 (hb.to s us ws I.kIn hl) r2 h) fun r s' hq => ?_)
  cases r with
  | error e => exact hx pins σ H s e s' I hq
  | ok fl =>
    cases fl with
    | ret u => exact I.after hq
    | next => exact False.elim hq
    | brk => exact False.elim hq
    | cont => exact False.elim hq
/-- f(e, .., k = v, ..) -/
theorem pe_callK (F : FnOk X.prog X.w X.K X.mg X.base CX k f fd ps sp) (hr : Room k X.A) (hg : Gl X x) (hm : X.mg x = some (.ref f)) (hk : PySem.W.keepIn X.K (.ref f) = true) (hb : KBinds X.K fd ps ks g gV) (hx : Passes CX X E)
    (ha : PA X (e :: es) t) (hkw : PK X kws tk) (hall : (backToKw pos (keywordEach kws X.env)).all (·.1.isSome) = true := by rfl) (hks : (backToKw pos (keywordEach kws X.env)).filterMap (·.1) = ks := by rfl)
    (hdb : (x == ("__debug__" : Str)) = false := by decide) (he : starEach (e :: es) X.env = (false, eval e X.env) :: starEach es X.env := by rfl)
    (hpl : ((backTo pos (starEach (e :: es) X.env)).any (·.1) || (backToKw pos (keywordEach kws X.env)).any (·.1.isNone)) = false := by rfl) :
    PE X (.Call (.Name x p) (e :: es) kws pos) (tCallK sp gV E t tk) := by
  intro pins s σ H Q I h
  refine wpAny_Call_Name_kw (ld_glob I hg hm ?_ hdb)
  refine PySem.W.callWith_KW (h₀ := X.base) I.ok.mod.kin hk hall (thn (ha pos pins s σ H _ I h) fun us s1 ⟨vs, H1, I1, r, q⟩ => ?_) hpl he
  refine thn (hkw pos pins s1 σ H1 _ I1 q) fun ws s2 ⟨zs, H2, I2, rz, q2⟩ => ⟨I2.kIn, ?_⟩
  rw [hks]
  exact run_fnk F hr hb hx I2 r rz q2
end

/-! ### a def's body keeps its promise -/
/-- names: the parameters first -/
structure FnScope (N P : List Str) (sc : Scope) : Prop where
  kind : sc.kind = .function
  co : sc.isCoroutine = false
  gen : sc.isGenerator = false
  nd : N.Nodup
  pre : N.take P.length = P
  par : ∀ x ∈ P, sc.names.lookup x = some .local ∨ sc.names.lookup x = some .cell
  nofree : ∀ y ∈ sc.names, y.2 ≠ .free

theorem bindL_out {kindOf : Str → Option NameKind} {x : Str} : ∀ {binds : List (Str × Value)} {m : Str → Option Value}, (∀ v, (x, v) ∉ binds) → bindL kindOf binds m x = m x
  | [], _, _ => rfl
  | (n, v) :: r, m, h => by
    unfold bindL
    rw [bindL_out fun w hw => h w (List.mem_cons_of_mem _ hw)]
    split
    · have : x ≠ n := by rintro rfl; exact h v List.mem_cons_self
      simp [this]
    · rfl
theorem bindC_out {kindOf : Str → Option NameKind} {x : Str} : ∀ {binds : List (Str × Value)} {m : Str → Option Value}, (∀ v, (x, v) ∉ binds) → bindC kindOf binds m x = m x
  | [], _, _ => rfl
  | (n, v) :: r, m, h => by
    unfold bindC
    rw [bindC_out fun w hw => h w (List.mem_cons_of_mem _ hw)]
    split
    · rfl
    · have : x ≠ n := by rintro rfl; exact h v List.mem_cons_self
      simp [this]
theorem bindL_get {kindOf : Str → Option NameKind} {x : Str} {v : Value} : ∀ {P : List Str} {vs : List Value} {i : Nat} {m : Str → Option Value}, P.Nodup → P[i]? = some x → vs[i]? = some v → kindOf x = some .local →
    bindL kindOf (P.zip vs) m x = some v
  | [], _, _, _, _, h, _, _ => by simp at h
  | _ :: _, [], _, _, _, _, h, _ => by simp at h
  | p :: P, w :: vs, 0, m, nd, h1, h2, hk => by
    simp at h1 h2; subst h1; subst h2
    show bindL kindOf ((p, w) :: P.zip vs) m p = _
    unfold bindL
    rw [bindL_out fun v hv => (List.nodup_cons.mp nd).1 (List.of_mem_zip hv).1, if_pos hk]
    simp
  | p :: P, w :: vs, i + 1, m, nd, h1, h2, hk => by
    show bindL kindOf ((p, w) :: P.zip vs) m x = _
    unfold bindL
    exact bindL_get (i := i) (List.nodup_cons.mp nd).2 (by simpa using h1) (by simpa using h2) hk
theorem bindC_get {kindOf : Str → Option NameKind} {x : Str} {v : Value} : ∀ {P : List Str} {vs : List Value} {i : Nat} {m : Str → Option Value}, P.Nodup → P[i]? = some x → vs[i]? = some v → kindOf x ≠ some .local →
    bindC kindOf (P.zip vs) m x = some v
  | [], _, _, _, _, h, _, _ => by simp at h
  | _ :: _, [], _, _, _, _, h, _ => by simp at h
  | p :: P, w :: vs, 0, m, nd, h1, h2, hk => by
    simp at h1 h2; subst h1; subst h2
    show bindC kindOf ((p, w) :: P.zip vs) m p = _
    unfold bindC
    rw [bindC_out fun v hv => (List.nodup_cons.mp nd).1 (List.of_mem_zip hv).1, if_neg hk]
    simp
  | p :: P, w :: vs, i + 1, m, nd, h1, h2, hk => by
    show bindC kindOf ((p, w) :: P.zip vs) m x = _
    unfold bindC
    exact bindC_get (i := i) (List.nodup_cons.mp nd).2 (by simpa using h1) (by simpa using h2) hk

/-- the names' values at the entry -/
def start (N : List Str) (vs : List V) : St := vs.map some ++ List.replicate (N.length - vs.length) none

/-- the context of a def's body, at its entry; an exception leaves the frame, then lies as CX says -/
def cxOf (CX : CXT) (P : Program) (w : World) (K : PySem.W.Frag) (mg : Str → Option Value) (base : Heap) (N : List Str) (qual : Str) (scope : Scope) (f : Addr) (cd : Value) (A : Around) (outer : List Env) (s : Shared) (H : Hp) (E : XK) : Cx where
  prog := P
  w := w
  K := K
  mg := mg
  base := base
  A := A.deeper (envOfC qual scope s.heap.objs.size f cd)
  N := N
  s₀ := s
  H₀ := H
  env := envOfC qual scope s.heap.objs.size f cd
  outer := outer
  stack := envOfC qual scope s.heap.objs.size f cd :: outer
  ex := []
  calm := true
  fn := fun _ => true
  pn := []
  xe := fun e s' => wpAny (model P w) (A.deeper (envOfC qual scope s.heap.objs.size f cd)) (leaving (envOfC qual scope s.heap.objs.size f cd) e) (fun _ s'' => CX outer H s E e s'') (fun e' s'' => CX outer H s E e' s'') s'

theorem cell_has {sc : Scope} {n : Nat} {x : Str} (h : sc.names.lookup x = some .cell) : ∃ c, (cellsFrom n sc.names []).lookup x = some c := by
  have q := PySem.W.cellsFrom_some sc.names n [] (.inl h)
  exact Option.isSome_iff_exists.mp q

theorem inv_start {CX : CXT} {P : Program} {w : World} {K : PySem.W.Frag} {mg : Str → Option Value} {base : Heap} {N ps : List Str} {qual : Str} {scope : Scope} {f : Addr} {cd : Value} {A : Around} {outer : List Env} {s s1 : Shared} {H : Hp} {E : XK} {us : List Value} {vs : List V}
    (S : FnScope N ps scope) (hd : A.handled = none) (e0 : Env0 P w K mg base A outer s H) (hl : vs.length = ps.length) (r : Vals vs us)
    (x : InCallC s s.heap.objs.size (bindL (envOfC qual scope s.heap.objs.size f cd).kindOf (ps.zip us) fun _ => none) (cellsFrom (s.heap.objs.size + 1) scope.names []) (bindC (envOfC qual scope s.heap.objs.size f cd).kindOf (ps.zip us) fun _ => none) s1) :
    Inv (cxOf CX P w K mg base N qual scope f cd A outer s H E) [] (start N vs) H s1 := by
  have hpl : ps.length ≤ N.length := by have := congrArg List.length S.pre; rw [List.length_take] at this; omega
  obtain ⟨h1, tk, rfl, hk⟩ := x.done
  have noA : ∀ b : Addr, b ∉ (cxOf CX P w K mg base N qual scope f cd A outer s H E).ex := fun b z => absurd (show b ∈ ([] : List Addr) from z) (by simp)
  refine ⟨⟨e0.mod, S.kind, rfl, rfl, Nat.le_refl _, fun y z c h1 h2 => ?_, fun y hy => ?_, fun y c _ h => ?_, fun _ => hd, Around.frames_deeper e0.frames, .inr ⟨rfl, rfl⟩, fun b z => absurd z (noA b), e0.bs, e0.bsz, fun b _ _ => noA b, fun b z => absurd z (noA b), e0.funs, e0.frf⟩,
    rfl, e0.bare, Un.kept hk, ⟨_, x.toInCall.ns, fun i y v h1 h2 h3 => ?_⟩, fun y c h => ⟨_, x.cell y c h⟩, e0.hok.fresh (Nat.le_refl _), fun y c h => ?_, fun p hp => absurd (show p ∈ ([] : List (Addr × Obj)) from hp) (by simp), e0.hok.kept hk, ?_⟩
  · exact name_of_addr x.apart (PySem.mem_of_lookup h1) (PySem.mem_of_lookup h2)
  · have hy : scope.names.lookup y = some .cell ∨ scope.names.lookup y = some .free := hy
    rcases hy with hy | hy
    · exact cell_has hy
    · exact absurd rfl (S.nofree _ (PySem.mem_of_lookup hy))
  · exact Nat.le_of_lt (x.above y c (PySem.mem_of_lookup h))
  · have hi : i < vs.length := by
      unfold start at h2
      by_cases hi : i < vs.length
      · exact hi
      · rw [List.getElem?_append_right (by simpa using hi)] at h2
        rw [List.getElem?_replicate] at h2
        split at h2 <;> cases h2
    have ha : vs[i]? = some v := by
      unfold start at h2
      rw [List.getElem?_append_left (by simpa using hi), List.getElem?_map] at h2
      cases e : vs[i]? with
      | none => rw [e] at h2; cases h2
      | some a => rw [e] at h2; cases h2; rfl
    obtain ⟨u, hu, rv⟩ := r.get ha
    have hp : ps[i]? = some y := by
      rw [← S.pre, List.getElem?_take_of_lt (by omega)]; exact h1
    have ndP : ps.Nodup := by rw [← S.pre]; exact S.nd.sublist (List.take_sublist _ _)
    refine ⟨u, rv, ?_⟩
    rcases S.par y (List.mem_of_getElem? hp) with k | k
    · exact .inl ⟨k, bindL_get ndP hp hu k⟩
    · obtain ⟨c, e⟩ := cell_has (n := s.heap.objs.size + 1) k
      refine .inr ⟨.inl k, c, e, ?_⟩
      have q := x.cell y c e
      rw [bindC_get ndP hp hu (by show scope.names.lookup y ≠ _; rw [k]; decide)] at q
      exact q
  · exact e0.hok.fresh (Nat.le_of_lt (x.above y c (PySem.mem_of_lookup h)))
  · unfold start
    show _ = N.length
    rw [List.length_append, List.length_map, List.length_replicate]
    omega

/-- THE RULE: a def (or a method) of the text, by its body. The body's reading t is chosen for each entry; it is run at the parameters' values -/
theorem fn_of {CX : CXT} {P : Program} {w : World} {K : PySem.W.Frag} {mg : Str → Option Value} {base : Heap} {k : Nat} {f : Addr} {name qual : Str} {params : Arguments} {body : List Stmt} {scope : Scope} {dV kV doc pm cdv ct oc : Value} {an od : Option Addr}
    {osl : Array (Option Value)} {N ps : List Str} {sp : Sp} (lk : K.lookup f = some ⟨oc, od, .func (PySem.W.fnOf name qual params body scope dV kV doc pm an cdv ct), osl⟩) (hcd : PySem.W.codeIn K cdv qual = true) (S : FnScope N ps scope)
    (len : ∀ vs H Q E, sp vs H Q E → vs.length = ps.length)
    (hbody : ∀ (A : Around) (outer : List Env) (s : Shared) (H : Hp) (vs : List V) (Q : VK) (E : XK), Room k (A.deeper (envOfC qual scope s.heap.objs.size f cdv)) → sp vs H Q E →
      ∃ t, PSs (cxOf CX P w K mg base N qual scope f cdv A outer s H E) body t ∧ t { nx := fun _ H' => Q .non H', rt := Q } (start N vs) H) :
    FnOk P w K mg base CX (k + 1) f (PySem.W.fnOf name qual params body scope dV kV doc pm an cdv ct) ps sp := by
  refine ⟨len, fun A outer s H args us vs Q E hr e0 hb r hsp => ?_⟩
  have hl := len _ _ _ _ hsp
  have KX : K.In s.heap := e0.mod.kin.keeps fun b o e => (e0.bs b o e).1
  have lim : s.heap.NoLimit := e0.mod.nolimit.keeps fun b o e => (e0.bs b o e).1
  have hkind : ∀ y ∈ ps.zip us, scope.names.lookup y.1 = some .local ∨ (scope.names.lookup y.1 = some .cell ∧ ((cellsFrom (s.heap.objs.size + 1) scope.names []).lookup y.1).isSome = true) := fun ⟨n, v⟩ hy => by
    rcases S.par n (List.of_mem_zip hy).1 with q | q
    · exact .inl q
    · exact .inr ⟨q, PySem.W.cellsFrom_some _ _ _ (.inl q)⟩
  refine codeAny_call_function hr.depth (KX _ _ lk) rfl S.co S.gen rfl (PySem.W.codeRec_of KX hcd) (hb _ _ _ _ ?_)
  refine wpAny_newFunctionEnv_cells S.kind hkind fun env he s1 x => ?_
  subst he
  refine ⟨lim.keeps x.toInCall.keep, codeAny_func ?_⟩
  obtain ⟨t, ht, hq⟩ := hbody A outer s H vs Q E (hr.deeper _) hsp
  have I : Inv (cxOf CX P w K mg base N qual scope f cdv A outer s H E) [] (start N vs) H s1 := inv_start S hr.hd e0 hl r x
  refine wpAny_mono (ht [] s1 (start N vs) H _ I hq) (fun fl s' hs => ?_) fun e s' hs => hs
  have fin : ∀ {σ' : St} {H' : Hp} {v : V} {u : Value}, Inv (cxOf CX P w K mg base N qual scope f cdv A outer s H E) [] σ' H' s' → RelV v u → Q v H' → CE outer P w H s Q u s' :=
    fun {σ' H' v u} J rv q => ⟨v, H', J.os, J.bare, J.base, J.hok, rv, q⟩
  cases fl with
  | ret u =>
    obtain ⟨v, σ', H', J, rv, q⟩ := hs
    exact fin J rv q
  | next =>
    obtain ⟨σ', H', J, q⟩ := hs
    exact fin (v := V.non) (u := Value.none) J rfl q
  | brk =>
    obtain ⟨_, _, _, q⟩ := hs
    exact False.elim q
  | cont =>
    obtain ⟨_, _, _, q⟩ := hs
    exact False.elim q
end L2

namespace L2
open PySem PySem.Spec PyProof.Rows
section
variable {X : Cx} {x : Str} {p pos : Pos} {e : Expr} {es : List Expr} {t : TA} {id T : String} {r : List V → Hp → VK → Prop}

def tCB (r : List V → Hp → VK → Prop) (t : TA) : TE := fun σ H Q => t σ H fun vs H1 => r vs H1 Q
/-- f(e, ..), f a built-in function -/
theorem pe_callB (hc : CallR X (.builtin id) r) (hg : Gl X x) (hm : X.mg x = none) (hv : bootBuiltins x = some (.builtin id)) (ha : PA X (e :: es) t) (hn : x ≠ "__name__" := by decide) (hdb : (x == ("__debug__" : Str)) = false := by decide)
    (he : starEach (e :: es) X.env = (false, eval e X.env) :: starEach es X.env := by rfl) (hpl : (backTo pos (starEach es X.env)).any (·.1) = false := by rfl) : PE X (.Call (.Name x p) (e :: es) [] pos) (tCB r t) := by
  intro pins s σ H Q I h
  refine wpAny_Call_Name_kw (ld_blt I hg hm hv ?_ hn hdb)
  exact PyProof.Rows.callWith_builtin1 (thn (ha pos pins s σ H _ I h) fun us s1 ⟨vs, H1, I1, r1, q1⟩ => hc pins s1 σ H1 vs us Q I1 r1 q1) he hpl
/-- T(e, ..), T a built-in type -/
theorem pe_callTy (hc : CallR X (.type T) r) (hg : Gl X x) (hm : X.mg x = none) (hv : bootBuiltins x = some (.type T)) (ha : PA X (e :: es) t) (hn : x ≠ "__name__" := by decide) (hdb : (x == ("__debug__" : Str)) = false := by decide)
    (he : starEach (e :: es) X.env = (false, eval e X.env) :: starEach es X.env := by rfl) (hpl : (backTo pos (starEach es X.env)).any (·.1) = false := by rfl) : PE X (.Call (.Name x p) (e :: es) [] pos) (tCB r t) := by
  intro pins s σ H Q I h
  refine wpAny_Call_Name_kw (ld_blt I hg hm hv ?_ hn hdb)
  exact PyProof.Rows.callWith_type1 (thn (ha pos pins s σ H _ I h) fun us s1 ⟨vs, H1, I1, r1, q1⟩ => hc pins s1 σ H1 vs us Q I1 r1 q1) he hpl
/-- T() -/
theorem pe_callTy0 (hc : CallR X (.type T) r) (hg : Gl X x) (hm : X.mg x = none) (hv : bootBuiltins x = some (.type T)) (hn : x ≠ "__name__" := by decide) (hdb : (x == ("__debug__" : Str)) = false := by decide) :
    PE X (.Call (.Name x p) [] [] pos) (tCB r tNil) := by
  intro pins s σ H Q I h
  refine wpAny_Call_Name_kw (ld_blt I hg hm hv ?_ hn hdb)
  exact PyProof.Rows.callWith_type0 (hc pins s σ H [] [] Q I .nil h)
end
end L2

namespace HT
open PySem PyProof.Rows

/-- t < u of tuples of ints -/
def lexLt : List Int → List Int → Bool
  | [], [] => false
  | [], _ :: _ => true
  | _ :: _, [] => false
  | x :: xs, y :: ys => if x = y then lexLt xs ys else decide (x < y)
theorem lexLt_cons (x y : Int) (xs ys : List Int) : lexLt (x :: xs) (y :: ys) = if x = y then lexLt xs ys else decide (x < y) := rfl
theorem lexLt_nil_nil : lexLt [] [] = false := rfl
theorem lexLt_nil_cons (y : Int) (ys : List Int) : lexLt [] (y :: ys) = true := rfl
theorem lexLt_cons_nil (x : Int) (xs : List Int) : lexLt (x :: xs) [] = false := rfl

theorem eqAt_int (A : Around) (s : Shared) (a : Int) (t : Tok) (c : Int) (u : Tok) : ∃ e, SeqAt.EqAt A s (.int a t) (.int c u) e ∧ (e = true ↔ a = c) :=
  ⟨(a == c), SeqAt.EqAt.int_int a t c u, by simp⟩
theorem rcLt_int (A : Around) (s : Shared) (a : Int) (t : Tok) (c : Int) (u : Tok) (prog : Program) (w : World) (E : Value → Shared → Prop) (Q : Value → Shared → Prop) (h : Q (.bool (decide (a < c))) s) :
    wpAny (model prog w) A (richCompare .Lt (.int a t) (.int c u)) Q E s :=
  (PyProof.Rows.lt_int h : wpAny (model prog w) A (compareOp .Lt (.int a t) (.int c u)) Q E s)

section
open PySem.SeqAt
open PySem.AutoSeq1 (wpAny_loadPart')
open PySem.MeetsSeq PySem.MeetsSeq2 PySem.MeetsSeq3

theorem tuple_lt_ints (l b : Addr) (items items2 : Array Value) (n n2 : Nat) (dd dd2 : Option Addr) (sl sl2 : Array (Option Value)) (ns ms : List Int) (hi : IntsAre items.toList ns) (hj : IntsAre items2.toList ms) :
    Meets (Builtin.«tuple.__lt__» ⟨[.ref l, .ref b], []⟩)
      (fun _ R s => s.heap.get? l = some { cls := .type "tuple", dict := dd, data := .seq items n, slots := sl } ∧ s.heap.get? b = some { cls := .type "tuple", dict := dd2, data := .seq items2 n2, slots := sl2 } ∧
        R (.ok (.ret (.bool (lexLt ns ms)))) s) :=
  .of_wp fun prog w A R s h => by
    obtain ⟨hp, g, d, tk, os⟩ := s; obtain ⟨hl, hb, h⟩ := h
    have f2 := AutoSeq1.sub_tuple_tuple
    have z1 : items.size = ns.length := by rw [← hi.length]; simp
    have z2 : items2.size = ms.length := by rw [← hj.length]; simp
    wp_walk using wpAny_loadPart' hl, wpAny_loadPart' hb, wpAny_forIn_list _ (fun rest b s' => b.1 = none ∧ s' = ⟨hp, g, d, tk, os⟩ ∧ ∃ (vs ws : List Value) (ns' ms' : List Int), rest = vs.zip ws ∧
      IntsAre vs ns' ∧ IntsAre ws ms' ∧ ns'.length + items2.size = ms'.length + items.size ∧ R (.ok (.ret (.bool (lexLt ns' ms')))) ⟨hp, g, d, tk, os⟩) _
    case turn =>
      rintro ⟨y, x⟩ rest b s' ⟨hb', rfl, vs, ws, ns', ms', hz, hvi, hwi, hlen, hR⟩
      cases hvi with
      | nil => rw [List.zip_nil_left] at hz; cases hz
      | cons a t hvi' =>
        cases hwi with
        | nil => rw [List.zip_nil_right] at hz; cases hz
        | cons c u hwi' =>
          rw [List.zip_cons_cons] at hz
          injection hz with hyx hrest
          injection hyx with hy hx
          subst hy hx
          rw [lexLt_cons] at hR
          simp only [List.length_cons] at hlen
          obtain ⟨e, he, hiff⟩ := eqAt_int A.in1 ⟨hp, g, d, tk, os⟩ a t c u
          refine wpAny_bind (he prog w _ _ ?_)
          cases e with
          | true =>
            rw [if_pos (hiff.mp rfl)] at hR
            wp_walk
            exact ⟨rfl, rfl, _, _, _, _, hrest, hvi', hwi', by omega, hR⟩
          | false =>
            rw [if_neg (fun q => absurd (hiff.mpr q) Bool.false_ne_true)] at hR
            have hri := rcLt_int A.in1 ⟨hp, g, d, tk, os⟩ a t c u prog w
            wp_walk using hri
            exact ⟨_, rfl, by simpa using hR⟩
    case fin =>
      rintro ⟨b1, b2⟩ s' ⟨hb', rfl, vs, ws, ns', ms', hz, hvi, hwi, hlen, hR⟩
      simp only at hb'
      subst hb'
      have hv : lexLt ns' ms' = decide (items.size < items2.size) := by
        cases hvi with
        | nil =>
          cases hwi with
          | nil =>
            simp only [List.length_nil] at hlen
            rw [lexLt_nil_nil]
            exact (decide_eq_false (by omega)).symm
          | cons c u hw =>
            simp only [List.length_nil, List.length_cons] at hlen
            rw [lexLt_nil_cons]
            exact (decide_eq_true (by omega)).symm
        | cons a t hv =>
          cases hwi with
          | nil =>
            simp only [List.length_nil, List.length_cons] at hlen
            rw [lexLt_cons_nil]
            exact (decide_eq_false (by omega)).symm
          | cons c u hw =>
            rw [List.zip_cons_cons] at hz
            cases hz
      rw [hv] at hR
      wp_walk
      exact ⟨_, rfl, by simpa [Builtin.Tuple.tupleCompareSizes] using hR⟩
    case h =>
      exact ⟨rfl, rfl, items.toList, items2.toList, ns, ms, rfl, hi, hj, by omega, h⟩
end

section
variable {prog : Program} {w : World} {A : Around} {E : Value → Shared → Prop} {s : Shared}

theorem lt_tupInts {l b : Addr} {items items2 : Array Value} {ns ms : List Int} {Q : Value → Shared → Prop} (hl : IsTup s.heap l items) (hb : IsTup s.heap b items2) (hi : IntsAre items.toList ns) (hj : IntsAre items2.toList ms)
    (hu : A.units < cLine) (h : Q (.bool (lexLt ns ms)) s) : wpAny (model prog w) A (compareOp .Lt (.ref l) (.ref b)) Q E s := by
  obtain ⟨⟨cls, dd, data, sl⟩, ho, hc, n, hd⟩ := id hl
  obtain ⟨⟨cls2, dd2, data2, sl2⟩, ho2, hc2, n2, hd2⟩ := id hb
  simp only at hc hd hc2 hd2
  subst hc hd hc2 hd2
  exact richCompare_meets_room (op := .Lt) ⟨_, ho, rfl⟩ ⟨_, ho2, rfl⟩ PySem.F.slot_tuple_lt PySem.F.entry_tuple_lt (PySem.F.args_tuple_lt_2 _ _) (tuple_lt_ints l b items items2 n n2 dd dd2 sl sl2 ns ms hi hj)
    ⟨ho, ho2, show Value.bool (lexLt ns ms) ≠ Value.notImplemented ∧ Q (.bool (lexLt ns ms)) s from ⟨(fun x => nomatch x), h⟩⟩ hu

/-- t + u, t not empty -/
theorem cat_tup {t b : Addr} {vs ws : List Value} {Q : Value → Shared → Prop} (ht : IsTup s.heap t vs.toArray) (hb : IsTup s.heap b ws.toArray) (hv : vs ≠ [])
    (h1 : ws = [] → Q (.ref t) s) (h2 : ws ≠ [] → Q (.ref s.heap.objs.size) { s with heap := s.heap.push { cls := .type "tuple", data := .seq (vs ++ ws).toArray } })
    (hsz : vs.length + ws.length ≤ sizeLine) : wpAny (model prog w) A (binaryOp .Add (.ref t) (.ref b)) Q E s := by
  obtain ⟨⟨cls, dd, data, sl⟩, ho, hc, n, hd⟩ := id ht
  obtain ⟨⟨cls2, dd2, data2, sl2⟩, ho2, hc2, n2, hd2⟩ := id hb
  simp only at hc hd hc2 hd2
  subst hc hd hc2 hd2
  have e : vs.toArray ++ ws.toArray = (vs ++ ws).toArray := by simp
  by_cases hw : ws = []
  · exact concat_meets ⟨_, ho, rfl⟩ ⟨_, ho2, rfl⟩ noFill_tuple_add seq_tuple_add PySem.F.slot_tuple_add PySem.F.entry_tuple_add (PySem.F.args_tuple_add_2 _ _)
      (tuple_addW1 t b vs.toArray ws.toArray n n2 dd dd2 sl sl2 (by simpa using hv) (by simp [hw])) ⟨ho, ho2, h1 hw⟩
  · refine concat_meets ⟨_, ho, rfl⟩ ⟨_, ho2, rfl⟩ noFill_tuple_add seq_tuple_add PySem.F.slot_tuple_add PySem.F.entry_tuple_add (PySem.F.args_tuple_add_2 _ _)
      (tuple_addW2 t b vs.toArray ws.toArray n n2 dd dd2 sl sl2 (by simpa using hv) (by simpa using hw) (by rw [List.size_toArray, List.size_toArray]; exact hsz)) ⟨ho, ho2, ?_⟩
    rw [e]
    exact h2 hw

/-! ### t[a:b], not the whole -/
/-- a slice's bound as a place among n (d where it is left out) -/
def sIx (n d : Nat) : Option Int → Nat
  | none => d
  | some v => if v < 0 then (v + (n : Int)).toNat else min v.toNat n
theorem sIx_none (n d : Nat) : sIx n d none = d := rfl
theorem sIx_nat (n d k : Nat) : sIx n d (some (k : Int)) = min k n := by
  show (if (k : Int) < 0 then ((k : Int) + (n : Int)).toNat else min (k : Int).toNat n) = min k n
  rw [if_neg (by omega), Int.toNat_natCast]
theorem sIx_le (n d : Nat) (hd : d ≤ n) (o : Option Int) : sIx n d o ≤ n := by
  cases o with
  | none => exact hd
  | some v =>
    show (if v < 0 then (v + (n : Int)).toNat else min v.toNat n) ≤ n
    by_cases hv : v < 0
    · rw [if_pos hv]; omega
    · rw [if_neg hv]; exact Nat.min_le_right _ _
theorem clip_eq (v : Int) (n d : Nat) : (if v < 0 then max (v + (n : Int)) 0 else min v (n : Int)) = ((sIx n d (some v) : Nat) : Int) := by
  show (if v < 0 then max (v + (n : Int)) 0 else min v (n : Int)) = (((if v < 0 then (v + (n : Int)).toNat else min v.toNat n) : Nat) : Int)
  by_cases hv : v < 0
  · simp only [if_pos hv]; omega
  · simp only [if_neg hv]; omega
theorem adjust_gen (lo hi : Option Int) (n : Nat) : Builtin.Slice.sliceAdjust lo hi 1 (n : Int) = (((sIx n 0 lo : Nat) : Int), ((sIx n n hi : Nat) : Int)) := by
  have h1 : ¬ ((1 : Int) < 0) := by omega
  unfold Builtin.Slice.sliceAdjust
  simp only [h1, if_false]
  refine Prod.ext ?_ ?_
  · cases lo with
    | none => rfl
    | some v => exact clip_eq v n 0
  · cases hi with
    | none => rfl
    | some v => exact clip_eq v n n
theorem places_gen (i j : Nat) : Builtin.Slice.slicePlaces (i : Int) (j : Int) 1 = j - i := by
  unfold Builtin.Slice.slicePlaces
  have h1 : (1 : Int) > 0 := by omega
  simp only [h1, if_true, Int.ediv_one]
  split <;> omega
theorem slicePart_ {v : Value} {o : Option Int} {Q : Option Int → Shared → Prop} (p : IsPart v o) (h : Q o s) : wpAny (model prog w) A (Builtin.Slice.slicePartIndex v) Q E s := by
  cases p with
  | none => exact slicePart_none h
  | int i t => exact slicePart_int h
theorem sliceApplied_gen {sl : Addr} {vl vu : Value} {lo hi : Option Int} {n : Nat} {Q : Int × Int × Nat → Shared → Prop} (hs : s.heap.IsSliceOf sl vl vu .none) (pl : IsPart vl lo) (pu : IsPart vu hi)
    (h : Q (((sIx n 0 lo : Nat) : Int), 1, sIx n n hi - sIx n 0 lo) s) : wpAny (model prog w) A (Builtin.Slice.sliceApplied (.ref sl) (pure (n : Int))) Q E s := by
  obtain ⟨os, hos, hcs, hds⟩ := id hs
  unfold Builtin.Slice.sliceApplied Builtin.Slice.sliceFields
  refine wpAny_bind (wpAny_bind (wpAny_field hos hds (x := vl) rfl (wpAny_bind (wpAny_field hos hds (x := vu) rfl (wpAny_bind (wpAny_field hos hds (x := .none) rfl (wpAny_pure ?_)))))))
  refine wpAny_bind (slicePart_none ?_)
  show wpAny _ _ (if ((1 : Int) == 0) = true then _ else _) _ _ s
  rw [if_neg (by decide)]
  refine wpAny_bind (slicePart_ pl (wpAny_bind (slicePart_ pu (wpAny_bind (wpAny_pure ?_)))))
  show wpAny _ _ (match Builtin.Slice.sliceAdjust lo hi 1 (n : Int) with | (lo, hi) => pure (lo, (1 : Int), Builtin.Slice.slicePlaces lo hi 1)) _ _ s
  rw [adjust_gen lo hi n]
  show wpAny _ _ (pure (((sIx n 0 lo : Nat) : Int), (1 : Int), Builtin.Slice.slicePlaces ((sIx n 0 lo : Nat) : Int) ((sIx n n hi : Nat) : Int) 1)) _ _ s
  rw [places_gen]
  exact wpAny_pure h
theorem pick_gen (xs : Array Value) (i k : Nat) : ((List.range k).filterMap fun (m : Nat) => xs[((i : Int) + (m : Int) * 1).toNat]?).toArray = ((xs.toList.drop i).take k).toArray := by
  have e : (fun (m : Nat) => xs[((i : Int) + (m : Int) * 1).toNat]?) = fun m => xs[i + m]? := by
    funext m
    have : ((i : Int) + (m : Int) * 1).toNat = i + m := by omega
    rw [this]
  rw [e]
  have := pick_run xs i k
  rw [List.filterMap_map] at this
  have e2 : ((fun x => xs[x]?) ∘ fun x => i + x) = fun m => xs[i + m]? := rfl
  rw [e2] at this
  rw [this]

theorem getItem_tuple_cut {t sl : Addr} {items : Array Value} {vl vu : Value} {lo hi : Option Int} {Q : Value → Shared → Prop} (ht : IsTup s.heap t items) (hs : s.heap.IsSliceOf sl vl vu .none) (pl : IsPart vl lo) (pu : IsPart vu hi)
    (hw : ¬ (sIx items.size 0 lo = 0 ∧ sIx items.size items.size hi = items.size))
    (h : Q (.ref s.heap.objs.size) { s with heap := s.heap.push { cls := .type "tuple", data := .seq ((items.toList.drop (sIx items.size 0 lo)).take (sIx items.size items.size hi - sIx items.size 0 lo)).toArray } })
    (hsz : items.size ≤ sizeLine) : wpAny (model prog w) A (getItem (.ref t) (.ref sl)) Q E s := by
  have htake : sizeOk (.seq ((items.toList.drop (sIx items.size 0 lo)).take (sIx items.size items.size hi - sIx items.size 0 lo)).toArray) := by
    show ((items.toList.drop (sIx items.size 0 lo)).take (sIx items.size items.size hi - sIx items.size 0 lo)).toArray.size ≤ sizeLine
    rw [List.size_toArray, List.length_take, List.length_drop, Array.length_toList]
    omega
  have hj : sIx items.size items.size hi ≤ items.size := sIx_le _ _ (Nat.le_refl _) hi
  obtain ⟨os, hos, hcs, hds⟩ := id hs
  have hTs : s.TypeIs (.ref sl) "slice" := ⟨os, hos, hcs⟩
  unfold getItem
  try with_reducible refine wpAny_holding ?_
  first | refine wpAny_bind (wpAny_pure ?_) | skip
  refine wpAny_bind (wpAny_sequenceKey ht.typeIs (by decide) ?_)
  refine wpAny_bind (wpAny_callSpecial?_slot (name := Str.ofString "__getitem__") ht.typeIs PyProof.Rows.slot_tuple_getitem
    (wpAny_call_entry PyProof.Rows.slot_tuple_getitem ht.typeIs entry_tuple_getitem ?_ (args_tuple_getitem _ _)))
  show wpAny _ _ (Builtin.Tuple.tupleItemsOf (.ref t) >>= _) _ _ s
  refine wpAny_bind (tupleItemsOf_ ht ?_)
  refine wpAny_bind (wpAny_typeOf hTs ?_)
  rw [if_pos (by decide)]
  refine wpAny_bind (sliceApplied_gen hs pl pu ?_)
  have hno : ¬ ((((sIx items.size 0 lo : Nat) : Int) == 0 && (1 : Int) == 1 && (sIx items.size items.size hi - sIx items.size 0 lo) == items.size) = true) := by
    intro q
    rw [Bool.and_eq_true, Bool.and_eq_true] at q
    have q1 : ((sIx items.size 0 lo : Nat) : Int) = 0 := eq_of_beq q.1.1
    have q2 : sIx items.size items.size hi - sIx items.size 0 lo = items.size := eq_of_beq q.2
    exact hw ⟨by omega, by omega⟩
  show wpAny _ _ (if (((sIx items.size 0 lo : Nat) : Int) == 0 && (1 : Int) == 1 && (sIx items.size items.size hi - sIx items.size 0 lo) == items.size) = true then _ else _) _ _ s
  rw [if_neg hno, pick_gen]
  first
    | exact wpAny_bind (m := Builtin.Tuple.tupleExact _) (wpAny_newObj_type (wpAny_pure ⟨_, rfl, wpAny_pure h⟩) htake)
    | exact wpAny_bind (m := Builtin.Tuple.tupleExact _) (wpAny_newObj_type (wpAny_bind (wpAny_pure (wpAny_pure ⟨_, rfl, wpAny_pure h⟩))) htake)
    | exact wpAny_bind (wpAny_bind (m := Builtin.Tuple.tupleExact _) (wpAny_newObj_type (wpAny_pure (wpAny_pure ⟨_, rfl, wpAny_pure h⟩)) htake))
    | exact wpAny_bind (wpAny_bind (m := Builtin.Tuple.tupleExact _) (wpAny_newObj_type (wpAny_pure ⟨_, rfl, wpAny_pure h⟩) htake))
end
end HT

namespace L2
open PySem PySem.Spec PyProof.Rows

/-! ### the parts of a slice -/
abbrev TO := St → Hp → (Option Int → Hp → Prop) → Prop
/-- a slice's part (left out, or an int) -/
def PO (X : Cx) (e : Option Expr) (t : TO) : Prop :=
  ∀ (pins : List (Addr × Obj)) (s : Shared) (σ : St) (H : Hp) (Q : Option Int → Hp → Prop), Inv X pins σ H s → t σ H Q →
    wpAny (model X.prog X.w) X.A (evalPart e X.env) (fun u s' => ∃ o H', Inv X pins σ H' s' ∧ IsPart u o ∧ Q o H') X.xe s
def tNoPart : TO := fun _ H Q => Q none H
def tPart (t : TE) : TO := fun σ H Q => t σ H fun x H1 => ∃ i, x = .int i ∧ Q (some i) H1

theorem intsAre_of {ns : List Int} : ∀ {us : List Value}, Vals (ns.map V.int) us → IntsAre us ns := by
  induction ns with
  | nil => intro us r; rw [List.map_nil] at r; cases r; exact .nil
  | cons n ns ih =>
    intro us r
    rw [List.map_cons] at r
    cases r with
    | cons r1 r2 =>
      obtain ⟨t, e⟩ := r1
      subst e
      exact .cons n t (ih r2)

section
variable {X : Cx} {e : Expr} {te : TE} {lo hi : Option Expr} {tl th : TO} {pos p2 : Pos}

theorem po_none : PO X none tNoPart := by
  intro pins s σ H Q I h
  rw [evalPart_none]
  exact wpAny_pure ⟨none, H, I, .none, h⟩
theorem po_some (h : PE X e te) : PO X (some e) (tPart te) := by
  intro pins s σ H Q I hw
  rw [evalPart_some]
  refine thn (h pins s σ H _ I hw) fun u s1 ⟨x, H1, I1, r1, q1⟩ => ?_
  obtain ⟨i, rfl, q⟩ := q1
  obtain ⟨t, rfl⟩ := r1
  exact ⟨some i, H1, I1, .int i t, q⟩

/-- what a slice of a value is, by values: the slice object stands at sl -/
def SlR (X : Cx) (r : V → Option Int → Option Int → Hp → VK → Prop) : Prop :=
  ∀ (pins : List (Addr × Obj)) (s : Shared) (σ : St) (H : Hp) (x : V) (v vl vu : Value) (lo hi : Option Int) (sl : Addr) (Q : VK), Inv X pins σ H s → RelV x v → s.heap.IsSliceOf sl vl vu .none → IsPart vl lo → IsPart vu hi → r x lo hi H Q →
    ∃ T id, typeLookup (.type T) "__getitem__" = pure (some (.builtin id)) ∧ s.TypeIs v T ∧ wpAny (model X.prog X.w) X.A (getItem v (.ref sl)) (EP X pins σ Q) X.xe s
theorem SlR.or {r r' : V → Option Int → Option Int → Hp → VK → Prop} (h : SlR X r) (h' : SlR X r') : SlR X (fun x lo hi H Q => r x lo hi H Q ∨ r' x lo hi H Q) := by
  intro pins s σ H x v vl vu lo hi sl Q I rx hs pl pu q
  rcases q with q | q
  · exact h pins s σ H x v vl vu lo hi sl Q I rx hs pl pu q
  · exact h' pins s σ H x v vl vu lo hi sl Q I rx hs pl pu q
def tSl (r : V → Option Int → Option Int → Hp → VK → Prop) (te : TE) (tl th : TO) : TE := fun σ H Q => te σ H fun x H1 => tl σ H1 fun l H2 => th σ H2 fun u H3 => r x l u H3 Q
/-- a[lo:hi], any a -/
theorem pe_slice {r : V → Option Int → Option Int → Hp → VK → Prop} (hr : SlR X r) (he : PE X e te) (hl : PO X lo tl) (hu : PO X hi th) : PE X (.Subscript e (.Slice lo hi none p2) pos) (tSl r te tl th) := by
  intro pins s σ H Q I h
  refine Subscript_ (thn (he pins s σ H _ I h) fun v s1 ⟨x, H1, I1, r1, q1⟩ => ?_)
  refine wpAny_Slice (thn (hl pins s1 σ H1 _ I1 q1) fun vl s2 ⟨l, H2, I2, pl, q2⟩ => thn (hu pins s2 σ H2 _ I2 q2) fun vu s3 ⟨u, H3, I3, pu, q3⟩ => ?_)
  rw [evalPart_none]
  refine wpAny_pure ?_
  have I4 : Inv X pins σ H3 { s3 with heap := s3.heap.push { cls := .type "slice", data := .fields #[vl, vu, .none] } } := I3.kept (t' := s3.toks) fun b ob q => Heap.get?_push_of_some _ q
  obtain ⟨T, id, hT, ht, hg⟩ := hr pins { s3 with heap := s3.heap.push { cls := .type "slice", data := .fields #[vl, vu, .none] } } σ H3 x v vl vu l u s3.heap.objs.size Q I4 r1 (Heap.IsSliceOf.new ..) pl pu q3
  show wpAny (model X.prog X.w) X.A (subscriptTail e (.Slice lo hi none p2) v (.ref s3.heap.objs.size)) (EP X pins σ Q) X.xe { s3 with heap := s3.heap.push { cls := .type "slice", data := .fields #[vl, vu, .none] } }
  exact tail_any (ops := [.ref s3.heap.objs.size, v]) ht hT hg (by with_unfolding_all rfl)

/-- the items of xs[lo:hi] -/
def cutV (xs : List V) (lo hi : Option Int) : List V := (xs.drop (HT.sIx xs.length 0 lo)).take (HT.sIx xs.length xs.length hi - HT.sIx xs.length 0 lo)
theorem cutV_length (xs : List V) (lo hi : Option Int) : (cutV xs lo hi).length ≤ xs.length := by
  unfold cutV
  rw [List.length_take, List.length_drop]
  omega
/-- t[lo:hi], not the whole of it (the whole would be t itself) -/
def rSlT (K : PySem.W.Frag) : V → Option Int → Option Int → Hp → VK → Prop := fun x lo hi H Q => ∃ a xs, x = .ref a ∧ SqT K H a xs ∧
  ¬ (HT.sIx xs.length 0 lo = 0 ∧ HT.sIx xs.length xs.length hi = xs.length) ∧ ∀ p, H p = none → Q (.ref p) (upd H p (.tup (cutV xs lo hi)))
theorem sl_tup : SlR X (rSlT X.K) := by
  intro pins s σ H x v vl vu lo hi sl Q I rx hs pl pu h
  obtain ⟨a, xs, rfl, hx, hw, q⟩ := h
  cases rx
  obtain ⟨its, r, ht, hz⟩ := I.tuple hx
  have hlen : its.toArray.size = xs.length := by rw [List.size_toArray]; exact r.length.symm
  refine ⟨"tuple", _, PyProof.Rows.slot_tuple_getitem.lookup, ht.typeIs, ?_⟩
  refine HT.getItem_tuple_cut ht hs pl pu (by rw [hlen]; exact hw) ?_ (by rw [hlen]; exact hz)
  rw [hlen]
  refine ⟨.ref s.heap.objs.size, _, I.laid (t' := s.toks) (o := .tup (cutV xs lo hi)) (fun b ob q => Heap.get?_push_of_some _ q) (Nat.le_refl _) ?_, rfl, q _ (I.hok.fresh (Nat.le_refl _))⟩
  exact ⟨Nat.le_trans (cutV_length xs lo hi) hz, _, (r.drop (HT.sIx xs.length 0 lo)).take (HT.sIx xs.length xs.length hi - HT.sIx xs.length 0 lo), IsTup.new _ _⟩

/-! ### t < u, t + u -/
def rLtT (K : PySem.W.Frag) : R2 := fun x y H Q => ∃ a b ns ms, x = .ref a ∧ y = .ref b ∧ SqT K H a (ns.map V.int) ∧ SqT K H b (ms.map V.int) ∧ Q (.bl (HT.lexLt ns ms)) H
theorem op_ltT (hu : X.A.units < cLine) : OpR X (compareOp .Lt) (rLtT X.K) := by
  intro pins s σ H x y v u Q I rx ry h
  obtain ⟨a, b, ns, ms, rfl, rfl, ha, hb, q⟩ := h
  cases rx
  cases ry
  obtain ⟨its, r1, p1, _⟩ := I.tuple ha
  obtain ⟨its2, r2, p2, _⟩ := I.tuple hb
  have i1 : IntsAre its.toArray.toList ns := intsAre_of r1
  have i2 : IntsAre its2.toArray.toList ms := intsAre_of r2
  exact HT.lt_tupInts p1 p2 i1 i2 hu ⟨.bl (HT.lexLt ns ms), H, I, rfl, q⟩
/-- t + u, t not empty: u empty gives t itself -/
def rCatT (K : PySem.W.Frag) : R2 := fun x y H Q => ∃ a b xs ys, x = .ref a ∧ y = .ref b ∧ SqT K H a xs ∧ SqT K H b ys ∧ xs ≠ [] ∧ xs.length + ys.length ≤ sizeLine ∧
  (ys = [] → Q (.ref a) H) ∧ (ys ≠ [] → ∀ p, H p = none → Q (.ref p) (upd H p (.tup (xs ++ ys))))
theorem Vals.nil_iff {xs : List V} {us : List Value} (r : Vals xs us) : us = [] ↔ xs = [] := by
  cases r with
  | nil => simp
  | cons _ _ => simp
theorem op_catT : OpR X (binaryOp .Add) (rCatT X.K) := by
  intro pins s σ H x y v u Q I rx ry h
  obtain ⟨a, b, xs, ys, rfl, rfl, ha, hb, hx, hz, q1, q2⟩ := h
  cases rx
  cases ry
  obtain ⟨its, r1, p1, _⟩ := I.tuple ha
  obtain ⟨its2, r2, p2, _⟩ := I.tuple hb
  refine HT.cat_tup p1 p2 (fun z => hx (r1.nil_iff.mp z)) (fun z => ⟨.ref a, H, I, rfl, q1 (r2.nil_iff.mp z)⟩) (fun z => ?_) (by rw [← r1.length, ← r2.length]; exact hz)
  refine ⟨.ref s.heap.objs.size, _, I.laid (t' := s.toks) (o := .tup (xs ++ ys)) (fun b ob q => Heap.get?_push_of_some _ q) (Nat.le_refl _) ?_, rfl, q2 (fun w => z (r2.nil_iff.mpr w)) _ (I.hok.fresh (Nat.le_refl _))⟩
  exact ⟨by rw [List.length_append]; exact hz, _, r1.append r2, IsTup.new _ _⟩
/-- tuple(t) -/
theorem call_tupleT : CallR X (.type "tuple") (fun xs H Q => ∃ a ys, xs = [.ref a] ∧ SqT X.K H a ys ∧ Q (.ref a) H) := by
  intro pins s σ H xs us Q I r h
  obtain ⟨a, ys, rfl, ha, q⟩ := h
  obtain ⟨u, rfl, ru⟩ := vals1 r
  cases ru
  obtain ⟨its, _, p1, _⟩ := I.tuple ha
  exact call_tuple_same (items := its.toArray) p1 ⟨.ref a, H, I, rfl, q⟩
end
end L2

namespace L2
open PySem PySem.Spec PyProof.Rows

/-! ### places -/
/-- the place that an index of any sign means -/
def ixN (n : Nat) (i : Int) : Option Nat := if 0 ≤ i then (if i < n then some i.toNat else none) else if -(n : Int) ≤ i then some (i + n).toNat else none
def atI {α : Type} (xs : List α) (i : Int) : Option α := (ixN xs.length i).bind fun j => xs[j]?
theorem ixN_seq {n : Nat} {i : Int} {j : Nat} (h : ixN n i = some j) : seqIndex? i n = some j ∧ j < n ∧ -(n : Int) ≤ i ∧ i < n := by
  unfold ixN at h
  by_cases h0 : 0 ≤ i
  · rw [if_pos h0] at h
    by_cases h1 : i < n
    · rw [if_pos h1] at h
      have e : i.toNat = j := Option.some.inj h
      exact ⟨by rw [seqIndex_of h0 h1, e], by omega, by omega, h1⟩
    · rw [if_neg h1] at h; cases h
  · rw [if_neg h0] at h
    by_cases h1 : -(n : Int) ≤ i
    · rw [if_pos h1] at h
      have e : (i + n).toNat = j := Option.some.inj h
      exact ⟨by rw [seqIndex_neg (by omega) h1, e], by omega, h1, by omega⟩
    · rw [if_neg h1] at h; cases h
theorem atI_get {α : Type} {xs : List α} {i : Int} {v : α} (h : atI xs i = some v) : ∃ j, seqIndex? i xs.length = some j ∧ xs[j]? = some v ∧ j < xs.length ∧ -(xs.length : Int) ≤ i ∧ i < xs.length := by
  unfold atI at h
  cases e : ixN xs.length i with
  | none => rw [e] at h; cases h
  | some j =>
    rw [e] at h
    obtain ⟨h1, h2, h3, h4⟩ := ixN_seq e
    exact ⟨j, h1, h, h2, h3, h4⟩
theorem atI_nat {α : Type} {xs : List α} {j : Nat} {v : α} (h : xs[j]? = some v) : atI xs (j : Int) = some v := by
  have hj : j < xs.length := (List.getElem?_eq_some_iff.mp h).1
  have e : ixN xs.length (j : Int) = some j := by
    unfold ixN
    rw [if_pos (by omega), if_pos (by omega)]; simp
  unfold atI; rw [e]; exact h
theorem atI_last {α : Type} (xs : List α) (v : α) : atI (xs ++ [v]) (-1) = some v := by
  have hl : (xs ++ [v]).length = xs.length + 1 := by simp
  have e : ixN (xs ++ [v]).length (-1) = some xs.length := by
    unfold ixN
    rw [hl, if_neg (by decide), if_pos (by omega)]
    congr 1
    omega
  unfold atI
  rw [e]
  show (xs ++ [v])[xs.length]? = some v
  simp

/-! ### what may be subscripted -/
/-- what stands as an index of a plain subscript -/
def PlainIx (b : Expr) : Prop := ∀ o i, subscripted b false o i = operate [o, i] (getItem o i)
/-- a subscript by values -/
def IxR (X : Cx) (r : R2) : Prop :=
  ∀ (value slice : Expr) (pins : List (Addr × Obj)) (s : Shared) (σ : St) (H : Hp) (x y : V) (v u : Value) (Q : VK), Inv X pins σ H s → RelV x v → RelV y u → r x y H Q →
    subscripted slice false v u = operate [v, u] (getItem v u) → wpAny (model X.prog X.w) X.A (subscriptTail value slice v u) (EP X pins σ Q) X.xe s
/-- a call of a builtin's method by values: the receiver, the arguments -/
def MtR (X : Cx) (id : String) (r : V → List V → Hp → VK → Prop) : Prop :=
  ∀ (pins : List (Addr × Obj)) (s : Shared) (σ : St) (H : Hp) (x : V) (xs : List V) (v : Value) (us : List Value) (Q : VK), Inv X pins σ H s → RelV x v → Vals xs us → r x xs H Q →
    wpAny (model X.prog X.w) X.A (call (.builtin id) (v :: us)) (EP X pins σ Q) X.xe s
section
variable {X : Cx} {a b : Expr} {ta tb : TE} {pos : Pos}
theorem IxR.or {r r' : R2} (h : IxR X r) (h' : IxR X r') : IxR X (fun x y H Q => r x y H Q ∨ r' x y H Q) := by
  intro value slice pins s σ H x y v u Q I rx ry q hs
  rcases q with q | q
  · exact h value slice pins s σ H x y v u Q I rx ry q hs
  · exact h' value slice pins s σ H x y v u Q I rx ry q hs
theorem MtR.or {id : String} {r r' : V → List V → Hp → VK → Prop} (h : MtR X id r) (h' : MtR X id r') : MtR X id (fun x xs H Q => r x xs H Q ∨ r' x xs H Q) := by
  intro pins s σ H x xs v us Q I rx rs q
  rcases q with q | q
  · exact h pins s σ H x xs v us Q I rx rs q
  · exact h' pins s σ H x xs v us Q I rx rs q
/-- a[b] -/
theorem pe_ix {r : R2} (hr : IxR X r) (ha : PE X a ta) (hb : PE X b tb) (hs : PlainIx b) : PE X (.Subscript a b pos) (tOp r ta tb) := by
  intro pins s σ H Q I h
  exact Subscript_ (binT ha hb I h fun v u s2 x y H2 I2 rx ry q => hr a b pins s2 σ H2 x y v u Q I2 rx ry q (hs _ _))

def rIxL (K : PySem.W.Frag) : R2 := fun x y H Q => ∃ p xs i v, x = .ref p ∧ y = .int i ∧ SqL K H p xs ∧ atI xs i = some v ∧ Q v H
def rIxT (K : PySem.W.Frag) : R2 := fun x y H Q => ∃ p xs i v, x = .ref p ∧ y = .int i ∧ SqT K H p xs ∧ atI xs i = some v ∧ Q v H
def rIxS : R2 := fun x y H Q => ∃ z i c, x = .str z ∧ y = .int i ∧ z.length ≤ sizeLine ∧ atI z.cps.toList i = some c ∧ Q (.str ⟨#[c]⟩) H
theorem ix_list : IxR X (rIxL X.K) := by
  intro value slice pins s σ H x y v u Q I rx ry h hs
  obtain ⟨p, xs, i, z, rfl, rfl, hq, he, q⟩ := h
  cases rx
  obtain ⟨t, rfl⟩ := ry
  obtain ⟨its, r, pl, hz⟩ := I.list hq
  obtain ⟨j, h1, h2, h3, h4, h5⟩ := atI_get he
  obtain ⟨w, ew, rw'⟩ := r.get h2
  have hl := r.length
  have hn := line63
  have fin : EP X pins σ Q w s := ⟨z, H, I, rw', q⟩
  by_cases h0 : 0 ≤ i
  · have hj : i.toNat = j := by
      rw [seqIndex_of h0 h5] at h1
      exact Option.some.inj h1
    exact item_listR pl.isList h0 (by omega) (by rw [hj]; simpa using ew) fin hs
  · have hj : (i + (its.toArray.size : Int)).toNat = j := by
      rw [seqIndex_neg (by omega) h4] at h1
      rw [List.size_toArray, ← hl]
      exact Option.some.inj h1
    exact subscriptTail_builtinR (x := w) pl.isList.typeIs slot_list_getitem.lookup
      (wpAny_getItem_list_neg (Q := fun r s' => r = w ∧ EP X pins σ Q r s') pl.isList (by omega) (by rw [List.size_toArray] <;> omega) (by omega) (by rw [hj]; simpa using ew) ⟨rfl, fin⟩) hs
theorem ix_tup : IxR X (rIxT X.K) := by
  intro value slice pins s σ H x y v u Q I rx ry h hs
  obtain ⟨p, xs, i, z, rfl, rfl, hq, he, q⟩ := h
  cases rx
  obtain ⟨t, rfl⟩ := ry
  obtain ⟨its, r, pl, hz⟩ := I.tuple hq
  obtain ⟨j, h1, h2, h3, h4, h5⟩ := atI_get he
  obtain ⟨w, ew, rw'⟩ := r.get h2
  have hl := r.length
  have hn := line63
  have fin : EP X pins σ Q w s := ⟨z, H, I, rw', q⟩
  exact subscriptTail_builtinR (x := w) pl.typeIs slot_tuple_getitem.lookup
    (getItem_tuple (j := j) (Q := fun r s' => r = w ∧ EP X pins σ Q r s') pl (by omega) (by omega) (by rw [List.size_toArray, ← hl]; exact h1) (by simpa using ew) ⟨rfl, fin⟩) hs
theorem ix_str : IxR X rIxS := by
  intro value slice pins s σ H x y v u Q I rx ry h hs
  obtain ⟨z, i, c, rfl, rfl, hz, he, q⟩ := h
  obtain ⟨t, rfl⟩ := rx
  obtain ⟨t', rfl⟩ := ry
  obtain ⟨j, h1, h2, h3, h4, h5⟩ := atI_get he
  have hl : z.cps.toList.length = z.length := by simp [Str.length]
  rw [hl] at h1 h4 h5
  have hn := line63
  exact tail_any (typeIs_str s z t) slot_str_getitem.lookup (getItem_str (c := c) (by
    have e1 : decide (i < -(2 ^ 63 : Int)) = false := decide_eq_false (by omega)
    have e2 : decide (i ≥ 2 ^ 63) = false := decide_eq_false (by omega)
    rw [e1, e2, Bool.or_false]) (by rw [h1]; simpa using h2) ⟨.str ⟨#[c]⟩, H, I.tok _, ⟨_, rfl⟩, q⟩) hs
/-- list, tuple or str -/
def rIx (K : PySem.W.Frag) : R2 := fun x y H Q => rIxL K x y H Q ∨ rIxT K x y H Q ∨ rIxS x y H Q
theorem ix_seq : IxR X (rIx X.K) := ix_list.or (ix_tup.or ix_str)

/-! ### xs[i] = v, any sign -/
/-- the list's object behind a store -/
theorem mapSeq_set (its : List Value) (n j : Nat) (u : Value) : Obj.mapSeq (·.setIfInBounds j u) { cls := .type "list", data := .seq its.toArray n } = { cls := .type "list", data := .seq (its.set j u).toArray n } := by
  simp [Obj.mapSeq]
theorem Inv.lst {pins : List (Addr × Obj)} {σ : St} {H : Hp} {s : Shared} {p : Addr} {xs : List V} (I : Inv X pins σ H s) (h : H p = some (.lst xs)) :
    ∃ (its : List Value) (n : Nat), Vals xs its ∧ s.heap.get? p = some { cls := .type "list", data := .seq its.toArray n } ∧ xs.length ≤ sizeLine := by
  obtain ⟨z, its, n, r, e⟩ := I.hok p _ h
  exact ⟨its, n, r, e, z⟩
/-- the list at p is written by an update of its object -/
theorem Inv.lstUpd {pins : List (Addr × Obj)} {σ : St} {H : Hp} {s : Shared} {p : Addr} {xs ys : List V} {its its' : List Value} {n n' : Nat} {f : Obj → Obj} (I : Inv X pins σ H s) (h : H p = some (.lst xs))
    (ho : s.heap.get? p = some { cls := .type "list", data := .seq its.toArray n }) (hf : f { cls := .type "list", data := .seq its.toArray n } = { cls := .type "list", data := .seq its'.toArray n' }) (r : Vals ys its') (hz : ys.length ≤ sizeLine) (t : Nat) :
    Inv X pins σ (upd H p (.lst ys)) { s with heap := s.heap.update p f, toks := t } := by
  have e : (s.heap.update p f).get? p = some { cls := .type "list", data := .seq its'.toArray n' } := by
    rw [Heap.get?_update_self f ho (by rw [hf] <;> rfl), hf]
  refine I.write (x := p) (e := p) (by rw [h]; trivial) (.inl rfl) (fun b u hb q => (Heap.get?_update_other _ _ (Ne.symm hb)).trans q) ⟨_, e⟩ ?_
  exact ⟨hz, its', n', r, e⟩
def rSetL : V → V → V → Hp → (Hp → Prop) → Prop := fun o i v H Q => ∃ p xs k j, o = .ref p ∧ i = .int k ∧ H p = some (.lst xs) ∧ ixN xs.length k = some j ∧ Q (upd H p (.lst (xs.set j v)))
theorem set_list : PSet X rSetL := by
  intro pins s σ H o i v ov iv u Q I ro ri rv h
  obtain ⟨p, xs, k, j, rfl, rfl, hp, hj, q⟩ := h
  cases ro
  obtain ⟨t, rfl⟩ := ri
  obtain ⟨its, n, r, ho, hz⟩ := I.lst hp
  obtain ⟨h1, h2, h3, h4⟩ := ixN_seq hj
  have hl := r.length
  have hn := line63
  have I' : Inv X pins σ (upd H p (.lst (xs.set j v))) { s with heap := s.heap.update p (Obj.mapSeq (·.setIfInBounds j u)) } :=
    I.lstUpd hp ho (mapSeq_set its n j u) (r.set rv j) (by rw [List.length_set]; exact hz) s.toks
  by_cases h0 : 0 ≤ k
  · have hk : k.toNat = j := by
      rw [seqIndex_of h0 h4] at h1
      exact Option.some.inj h1
    exact PySem.W.ki_setAt ho h0 (by omega) (by rw [List.size_toArray, ← hl]; exact h4) (by rw [hk]; exact ⟨_, I', q⟩)
  · have hk : (k + (its.toArray.size : Int)).toNat = j := by
      rw [seqIndex_neg (by omega) h3] at h1
      rw [List.size_toArray, ← hl]
      exact Option.some.inj h1
    exact PySem.W.ki_setBack ho (by omega) (by rw [List.size_toArray, ← hl]; exact h3) (by omega) (by rw [hk]; exact ⟨_, I', q⟩)

/-! ### slices -/
theorem slice_bounds (lo hi : Option Int) (n : Nat) : (sliceBounds lo hi none n).1 = ((HT.sIx n 0 lo : Nat) : Int) ∧ (sliceBounds lo hi none n).2.1 = ((HT.sIx n n hi : Nat) : Int) ∧ (sliceBounds lo hi none n).2.2 = 1 := by
  refine ⟨?_, ?_, rfl⟩
  · cases lo with
    | none => simp [sliceBounds, HT.sIx]
    | some i =>
      simp only [sliceBounds, HT.sIx, Option.getD_none, show (1 : Int) > 0 by decide, if_true]
      by_cases h : i < 0
      · simp only [h, if_true] <;> omega
      · simp only [h, if_false] <;> omega
  · cases hi with
    | none => simp [sliceBounds, HT.sIx]
    | some i =>
      simp only [sliceBounds, HT.sIx, Option.getD_none, show (1 : Int) > 0 by decide, if_true]
      by_cases h : i < 0
      · simp only [h, if_true] <;> omega
      · simp only [h, if_false] <;> omega
theorem slicePick_cut (its : List Value) (lo hi : Option Int) : slicePick its.toArray lo hi none = ((its.drop (HT.sIx its.length 0 lo)).take (HT.sIx its.length its.length hi - HT.sIx its.length 0 lo)).toArray := by
  obtain ⟨h1, h2, h3⟩ := slice_bounds lo hi its.toArray.size
  unfold slicePick
  rw [h1, h2, h3]
  simp only [sliceRange_one, pick_run, List.size_toArray] <;> rfl
/-- xs[lo:hi] of a list: a new list -/
def rSlL (K : PySem.W.Frag) : V → Option Int → Option Int → Hp → VK → Prop := fun x lo hi H Q => ∃ a xs, x = .ref a ∧ SqL K H a xs ∧ ∀ p, H p = none → Q (.ref p) (upd H p (.lst (cutV xs lo hi)))
theorem sl_list : SlR X (rSlL X.K) := by
  intro pins s σ H x v vl vu lo hi sl Q I rx hs pl pu h
  obtain ⟨a, xs, rfl, hx, q⟩ := h
  cases rx
  obtain ⟨its, r, ht, hz⟩ := I.list hx
  have hlen := r.length
  refine ⟨"list", _, slot_list_getitem.lookup, ht.isList.typeIs, ?_⟩
  refine wpAny_getItem_list_slice ht.isList hs pl pu .none (by simp) ?_ (by rw [List.size_toArray] <;> omega)
  rw [slicePick_cut, ← hlen]
  refine ⟨.ref s.heap.objs.size, _, I.laid (t' := s.toks) (o := .lst (cutV xs lo hi)) (fun b ob q => Heap.get?_push_of_some _ q) (Nat.le_refl _) ?_, rfl, q _ (I.hok.fresh (Nat.le_refl _))⟩
  exact ⟨Nat.le_trans (cutV_length xs lo hi) hz, _, 0, (r.drop (HT.sIx xs.length 0 lo)).take (HT.sIx xs.length xs.length hi - HT.sIx xs.length 0 lo), Heap.get?_push_size _ rfl⟩

/-! ### in, not in: flat items -/
def flatV : V → Bool
  | .non => true
  | .bl _ => true
  | .int _ => true
  | .str _ => true
  | _ => false
/-- == of flat values -/
def eqV : V → V → Bool
  | .non, .non => true
  | .bl a, .bl b => a == b
  | .bl a, .int b => (if a then 1 else 0) == b
  | .int a, .bl b => a == (if b then 1 else 0)
  | .int a, .int b => a == b
  | .str a, .str b => a == b
  | _, _ => false
theorem eqAt_V {A : Around} {s : Shared} {y x : V} {u v : Value} (ry : RelV y u) (rx : RelV x v) (fy : flatV y = true) (fx : flatV x = true) : SeqAt.EqAt A s u v (eqV y x) := by
  cases y with
  | non =>
    cases ry
    cases x with
    | non => cases rx; exact SeqAt.EqAt.same _
    | bl b => cases rx; exact SeqAt.EqAt.none_bool b
    | int b => obtain ⟨t, rfl⟩ := rx; exact SeqAt.EqAt.none_int b t
    | str b => obtain ⟨t, rfl⟩ := rx; exact SeqAt.EqAt.none_str b t
    | _ => exact absurd (show false = true from fx) Bool.false_ne_true
  | bl a =>
    cases ry
    cases x with
    | non => cases rx; exact SeqAt.EqAt.bool_none a
    | bl b => cases rx; exact SeqAt.EqAt.bool_bool a b
    | int b => obtain ⟨t, rfl⟩ := rx; exact SeqAt.EqAt.bool_int a b t
    | str b => obtain ⟨t, rfl⟩ := rx; exact SeqAt.EqAt.bool_str a b t
    | _ => exact absurd (show false = true from fx) Bool.false_ne_true
  | int a =>
    obtain ⟨t', rfl⟩ := ry
    cases x with
    | non => cases rx; exact SeqAt.EqAt.int_none a t'
    | bl b => cases rx; exact SeqAt.EqAt.int_bool a t' b
    | int b => obtain ⟨t, rfl⟩ := rx; exact SeqAt.EqAt.int_int a t' b t
    | str b => obtain ⟨t, rfl⟩ := rx; exact SeqAt.EqAt.int_str a t' b t
    | _ => exact absurd (show false = true from fx) Bool.false_ne_true
  | str a =>
    obtain ⟨t', rfl⟩ := ry
    cases x with
    | non => cases rx; exact SeqAt.EqAt.str_none a t'
    | bl b => cases rx; exact SeqAt.EqAt.str_bool a t' b
    | int b => obtain ⟨t, rfl⟩ := rx; exact SeqAt.EqAt.str_int a t' b t
    | str b => obtain ⟨t, rfl⟩ := rx; exact SeqAt.EqAt.str_str a t' b t
    | _ => exact absurd (show false = true from fx) Bool.false_ne_true
  | _ => exact absurd (show false = true from fy) Bool.false_ne_true
/-- the items' answers, read off the values (a value's own answer does not lean on its token) -/
def eqU (x : V) (u : Value) : Bool := match u with
  | .none => eqV .non x
  | .bool b => eqV (.bl b) x
  | .int i _ => eqV (.int i) x
  | .str z _ => eqV (.str z) x
  | _ => false
theorem eqU_of {x y : V} {u : Value} (r : RelV y u) (f : flatV y = true) : eqU x u = eqV y x := by
  cases y with
  | non => cases r; rfl
  | bl b => cases r; rfl
  | int i => obtain ⟨t, rfl⟩ := r; rfl
  | str z => obtain ⟨t, rfl⟩ := r; rfl
  | _ => exact absurd (show false = true from f) Bool.false_ne_true
theorem any_eqU {x : V} : ∀ {xs : List V} {us : List Value}, Vals xs us → xs.all flatV = true → us.any (eqU x) = xs.any fun y => eqV y x
  | _, _, .nil, _ => rfl
  | y :: xs, u :: us, .cons r t, f => by
    rw [List.all_cons, Bool.and_eq_true] at f
    rw [List.any_cons, List.any_cons, eqU_of r f.1, any_eqU t f.2]
theorem mem_eqAt {A : Around} {s : Shared} {x : V} {v : Value} (rx : RelV x v) (fx : flatV x = true) : ∀ {xs : List V} {us : List Value}, Vals xs us → xs.all flatV = true → ∀ u ∈ us, SeqAt.EqAt A s u v (eqU x u)
  | _, _, .nil, _ => fun u hu => by cases hu
  | y :: xs, u :: us, .cons r t, f => fun u' hu => by
    rw [List.all_cons, Bool.and_eq_true] at f
    rcases List.mem_cons.mp hu with rfl | hu
    · rw [eqU_of r f.1]; exact eqAt_V r rx f.1 fx
    · exact mem_eqAt rx fx t f.2 u' hu
def inV (x : V) (xs : List V) : Bool := xs.any fun y => eqV y x
/-- x in a list or tuple of flat items -/
def rIn (K : PySem.W.Frag) (neg : Bool) : R2 := fun x y H Q => ∃ p xs, y = .ref p ∧ (SqL K H p xs ∨ SqT K H p xs) ∧ flatV x = true ∧ xs.all flatV = true ∧ Q (.bl (if neg then !inV x xs else inV x xs)) H
theorem op_in_seq : OpR X (compareOp .In) (rIn X.K false) := by
  intro pins s σ H x y v u Q I rx ry h
  obtain ⟨p, xs, rfl, hq, fx, fs, q⟩ := h
  cases ry
  rcases hq with hq | hq
  · obtain ⟨its, r, pl, hz⟩ := I.list hq
    refine SeqAt.in_listAt (eqU x) pl.isList (fun w hw => mem_eqAt rx fx r fs w (by simpa using hw)) ⟨.bl _, H, I, rfl, ?_⟩
    rw [show its.toArray.any (eqU x) = its.any (eqU x) by simp, any_eqU r fs]
    exact q
  · obtain ⟨its, r, pl, hz⟩ := I.tuple hq
    refine SeqAt.in_tupleAt (eqU x) pl (fun w hw => mem_eqAt rx fx r fs w (by simpa using hw)) ⟨.bl _, H, I, rfl, ?_⟩
    rw [show its.toArray.any (eqU x) = its.any (eqU x) by simp, any_eqU r fs]
    exact q
theorem op_notIn_seq : OpR X (compareOp .NotIn) (rIn X.K true) := by
  intro pins s σ H x y v u Q I rx ry h
  obtain ⟨p, xs, rfl, hq, fx, fs, q⟩ := h
  cases ry
  rcases hq with hq | hq
  · obtain ⟨its, r, pl, hz⟩ := I.list hq
    refine SeqAt.notIn_listAt (eqU x) pl.isList (fun w hw => mem_eqAt rx fx r fs w (by simpa using hw)) ⟨.bl _, H, I, rfl, ?_⟩
    rw [show its.toArray.any (eqU x) = its.any (eqU x) by simp, any_eqU r fs]
    exact q
  · obtain ⟨its, r, pl, hz⟩ := I.tuple hq
    refine SeqAt.notIn_tupleAt (eqU x) pl (fun w hw => mem_eqAt rx fx r fs w (by simpa using hw)) ⟨.bl _, H, I, rfl, ?_⟩
    rw [show its.toArray.any (eqU x) = its.any (eqU x) by simp, any_eqU r fs]
    exact q
theorem op_notIn_str : OpR X (compareOp .NotIn) (fun x y H Q => ∃ i j, x = .str i ∧ y = .str j ∧ Q (.bl (!(!(Builtin.Str.occurrences j i 0 j.length 1).isEmpty))) H) := by
  intro pins s σ H x y v u Q I rx ry h
  obtain ⟨i, j, rfl, rfl, q⟩ := h
  obtain ⟨t, rfl⟩ := rx
  obtain ⟨t', rfl⟩ := ry
  exact notIn_str ⟨.bl _, H, I, rfl, q⟩

/-! ### len, list(x), tuple(x) of any list or tuple that is read -/
theorem call_len_seq : CallR X (.builtin "len") (fun xs H Q => ∃ p ys, xs = [.ref p] ∧ (SqL X.K H p ys ∨ SqT X.K H p ys) ∧ Q (.int ys.length) H) := by
  intro pins s σ H xs us Q I r h
  obtain ⟨p, ys, rfl, hq, q⟩ := h
  obtain ⟨u, rfl, rx⟩ := vals1 r
  cases rx
  have hn := line63
  rcases hq with hq | hq
  · obtain ⟨its, r', pl, hz⟩ := I.list hq
    have hlen := r'.length
    exact Calls.call_len_list pl.isList (by simp only [List.size_toArray] <;> omega) ⟨.int ys.length, H, I.tok _, ⟨s.toks + 1, by rw [List.size_toArray, hlen]⟩, q⟩
  · obtain ⟨its, r', pl, hz⟩ := I.tuple hq
    have hlen := r'.length
    exact len_tuple pl (by simp only [List.size_toArray] <;> omega) ⟨.int ys.length, H, I.tok _, ⟨s.toks + 1, by rw [List.size_toArray, hlen]⟩, q⟩
theorem call_len_str : CallR X (.builtin "len") (fun xs H Q => ∃ z, xs = [.str z] ∧ z.length ≤ sizeLine ∧ Q (.int z.length) H) := by
  intro pins s σ H xs us Q I r h
  obtain ⟨z, rfl, hz, q⟩ := h
  obtain ⟨u, rfl, t, rfl⟩ := vals1 r
  have hn := line63
  exact len_str (by omega) ⟨.int z.length, H, I.tok _, ⟨_, rfl⟩, q⟩
theorem CallR.or {f : Value} {r r' : List V → Hp → VK → Prop} (h : CallR X f r) (h' : CallR X f r') : CallR X f (fun xs H Q => r xs H Q ∨ r' xs H Q) := by
  intro pins s σ H xs us Q I rs q
  rcases q with q | q
  · exact h pins s σ H xs us Q I rs q
  · exact h' pins s σ H xs us Q I rs q
theorem call_list_of : CallR X (.type "list") (fun xs H Q => ∃ p ys, xs = [.ref p] ∧ (SqL X.K H p ys ∨ SqT X.K H p ys) ∧ ∀ l, H l = none → Q (.ref l) (upd H l (.lst ys))) := by
  intro pins s σ H xs us Q I r h
  obtain ⟨p, ys, rfl, hq, q⟩ := h
  obtain ⟨u, rfl, rx⟩ := vals1 r
  cases rx
  have fin : ∀ (its : List Value), Vals ys its → ys.length ≤ sizeLine → ∀ (h' : Heap) (c' : Nat), (∀ b o', s.heap.get? b = some o' → h'.get? b = some o') →
      h'.get? s.heap.objs.size = some { cls := .type "list", dict := none, data := .seq its.toArray c', slots := #[] } → EP X pins σ Q (.ref s.heap.objs.size) { s with heap := h' } := fun its r' hz h' c' kp e =>
    ⟨.ref s.heap.objs.size, _, I.laid (t' := s.toks) kp (Nat.le_refl _) (show ObjOk X.prog X.w _ h' _ (.lst ys) from ⟨hz, its, c', r', e⟩), rfl, q _ (I.hok.fresh (Nat.le_refl _))⟩
  rcases hq with hq | hq
  · obtain ⟨its, r', pl, hz⟩ := I.list hq
    have hlen := r'.length
    obtain ⟨o, ho, hc, n, hd⟩ := pl.isList
    exact call_list_seq p (.inl rfl) ho hc hd (fun h' c' kp e => fin its r' hz h' c' kp e) (by simp only [List.size_toArray] <;> omega)
  · obtain ⟨its, r', pl, hz⟩ := I.tuple hq
    have hlen := r'.length
    obtain ⟨o, ho, hc, n, hd⟩ := pl
    exact call_list_seq p (.inr rfl) ho hc hd (fun h' c' kp e => fin its r' hz h' c' kp e) (by simp only [List.size_toArray] <;> omega)
theorem call_tuple_of : CallR X (.type "tuple") (fun xs H Q => ∃ p ys, xs = [.ref p] ∧ ((SqL X.K H p ys ∧ ∀ l, H l = none → Q (.ref l) (upd H l (.tup ys))) ∨ (SqT X.K H p ys ∧ Q (.ref p) H))) := by
  intro pins s σ H xs us Q I r h
  obtain ⟨p, ys, rfl, h⟩ := h
  obtain ⟨u, rfl, rx⟩ := vals1 r
  cases rx
  rcases h with ⟨hq, q⟩ | ⟨hq, q⟩
  · obtain ⟨its, r', pl, hz⟩ := I.list hq
    have hlen := r'.length
    refine call_tuple_list pl.isList (fun h' kp => ?_) (by simp only [List.size_toArray] <;> omega)
    have I1 : Inv X pins σ H { s with heap := h' } := I.kept (t' := s.toks) kp
    have I2 : Inv X pins σ (upd H h'.objs.size (.tup ys)) { s with heap := h'.push { cls := .type "tuple", data := .seq its.toArray } } :=
      I1.laid (t' := s.toks) (fun b o e => Heap.get?_push_of_some _ e) (Nat.le_refl _) (show ObjOk X.prog X.w _ _ _ (.tup ys) from ⟨hz, its, r', IsTup.new _ _⟩)
    exact ⟨.ref h'.objs.size, _, I2, rfl, q _ (I1.hok.fresh (Nat.le_refl _))⟩
  · obtain ⟨its, r', pl, hz⟩ := I.tuple hq
    exact call_tuple_same pl ⟨.ref p, H, I, rfl, q⟩

/-! ### the call of a builtin's method: o.m(..) -/
/-- the value is of that builtin type -/
def tyV (K : PySem.W.Frag) (T : String) (x : V) (H : Hp) : Prop := match x with
  | .str _ => T = "str"
  | .int _ => T = "int"
  | .ref p => (T = "list" ∧ ∃ xs, SqL K H p xs) ∨ (T = "tuple" ∧ ∃ o, K.lookup p = some o ∧ o.cls = .type "tuple" ∧ o.dict = none) ∨
      (T = "dict" ∧ ((∃ kvs, H p = some (.dK kvs)) ∨ ∃ kvs, H p = some (.dT kvs))) ∨ (T = "set" ∧ ∃ S n, H p = some (.set S n))
  | _ => False
theorem tyV_is {pins : List (Addr × Obj)} {σ : St} {H : Hp} {s : Shared} {T : String} {x : V} {v : Value} (I : Inv X pins σ H s) (r : RelV x v) (ty : tyV X.K T x H) :
    s.TypeIs v T ∧ ∀ a, v = .ref a → ∃ ob, s.heap.get? a = some ob ∧ ob.dict = none := by
  cases x with
  | str z =>
    obtain ⟨t, rfl⟩ := r
    cases (show T = "str" from ty)
    exact ⟨typeIs_str s z t, fun _ e => nomatch e⟩
  | int i =>
    obtain ⟨t, rfl⟩ := r
    cases (show T = "int" from ty)
    exact ⟨typeIs_int s i t, fun _ e => nomatch e⟩
  | ref p =>
    cases r
    rcases ty with ⟨rfl, xs, hq⟩ | ⟨rfl, o, hk, hc, hd⟩ | ⟨rfl, hk⟩ | ⟨rfl, S, n, hk⟩
    · obtain ⟨its, _, pl, _⟩ := I.list hq
      refine ⟨pl.isList.typeIs, fun a e => ?_⟩
      cases e
      obtain ⟨o, n, e, c, hd, _⟩ := pl
      exact ⟨o, e, hd⟩
    · refine ⟨⟨o, I.kIn p o hk, hc⟩, fun a e => ?_⟩
      cases e
      exact ⟨o, I.kIn _ o hk, hd⟩
    · have z : ∃ o, s.heap.get? p = some o ∧ o.ExactDict := by
        rcases hk with ⟨kvs, hk⟩ | ⟨kvs, hk⟩
        · obtain ⟨_, _, _, _, o, _, _, e, ex, _⟩ := I.hok p _ hk
          exact ⟨o, e, ex⟩
        · obtain ⟨_, _, _, _, o, _, _, e, ex, _⟩ := I.hok p _ hk
          exact ⟨o, e, ex⟩
      obtain ⟨o, e, ex⟩ := z
      refine ⟨⟨o, e, ex.1⟩, fun a e2 => ?_⟩
      cases e2
      exact ⟨o, e, ex.2.1⟩
    · obtain ⟨o, _, _, _, e, ex, _⟩ := I.hok p _ hk
      refine ⟨⟨o, e, ex.1⟩, fun a e2 => ?_⟩
      cases e2
      exact ⟨o, e, ex.2.1⟩
  | _ => exact False.elim ty
def tBM0 (K : PySem.W.Frag) (T : String) (r : V → List V → Hp → VK → Prop) (to : TE) : TE := fun σ H Q => to σ H fun x H1 => tyV K T x H1 ∧ r x [] H1 Q
def tBM (K : PySem.W.Frag) (T : String) (r : V → List V → Hp → VK → Prop) (to : TE) (t : TA) : TE := fun σ H Q => to σ H fun x H1 => tyV K T x H1 ∧ t σ H1 fun xs H2 => r x xs H2 Q
variable {o e : Expr} {es : List Expr} {to : TE} {t : TA} {name : Str} {apos cpos : Pos} {T id : String} {r : V → List V → Hp → VK → Prop}
theorem pe_bm0 (pa : PlainAttrs T) (slot : Slot T name id) (hty : typeOf (.builtin id) = pure (.type "method_descriptor")) (hm : MtR X id r) (ho : PE X o to)
    (hbase : attributeBase o name X.env (eval o X.env) = eval o X.env := by rfl) (hline : (apos.endLine == cpos.line) = true := by rfl) : PE X (.Call (.Attribute o name apos) [] [] cpos) (tBM0 X.K T r to) := by
  intro pins s σ H Q I h
  refine wpAny_Call_method0_late hbase hline (thn (ho pins s σ H _ I h) fun v s1 ⟨x, H1, I1, r1, ty, q1⟩ => ?_)
  obtain ⟨h1, h2⟩ := tyV_is I1 r1 ty
  exact ⟨T, id, pa, slot, hty, h1, h2, Calls.callWith_builtin rfl (PySem.evalArgs_none (hm pins s1 σ H1 x [] v [] Q I1 r1 .nil q1))⟩
theorem pe_bm (pa : PlainAttrs T) (slot : Slot T name id) (hty : typeOf (.builtin id) = pure (.type "method_descriptor")) (hm : MtR X id r) (ho : PE X o to) (ha : PA X (e :: es) t)
    (hbase : attributeBase o name X.env (eval o X.env) = eval o X.env := by rfl)
    (hfew : ((backTo cpos (starEach (e :: es) X.env)).all (fun x => !x.1) && (backToKw cpos (keywordEach [] X.env)).all (fun x => x.1.isSome)
      && decide ((e :: es).length + ([] : List Keyword).length + (if ([] : List Keyword).isEmpty then 0 else 1) < 30)) = true := by rfl)
    (hline : (apos.endLine == cpos.line) = true := by rfl) (hs : starEach (e :: es) X.env = (false, eval e X.env) :: starEach es X.env := by rfl) (hplain : (backTo cpos (starEach es X.env)).any (·.1) = false := by rfl) :
    PE X (.Call (.Attribute o name apos) (e :: es) [] cpos) (tBM X.K T r to t) := by
  intro pins s σ H Q I h
  refine wpAny_Call_method_late hbase hfew hline rfl (thn (ho pins s σ H _ I h) fun v s1 ⟨x, H1, I1, r1, ty, q1⟩ => ?_)
  obtain ⟨h1, h2⟩ := tyV_is I1 r1 ty
  refine ⟨T, id, pa, slot, hty, h1, h2, ?_⟩
  have hA := ha cpos pins s1 σ H1 _ I1 q1
  rw [hs] at hA ⊢
  refine Calls.callWith_builtin (by show (false || (backTo cpos (starEach es X.env)).any (·.1)) = false; rw [hplain] <;> rfl) (Calls.evalArgs_plain ?_)
  exact thn hA fun us s2 ⟨vs, H2, I2, r2, q2⟩ => hm pins s2 σ H2 x vs v us Q I2 r1 r2 q2
/- xs.append(e), list.index on a module's tuple .. are MtR facts of 06m -/
end
end L2

namespace L2
open PySem PySem.Spec PyProof.Rows

def MtM (X : Cx) (id : String) (r : V → List V → Hp → VK → Prop) : Prop :=
  ∀ (pins : List (Addr × Obj)) (s : Shared) (σ : St) (H : Hp) (x : V) (xs : List V) (v : Value) (us : List Value) (Q : VK), Inv X pins σ H s → RelV x v → Vals xs us → r x xs H Q →
    wpAny (model X.prog X.w) X.A (call (.builtin id) (v :: us)) (EP X pins σ Q) X.xe s

/-! ### lists of values -/
theorem Vals.one : ∀ {x : V} {us : List Value}, Vals [x] us → ∃ u, us = [u] ∧ RelV x u
  | _, _, .cons r .nil => ⟨_, rfl, r⟩
theorem Vals.two : ∀ {x y : V} {us : List Value}, Vals [x, y] us → ∃ u v, us = [u, v] ∧ RelV x u ∧ RelV y v
  | _, _, _, .cons r (.cons q .nil) => ⟨_, _, rfl, r, q⟩
theorem Vals.zero : ∀ {us : List Value}, Vals [] us → us = []
  | _, .nil => rfl
theorem Vals.dropLast {xs : List V} {us : List Value} (h : Vals xs us) : Vals xs.dropLast us.dropLast := by
  induction h with
  | nil => exact .nil
  | cons r t ih =>
    cases t with
    | nil => exact .nil
    | cons q t' => exact .cons r ih
theorem Vals.eraseIdx : ∀ {xs : List V} {us : List Value} (i : Nat), Vals xs us → Vals (xs.eraseIdx i) (us.eraseIdx i)
  | _, _, _, .nil => .nil
  | _, _, 0, .cons _ t => t
  | _, _, i + 1, .cons r t => .cons r (Vals.eraseIdx i t)
theorem Vals.reverse {xs : List V} {us : List Value} (h : Vals xs us) : Vals xs.reverse us.reverse := by
  induction h with
  | nil => exact .nil
  | cons r t ih => rw [List.reverse_cons, List.reverse_cons]; exact Vals.append ih (.cons r .nil)
theorem Vals.rep {xs : List V} {us : List Value} (h : Vals xs us) : ∀ k : Nat, Vals (List.replicate k xs).flatten (List.replicate k us).flatten
  | 0 => .nil
  | k + 1 => by
    rw [List.replicate_succ, List.replicate_succ, List.flatten_cons, List.flatten_cons]
    exact Vals.append h (Vals.rep h k)
theorem erase_last {α : Type} (l : List α) : l.eraseIdx (l.length - 1) = l.dropLast := by
  induction l with
  | nil => rfl
  | cons a r ih =>
    cases r with
    | nil => rfl
    | cons b r =>
      have e : (a :: b :: r).length - 1 = ((b :: r).length - 1) + 1 := by
        have h1 : (a :: b :: r).length = r.length + 2 := rfl
        have h2 : (b :: r).length = r.length + 1 := rfl
        omega
      rw [e, List.eraseIdx_cons_succ, ih]
      all_goals rfl
theorem len_erase {α : Type} : ∀ (l : List α) (i : Nat), (l.eraseIdx i).length ≤ l.length
  | [], _ => Nat.le_refl _
  | _ :: _, 0 => Nat.le_succ _
  | _ :: r, i + 1 => Nat.succ_le_succ (len_erase r i)
theorem foldl_rep (its : List Value) : ∀ (k : Nat) (acc : List Value),
    List.foldl (fun x1 x2 => x1 ++ x2) acc.toArray (List.replicate k its.toArray) = (acc ++ (List.replicate k its).flatten).toArray
  | 0, acc => by simp
  | k + 1, acc => by
    have e : acc.toArray ++ its.toArray = (acc ++ its).toArray := by simp
    have e2 : (acc ++ its) ++ (List.replicate k its).flatten = acc ++ (List.replicate (k + 1) its).flatten := by
      rw [List.replicate_succ, List.flatten_cons, List.append_assoc]
    rw [← e2, ← foldl_rep its k (acc ++ its), ← e, List.replicate_succ, List.foldl_cons]

section
variable {X : Cx} {pins : List (Addr × Obj)} {σ : St} {H : Hp} {s : Shared} {l b : Addr} {xs ys zs : List V}

/-! ### the two steps: a tracked list is rewritten, a new list is laid -/
theorem Inv.lset {its its' : List Value} {n : Nat} {f : Array Value → Array Value} {t' : Nat} (I : Inv X pins σ H s) (hH : H l = some (.lst xs))
    (e : s.heap.get? l = some { cls := .type "list", data := .seq its.toArray n }) (hf : f its.toArray = its'.toArray) (hv : Vals ys its') (hz : ys.length ≤ sizeLine) :
    Inv X pins σ (upd H l (.lst ys)) { s with heap := s.heap.update l (Obj.mapSeq f), toks := t' } := by
  have q := PySem.IsL.update e f
  rw [hf] at q
  refine I.write (x := l) (e := l) (by rw [hH]; exact trivial) (.inl rfl) (fun b' u hb hu => (Heap.get?_update_other s.heap (Obj.mapSeq f) (Ne.symm hb)).trans hu) ⟨_, q⟩ ?_
  exact ⟨hz, its', _, hv, q⟩
theorem Inv.lnew {its : List Value} {t' : Nat} (I : Inv X pins σ H s) (hv : Vals ys its) (hz : ys.length ≤ sizeLine) :
    Inv X pins σ (upd H s.heap.objs.size (.lst ys)) { s with heap := s.heap.push { cls := .type "list", data := .seq its.toArray }, toks := t' } :=
  I.laid (fun _ _ q => Heap.get?_push_of_some _ q) (Nat.le_refl _) ⟨hz, its, 0, hv, Heap.get?_push_size _ rfl⟩
theorem Inv.fresh (I : Inv X pins σ H s) : H s.heap.objs.size = none := I.hok.fresh (Nat.le_refl _)
theorem Inv.lstM (I : Inv X pins σ H s) (hH : H l = some (.lst xs)) : xs.length ≤ sizeLine ∧ ∃ (its : List Value) (n : Nat), Vals xs its ∧ xs.length = its.length ∧ s.heap.get? l = some { cls := .type "list", data := .seq its.toArray n } := by
  obtain ⟨z, its, n, r, e⟩ := I.hok l _ hH
  exact ⟨z, its, n, r, r.length, e⟩

theorem notLongL {n : Nat} (h : n ≤ sizeLine) : Builtin.List.listTooLong n = false := by
  unfold Builtin.List.listTooLong
  exact decide_eq_false (by omega)
end

section
variable {X : Cx}

/-! ### methods -/
def rAppend : V → List V → Hp → VK → Prop := fun x vs H Q => ∃ l xs y, x = .ref l ∧ vs = [y] ∧ H l = some (.lst xs) ∧ xs.length < sizeLine ∧ Q .non (upd H l (.lst (xs ++ [y])))
theorem mt_append : MtM X "list.append" rAppend := by
  intro pins s σ H x vs v us Q I rx rv h
  obtain ⟨l, xs, y, rfl, rfl, hH, hz, q⟩ := h
  cases rx
  obtain ⟨u, rfl, ru⟩ := rv.one
  obtain ⟨z, its, n, r, hl, e⟩ := I.lstM hH
  refine call_meets F.slot_list_append ⟨_, e, rfl⟩ F.entry_list_append (F.args_list_append_2 _ _) (PySem.list_append l its.toArray n u (by rw [List.size_toArray]; omega)) ⟨e, ?_⟩
  refine ⟨.non, _, I.lset (its' := its ++ [u]) hH e (by simp) (r.append (.cons ru .nil)) ?_, rfl, q⟩
  rw [List.length_append, List.length_singleton]
  omega

def rExtend : V → List V → Hp → VK → Prop := fun x vs H Q => ∃ l b xs zs, x = .ref l ∧ vs = [.ref b] ∧ H l = some (.lst xs) ∧ H b = some (.lst zs) ∧ xs.length + zs.length ≤ sizeLine ∧ Q .non (upd H l (.lst (xs ++ zs)))
theorem mt_extend : MtM X "list.extend" rExtend := by
  intro pins s σ H x vs v us Q I rx rv h
  obtain ⟨l, b, xs, zs, rfl, rfl, hH, hB, hz, q⟩ := h
  cases rx
  obtain ⟨u, rfl, ru⟩ := rv.one
  cases ru
  obtain ⟨z, its, n, r, hl, e⟩ := I.lstM hH
  obtain ⟨z2, its2, n2, r2, hl2, e2⟩ := I.lstM hB
  have hsz : its.toArray.size + its2.toArray.size ≤ sizeLine := by rw [List.size_toArray, List.size_toArray]; omega
  have hlong : ¬ (!its.toArray.isEmpty && Builtin.List.listTooLong (its.toArray.size + its2.toArray.size)) = true := by
    rw [notLongL hsz, Bool.and_false]
    exact Bool.false_ne_true
  refine call_meets F.slot_list_extend ⟨_, e, rfl⟩ F.entry_list_extend (F.args_list_extend_2 _ _)
    (AutoSeq1.list_extend_list_list_0 l its.toArray n b its2.toArray n2 hlong (by rw [List.size_toArray]; omega) (by omega)) ⟨e, e2, ?_⟩
  refine ⟨.non, _, I.lset (its' := its ++ its2) hH e (by simp) (r.append r2) ?_, rfl, q⟩
  rw [List.length_append]
  omega

def rPop : V → List V → Hp → VK → Prop := fun x vs H Q => ∃ l xs y, x = .ref l ∧ vs = [] ∧ H l = some (.lst xs) ∧ xs[xs.length - 1]? = some y ∧ Q y (upd H l (.lst xs.dropLast))
theorem mt_pop : MtM X "list.pop" rPop := by
  intro pins s σ H x vs v us Q I rx rv h
  obtain ⟨l, xs, y, rfl, rfl, hH, hy, q⟩ := h
  cases rx
  have hus := rv.zero
  subst hus
  obtain ⟨z, its, n, r, hl, e⟩ := I.lstM hH
  obtain ⟨u, hu, ru⟩ := r.get hy
  have hy' : its.toArray[its.toArray.size - 1]? = some u := by
    show its.toArray[its.length - 1]? = some u
    rw [← Array.getElem?_toList, ← hl]
    exact hu
  refine call_meets F.slot_list_pop ⟨_, e, rfl⟩ F.entry_list_pop (F.args_list_pop_1 _) (MeetsSeq.list_pop_last l its.toArray n u hy' (by rw [List.size_toArray]; omega)) ⟨e, ?_⟩
  refine ⟨y, _, I.lset (its' := its.dropLast) hH e ?_ r.dropLast ?_, ru, q⟩
  · show its.toArray.eraseIdxIfInBounds (its.toArray.size - 1) = its.dropLast.toArray
    rw [List.size_toArray, List.eraseIdxIfInBounds_toArray, erase_last]
  · rw [List.length_dropLast]
    omega

def rPopAt : V → List V → Hp → VK → Prop := fun x vs H Q => ∃ l xs i k y, x = .ref l ∧ vs = [.int i] ∧ H l = some (.lst xs) ∧ -(2 ^ 63) ≤ i ∧ i < 2 ^ 63 ∧ seqIndex? i xs.length = some k ∧ xs[k]? = some y ∧ Q y (upd H l (.lst (xs.eraseIdx k)))
theorem mt_popAt : MtM X "list.pop" rPopAt := by
  intro pins s σ H x vs v us Q I rx rv h
  obtain ⟨l, xs, i, k, y, rfl, rfl, hH, h1, h2, hk, hy, q⟩ := h
  cases rx
  obtain ⟨u, rfl, ru⟩ := rv.one
  obtain ⟨t, rfl⟩ := ru
  obtain ⟨z, its, n, r, hl, e⟩ := I.lstM hH
  obtain ⟨w, hw, rw'⟩ := r.get hy
  refine call_meets F.slot_list_pop ⟨_, e, rfl⟩ F.entry_list_pop (F.args_list_pop_2 _ _)
    (MeetsSeq.list_pop_at l its.toArray n i t k w (fitsIndex_both h1 h2) (by rw [List.size_toArray, ← hl]; exact hk) (by rw [← Array.getElem?_toList]; exact hw) (by rw [List.size_toArray]; omega)) ⟨e, ?_⟩
  refine ⟨y, _, I.lset (its' := its.eraseIdx k) hH e ?_ (r.eraseIdx k) ?_, rw', q⟩
  · show its.toArray.eraseIdxIfInBounds k = (its.eraseIdx k).toArray
    rw [List.eraseIdxIfInBounds_toArray]
  · have := len_erase xs k
    omega

def rReverse : V → List V → Hp → VK → Prop := fun x vs H Q => ∃ l xs, x = .ref l ∧ vs = [] ∧ H l = some (.lst xs) ∧ Q .non (upd H l (.lst xs.reverse))
theorem mt_reverse : MtM X "list.reverse" rReverse := by
  intro pins s σ H x vs v us Q I rx rv h
  obtain ⟨l, xs, rfl, rfl, hH, q⟩ := h
  cases rx
  have hus := rv.zero
  subst hus
  obtain ⟨z, its, n, r, hl, e⟩ := I.lstM hH
  refine call_meets F.slot_list_reverse ⟨_, e, rfl⟩ F.entry_list_reverse (F.args_list_reverse_1 _) (AutoSeq1.list_reverse_list_0 l its.toArray n (by rw [List.size_toArray]; omega)) ⟨e, ?_⟩
  refine ⟨.non, _, I.lset (its' := its.reverse) hH e (by simp) r.reverse ?_, rfl, q⟩
  rw [List.length_reverse]
  omega

def rClear : V → List V → Hp → VK → Prop := fun x vs H Q => ∃ l xs, x = .ref l ∧ vs = [] ∧ H l = some (.lst xs) ∧ Q .non (upd H l (.lst []))
theorem mt_clear : MtM X "list.clear" rClear := by
  intro pins s σ H x vs v us Q I rx rv h
  obtain ⟨l, xs, rfl, rfl, hH, q⟩ := h
  cases rx
  have hus := rv.zero
  subst hus
  obtain ⟨z, its, n, r, hl, e⟩ := I.lstM hH
  refine call_meets F.slot_list_clear ⟨_, e, rfl⟩ F.entry_list_clear (F.args_list_clear_1 _) (AutoSeq1.list_clear_list_0 l its.toArray n (by rw [List.size_toArray]; omega)) ⟨e, ?_⟩
  exact ⟨.non, _, I.lset (its' := []) (ys := []) hH e rfl .nil (Nat.zero_le _), rfl, q⟩

/-! ### list + list, list += list, list * int -/
def rCat : R2 := fun x y H Q => ∃ l b xs zs, x = .ref l ∧ y = .ref b ∧ H l = some (.lst xs) ∧ H b = some (.lst zs) ∧ xs.length + zs.length ≤ sizeLine ∧ ∀ p, H p = none → Q (.ref p) (upd H p (.lst (xs ++ zs)))
theorem op_cat : OpR X (binaryOp .Add) rCat := by
  intro pins s σ H x y v u Q I rx ry h
  obtain ⟨l, b, xs, zs, rfl, rfl, hH, hB, hz, q⟩ := h
  cases rx
  cases ry
  obtain ⟨z, its, n, r, hl, e⟩ := I.lstM hH
  obtain ⟨z2, its2, n2, r2, hl2, e2⟩ := I.lstM hB
  refine PySem.P.add_list e e2 ?_ (by rw [List.size_toArray, List.size_toArray]; omega)
  have ea : its.toArray ++ its2.toArray = (its ++ its2).toArray := by simp
  rw [ea]
  exact ⟨.ref _, _, I.lnew (t' := s.toks) (r.append r2) (by rw [List.length_append]; omega), rfl, q _ I.fresh⟩
/-- a list times an int (a negative one is nothing) -/
def rRep : R2 := fun x y H Q => ∃ l k xs, x = .ref l ∧ y = .int k ∧ H l = some (.lst xs) ∧ -(2 ^ 63) ≤ k ∧ k < 2 ^ 63 ∧ xs.length * k.toNat ≤ sizeLine ∧
  ∀ p, H p = none → Q (.ref p) (upd H p (.lst (List.replicate k.toNat xs).flatten))
theorem len_rep {α : Type} (xs : List α) (k : Nat) : (List.replicate k xs).flatten.length = k * xs.length := by
  induction k with
  | zero => simp
  | succ k ih => rw [List.replicate_succ, List.flatten_cons, List.length_append, ih, Nat.succ_mul, Nat.add_comm]
theorem op_rep : OpR X (binaryOp .Mult) rRep := by
  intro pins s σ H x y v u Q I rx ry h
  obtain ⟨l, k, xs, rfl, rfl, hH, h1, h2, hz, q⟩ := h
  cases rx
  obtain ⟨t, rfl⟩ := ry
  obtain ⟨z, its, n, r, hl, e⟩ := I.lstM hH
  have hlen : its.toArray.size * k.toNat ≤ sizeLine := by rw [List.size_toArray, ← hl]; exact hz
  have hcap : ¬ its.toArray.size * k.toNat > (2 ^ 63 - 1) / 8 := by
    have : (sizeLine : Nat) ≤ (2 ^ 63 - 1) / 8 := by decide
    omega
  have hfit : ¬ (!Builtin.List.listFitsIndex k) = true := by
    rw [fitsIndex_both h1 h2]
    exact Bool.false_ne_true
  have hlong : ¬ Builtin.List.listTooLong (its.toArray.size * k.toNat) = true := by
    rw [notLongL hlen]
    exact Bool.false_ne_true
  have hnew : List.foldl (fun x1 x2 => x1 ++ x2) #[] (List.replicate (if its.toArray.isEmpty = true then 0 else k.toNat) its.toArray) = (List.replicate k.toNat its).flatten.toArray := by
    have f0 : ∀ m : Nat, List.foldl (fun x1 x2 => x1 ++ x2) #[] (List.replicate m its.toArray) = (List.replicate m its).flatten.toArray := fun m => by
      have := foldl_rep its m []
      rw [List.nil_append] at this
      exact this
    rw [f0]
    cases its with
    | nil => simp
    | cons a r' => rw [if_neg (by simp)]
  refine wpAny_binaryOp_repeat_ref (T := "list") (U := "int") (by decide) ⟨_, e, rfl⟩ (fun s' => typeIs_int s' k t) noFill_list_mul F.fills_int_mul F.slot_int_rmul repeat_list F.slot_int_index.lookup
    (call_meets F.slot_int_rmul (typeIs_int s k t) F.entry_int_rmul (F.args_int_rmul_2 _ _) (int___rmul___int_list k t l its.toArray n)
      ⟨e, rfl, ⟨_, e, rfl⟩, call_meets F.slot_list_mul ⟨_, e, rfl⟩ F.entry_list_mul (F.args_list_mul_2 _ _) (AutoListH.list___mul___list_int_3 l its.toArray n k t hfit hcap hlong) ⟨e, ?_⟩⟩)
  rw [hnew]
  exact ⟨.ref _, _, I.lnew (t' := s.toks) (r.rep k.toNat) (by rw [len_rep, Nat.mul_comm]; exact hz), rfl, q _ I.fresh⟩

/-! ### del xs[i] -/
theorem del_list {pins : List (Addr × Obj)} {s : Shared} {σ : St} {H : Hp} {l : Addr} {xs : List V} {i : Int} {t : Tok} {k : Nat} {Q : Unit → Shared → Prop} (I : Inv X pins σ H s) (hH : H l = some (.lst xs))
    (h1 : -(2 ^ 63) ≤ i) (h2 : i < 2 ^ 63) (hk : seqIndex? i xs.length = some k) (h : ∀ s', Inv X pins σ (upd H l (.lst (xs.eraseIdx k))) s' → Q () s') :
    wpAny (model X.prog X.w) X.A (delItem (.ref l) (.int i t)) Q X.xe s := by
  obtain ⟨z, its, n, r, hl, e⟩ := I.lstM hH
  refine PySem.P.delItem_list (k := k) e (fitsIndex_both h1 h2) (by rw [List.size_toArray, ← hl]; exact hk) (h _ ?_) (by rw [List.size_toArray]; omega)
  refine I.lset (its' := its.eraseIdx k) (t' := s.toks) hH e ?_ (r.eraseIdx k) ?_
  · show its.toArray.eraseIdxIfInBounds k = (its.eraseIdx k).toArray
    rw [List.eraseIdxIfInBounds_toArray]
  · have := len_erase xs k
    omega
end

/-! ### xs[a:b] = ys -/
section
variable {prog : Program} {w : World} {A : Around} {E : Value → Shared → Prop} {s : Shared}
theorem splice_eq (its its2 : List Value) (a c : Nat) : its.toArray.extract 0 a ++ its2.toArray ++ its.toArray.extract c its.toArray.size = (its.take a ++ its2 ++ its.drop c).toArray := by
  apply Array.toList_inj.mp
  first
    | (simp
       exact List.take_of_length_le (by simp))
    | simp [List.take_of_length_le]
    | simp
theorem bounds_run {a c n : Nat} (hac : a ≤ c) (hc : c ≤ n) : sliceBounds (some (a : Int)) (some (c : Int)) none n = ((a : Int), (c : Int), 1) := by
  simp only [sliceBounds, Option.getD_none]
  have h1 : ¬ ((a : Int) < 0) := by omega
  have h2 : ¬ ((c : Int) < 0) := by omega
  simp only [h1, h2, if_false, show (1 : Int) > 0 by decide, if_true]
  congr 1
  · omega
  · congr 1; omega
set_option maxRecDepth 100000 in
/-- list.__setitem__ with a slice of step one and another list -/
theorem setItem_slice {l b sl : Addr} {items new : Array Value} {n n2 : Nat} {vl vu : Value} {a c : Nat} {Q : Unit → Shared → Prop}
    (e : s.heap.get? l = some { cls := .type "list", data := .seq items n }) (e2 : s.heap.get? b = some { cls := .type "list", data := .seq new n2 }) (hne : l ≠ b)
    (hs : s.heap.IsSliceOf sl vl vu .none) (pl : IsPart vl (some (a : Int))) (pu : IsPart vu (some (c : Int))) (hac : a ≤ c) (hc : c ≤ items.size)
    (hsz : items.size + new.size ≤ sizeLine) (h : Q () { s with heap := s.heap.update l (Obj.mapSeq fun xs => xs.extract 0 a ++ new ++ xs.extract c xs.size) }) :
    wpAny (model prog w) A (setItem (.ref l) (.ref sl) (.ref b)) Q E s := by
  have hl : s.heap.IsList l items := PySem.IsL.isList e
  have hb : s.heap.IsList b new := PySem.IsL.isList e2
  obtain ⟨os, hos, hcs, hds⟩ := id hs
  have hTs : s.TypeIs (.ref sl) "slice" := ⟨os, hos, hcs⟩
  have hstep : ¬ ((rawPart none == rawInt 0) = true) := Bool.false_ne_true
  have hsame : Builtin.List.listSameRef (.ref l) (.ref b) = false := by
    unfold Builtin.List.listSameRef
    exact beq_eq_false_iff_ne.mpr hne
  have hmax : (max (a : Int) (c : Int)).toNat = c := by omega
  have hz' : ((fun xs : Array Value => xs.extract 0 a ++ new ++ xs.extract c xs.size) items).size ≤ sizeLine + 1 := by
    simp only [Array.size_append, Array.size_extract]
    omega
  unfold setItem
  try with_reducible refine wpAny_holding ?_
  first | refine wpAny_bind (wpAny_pure ?_) | skip
  refine wpAny_bind (wpAny_sequenceKey hl.typeIs (by decide) ?_)
  refine wpAny_bind (wpAny_callSpecial?_slot (name := Str.ofString "__setitem__") hl.typeIs slot_list_setitem
    (wpAny_call_entry slot_list_setitem hl.typeIs entry_list_setitem ?_ (args_list_setitem _ _ _)))
  show wpAny _ _ (Builtin.List.listSubscript? (.ref sl) >>= _) _ _ s
  refine wpAny_bind ?_
  unfold Builtin.List.listSubscript?
  refine wpAny_bind (wpAny_specialOf hTs slice_no_index ?_)
  simp only [Option.isNone_none, if_true]
  refine wpAny_pure ?_
  show wpAny _ _ (typeOf (.ref sl) >>= _) _ _ s
  refine wpAny_bind (wpAny_typeOf hTs ?_)
  first
    | rw [if_neg (by decide)]
    | refine PySem.W.KFB.if_not (by decide) ?_
  rw [listSliceParts_eq]
  refine wpAny_bind (wpAny_bind (wpAny_field hos hds (x := .none) rfl (wpAny_bind (wpAny_listPart .none ?_))))
  rw [if_neg hstep]
  refine wpAny_bind (wpAny_field hos hds (x := vl) rfl (wpAny_bind (wpAny_listPart pl ?_)))
  refine wpAny_bind (wpAny_field hos hds (x := vu) rfl (wpAny_bind (wpAny_listPart pu (wpAny_pure ?_))))
  first
    | simp only [hsame, Bool.false_eq_true, if_false]
    | refine PySem.W.KFB.if_not hsame ?_
    | (dsimp only
       rw [if_neg (by rw [hsame]; exact Bool.false_ne_true)])
  refine wpAny_bind (m := Builtin.List.listAllItems (.ref b) "must assign iterable to extended slice") ?_
  unfold Builtin.List.listAllItems
  refine wpAny_bind (wpAny_typeOf hb.typeIs ?_)
  first
    | refine PySem.W.KFB.if_so (by decide) ?_
    | rw [if_pos (by decide)]
    | simp only [beq_self_eq_true, Bool.true_or, if_true]
  unfold Builtin.List.listItems
  refine wpAny_bind (wpAny_seqItems e2 rfl (wpAny_pure ?_))
  refine wpAny_bind (wpAny_bind (wpAny_seqItems e rfl (wpAny_pure ?_)))
  refine wpAny_bind (wpAny_of_eq ((sliceIndices_raw (some (a : Int)) (some (c : Int)) none items.size (by simp)).trans (congrArg (pure : Int × Int × Int → Sem (Int × Int × Int)) (bounds_run hac hc))) ?_)
  show wpAny _ _ (if ((1 : Int) == 1) = true then _ else _) _ _ s
  rw [if_pos (by decide)]
  refine wpAny_bind (wpAny_rule ?_)
  first
    | simp only [notLongL hsz, Bool.false_eq_true, if_false]
    | refine PySem.W.KFB.if_not (notLongL hsz) ?_
  first | refine wpAny_bind (wpAny_pure ?_) | skip
  show wpAny _ _ (updateSeq l (fun xs => xs.extract 0 ((a : Int)).toNat ++ new ++ xs.extract (max (a : Int) (c : Int)).toNat xs.size) >>= _) _ _ s
  rw [hmax, Int.toNat_natCast]
  refine wpAny_bind (wpAny_updateSeq (hz := Nat.le_trans (Nat.le_add_right _ _) hsz) (_hz' := hz') e rfl ?_)
  refine wpAny_bind (wpAny_letGo ?_)
  first
    | exact wpAny_bind (wpAny_pure (wpAny_pure ⟨.none, rfl, wpAny_pure h⟩))
    | exact wpAny_pure ⟨.none, rfl, wpAny_pure h⟩
end

section
variable {X : Cx}
/-- xs[a:c] = ys of another list, at the value level: sl is the slice object that was just made -/
theorem set_slice {pins : List (Addr × Obj)} {s : Shared} {σ : St} {H : Hp} {l b sl : Addr} {xs ys : List V} {a c : Int} {vl vu : Value} {Q : Unit → Shared → Prop} (I : Inv X pins σ H s)
    (hH : H l = some (.lst xs)) (hB : H b = some (.lst ys)) (hne : l ≠ b) (hs : s.heap.IsSliceOf sl vl vu .none) (ra : RelV (.int a) vl) (rc : RelV (.int c) vu) (h0 : 0 ≤ a) (hac : a ≤ c) (hc : c ≤ xs.length)
    (hz : xs.length + ys.length ≤ sizeLine) (h : ∀ s', Inv X pins σ (upd H l (.lst (xs.take a.toNat ++ ys ++ xs.drop c.toNat))) s' → Q () s') :
    wpAny (model X.prog X.w) X.A (setItem (.ref l) (.ref sl) (.ref b)) Q X.xe s := by
  obtain ⟨ta, rfl⟩ := ra
  obtain ⟨tc, rfl⟩ := rc
  obtain ⟨z, its, n, r, hl, e⟩ := I.lstM hH
  obtain ⟨z2, its2, n2, r2, hl2, e2⟩ := I.lstM hB
  obtain ⟨a', rfl⟩ := Int.eq_ofNat_of_zero_le h0
  obtain ⟨c', rfl⟩ := Int.eq_ofNat_of_zero_le (Int.le_trans h0 hac)
  simp only [Int.toNat_natCast] at h
  refine setItem_slice (a := a') (c := c') e e2 hne hs (.int _ _) (.int _ _) (by omega) (by rw [List.size_toArray]; omega) (by rw [List.size_toArray, List.size_toArray]; omega) (h _ ?_)
  refine I.lset (its' := its.take a' ++ its2 ++ its.drop c') (t' := s.toks) hH e ?_ (Vals.append (Vals.append (r.take _) r2) (r.drop _)) ?_
  · exact splice_eq its its2 a' c'
  · rw [List.length_append, List.length_append, List.length_take, List.length_drop]
    omega
end
open PySem PySem.Spec PyProof.Rows

/-! ### lists of pairs as tables -/
section
variable {κ : Type} [DecidableEq κ]
def valV (kvs : List (κ × V)) (k : κ) : Option V := (kvs.find? fun kv => decide (kv.1 = k)).map (·.2)
/-- in its place, or at the end -/
def putK (kvs : List (κ × V)) (k : κ) (v : V) : List (κ × V) :=
  if (kvs.any fun kv => decide (kv.1 = k)) = true then kvs.map (fun kv => if kv.1 = k then (kv.1, v) else kv) else kvs ++ [(k, v)]
def dropK (kvs : List (κ × V)) (k : κ) : List (κ × V) := kvs.filter fun kv => decide (kv.1 ≠ k)

theorem valV_nil {k : κ} : valV ([] : List (κ × V)) k = none := rfl
theorem valV_pos {p : κ × V} {r : List (κ × V)} {k : κ} (e : p.1 = k) : valV (p :: r) k = some p.2 := by simp [valV, List.find?_cons, e]
theorem valV_neg {p : κ × V} {r : List (κ × V)} {k : κ} (e : ¬ p.1 = k) : valV (p :: r) k = valV r k := by simp [valV, List.find?_cons, e]
theorem valV_any (k : κ) : ∀ kvs : List (κ × V), (kvs.any fun kv => decide (kv.1 = k)) = (valV kvs k).isSome
  | [] => rfl
  | p :: r => by
    rw [List.any_cons]
    by_cases e : p.1 = k
    · simp only [valV_pos e, decide_eq_true e, Bool.true_or, Option.isSome_some]
    · rw [valV_neg e, decide_eq_false e, Bool.false_or]; exact valV_any k r
theorem valV_map (k j : κ) (y : V) : ∀ kvs : List (κ × V), valV (kvs.map fun kv => if kv.1 = k then (kv.1, y) else kv) j = (valV kvs j).map fun x => if j = k then y else x
  | [] => rfl
  | p :: r => by
    have ih := valV_map k j y r
    rw [List.map_cons]
    by_cases h : p.1 = k
    · rw [if_pos h]
      by_cases e : p.1 = j
      · rw [valV_pos (p := (p.1, y)) e, valV_pos e, Option.map_some, if_pos (e.symm.trans h)]
      · rw [valV_neg (p := (p.1, y)) e, valV_neg e, ih]
    · rw [if_neg h]
      by_cases e : p.1 = j
      · rw [valV_pos (p := p) e, valV_pos e, Option.map_some, if_neg (fun z => h (e.trans z))]
      · rw [valV_neg (p := p) e, valV_neg e, ih]
theorem valV_snoc (k j : κ) (y : V) : ∀ kvs : List (κ × V), valV kvs k = none → valV (kvs ++ [(k, y)]) j = if j = k then some y else valV kvs j
  | [], _ => by
    by_cases e : k = j
    · rw [if_pos e.symm]; exact valV_pos (p := (k, y)) e
    · rw [if_neg (fun z => e z.symm)]; exact valV_neg (p := (k, y)) e
  | p :: r, hn => by
    rw [List.cons_append]
    have hk : ¬ p.1 = k := fun z => by rw [valV_pos z] at hn; cases hn
    rw [valV_neg hk] at hn
    have ih := valV_snoc k j y r hn
    by_cases e : p.1 = j
    · rw [valV_pos e, valV_pos e, if_neg (fun z => hk (e.trans z))]
    · rw [valV_neg e, valV_neg e, ih]
theorem valV_put (kvs : List (κ × V)) (k j : κ) (y : V) : valV (putK kvs k y) j = if j = k then some y else valV kvs j := by
  unfold putK
  by_cases a : (kvs.any fun kv => decide (kv.1 = k)) = true
  · rw [if_pos a, valV_map]
    rw [valV_any] at a
    by_cases e : j = k
    · obtain ⟨x, hx⟩ := Option.isSome_iff_exists.mp a
      rw [if_pos e, e, hx, Option.map_some, if_pos rfl]
    · rw [if_neg e]
      cases valV kvs j with
      | none => rfl
      | some x => rw [Option.map_some, if_neg e]
  · rw [if_neg a]
    refine valV_snoc k j y kvs ?_
    rw [valV_any] at a
    cases q : valV kvs k with
    | none => rfl
    | some x => rw [q] at a; exact (a rfl).elim
theorem length_putK (kvs : List (κ × V)) (k : κ) (v : V) : (putK kvs k v).length ≤ kvs.length + 1 := by
  unfold putK
  split
  · rw [List.length_map]; omega
  · rw [List.length_append, List.length_cons, List.length_nil]; omega
theorem putK_new {kvs : List (κ × V)} {k : κ} (v : V) (h : valV kvs k = none) : putK kvs k v = kvs ++ [(k, v)] := by
  unfold putK
  rw [valV_any, h]
  exact if_neg (by decide)

theorem RelO.isSome_eq {o : Option V} {u : Option Value} (r : RelO o u) : o.isSome = u.isSome := by
  cases o with
  | none => cases u with
    | none => rfl
    | some _ => exact (show False from r).elim
  | some _ => cases u with
    | none => exact (show False from r).elim
    | some _ => rfl
theorem RelO.getD {o : Option V} {u : Option Value} {d : V} {d' : Value} (r : RelO o u) (rd : RelV d d') : RelV (o.getD d) (u.getD d') := by
  cases o with
  | none => cases u with
    | none => exact rd
    | some _ => exact (show False from r).elim
  | some _ => cases u with
    | none => exact (show False from r).elim
    | some _ => exact r

/-- raw tables of the same keys -/
theorem KV.val {kvs : List (κ × V)} {vs : List (κ × Value)} (r : KV kvs vs) (k : κ) : RelO (valV kvs k) (valueAt vs k) := by
  unfold KV at r
  induction r with
  | nil => exact True.intro
  | @cons p q ps qs h t ih =>
    obtain ⟨h1, h2⟩ := h
    by_cases e : p.1 = k
    · have e' : q.1 = k := h1.symm.trans e
      have b : valueAt (q :: qs) k = some q.2 := by simp [valueAt, List.find?_cons, e']
      rw [valV_pos e, b]; exact h2
    · have e' : ¬ q.1 = k := fun z => e (h1.trans z)
      have b : valueAt (q :: qs) k = valueAt qs k := by simp [valueAt, List.find?_cons, e']
      rw [valV_neg e, b]; exact ih
theorem KV.any {kvs : List (κ × V)} {vs : List (κ × Value)} (r : KV kvs vs) (k : κ) : (kvs.any fun kv => decide (kv.1 = k)) = vs.any fun kv => decide (kv.1 = k) := by
  unfold KV at r
  induction r with
  | nil => rfl
  | cons h t ih => rw [List.any_cons, List.any_cons, ih, h.1]
theorem KV.repl {kvs : List (κ × V)} {vs : List (κ × Value)} (r : KV kvs vs) (k : κ) {y : V} {u : Value} (ry : RelV y u) :
    KV (kvs.map fun kv => if kv.1 = k then (kv.1, y) else kv) (vs.map fun kv => if kv.1 = k then (kv.1, u) else kv) := by
  unfold KV at r ⊢
  induction r with
  | nil => exact .nil
  | @cons p q ps qs h t ih =>
    rw [List.map_cons, List.map_cons]
    refine .cons ?_ ih
    obtain ⟨h1, h2⟩ := h
    by_cases e : p.1 = k
    · rw [if_pos e, if_pos (h1.symm.trans e)]; exact ⟨h1, ry⟩
    · rw [if_neg e, if_neg (fun z => e (h1.trans z))]; exact ⟨h1, h2⟩
theorem KV.put {kvs : List (κ × V)} {vs : List (κ × Value)} (r : KV kvs vs) (k : κ) {y : V} {u : Value} (ry : RelV y u) : KV (putK kvs k y) (stored vs k u) := by
  unfold putK stored
  rw [r.any k]
  by_cases e : (vs.any fun kv => decide (kv.1 = k)) = true
  · rw [if_pos e, if_pos e]; exact r.repl k ry
  · rw [if_neg e, if_neg e]; exact Paired.snoc r ⟨rfl, ry⟩
theorem KV.drop {kvs : List (κ × V)} {vs : List (κ × Value)} (r : KV kvs vs) (k : κ) : KV (dropK kvs k) (without vs k) := by
  unfold KV at r ⊢
  unfold dropK without
  induction r with
  | nil => exact .nil
  | @cons p q ps qs h t ih =>
    obtain ⟨h1, h2⟩ := h
    rw [List.filter_cons, List.filter_cons]
    by_cases e : p.1 = k
    · have a : ¬ decide (p.1 ≠ k) = true := by simp [e]
      have b : ¬ decide (q.1 ≠ k) = true := by simp [h1.symm.trans e]
      rw [if_neg a, if_neg b]; exact ih
    · have e' : ¬ q.1 = k := fun z => e (h1.trans z)
      have a : decide (p.1 ≠ k) = true := by simp [e]
      have b : decide (q.1 ≠ k) = true := by simp [e']
      rw [if_pos a, if_pos b]; exact .cons ⟨h1, h2⟩ ih
theorem KV.keys {kvs : List (κ × V)} {vs : List (κ × Value)} (r : KV kvs vs) : kvs.map (·.1) = vs.map (·.1) := by
  unfold KV at r
  induction r with
  | nil => rfl
  | cons h t ih => rw [List.map_cons, List.map_cons, ih, h.1]
theorem KV.length {kvs : List (κ × V)} {vs : List (κ × Value)} (r : KV kvs vs) : kvs.length = vs.length := Paired.length r
theorem dropK_le (kvs : List (κ × V)) (k : κ) : (dropK kvs k).length ≤ kvs.length := List.length_filter_le _ _
end


/-! ### a tracked dict, its keys ints and texts or tuples of these -/
theorem kV_is {P : Program} {w : World} {k : Key} {u : Value} (r : RelV (kV k) u) : (mixKind P w).is k u = true := by
  cases k with
  | inl i => obtain ⟨t, e⟩ := (show ∃ t, u = Value.int i t from r); subst e; exact mixKind_int P w i t
  | inr x => obtain ⟨t, e⟩ := (show ∃ t, u = Value.str x t from r); subst e; exact mixKind_str P w x t
theorem kV_inj {a b : Key} (e : kV a = kV b) : a = b := by
  cases a with
  | inl i => cases b with
    | inl j => have e' : V.int i = V.int j := e; injection e' with e'; rw [e']
    | inr y => exact nomatch (show V.int i = V.str y from e)
  | inr x => cases b with
    | inl j => exact nomatch (show V.str x = V.int j from e)
    | inr y => have e' : V.str x = V.str y := e; injection e' with e'; rw [e']
theorem kVs_inj : ∀ {a b : List Key}, a.map kV = b.map kV → a = b
  | [], [], _ => rfl
  | [], _ :: _, e => by simp at e
  | _ :: _, [], e => by simp at e
  | x :: xs, y :: ys, e => by
    rw [List.map_cons, List.map_cons] at e
    injection e with e1 e2
    rw [kV_inj e1, kVs_inj e2]
theorem items_are {P : Program} {w : World} : ∀ {ks : List Key} {us : List Value}, Vals (ks.map kV) us → ItemsAre (mixKind P w) ks us
  | [], _, r => by rw [List.map_nil] at r; cases r; exact .nil
  | k :: ks, _, r => by
    rw [List.map_cons] at r
    cases r with
    | cons h t => exact .cons (kV_is h) (items_are t)

/-- raw entries of a dict with tuple keys -/
abbrev KT (H : Hp) : List (List Key × V) → List (List Key × Addr × Value) → Prop := Paired fun p q => p.1 = q.1 ∧ H q.2.1 = some (.tup (p.1.map kV)) ∧ RelV p.2 q.2.2
theorem KT.val {H : Hp} {kvs : List (List Key × V)} {xs : List (List Key × Addr × Value)} (r : KT H kvs xs) (k : List Key) : RelO (valV kvs k) ((atKey xs k).map (·.2)) := by
  induction r with
  | nil => exact True.intro
  | @cons p q ps qs h t ih =>
    obtain ⟨h1, _, h2⟩ := h
    by_cases e : p.1 = k
    · have e' : q.1 = k := h1.symm.trans e
      have b : atKey (q :: qs) k = some q.2 := by simp [atKey, List.find?_cons, e']
      rw [valV_pos e, b]; exact h2
    · have e' : ¬ q.1 = k := fun z => e (h1.trans z)
      have b : atKey (q :: qs) k = atKey qs k := by simp [atKey, List.find?_cons, e']
      rw [valV_neg e, b]; exact ih
theorem KT.repl {H : Hp} {kvs : List (List Key × V)} {xs : List (List Key × Addr × Value)} (r : KT H kvs xs) (k : List Key) {y : V} {u : Value} (ry : RelV y u) :
    KT H (kvs.map fun kv => if kv.1 = k then (kv.1, y) else kv) (xs.map (putAt k u)) := by
  induction r with
  | nil => exact .nil
  | @cons p q ps qs h t ih =>
    rw [List.map_cons, List.map_cons]
    refine .cons ?_ ih
    obtain ⟨h1, h2, h3⟩ := h
    unfold putAt
    by_cases e : p.1 = k
    · rw [if_pos e, if_pos (h1.symm.trans e)]; exact ⟨h1, h2, ry⟩
    · rw [if_neg e, if_neg (fun z => e (h1.trans z))]; exact ⟨h1, h2, h3⟩
theorem KT.put {H : Hp} {kvs : List (List Key × V)} {xs : List (List Key × Addr × Value)} (r : KT H kvs xs) (k : List Key) {b : Addr} {y : V} {u : Value} (hb : H b = some (.tup (k.map kV))) (ry : RelV y u) :
    KT H (putK kvs k y) (storedH xs k b u) := by
  have e : (kvs.any fun kv => decide (kv.1 = k)) = (atKey xs k).isSome := by
    rw [valV_any, (r.val k).isSome_eq, Option.isSome_map]
  unfold putK storedH
  rw [e]
  by_cases q : (atKey xs k).isSome = true
  · rw [if_pos q, if_pos q]; exact r.repl k ry
  · rw [if_neg q, if_neg q]; exact Paired.snoc r ⟨rfl, hb, ry⟩
theorem KT.keeps {H H' : Hp} {kvs : List (List Key × V)} {xs : List (List Key × Addr × Value)} (r : KT H kvs xs) (ht : ∀ b ys, H b = some (.tup ys) → H' b = some (.tup ys)) : KT H' kvs xs :=
  Paired.mapP r fun _ _ z => ⟨z.1, ht _ _ z.2.1, z.2.2⟩

section
variable {P : Program} {w : World} {H : Hp} {h : Heap} {a : Addr}
theorem rd_of {u : HO} (ok : HOk P w H h) (e : Rd H a u) : ObjOk P w H h a u := e.ok ok
theorem dk_rd {kvs : List (Key × V)} (ok : HOk P w H h) (e : Rd H a (.dK kvs)) : kvs.length ≤ sizeLine ∧ (a == sysModules) = false ∧ ∃ vs, KV kvs vs ∧ h.DictOf (mixKind P w) a vs :=
  show ObjOk P w H h a (.dK kvs) from rd_of ok e
theorem dk_of {kvs : List (Key × V)} (ok : HOk P w H h) (e : H a = some (.dK kvs)) : kvs.length ≤ sizeLine ∧ (a == sysModules) = false ∧ ∃ vs, KV kvs vs ∧ h.DictOf (mixKind P w) a vs := dk_rd ok (.inl e)
/-- a tracked tuple of ints and texts is a key -/
theorem key_of {ks : List Key} (ok : HOk P w H h) (e : H a = some (.tup (ks.map kV))) : (tupleKind (mixKind P w)).is h ks a := by
  obtain ⟨_, its, r, o, h1, h2, n, h3⟩ := (show ObjOk P w H h a (.tup (ks.map kV)) from ok a _ e)
  exact ⟨o, its.toArray, n, h1, h2, h3, by simpa using items_are r⟩
theorem dt_rd {kvs : List (List Key × V)} (ok : HOk P w H h) (e : Rd H a (.dT kvs)) : kvs.length ≤ sizeLine ∧ (a == sysModules) = false ∧
    ∃ xs, KT H kvs xs ∧ h.DictOfH (tupleKind (mixKind P w)) a xs := by
  obtain ⟨z, y, xs, r, o, es, ep, h1, h2, h3, h4, h5⟩ := (show ObjOk P w H h a (.dT kvs) from rd_of ok e)
  refine ⟨z, y, xs, r, o, es, ep, h1, h2, h3, h4, fun x hx => ?_, h5⟩
  have all : ∀ {l : List (List Key × V)} {m : List (List Key × Addr × Value)}, KT H l m → ∀ x ∈ m, (tupleKind (mixKind P w)).is h x.1 x.2.1 := by
    intro l m q
    induction q with
    | nil => intro x hx; exact nomatch hx
    | @cons p q ps qs hq t ih =>
      intro x hx
      rcases List.mem_cons.mp hx with e | hx
      · subst e
        exact key_of ok (by rw [← hq.1]; exact hq.2.1)
      · exact ih x hx
  exact all r x hx
theorem dt_of {kvs : List (List Key × V)} (ok : HOk P w H h) (e : H a = some (.dT kvs)) : kvs.length ≤ sizeLine ∧ (a == sysModules) = false ∧
    ∃ xs, KT H kvs xs ∧ h.DictOfH (tupleKind (mixKind P w)) a xs := dt_rd ok (.inl e)
end

/-- what the dict at a holds at the key y -/
def DGet (H : Hp) (a : Addr) (y : V) (r : Option V) : Prop :=
  (∃ kvs k, Rd H a (.dK kvs) ∧ y = kV k ∧ r = valV kvs k) ∨ ∃ kvs k b, Rd H a (.dT kvs) ∧ y = .ref b ∧ H b = some (.tup (k.map kV)) ∧ r = valV kvs k
/-- the heap behind a[y] = v -/
def DPut (H : Hp) (a : Addr) (y v : V) (H' : Hp) : Prop :=
  (∃ kvs k, H a = some (.dK kvs) ∧ y = kV k ∧ kvs.length < sizeLine ∧ H' = upd H a (.dK (putK kvs k v))) ∨
  ∃ kvs k b, H a = some (.dT kvs) ∧ y = .ref b ∧ H b = some (.tup (k.map kV)) ∧ kvs.length < sizeLine ∧ H' = upd H a (.dT (putK kvs k v))
theorem DGet.k {H : Hp} {a : Addr} {kvs : List (Key × V)} {k : Key} (e : H a = some (.dK kvs)) : DGet H a (kV k) (valV kvs k) := .inl ⟨kvs, k, .inl e, rfl, rfl⟩
theorem DGet.t {H : Hp} {a b : Addr} {kvs : List (List Key × V)} {k : List Key} (e : H a = some (.dT kvs)) (eb : H b = some (.tup (k.map kV))) : DGet H a (.ref b) (valV kvs k) := .inr ⟨kvs, k, b, .inl e, rfl, eb, rfl⟩
theorem DPut.k {H : Hp} {a : Addr} {kvs : List (Key × V)} {k : Key} {v : V} (e : H a = some (.dK kvs)) (hl : kvs.length < sizeLine) : DPut H a (kV k) v (upd H a (.dK (putK kvs k v))) := .inl ⟨kvs, k, e, rfl, hl, rfl⟩
theorem DPut.t {H : Hp} {a b : Addr} {kvs : List (List Key × V)} {k : List Key} {v : V} (e : H a = some (.dT kvs)) (eb : H b = some (.tup (k.map kV))) (hl : kvs.length < sizeLine) :
    DPut H a (.ref b) v (upd H a (.dT (putK kvs k v))) := .inr ⟨kvs, k, b, e, rfl, eb, hl, rfl⟩


section
variable {X : Cx} {pins : List (Addr × Obj)} {σ : St} {H : Hp} {s : Shared} {a : Addr} {y v : V} {u r : Value} {o : Option V} {A : Around} {E : Value → Shared → Prop}

theorem Inv.big (I : Inv X pins σ H s) : sysModules < s.heap.objs.size := by
  have h : mainGlobals < s.heap.objs.size := (I.mod.glob.keeps I.bk).lt
  exact Nat.lt_trans (by decide) h

/-- d[y], there -/
theorem d_getItem {Q : Value → Shared → Prop} (hu : A.units + 1 < cLine) (I : Inv X pins σ H s) (g : DGet H a y (some v)) (ry : RelV y u) (h : ∀ w' s', Inv X pins σ H s' → RelV v w' → Q w' s') :
    wpAny (model X.prog X.w) A (getItem (.ref a) u) Q E s := by
  rcases g with ⟨kvs, k, e, ey, l⟩ | ⟨kvs, k, b, e, ey, eb, l⟩
  · subst ey
    obtain ⟨z, hd, vs, rel, dd⟩ := dk_rd I.hok e
    obtain ⟨w', hw, rw'⟩ := RelO.some_of (v := v) (o := valueAt vs k) (by rw [l]; exact rel.val k)
    exact wpAny_getItem_of (kV_is ry) dd.mapOf hw (h w' _ (I.tok _) rw')
  · subst ey
    cases (show u = Value.ref b from ry)
    obtain ⟨z, hd, xs, rel, dd⟩ := dt_rd I.hok e
    obtain ⟨w', hw, rw'⟩ := RelO.some_of (v := v) (o := (atKey xs k).map (·.2)) (by rw [l]; exact rel.val k)
    obtain ⟨p, hp, hp2⟩ := Option.map_eq_some_iff.mp hw
    refine wpAny_getItem_heap (tupleKind_room_in1 hu) (key_of I.hok eb) dd hp ?_
    rw [hp2]
    exact h w' _ (I.tok _) rw'
/-- y in d -/
theorem d_in {Q : Value → Shared → Prop} (hu : A.units + 1 < cLine) (I : Inv X pins σ H s) (g : DGet H a y o) (ry : RelV y u) (h : ∀ s', Inv X pins σ H s' → Q (.bool o.isSome) s') :
    wpAny (model X.prog X.w) A (compareOp .In u (.ref a)) Q E s := by
  rcases g with ⟨kvs, k, e, ey, l⟩ | ⟨kvs, k, b, e, ey, eb, l⟩
  · subst ey
    obtain ⟨z, hd, vs, rel, dd⟩ := dk_rd I.hok e
    refine wpAny_in_of (kV_is ry) hd dd.mapOf ?_
    rw [← (rel.val k).isSome_eq, ← l]
    exact h _ (I.tok _)
  · subst ey
    cases (show u = Value.ref b from ry)
    obtain ⟨z, hd, xs, rel, dd⟩ := dt_rd I.hok e
    refine wpAny_in_heap (tupleKind_room_in1 hu) (key_of I.hok eb) hd dd ?_
    have q := (rel.val k).isSome_eq
    rw [Option.isSome_map] at q
    rw [← q, ← l]
    exact h _ (I.tok _)
theorem d_notIn {Q : Value → Shared → Prop} (hu : A.units + 1 < cLine) (I : Inv X pins σ H s) (g : DGet H a y o) (ry : RelV y u) (h : ∀ s', Inv X pins σ H s' → Q (.bool (!o.isSome)) s') :
    wpAny (model X.prog X.w) A (compareOp .NotIn u (.ref a)) Q E s := by
  rcases g with ⟨kvs, k, e, ey, l⟩ | ⟨kvs, k, b, e, ey, eb, l⟩
  · subst ey
    obtain ⟨z, hd, vs, rel, dd⟩ := dk_rd I.hok e
    refine wpAny_notIn_of (kV_is ry) hd dd.mapOf ?_
    rw [← (rel.val k).isSome_eq, ← l]
    exact h _ (I.tok _)
  · subst ey
    cases (show u = Value.ref b from ry)
    obtain ⟨z, hd, xs, rel, dd⟩ := dt_rd I.hok e
    refine wpAny_notIn_heap (tupleKind_room_in1 hu) (key_of I.hok eb) hd dd ?_
    have q := (rel.val k).isSome_eq
    rw [Option.isSome_map] at q
    rw [← q, ← l]
    exact h _ (I.tok _)
/-- a dict's object is replaced -/
theorem d_write {h' : Heap} {t' : Nat} {ob : HO} (I : Inv X pins σ H s) (mu : Mut (H a)) (hs : Heap.SameBut a s.heap h') (he : ∃ q, h'.get? a = some q) (new : ObjOk X.prog X.w (upd H a ob) h' a ob) :
    Inv X pins σ (upd H a ob) { s with heap := h', toks := t' } :=
  I.write (x := a) (e := a) mu (.inl rfl) (fun b q hb z => (hs.2 b hb).trans z) he new
theorem dk_new {P : Program} {w : World} {H' : Hp} {h' : Heap} {kvs : List (Key × V)} {vs : List (Key × Value)} (z : kvs.length ≤ sizeLine) (hd : (a == sysModules) = false) (rel : KV kvs vs) (dd : h'.DictOf (mixKind P w) a vs) :
    ObjOk P w H' h' a (.dK kvs) := ⟨z, hd, vs, rel, dd⟩
/-- d[y] = v -/
theorem d_setItem {H' : Hp} {Q : Unit → Shared → Prop} (hu : A.units + 1 < cLine) (I : Inv X pins σ H s) (g : DPut H a y v H') (ry : RelV y u) (rv : RelV v r) (h : ∀ s', Inv X pins σ H' s' → Q () s') :
    wpAny (model X.prog X.w) A (setItem (.ref a) u r) Q E s := by
  rcases g with ⟨kvs, k, e, ey, l, eH⟩ | ⟨kvs, k, b, e, ey, eb, l, eH⟩
  · subst ey eH
    obtain ⟨z, hd, vs, rel, dd⟩ := dk_of I.hok e
    have hz : vs.length ≤ sizeLine := by rw [← rel.length]; exact z
    have hl : (putK kvs k v).length ≤ sizeLine := by have := length_putK kvs k v; omega
    refine wpAny_setItem_pairs (hsz := hz) (kV_is ry) dd fun h' dd' hs => h _ ?_
    have he : ∃ q, h'.get? a = some q := let ⟨q, _, _, hq, _⟩ := dd'; ⟨q, hq⟩
    exact d_write I (by rw [e]; exact True.intro) hs he (dk_new hl hd (rel.put k rv) dd')
  · subst ey eH
    cases (show u = Value.ref b from ry)
    obtain ⟨z, hd, xs, rel, dd⟩ := dt_of I.hok e
    have hz : xs.length ≤ sizeLine := by rw [← Paired.length rel]; exact z
    have hl : (putK kvs k v).length ≤ sizeLine := by have := length_putK kvs k v; omega
    refine wpAny_setItem_heap (hsz := hz) (tupleKind_room_in1 hu) (key_of I.hok eb) dd fun h' dd' hs => h _ ?_
    obtain ⟨q, es, ep, hq, h2, h3, h4, _, h5⟩ := dd'
    refine d_write I (by rw [e]; exact True.intro) hs ⟨q, hq⟩ ⟨hl, hd, _, (rel.put k eb rv).keeps fun c ys ec => ?_, q, es, ep, hq, h2, h3, h4, h5⟩
    rw [upd_ne (ne_of ec e (fun z => nomatch z))]
    exact ec
end

section
variable {X : Cx} {pins : List (Addr × Obj)} {σ : St} {H : Hp} {s : Shared} {a : Addr} {kvs : List (Key × V)} {k : Key} {u : Value} {A : Around} {E : Value → Shared → Prop}
/-- del d[k] -/
theorem d_delItem {Q : Unit → Shared → Prop} (I : Inv X pins σ H s) (e : H a = some (.dK kvs)) (ry : RelV (kV k) u) (l : (valV kvs k).isSome = true) (h : ∀ s', Inv X pins σ (upd H a (.dK (dropK kvs k))) s' → Q () s') :
    wpAny (model X.prog X.w) A (delItem (.ref a) u) Q E s := by
  obtain ⟨z, hd, vs, rel, dd⟩ := dk_of I.hok e
  refine wpAny_delItem_slot dd.typeIs (by decide) PySem.F.slot_dict_delitem
    (call_meetsIn PySem.F.slot_dict_delitem dd.typeIs PySem.F.entry_dict_delitem (PySem.F.args_dict_delitem_2 _ _) (meets_dict_delitem_pairs (mixKind X.prog X.w) a (kV_is ry)) ⟨vs, dd, by rw [← rel.length]; exact z, by rw [← (rel.val k).isSome_eq]; exact l, fun h' dd' hs => h _ ?_⟩)
  have he : ∃ q, h'.get? a = some q := let ⟨q, _, _, hq, _⟩ := dd'; ⟨q, hq⟩
  exact d_write I (by rw [e]; exact True.intro) hs he (dk_new (Nat.le_trans (dropK_le kvs k) z) hd (rel.drop k) dd')
/-- d.pop(k[, x]), there -/
theorem d_pop {v : V} {more : List Value} {Q : Value → Shared → Prop} (I : Inv X pins σ H s) (e : H a = some (.dK kvs)) (ry : RelV (kV k) u) (l : valV kvs k = some v) (hm : more = [] ∨ ∃ x, more = [x])
    (h : ∀ w' s', Inv X pins σ (upd H a (.dK (dropK kvs k))) s' → RelV v w' → Q w' s') : wpAny (model X.prog X.w) A (call (.builtin "dict.pop") (.ref a :: u :: more)) Q E s := by
  obtain ⟨z, hd, vs, rel, dd⟩ := dk_of I.hok e
  obtain ⟨w', hw, rw'⟩ := RelO.some_of (v := v) (o := valueAt vs k) (by rw [← l]; exact rel.val k)
  have hp : (keyPart u).isSome = true := by
    cases k with
    | inl i => obtain ⟨t, q⟩ := (show ∃ t, u = Value.int i t from ry); subst q; rfl
    | inr x => obtain ⟨t, q⟩ := (show ∃ t, u = Value.str x t from ry); subst q; rfl
  have ha : argsOk "dict.pop" ⟨.ref a :: u :: more, []⟩ := by
    rcases hm with q | ⟨x, q⟩
    · subst q; exact PySem.F.args_dict_pop_2 _ _
    · subst q; exact PySem.F.args_dict_pop_3 _ _ _
  refine call_meetsIn PySem.F.slot_dict_pop dd.typeIs PySem.F.entry_dict_pop ha (meets_dict_pop_there (mixKind X.prog X.w) a (kV_is ry) more hm hp)
    ⟨vs, w', dd, by rw [← rel.length]; exact z, hw, fun h' dd' hs => h w' _ ?_ rw'⟩
  have he : ∃ q, h'.get? a = some q := let ⟨q, _, _, hq, _⟩ := dd'; ⟨q, hq⟩
  exact d_write I (by rw [e]; exact True.intro) hs he (dk_new (Nat.le_trans (dropK_le kvs k) z) hd (rel.drop k) dd')
/-- d.pop(k, x), not there -/
theorem d_popD {r : Value} {Q : Value → Shared → Prop} (I : Inv X pins σ H s) (e : H a = some (.dK kvs)) (ry : RelV (kV k) u) (l : valV kvs k = none) (h : ∀ s', Inv X pins σ H s' → Q r s') :
    wpAny (model X.prog X.w) A (call (.builtin "dict.pop") [.ref a, u, r]) Q E s := by
  obtain ⟨z, hd, vs, rel, dd⟩ := dk_of I.hok e
  have hn : valueAt vs k = none := RelO.none_of (by rw [← l]; exact rel.val k)
  have hp : (keyPart u).isSome = true := by
    cases k with
    | inl i => obtain ⟨t, q⟩ := (show ∃ t, u = Value.int i t from ry); subst q; rfl
    | inr x => obtain ⟨t, q⟩ := (show ∃ t, u = Value.str x t from ry); subst q; rfl
  exact call_meetsIn PySem.F.slot_dict_pop dd.typeIs PySem.F.entry_dict_pop (PySem.F.args_dict_pop_3 _ _ _) (meets_dict_pop_default (mixKind X.prog X.w) a (kV_is ry) hd hp r) ⟨vs, dd, hn, h _ (I.tok _)⟩
/-- d.clear() -/
theorem d_clear {Q : Value → Shared → Prop} (I : Inv X pins σ H s) (e : H a = some (.dK kvs)) (h : ∀ s', Inv X pins σ (upd H a (.dK [])) s' → Q .none s') : wpAny (model X.prog X.w) A (call (.builtin "dict.clear") [.ref a]) Q E s := by
  obtain ⟨z, hd, vs, rel, dd⟩ := dk_of I.hok e
  refine call_meetsIn PySem.F.slot_dict_clear dd.typeIs PySem.F.entry_dict_clear (PySem.F.args_dict_clear_1 _) (meets_dict_clear (mixKind X.prog X.w) a) ⟨vs, dd, by rw [← rel.length]; exact z, fun h' dd' hs => h _ ?_⟩
  have he : ∃ q, h'.get? a = some q := let ⟨q, _, _, hq, _⟩ := dd'; ⟨q, hq⟩
  exact d_write (t' := s.toks) I (by rw [e]; exact True.intro) hs he (dk_new (Nat.zero_le _) hd .nil dd')
/-- len(d) -/
theorem d_len {Q : Value → Shared → Prop} (I : Inv X pins σ H s) (e : Rd H a (.dK kvs)) (h : ∀ t s', Inv X pins σ H s' → Q (.int kvs.length t) s') : wpAny (model X.prog X.w) A (call (.builtin "len") [.ref a]) Q E s := by
  obtain ⟨z, hd, vs, rel, dd⟩ := dk_rd I.hok e
  refine call_len_dict hd dd (by rw [← rel.length]; rw [sizeLine_eq] at z; omega) ?_
  rw [← rel.length]
  exact h _ _ (I.tok _)
/-- if d -/
theorem d_truth {Q : Bool → Shared → Prop} (I : Inv X pins σ H s) (e : Rd H a (.dK kvs)) (h : ∀ s', Inv X pins σ H s' → Q (!kvs.isEmpty) s') : wpAny (model X.prog X.w) A (truthy (.ref a)) Q E s := by
  obtain ⟨z, hd, vs, rel, dd⟩ := dk_rd I.hok e
  refine wpAny_truthy_dict hd dd (by rw [← rel.length]; rw [sizeLine_eq] at z; omega) ?_
  have q : kvs.isEmpty = vs.isEmpty := by cases rel <;> rfl
  rw [← q]
  exact h _ (I.tok _)
end


/-! ### readings and rules -/
/-- the element of a subscription, not a slice -/
def NoSl (i : Expr) : Prop := ∀ ov iv, subscripted i false ov iv = operate [ov, iv] (getItem ov iv)
theorem subD_of {prog : Program} {w : World} {A : Around} {E : Value → Shared → Prop} {s : Shared} {env : Env} {value slice : Expr} {pos : Pos} {T id : String} {Q : Value → Shared → Prop}
    (hl : typeLookup (.type T) "__getitem__" = pure (some (.builtin id))) (hs : NoSl slice)
    (h : wpAny (model prog w) A (eval value env) (fun o s₁ => wpAny (model prog w) A (eval slice env) (fun i s₂ => s₂.TypeIs o T ∧ wpAny (model prog w) A (getItem o i) Q E s₂) E s₁) E s) :
    wpAny (model prog w) A (eval (.Subscript value slice pos) env) Q E s := by
  refine Subscript_ (wpAny_mono h (fun o s₁ h₁ => wpAny_mono h₁ (fun i s₂ h₂ => ?_) fun _ _ x => x) fun _ _ x => x)
  obtain ⟨hT, h₂⟩ := h₂
  unfold subscriptTail
  refine wpAny_bind ?_
  rw [getitemInPython_of_ne hT.not_modules]
  refine wpAny_bind (wpAny_specialOf hT hl ?_)
  have fin : wpAny (model prog w) A (subscripted slice false o i) (fun r s₃ => wpAny (model prog w) A (letTemporaryGo value o r >>= fun _ => pure r) Q E s₃) E s₂ := by
    rw [hs o i]
    exact wpAny_operating (wpAny_mono h₂ (fun r s₃ h₃ => wpAny_bind (wpAny_letTemporaryGo (wpAny_pure h₃))) fun _ _ x => x)
  first
    | exact wpAny_pure (wpAny_bind fin)
    | exact wpAny_bind (wpAny_pure (wpAny_bind fin))
    | exact wpAny_bind fin

theorem dict_typeIs {X : Cx} {pins : List (Addr × Obj)} {σ : St} {H : Hp} {s : Shared} {a : Addr} {y : V} {o : Option V} (I : Inv X pins σ H s) (g : DGet H a y o) : s.TypeIs (.ref a) "dict" := by
  rcases g with ⟨kvs, k, e, _, _⟩ | ⟨kvs, k, b, e, _, _, _⟩
  · obtain ⟨_, _, vs, _, dd⟩ := dk_rd I.hok e
    exact dd.typeIs
  · obtain ⟨_, _, xs, _, dd⟩ := dt_rd I.hok e
    exact dd.typeIs
theorem dict_noDict {X : Cx} {pins : List (Addr × Obj)} {σ : St} {H : Hp} {s : Shared} {a : Addr} {y : V} {o : Option V} (I : Inv X pins σ H s) (g : DGet H a y o) :
    ∀ b, Value.ref a = .ref b → ∃ ob, s.heap.get? b = some ob ∧ ob.dict = none := fun b q => by
  cases q
  rcases g with ⟨kvs, k, e, _, _⟩ | ⟨kvs, k, b, e, _, _, _⟩
  · obtain ⟨_, _, vs, _, ob, _, _, h1, h2, _⟩ := dk_rd I.hok e
    exact ⟨ob, h1, h2.2.1⟩
  · obtain ⟨_, _, xs, _, ob, _, _, h1, h2, _⟩ := dt_rd I.hok e
    exact ⟨ob, h1, h2.2.1⟩

/-- d[y] -/
def tDGet (td ty : TE) : TE := fun σ H Q => td σ H fun x H1 => ty σ H1 fun y H2 => ∃ a v, x = .ref a ∧ DGet H2 a y (some v) ∧ Q v H2
/-- y in d, y not in d -/
def tDIn (ty td : TE) : TE := fun σ H Q => ty σ H fun y H1 => td σ H1 fun x H2 => ∃ a o, x = .ref a ∧ DGet H2 a y o ∧ Q (.bl o.isSome) H2
def tDNotIn (ty td : TE) : TE := fun σ H Q => ty σ H fun y H1 => td σ H1 fun x H2 => ∃ a o, x = .ref a ∧ DGet H2 a y o ∧ Q (.bl (!o.isSome)) H2
/-- d[y] = v -/
def sDPut (td ty tv : TE) : TS := fun D σ H => tv σ H fun v H1 => td σ H1 fun x H2 => ty σ H2 fun y H3 => ∃ a H4, x = .ref a ∧ DPut H3 a y v H4 ∧ D.nx σ H4
/-- d[y] op= v -/
def sDAug (td ty tv : TE) (rd : V → V → Hp → VK → Prop) : TS := fun D σ H => td σ H fun x H1 => ty σ H1 fun y H2 => ∃ a v, x = .ref a ∧ DGet H2 a y (some v) ∧
  tv σ H2 fun y2 H3 => rd v y2 H3 fun z H4 => ∃ H5, DPut H4 a y z H5 ∧ D.nx σ H5
/-- del d[y] -/
def sDDel (td ty : TE) : TS := fun D σ H => td σ H fun x H1 => ty σ H1 fun y H2 => ∃ a kvs k, x = .ref a ∧ H2 a = some (.dK kvs) ∧ y = kV k ∧ (valV kvs k).isSome = true ∧ D.nx σ (upd H2 a (.dK (dropK kvs k)))

section
variable {X : Cx} {o i e value : Expr} {pos pos' tpos : Pos} {td ty tv : TE}
theorem pe_dget (hu : X.A.units + 1 < cLine) (ho : PE X o td) (hi : PE X i ty) (hs : NoSl i) : PE X (.Subscript o i pos) (tDGet td ty) := by
  intro pins s σ H Q I h
  refine subD_of PySem.F.slot_dict_getitem.lookup hs (thn (ho pins s σ H _ I h) fun u s1 ⟨x, H1, I1, rx, q1⟩ => thn (hi pins s1 σ H1 _ I1 q1) fun iv s2 ⟨y, H2, I2, ry, a, v, ex, g, q2⟩ => ?_)
  subst ex
  obtain rfl : u = Value.ref a := rx
  exact ⟨dict_typeIs I2 g, d_getItem hu I2 g ry fun w' s3 I3 rw' => ⟨v, H2, I3, rw', q2⟩⟩
theorem pc_din (hu : X.A.units + 1 < cLine) (hi : PE X i ty) (ho : PE X o td) : PC X .In i o (tDIn ty td) := by
  intro pins s σ H Q I h
  refine thn (hi pins s σ H _ I h) fun iv s1 ⟨y, H1, I1, ry, q1⟩ => thn (ho pins s1 σ H1 _ I1 q1) fun u s2 ⟨x, H2, I2, rx, a, ov, ex, g, q2⟩ => ?_
  subst ex
  obtain rfl : u = Value.ref a := rx
  exact d_in hu I2 g ry fun s3 I3 => ⟨.bl ov.isSome, H2, I3, rfl, q2⟩
theorem pc_dnotin (hu : X.A.units + 1 < cLine) (hi : PE X i ty) (ho : PE X o td) : PC X .NotIn i o (tDNotIn ty td) := by
  intro pins s σ H Q I h
  refine thn (hi pins s σ H _ I h) fun iv s1 ⟨y, H1, I1, ry, q1⟩ => thn (ho pins s1 σ H1 _ I1 q1) fun u s2 ⟨x, H2, I2, rx, a, ov, ex, g, q2⟩ => ?_
  subst ex
  obtain rfl : u = Value.ref a := rx
  exact d_notIn hu I2 g ry fun s3 I3 => ⟨.bl (!ov.isSome), H2, I3, rfl, q2⟩
theorem ps_dput (hu : X.A.units + 1 < cLine) (ho : PE X o td) (hi : PE X i ty) (hv : PE X value tv) (hs : swapsWith value (some (.Subscript o i pos')) pos.line X.env = pure false) :
    PS X (.Assign [.Subscript o i pos'] value pos) (sDPut td ty tv) := by
  intro pins s σ H D I h
  refine wpAny_Assign_Subscript (thn (hv pins s σ H _ I h) fun r s1 ⟨v, H1, I1, rv, q1⟩ => thn (ho pins s1 σ H1 _ I1 q1) fun u s2 ⟨x, H2, I2, rx, q2⟩ => thn (hi pins s2 σ H2 _ I2 q2) fun iv s3 ⟨y, H3, I3, ry, a, H4, ex, g, q3⟩ => ?_) hs
  subst ex
  obtain rfl : u = Value.ref a := rx
  exact d_setItem hu I3 g ry rv fun s4 I4 => ⟨σ, H4, I4, q3⟩
theorem ps_daug {op : Operator} {rd : V → V → Hp → VK → Prop} (hu : X.A.units + 1 < cLine) (ho : PE X o td) (hi : PE X i ty) (hv : PE X value tv) (hop : InOp X op rd)
    (ha : ∀ ov iv new, augStore i ov iv new = (do holding [new, ov, iv] (setItem ov iv new); release [new, ov, iv] []; pure .next)) : PS X (.AugAssign (.Subscript o i tpos) op value pos) (sDAug td ty tv rd) := by
  intro pins s σ H D I h
  refine wpAny_AugAssign_SubscriptAny (thn (ho pins s σ H _ I h) fun u s1 ⟨x, H1, I1, rx, q1⟩ => thn (hi pins s1 σ H1 _ I1 q1) fun iv s2 ⟨y, H2, I2, ry, a, v, ex, g, q2⟩ => ?_) ha
  subst ex
  obtain rfl : u = Value.ref a := rx
  refine d_getItem hu I2 g ry fun w' s3 I3 rw' => thn (hv pins s3 σ H2 _ I3 q2) fun w2 s4 ⟨y2, H3, I4, ry2, q3⟩ => thn (hop pins s4 σ H3 v y2 w' w2 _ I4 rw' ry2 q3) fun w3 s5 ⟨z, H4, I5, rz, H5, g5, q4⟩ => ?_
  exact d_setItem hu I5 g5 ry rz fun s6 I6 => ⟨σ, H5, I6, q4⟩
theorem ps_ddel (ho : PE X o td) (hi : PE X i ty) : PS X (.Delete [.Subscript o i tpos] pos) (sDDel td ty) := by
  intro pins s σ H D I h
  refine wpAny_Delete (wpAny_deleteEach_cons (wpAny_delete_Subscript (thn (ho pins s σ H _ I h) fun u s1 ⟨x, H1, I1, rx, q1⟩ => thn (hi pins s1 σ H1 _ I1 q1) fun iv s2 ⟨y, H2, I2, ry, a, kvs, k, ex, e, ey, l, q2⟩ => ?_)))
  subst ex ey
  obtain rfl : u = Value.ref a := rx
  exact d_delItem I2 e ry l fun s3 I3 => wpAny_deleteEach_nil ⟨σ, _, I3, q2⟩
end


/-! ### displays -/
theorem dk_empty {P : Program} {w : World} {H : Hp} (h : Heap) (hb : sysModules < h.objs.size) : ObjOk P w H (h.push { cls := .type "dict", data := .dict #[] }) h.objs.size (.dK []) :=
  ⟨Nat.zero_le _, beq_eq_false_iff_ne.mpr (Ne.symm (Nat.ne_of_lt hb)), [], .nil, Heap.DictOf.new h⟩
theorem dt_empty {P : Program} {w : World} {H : Hp} (h : Heap) (hb : sysModules < h.objs.size) : ObjOk P w H (h.push { cls := .type "dict", data := .dict #[] }) h.objs.size (.dT []) :=
  ⟨Nat.zero_le _, beq_eq_false_iff_ne.mpr (Ne.symm (Nat.ne_of_lt hb)), [], .nil, _, #[], 0, Heap.get?_push_size _ rfl, ⟨rfl, rfl, rfl⟩, rfl, rfl, List.nodup_nil⟩
/-- {}, to be a dict of the kind that is wanted -/
def tDNewK : TE := fun _ H Q => ∀ p, H p = none → Q (.ref p) (upd H p (.dK []))
def tDNewT : TE := fun _ H Q => ∀ p, H p = none → Q (.ref p) (upd H p (.dT []))
section
variable {X : Cx} {pos : Pos}
theorem pe_dnewK : PE X (.Dict [] [] pos) tDNewK := fun pins s σ H Q I h =>
  wpAny_Dict_empty ⟨.ref s.heap.objs.size, _, I.laid (a := s.heap.objs.size) (o := .dK []) (t' := s.toks) (fun _ _ q => Heap.get?_push_of_some _ q) (Nat.le_refl _) (dk_empty s.heap I.big), rfl, h _ (I.hok.fresh (Nat.le_refl _))⟩
theorem pe_dnewT : PE X (.Dict [] [] pos) tDNewT := fun pins s σ H Q I h =>
  wpAny_Dict_empty ⟨.ref s.heap.objs.size, _, I.laid (a := s.heap.objs.size) (o := .dT []) (t' := s.toks) (fun _ _ q => Heap.get?_push_of_some _ q) (Nat.le_refl _) (dt_empty s.heap I.big), rfl, h _ (I.hok.fresh (Nat.le_refl _))⟩
end

/-- the pairs of a display, from the left -/
def tPairs : List (TE × TE) → St → Hp → (List (V × V) → Hp → Prop) → Prop
  | [], _, H, Q => Q [] H
  | (tk, tv) :: r, σ, H, Q => tk σ H fun x H1 => tv σ H1 fun y H2 => tPairs r σ H2 fun ps H3 => Q ((x, y) :: ps) H3
abbrev VV : List (V × V) → List (Value × Value) → Prop := Paired fun p q => RelV p.1 q.1 ∧ RelV p.2 q.2
def PPs (X : Cx) (pos : Pos) (keys : List (Option Expr)) (values : List Expr) (trs : List (TE × TE)) : Prop :=
  ∀ (pins : List (Addr × Obj)) (s : Shared) (σ : St) (H : Hp) (Q : List (V × V) → Hp → Prop), Inv X pins σ H s → tPairs trs σ H Q →
    wpAny (model X.prog X.w) X.A (evalPairs (pairTrees keys values X.env pos)) (fun vs s' => ∃ ps H', Inv X pins σ H' s' ∧ VV ps vs ∧ Q ps H') X.xe s
theorem pps_nil {X : Cx} {pos : Pos} : PPs X pos [] [] [] := fun pins s σ H Q I h => pairTrees_nil_walk ⟨[], H, I, .nil, h⟩
theorem pps_cons {X : Cx} {pos : Pos} {k v : Expr} {ks : List (Option Expr)} {vs : List Expr} {tk tv : TE} {trs : List (TE × TE)} (hk : PE X k tk) (hv : PE X v tv) (hr : PPs X pos ks vs trs) :
    PPs X pos (some k :: ks) (v :: vs) ((tk, tv) :: trs) := fun pins s σ H Q I h =>
  pairTrees_cons_walk (thn (hk pins s σ H _ I h) fun u s1 ⟨x, H1, I1, rx, q1⟩ => thn (hv pins s1 σ H1 _ I1 q1) fun w2 s2 ⟨y, H2, I2, ry, q2⟩ =>
    thn (hr pins s2 σ H2 _ I2 q2) fun ws s3 ⟨ps, H3, I3, rel, q3⟩ => ⟨(x, y) :: ps, H3, I3, .cons ⟨rx, ry⟩ rel, q3⟩)

def mergeK (kvs more : List (Key × V)) : List (Key × V) := more.foldl (fun acc kv => putK acc kv.1 kv.2) kvs
theorem KV.merge : ∀ {more : List (Key × V)} {rs : List (Key × Value)} {kvs : List (Key × V)} {vs : List (Key × Value)}, KV more rs → KV kvs vs → KV (mergeK kvs more) (merged vs rs) := by
  intro more rs kvs vs r
  unfold KV at r
  induction r generalizing kvs vs with
  | nil => intro q; exact q
  | @cons p q ps qs h t ih =>
    intro r0
    have e : KV (putK kvs p.1 p.2) (stored vs q.1 q.2) := by
      have := r0.put p.1 h.2
      rw [← h.1]; exact this
    exact ih e
theorem length_mergeK : ∀ (more kvs : List (Key × V)), (mergeK kvs more).length ≤ kvs.length + more.length
  | [], kvs => by show kvs.length ≤ kvs.length + 0; omega
  | p :: r, kvs => by
    have h1 := length_mergeK r (putK kvs p.1 p.2)
    have h2 := length_putK kvs p.1 p.2
    show (mergeK (putK kvs p.1 p.2) r).length ≤ _
    rw [List.length_cons]; omega
theorem carries_of {P : Program} {w : World} : ∀ {kvs : List (Key × V)} {ws : List (Value × Value)}, VV (kvs.map fun kv => (kV kv.1, kv.2)) ws → ∃ rs, Carries (mixKind P w) ws rs ∧ KV kvs rs
  | [], _, r => by rw [List.map_nil] at r; cases r; exact ⟨[], True.intro, .nil⟩
  | p :: kvs, _, r => by
    rw [List.map_cons] at r
    cases r with
    | @cons a b as bs h t =>
      obtain ⟨rs, c, q⟩ := carries_of (P := P) (w := w) t
      obtain ⟨b1, b2⟩ := b
      exact ⟨(p.1, b2) :: rs, ⟨kV_is h.1, rfl, c⟩, .cons ⟨rfl, h.2⟩ q⟩
/-- {k: v, ..} with keys ints and texts; the new dict stands empty while the pairs are made -/
def tDisp (trs : List (TE × TE)) : TE := fun σ H Q => ∀ p, H p = none → tPairs trs σ (upd H p (.dK [])) fun ps H2 => H2 p = some (.dK []) ∧ ∃ kvs : List (Key × V), ps = kvs.map (fun kv => (kV kv.1, kv.2)) ∧ kvs.length ≤ 15 ∧ Q (.ref p) (upd H2 p (.dK (mergeK [] kvs)))
theorem pe_disp {X : Cx} {pos : Pos} {keys : List (Option Expr)} {values : List Expr} {trs : List (TE × TE)} (h : PPs X pos keys values trs) (hall : keys.all (·.isSome) = true) (hl : keys.length = values.length) (h0 : keys ≠ [])
    (h15 : keys.length ≤ 15) : PE X (.Dict keys values pos) (tDisp trs) := by
  intro pins s σ H Q I q
  have hn := I.hok.fresh (Nat.le_refl s.heap.objs.size)
  have I1 := I.laid (a := s.heap.objs.size) (o := .dK []) (h' := s.heap.push { cls := .type "dict", data := .dict #[] }) (t' := s.toks) (fun _ _ q => Heap.get?_push_of_some _ q) (Nat.le_refl _) (dk_empty s.heap I.big)
  refine wpAny_Dict_walk (knd := mixKind X.prog X.w) hall hl h0 h15 (thn (h pins _ σ _ _ I1 (q _ hn)) fun ws s2 ⟨ps, H2, I2, rel, e, kvs, ep, lk, q2⟩ => ?_)
  subst ep
  obtain ⟨rs, c, rk⟩ := carries_of (P := X.prog) (w := X.w) rel
  obtain ⟨z, hd, vs0, r0, dd⟩ := dk_of I2.hok e
  cases r0
  refine ⟨rs, c, dd, fun h' dd' hs => ⟨.ref s.heap.objs.size, _, ?_, rfl, q2⟩⟩
  have hz : (mergeK [] kvs).length ≤ sizeLine := by
    have h1 := length_mergeK kvs []
    rw [List.length_nil] at h1
    rw [sizeLine_eq]; omega
  have he : ∃ q, h'.get? s.heap.objs.size = some q := let ⟨q, _, _, hq, _⟩ := dd'; ⟨q, hq⟩
  exact d_write I2 (by rw [e]; exact True.intro) hs he (dk_new hz hd (rk.merge .nil) dd')


/-! ### methods -/
/-- a method call o.m(e) of a built-in, with one argument: what must be seen of the text -/
structure M1 (X : Cx) (o : Expr) (m : Str) (apos : Pos) (e : Expr) (cpos : Pos) : Prop where
  base : attributeBase o m X.env (eval o X.env) = eval o X.env
  few : ((backTo cpos (starEach [e] X.env)).all (fun x => !x.1) && (backToKw cpos (keywordEach [] X.env)).all (fun x => x.1.isSome)
    && decide (([e] : List Expr).length + ([] : List Keyword).length + (if ([] : List Keyword).isEmpty then 0 else 1) < 30)) = true
  line : (apos.endLine == cpos.line) = true
  trees : backTo cpos (starEach [e] X.env) = [(false, eval e X.env)]
structure M2 (X : Cx) (o : Expr) (m : Str) (apos : Pos) (e f : Expr) (cpos : Pos) : Prop where
  base : attributeBase o m X.env (eval o X.env) = eval o X.env
  few : ((backTo cpos (starEach [e, f] X.env)).all (fun x => !x.1) && (backToKw cpos (keywordEach [] X.env)).all (fun x => x.1.isSome)
    && decide (([e, f] : List Expr).length + ([] : List Keyword).length + (if ([] : List Keyword).isEmpty then 0 else 1) < 30)) = true
  line : (apos.endLine == cpos.line) = true
  trees : backTo cpos (starEach [e, f] X.env) = [(false, eval e X.env), (false, eval f X.env)]

/-- a is a dict, whatever its keys -/
def IsD (H : Hp) (a : Addr) : Prop := (∃ kvs, Rd H a (.dK kvs)) ∨ ∃ kvs, Rd H a (.dT kvs)
theorem isD_at {X : Cx} {pins : List (Addr × Obj)} {σ : St} {H : Hp} {s : Shared} {a : Addr} (I : Inv X pins σ H s) (d : IsD H a) :
    s.TypeIs (.ref a) "dict" ∧ (∀ b, Value.ref a = .ref b → ∃ ob, s.heap.get? b = some ob ∧ ob.dict = none) ∧ (a == sysModules) = false := by
  rcases d with ⟨kvs, e⟩ | ⟨kvs, e⟩
  · obtain ⟨_, hd, vs, _, dd⟩ := dk_rd I.hok e
    refine ⟨dd.typeIs, fun b q => ?_, hd⟩
    cases q
    obtain ⟨ob, _, _, h1, h2, _⟩ := dd
    exact ⟨ob, h1, h2.2.1⟩
  · obtain ⟨_, hd, xs, _, dd⟩ := dt_rd I.hok e
    refine ⟨dd.typeIs, fun b q => ?_, hd⟩
    cases q
    obtain ⟨ob, _, _, h1, h2, _⟩ := dd
    exact ⟨ob, h1, h2.2.1⟩

section
variable {X : Cx} {pins : List (Addr × Obj)} {σ : St} {H : Hp} {s : Shared} {a : Addr} {y d : V} {u r : Value} {o : Option V} {A : Around} {E : Value → Shared → Prop}
/-- d.get(y) -/
theorem d_get1 {Q : Value → Shared → Prop} (hu : A.units + 1 < cLine) (I : Inv X pins σ H s) (g : DGet H a y o) (ry : RelV y u) (h : ∀ w' s', Inv X pins σ H s' → RelV (o.getD .non) w' → Q w' s') :
    wpAny (model X.prog X.w) A (call (.builtin "dict.get") [.ref a, u]) Q E s := by
  rcases g with ⟨kvs, k, e, ey, l⟩ | ⟨kvs, k, b, e, ey, eb, l⟩
  · subst ey
    obtain ⟨z, hd, vs, rel, dd⟩ := dk_rd I.hok e
    refine call_meetsIn PySem.F.slot_dict_get dd.typeIs PySem.F.entry_dict_get (PySem.F.args_dict_get_2 _ _) (meets_dict_get (mixKind X.prog X.w) a (kV_is ry) hd) ⟨_, dd.mapOf, h _ _ (I.tok _) ?_⟩
    rw [l]
    exact (rel.val k).getD rfl
  · subst ey
    cases (show u = Value.ref b from ry)
    obtain ⟨z, hd, xs, rel, dd⟩ := dt_rd I.hok e
    refine call_meetsIn PySem.F.slot_dict_get dd.typeIs PySem.F.entry_dict_get (PySem.F.args_dict_get_2 _ _) (meetsH_dict_get (tupleKind (mixKind X.prog X.w)) a b hd) ⟨tupleKind_room_in1 hu, k, xs, key_of I.hok eb, dd, h _ _ (I.tok _) ?_⟩
    rw [l]
    exact (rel.val k).getD rfl
/-- d.get(y, x) -/
theorem d_get2 {Q : Value → Shared → Prop} (hu : A.units + 1 < cLine) (I : Inv X pins σ H s) (g : DGet H a y o) (ry : RelV y u) (rd : RelV d r) (h : ∀ w' s', Inv X pins σ H s' → RelV (o.getD d) w' → Q w' s') :
    wpAny (model X.prog X.w) A (call (.builtin "dict.get") [.ref a, u, r]) Q E s := by
  rcases g with ⟨kvs, k, e, ey, l⟩ | ⟨kvs, k, b, e, ey, eb, l⟩
  · subst ey
    obtain ⟨z, hd, vs, rel, dd⟩ := dk_rd I.hok e
    refine call_meetsIn PySem.F.slot_dict_get dd.typeIs PySem.F.entry_dict_get (PySem.F.args_dict_get_3 _ _ _) (meets_dict_get_default (mixKind X.prog X.w) a (kV_is ry) hd r) ⟨_, dd.mapOf, h _ _ (I.tok _) ?_⟩
    rw [l]
    exact (rel.val k).getD rd
  · subst ey
    cases (show u = Value.ref b from ry)
    obtain ⟨z, hd, xs, rel, dd⟩ := dt_rd I.hok e
    refine call_meetsIn PySem.F.slot_dict_get dd.typeIs PySem.F.entry_dict_get (PySem.F.args_dict_get_3 _ _ _) (meetsH_dict_get_default (tupleKind (mixKind X.prog X.w)) a b hd r) ⟨tupleKind_room_in1 hu, k, xs, key_of I.hok eb, dd, h _ _ (I.tok _) ?_⟩
    rw [l]
    exact (rel.val k).getD rd
end

def tDGet1 (td ty : TE) : TE := fun σ H Q => td σ H fun x H1 => ∃ a, x = .ref a ∧ IsD H1 a ∧ ty σ H1 fun y H2 => ∃ o, DGet H2 a y o ∧ Q (o.getD .non) H2
def tDGet2 (td ty tx : TE) : TE := fun σ H Q => td σ H fun x H1 => ∃ a, x = .ref a ∧ IsD H1 a ∧ ty σ H1 fun y H2 => tx σ H2 fun z H3 => ∃ o, DGet H3 a y o ∧ Q (o.getD z) H3
/-- d.pop(k): there; d.pop(k, x): there or not -/
def tDPop1 (td ty : TE) : TE := fun σ H Q => td σ H fun x H1 => ∃ a, x = .ref a ∧ IsD H1 a ∧ ty σ H1 fun y H2 => ∃ kvs k v, H2 a = some (.dK kvs) ∧ y = kV k ∧ valV kvs k = some v ∧ Q v (upd H2 a (.dK (dropK kvs k)))
def tDPop2 (td ty tx : TE) : TE := fun σ H Q => td σ H fun x H1 => ∃ a, x = .ref a ∧ IsD H1 a ∧ ty σ H1 fun y H2 => tx σ H2 fun z H3 => ∃ kvs k, H3 a = some (.dK kvs) ∧ y = kV k ∧
  (∀ v, valV kvs k = some v → Q v (upd H3 a (.dK (dropK kvs k)))) ∧ (valV kvs k = none → Q z H3)
section
variable {X : Cx} {o e f : Expr} {apos cpos : Pos} {td ty tx : TE}
theorem pe_dget1 (hu : X.A.units + 1 < cLine) (ho : PE X o td) (he : PE X e ty) (m : M1 X o "get" apos e cpos) : PE X (.Call (.Attribute o "get" apos) [e] [] cpos) (tDGet1 td ty) := by
  intro pins s σ H Q I h
  refine wpAny_Call_method m.base m.few m.line PySem.F.plainAttrs_dict PySem.F.slot_dict_get PySem.F.type_dict_get (thn (ho pins s σ H _ I h) fun u s1 ⟨x, H1, I1, rx, a, ex, d, q1⟩ => ?_)
  subst ex
  obtain rfl : u = Value.ref a := rx
  obtain ⟨t1, t2, _⟩ := isD_at I1 d
  refine ⟨t1, t2, ?_⟩
  rw [m.trees]
  refine Calls.callWith_builtin rfl (Calls.evalArgs_plain (Calls.spliced_cons (thn (he pins s1 σ H1 _ I1 q1) fun iv s2 ⟨y, H2, I2, ry, ov, g, q2⟩ => Calls.spliced_nil ?_)))
  exact d_get1 hu I2 g ry fun w' s3 I3 rw' => ⟨_, H2, I3, rw', q2⟩
theorem pe_dget2 (hu : X.A.units + 1 < cLine) (ho : PE X o td) (he : PE X e ty) (hf : PE X f tx) (m : M2 X o "get" apos e f cpos) : PE X (.Call (.Attribute o "get" apos) [e, f] [] cpos) (tDGet2 td ty tx) := by
  intro pins s σ H Q I h
  refine wpAny_Call_method m.base m.few m.line PySem.F.plainAttrs_dict PySem.F.slot_dict_get PySem.F.type_dict_get (thn (ho pins s σ H _ I h) fun u s1 ⟨x, H1, I1, rx, a, ex, d, q1⟩ => ?_)
  subst ex
  obtain rfl : u = Value.ref a := rx
  obtain ⟨t1, t2, _⟩ := isD_at I1 d
  refine ⟨t1, t2, ?_⟩
  rw [m.trees]
  refine Calls.callWith_builtin rfl (Calls.evalArgs_plain (Calls.spliced_cons (thn (he pins s1 σ H1 _ I1 q1) fun iv s2 ⟨y, H2, I2, ry, q2⟩ =>
    Calls.spliced_cons (thn (hf pins s2 σ H2 _ I2 q2) fun fv s3 ⟨z, H3, I3, rz, ov, g, q3⟩ => Calls.spliced_nil ?_))))
  exact d_get2 hu I3 g ry rz fun w' s4 I4 rw' => ⟨_, H3, I4, rw', q3⟩
theorem pe_dpop1 (ho : PE X o td) (he : PE X e ty) (m : M1 X o "pop" apos e cpos) : PE X (.Call (.Attribute o "pop" apos) [e] [] cpos) (tDPop1 td ty) := by
  intro pins s σ H Q I h
  refine wpAny_Call_method m.base m.few m.line PySem.F.plainAttrs_dict PySem.F.slot_dict_pop PySem.F.type_dict_pop (thn (ho pins s σ H _ I h) fun u s1 ⟨x, H1, I1, rx, a, ex, d, q1⟩ => ?_)
  subst ex
  obtain rfl : u = Value.ref a := rx
  obtain ⟨t1, t2, _⟩ := isD_at I1 d
  refine ⟨t1, t2, ?_⟩
  rw [m.trees]
  refine Calls.callWith_builtin rfl (Calls.evalArgs_plain (Calls.spliced_cons (thn (he pins s1 σ H1 _ I1 q1) fun iv s2 ⟨y, H2, I2, ry, kvs, k, v, ea, ey, l, q2⟩ => Calls.spliced_nil ?_)))
  subst ey
  exact d_pop I2 ea ry l (.inl rfl) fun w' s3 I3 rw' => ⟨v, _, I3, rw', q2⟩
theorem pe_dpop2 (ho : PE X o td) (he : PE X e ty) (hf : PE X f tx) (m : M2 X o "pop" apos e f cpos) : PE X (.Call (.Attribute o "pop" apos) [e, f] [] cpos) (tDPop2 td ty tx) := by
  intro pins s σ H Q I h
  refine wpAny_Call_method m.base m.few m.line PySem.F.plainAttrs_dict PySem.F.slot_dict_pop PySem.F.type_dict_pop (thn (ho pins s σ H _ I h) fun u s1 ⟨x, H1, I1, rx, a, ex, d, q1⟩ => ?_)
  subst ex
  obtain rfl : u = Value.ref a := rx
  obtain ⟨t1, t2, _⟩ := isD_at I1 d
  refine ⟨t1, t2, ?_⟩
  rw [m.trees]
  refine Calls.callWith_builtin rfl (Calls.evalArgs_plain (Calls.spliced_cons (thn (he pins s1 σ H1 _ I1 q1) fun iv s2 ⟨y, H2, I2, ry, q2⟩ =>
    Calls.spliced_cons (thn (hf pins s2 σ H2 _ I2 q2) fun fv s3 ⟨z, H3, I3, rz, kvs, k, ea, ey, q3, q4⟩ => Calls.spliced_nil ?_))))
  subst ey
  cases l : valV kvs k with
  | some v => exact d_pop I3 ea ry l (.inr ⟨fv, rfl⟩) fun w' s4 I4 rw' => ⟨v, _, I4, rw', q3 v l⟩
  | none => exact d_popD I3 ea ry l fun s4 I4 => ⟨z, H3, I4, rz, q4 l⟩
end

/-! ### dict(d): a copy -/
section
variable {X : Cx} {pins : List (Addr × Obj)} {σ : St} {H : Hp} {s : Shared} {a : Addr} {kvs : List (Key × V)} {A : Around} {E : Value → Shared → Prop}
theorem d_copyOf {Q : Value → Shared → Prop} (I : Inv X pins σ H s) (e : Rd H a (.dK kvs)) (h : ∀ p s', H p = none → Inv X pins σ (upd H p (.dK kvs)) s' → Q (.ref p) s') : wpAny (model X.prog X.w) A (call (.type "dict") [.ref a]) Q E s := by
  obtain ⟨z, hd, vs, rel, dd⟩ := dk_rd I.hok e
  refine kt_call_dict hd dd (by rw [← rel.length]; exact z) fun h' dd' hs => ?_
  refine h _ _ (I.hok.fresh (Nat.le_refl _)) (I.laid (a := s.heap.objs.size) (o := .dK kvs) (t' := s.toks) (fun b q hq => ?_) (Nat.le_refl _) (dk_new z (beq_eq_false_iff_ne.mpr (Ne.symm (Nat.ne_of_lt I.big))) rel dd'))
  exact (hs.2 b (Nat.ne_of_lt (Heap.lt_size hq))).trans (Heap.get?_push_of_some _ hq)
end


section
variable {X : Cx} {pins : List (Addr × Obj)} {σ : St} {H : Hp} {s : Shared} {a : Addr} {y : V} {u : Value} {A : Around} {E : Value → Shared → Prop}
/-- d[y], not there: a KeyError -/
theorem d_missing {Q : Value → Shared → Prop} (hu : A.units + 1 < cLine) (hh : A.handled = none) (I : Inv X pins σ H s) (g : DGet H a y none) (ry : RelV y u)
    (h : ∀ h' e t', Heap.NewExc s.heap h' e "KeyError" → E (.ref e) { s with heap := h', toks := t' }) : wpAny (model X.prog X.w) A (getItem (.ref a) u) Q E s := by
  rcases g with ⟨kvs, k, e, ey, l⟩ | ⟨kvs, k, b, e, ey, eb, l⟩
  · subst ey
    obtain ⟨z, hd, vs, rel, dd⟩ := dk_rd I.hok e
    have hn : valueAt vs k = none := RelO.none_of (by rw [l]; exact rel.val k)
    exact wpAny_getItem_missing_of (kV_is ry) hd hh dd.mapOf hn fun h' ex ne => h h' ex _ ne
  · subst ey
    cases (show u = Value.ref b from ry)
    obtain ⟨z, hd, xs, rel, dd⟩ := dt_rd I.hok e
    have hn : (atKey xs k).map (·.2) = none := RelO.none_of (by rw [l]; exact rel.val k)
    exact wpAny_getItem_missing_heap (tupleKind_room_in1 hu) (key_of I.hok eb) hd hh dd (Option.map_eq_none_iff.mp hn) fun h' ex ne => h h' ex _ ne
end
end L2

namespace Att
open PySem PySem.W PySem.Calls PyProof.Rows

/-! ### the script -/
theorem ints_of_wellAll {P : Params} {h : Heap} : ∀ (ns : List Int) (vs : List Value), WellAll P h vs (ns.map WData.int) → IntsAre vs ns := by
  intro ns
  induction ns with
  | nil =>
    intro vs w
    rw [List.map_nil] at w
    cases w
    exact .nil
  | cons n ns ih =>
    intro vs w
    rw [List.map_cons] at w
    cases w with
    | cons a b =>
      cases a
      exact .cons _ _ (ih _ b)

theorem script_of {l : OpenLaw} {n : Nat} (hn : l.most = some n) {P : Params} {h : Heap} {args : List WData} {vals : List Value}
    (hpre : l.row.toRowW.claim.pre args = true) (hwl : WellAll P h vals args) :
    ∃ a vs ns, vals = [Value.ref a] ∧ args = [WData.list (ns.map WData.int)] ∧ h.get? a = some { cls := .type "list", data := .seq vs.toArray } ∧ IntsAre vs ns ∧ ns.length ≤ n := by
  have hsh : WShape.hasAll [] args [.list .int] = true := (pre_splitW hpre).1
  have hc : l.pre.holds [] { args := args } = true := (pre_splitW hpre).2
  obtain ⟨d, r, rfl, h1, h2⟩ := hasAllW_cons hsh
  obtain rfl := hasAllW_nil h2
  obtain ⟨xs, rfl, h3⟩ := hasW_list h1
  obtain ⟨ns, rfl⟩ := items_int h3
  have hlen : ns.length ≤ n := by
    unfold OpenLaw.pre at hc
    have h4 : (WTm.not (.lt (.lit (.int (n : Int))) (.len (.arg 0)))).holds [] { args := [.list (ns.map .int)] } = true := by
      have h4 := (holds_andW hc).1
      rw [hn] at h4
      exact h4
    have h5 := condW_of h4 (w_not (w_lt w_lit (w_len_list (w_arg rfl))))
    rw [List.length_map] at h5
    refine Nat.le_of_not_lt fun q => ?_
    have q' : (n : Int) < ((ns.length : Nat) : Int) := by omega
    first
      | (rw [decide_eq_true q'] at h5; exact absurd h5 (by decide))
      | (simp at h5; omega)
  cases hwl with
  | cons w1 w2 =>
    cases w2
    cases w1 with
    | list ho hall => exact ⟨_, _, ns, rfl, rfl, ho, ints_of_wellAll ns _ hall, hlen⟩

theorem post_true (l : OpenLaw) (args : List WData) : l.row.toRowW.claim.post args (.bool true) args = true :=
  postW_of (r := l.row.toRowW) (X := (true == true))
    (show WShape.has [] (.bool true) .bool = true by first | rfl | decide | simp [WShape.has, WShape.arms, WShape.armsAll])
    (show (WTm.eq .res (.lit (.bool true))).value [] { args := args, res := some (.bool true), after := args } = some (.bool (true == true)) from w_eq_bool (w_res rfl) w_lit) rfl

/-! ### the attachment: holds_open's last premise (the goal 'hc' behind k_head) from a wpAny of the law's body -/
theorem attach {l : OpenLaw} {n : Nat} {q : Program} {loose : List Str} {XP : (Str → Option Value) → Heap → Prop} {YP : World → Heap → Prop} {d : DefRec} {x : Str}
    (hn : l.most = some n) (hdf : d.params.defaults = [])
    (hbind : ∀ pm cd doc v : Value, bindArgs (docDef d.name d.params d.body d.scope pm cd doc) ⟨[v], []⟩ = pure [(x, v)])
    (hx : d.scope.names.lookup x = some .local ∨ d.scope.names.lookup x = some .cell)
    (hk : d.scope.kind = .function) (hco : d.scope.isCoroutine = false) (hgen : d.scope.isGenerator = false)
    (body : ∀ (w : World) (s₀ s₁ s : Shared) (mg mb : Str → Option Value) (fa : Addr) (o : Obj) (pm cd doc : Value) (a : Addr) (vs : List Value) (ns : List Int),
      Ground q loose [] XP w s₀ mg mb s₁.heap → YP w s₁.heap →
      s₁.heap.get? fa = some o → o.data = .func (docDef d.name d.params d.body d.scope pm cd doc) → s₁.heap.CodeRec cd d.name → mg d.name = some (.ref fa) →
      s₁.heap.get? a = some { cls := .type "list", data := .seq vs.toArray } → IntsAre vs ns → ns.length ≤ n →
      s.gens = #[] → s.os = s₁.os →
      Fr s₁.heap s₁.heap.objs.size s.heap (bindL (envOfC d.name d.scope s₁.heap.objs.size fa cd).kindOf [(x, .ref a)] fun _ => none) →
      Cl s₁.heap.objs.size (cellsFrom (s₁.heap.objs.size + 1) d.scope.names []) s.heap (bindC (envOfC d.name d.scope s₁.heap.objs.size fa cd).kindOf [(x, .ref a)] fun _ => none) →
      wpAny (model l.prog w) (callerA.deeper (envOfC d.name d.scope s₁.heap.objs.size fa cd)) (execs d.body (envOfC d.name d.scope s₁.heap.objs.size fa cd))
        (fun f s' => f = .ret (.bool true) ∧ OldK s₁.heap s'.heap ∧ s'.os = s₁.os ∧ AllBare s'.gens) (fun _ _ => False) s) :
    WalkO q loose XP YP l.row.toRowW d [] (fun f vs => PySem.call f vs) := by
  intro w s₀ s₁ mg mb G Y fa o pm cd doc dV kV ho hd hcd hD hmg hg args vals as hpre hlay hrd hwl hlo
  obtain rfl : dV = .none := Dflts.none hD hdf
  obtain rfl : kV = .none := Dflts.noKw hD
  obtain ⟨a, vs, ns, rfl, rfl, hobj, hints, hlen⟩ := script_of hn hpre hwl
  refine enter_call ?_
  refine call_cells_ret (o := o) (by rw [depth_caller]; decide) ho (fd_plain hd) G.T.nolimit hcd (hbind pm cd doc (.ref a)) (fun y hy => ?_) (fun h₁ tk F X => ?_) hco hgen hk
  · obtain rfl : y = (x, Value.ref a) := List.mem_singleton.mp hy
    rcases hx with e | e
    · exact .inl e
    · exact .inr ⟨e, cellsFrom_some _ _ _ (.inl e)⟩
  · refine wpAny_mono (body w s₀ s₁ { s₁ with heap := h₁, toks := tk } mg mb fa o pm cd doc a vs ns G Y ho (fd_plain hd) hcd hmg hobj hints hlen hg rfl F X) (fun f s' hq => ?_) (fun _ _ hq => hq)
    obtain ⟨rfl, h2, h3, h4⟩ := hq
    exact ⟨.inl ⟨.bool true, .bool true, [], rfl, fun _ => rfl, .bool true, post_true l _, fun _ => ⟨List.Pairwise.nil, fun _ hm => (nomatch hm)⟩⟩, h2, h3, h4⟩

/-- the same from a codeAny of the CALL (for a layer whose function contracts speak of calls) -/
theorem attach_call {l : OpenLaw} {n : Nat} {q : Program} {loose : List Str} {XP : (Str → Option Value) → Heap → Prop} {YP : World → Heap → Prop} {d : DefRec}
    (hn : l.most = some n) (hdf : d.params.defaults = [])
    (call : ∀ (w : World) (s₀ s₁ : Shared) (mg mb : Str → Option Value) (fa : Addr) (o : Obj) (pm cd doc : Value) (a : Addr) (vs : List Value) (ns : List Int),
      Ground q loose [] XP w s₀ mg mb s₁.heap → YP w s₁.heap →
      s₁.heap.get? fa = some o → o.data = .func (docDef d.name d.params d.body d.scope pm cd doc) → s₁.heap.CodeRec cd d.name → mg d.name = some (.ref fa) →
      s₁.heap.get? a = some { cls := .type "list", data := .seq vs.toArray } → IntsAre vs ns → ns.length ≤ n → s₁.gens = #[] →
      codeAny (model l.prog w) callerA (.call (.ref fa) ⟨[.ref a], []⟩) (fun r s' => r = .ok (.ret (.bool true)) ∧ OldK s₁.heap s'.heap ∧ s'.os = s₁.os ∧ AllBare s'.gens) s₁) :
    WalkO q loose XP YP l.row.toRowW d [] (fun f vs => PySem.call f vs) := by
  intro w s₀ s₁ mg mb G Y fa o pm cd doc dV kV ho hd hcd hD hmg hg args vals as hpre hlay hrd hwl hlo
  obtain rfl : dV = .none := Dflts.none hD hdf
  obtain rfl : kV = .none := Dflts.noKw hD
  obtain ⟨a, vs, ns, rfl, rfl, hobj, hints, hlen⟩ := script_of hn hpre hwl
  refine enter_call (codeAny_mono (call w s₀ s₁ mg mb fa o pm cd doc a vs ns G Y ho (fd_plain hd) hcd hmg hobj hints hlen hg) fun r s' hq => ?_)
  obtain ⟨rfl, h2, h3, h4⟩ := hq
  exact ⟨.inl ⟨.bool true, .bool true, [], rfl, fun _ => rfl, .bool true, post_true l _, fun _ => ⟨List.Pairwise.nil, fun _ hm => (nomatch hm)⟩⟩, h2, h3, h4⟩

/-- the same where the top left finished generators (o_head chose holds_openN): nothing may have changed at all and no generator may be left -/
theorem attachN {l : OpenLaw} {n : Nat} {q : Program} {loose : List Str} {XP : (Str → Option Value) → Heap → Prop} {YP : World → Heap → Prop} {d : DefRec} {x : Str}
    (hn : l.most = some n) (hdf : d.params.defaults = [])
    (hbind : ∀ pm cd doc v : Value, bindArgs (docDef d.name d.params d.body d.scope pm cd doc) ⟨[v], []⟩ = pure [(x, v)])
    (hx : d.scope.names.lookup x = some .local ∨ d.scope.names.lookup x = some .cell)
    (hk : d.scope.kind = .function) (hco : d.scope.isCoroutine = false) (hgen : d.scope.isGenerator = false)
    (body : ∀ (w : World) (s₀ s₁ s : Shared) (mg mb : Str → Option Value) (fa : Addr) (o : Obj) (pm cd doc : Value) (a : Addr) (vs : List Value) (ns : List Int),
      Ground q loose [] XP w s₀ mg mb s₁.heap → YP w s₁.heap →
      s₁.heap.get? fa = some o → o.data = .func (docDef d.name d.params d.body d.scope pm cd doc) → s₁.heap.CodeRec cd d.name → mg d.name = some (.ref fa) →
      s₁.heap.get? a = some { cls := .type "list", data := .seq vs.toArray } → IntsAre vs ns → ns.length ≤ n →
      s.gens = #[] → s.os = s₁.os →
      Fr s₁.heap s₁.heap.objs.size s.heap (bindL (envOfC d.name d.scope s₁.heap.objs.size fa cd).kindOf [(x, .ref a)] fun _ => none) →
      Cl s₁.heap.objs.size (cellsFrom (s₁.heap.objs.size + 1) d.scope.names []) s.heap (bindC (envOfC d.name d.scope s₁.heap.objs.size fa cd).kindOf [(x, .ref a)] fun _ => none) →
      wpAny (model l.prog w) (callerA.deeper (envOfC d.name d.scope s₁.heap.objs.size fa cd)) (execs d.body (envOfC d.name d.scope s₁.heap.objs.size fa cd))
        (fun f s' => f = .ret (.bool true) ∧ (∀ b o, s₁.heap.get? b = some o → s'.heap.get? b = some o) ∧ s'.os = s₁.os ∧ s'.gens = #[]) (fun _ _ => False) s) :
    WalkN q loose XP YP l.row.toRowW d [] (fun f vs => PySem.call f vs) := by
  intro w s₀ s₁ mg mb G Y fa o pm cd doc dV kV ho hd hcd hD hmg hg args vals as hpre hlay hrd hwl hlo
  obtain rfl : dV = .none := Dflts.none hD hdf
  obtain rfl : kV = .none := Dflts.noKw hD
  obtain ⟨a, vs, ns, rfl, rfl, hobj, hints, hlen⟩ := script_of hn hpre hwl
  refine enter_callW ?_
  refine call_cells_ret (o := o) (by rw [depth_caller]; decide) ho (fd_plain hd) G.T.nolimit hcd (hbind pm cd doc (.ref a)) (fun y hy => ?_) (fun h₁ tk F X => ?_) hco hgen hk
  · obtain rfl : y = (x, Value.ref a) := List.mem_singleton.mp hy
    rcases hx with e | e
    · exact .inl e
    · exact .inr ⟨e, cellsFrom_some _ _ _ (.inl e)⟩
  · refine wpAny_mono (body w s₀ s₁ { s₁ with heap := h₁, toks := tk } mg mb fa o pm cd doc a vs ns G Y ho (fd_plain hd) hcd hmg hobj hints hlen hg rfl F X) (fun f s' hq => ?_) (fun _ _ hq => hq)
    obtain ⟨rfl, h2, h3, h4⟩ := hq
    exact ⟨.inl ⟨.bool true, .bool true, [], rfl, fun _ => rfl, .bool true, post_true l _, fun _ => ⟨List.Pairwise.nil, fun _ hm => (nomatch hm)⟩⟩, h2, h3, h4⟩

/-! ### rules over ANY heap (no ledger) from facts about the written part K: the library's own take a ledger (News) for what they write -/
section
variable {prog : Program} {w : World} {A : Around} {E : Value → Shared → Prop} {s : Shared} {K : Frag}

/-- a def of the module, or a method (qual 'C.m'), entered: the frame is the next address; cells behind it -/
theorem call_fn {R : Result → Shared → Prop} {name qual : Str} {params : Arguments} {body : List Stmt} {scope : Scope} {dV kV doc pm cdv ct oc : Value} {an od : Option Addr} {osl : Array (Option Value)} {f : Addr} {args : Args} {binds : List (Str × Value)}
    (X : K.In s.heap) (hlim : s.heap.NoLimit) (ho : K.lookup f = some ⟨oc, od, .func (fnOf name qual params body scope dV kV doc pm an cdv ct), osl⟩) (hcd : codeIn K cdv qual = true) (hroom : A.depth < recursionLimit)
    (hbind : BindsTo s (fnOf name qual params body scope dV kV doc pm an cdv ct) args binds)
    (hkind : (binds.all fun y => scope.names.lookup y.1 == some .local || scope.names.lookup y.1 == some .cell) = true)
    (h : ∀ s₁, InCallC s s.heap.objs.size (bindL (envOfC qual scope s.heap.objs.size f cdv).kindOf binds fun _ => none) (cellsFrom (s.heap.objs.size + 1) scope.names [])
        (bindC (envOfC qual scope s.heap.objs.size f cdv).kindOf binds fun _ => none) s₁ →
      wpAny (model prog w) (A.deeper (envOfC qual scope s.heap.objs.size f cdv)) (execs body (envOfC qual scope s.heap.objs.size f cdv))
        (fun fl s' => R (.ok (.ret (match fl with | .ret v => v | _ => .none))) s')
        (fun e s' => wpAny (model prog w) (A.deeper (envOfC qual scope s.heap.objs.size f cdv)) (leaving (envOfC qual scope s.heap.objs.size f cdv) e) (fun _ s'' => R (.error e) s'') (fun e' s'' => R (.error e') s'') s') s₁)
    (hco : scope.isCoroutine = false) (hgen : scope.isGenerator = false) (hk : scope.kind = .function) : codeAny (model prog w) A (.call (.ref f) args) R s := by
  refine codeAny_call_function hroom (X _ _ ho) rfl hco hgen rfl (codeRec_of X hcd) (hbind _ _ _ _ ?_)
  refine wpAny_newFunctionEnv_cells hk (kindsX hkind _) fun env he s₁ x => ?_
  subst he
  exact ⟨hlim.keeps x.toInCall.keep, codeAny_func (h s₁ x)⟩

/-- C(..): dict at size, instance at size + 1, then __init__ -/
theorem make_obj {R : Result → Shared → Prop} {C fI : Addr} {rest : List Value} {kw : List (Str × Value)}
    (X : K.In s.heap) (hm : makesIn K C = true) (hi : findIn K (.ref C) "__init__" = some (some (.ref fI))) (hf : isFn K (.ref fI) = true)
    (h : codeAny (model prog w) (A.under (.builtin "type.__call__" ⟨.ref C :: rest, kw⟩)) (.call (.ref fI) ⟨.ref (s.heap.objs.size + 1) :: rest, kw⟩) (InitBack (s.heap.objs.size + 1) R)
      { s with heap := (s.heap.push emptyDict).push (instObj C s.heap.objs.size) }) : codeAny (model prog w) A (.call (.ref C) ⟨rest, kw⟩) R s := by
  obtain ⟨hh, g, d, t, os⟩ := s
  exact make_core (makes_of X hm) (looks_findIn X hi) (fun self => bind_fn X self (beq_iff_eq.mp hf)) (.inl rfl) h

/-- x.name where the instance's dict holds the name and the class does not -/
theorem get_field {x C : Addr} {ox : Obj} {es : List DictEntry} {n : Nat} {name : Str} {expr : Bool} {v : Value} {Q : Value → Shared → Prop}
    (X : K.In s.heap) (I : PySem.W.InstAt s.heap x ox C (some (dictOf es n))) (hg : plainGet K C name = true) (hh : hasDictIn K C = true) (ha : findIn K (.ref C) name = some none)
    (hl : getL name es = some (some v)) (hv : handedIn v = true) (h : Q v { s with toks := s.toks + 1 }) : wpAny (model prog w) A (getAttr (.ref x) name expr) Q E s :=
  get_value X I (plainGet_of hg).1 (findObj_own hh ha rfl hl) hv h

/-- x.m(..): the method found in the class -/
theorem get_method {x C f : Addr} {ox : Obj} {es : List DictEntry} {n : Nat} {name : Str} {pl : Sem Bool} {Q : Value × List Value → Shared → Prop}
    (X : K.In s.heap) (I : PySem.W.InstAt s.heap x ox C (some (dictOf es n))) (hg : plainGet K C name = true) (hf : findIn K (.ref C) name = some (some (.ref f))) (ht : isFn K (.ref f) = true)
    (hl : getL name es = some none) (h : Q (.ref f, [.ref x]) s) : wpAny (model prog w) A (getMethod (.ref x) name pl) Q E s :=
  method_fn X I (plainGet_of hg).1 (plainGet_of hg).2 hf (beq_iff_eq.mp ht) (by show (lookIn name (dictOf es n)).map _ = _; rw [lookIn_dict, hl]; rfl) h

/-! the whole heap as the ledger: makes every rule that writes through a ledger a rule over any heap -/
def noObjs (h : Heap) : Heap := { h with objs := #[] }
theorem noObjs_get (h : Heap) (b : Addr) : (noObjs h).get? b = none := by
  cases e : (noObjs h).get? b with
  | none => rfl
  | some o => exact absurd (Heap.lt_size e) (Nat.not_lt_zero _)
def ledger (h : Heap) (L d : Addr) : List (Addr × Obj) := (List.range h.objs.size).filterMap fun a => if a = L ∨ a = d then none else (h.get? a).map fun o => (a, o)
theorem mem_ledger {h : Heap} {L d a : Addr} {o : Obj} : (a, o) ∈ ledger h L d ↔ a ≠ L ∧ a ≠ d ∧ h.get? a = some o := by
  unfold ledger
  rw [List.mem_filterMap]
  constructor
  · rintro ⟨b, _, e⟩
    split at e
    · cases e
    · rename_i hb
      obtain ⟨o', ho, e'⟩ := Option.map_eq_some_iff.mp e
      cases e'
      exact ⟨fun q => hb (.inl q), fun q => hb (.inr q), ho⟩
  · rintro ⟨n1, n2, ho⟩
    refine ⟨a, List.mem_range.mpr (Heap.lt_size ho), ?_⟩
    rw [if_neg (show ¬ (a = L ∨ a = d) from fun q => q.elim n1 n2), ho] <;> rfl
theorem news_ledger {h : Heap} {L d : Addr} {od : Obj} (hne : d ≠ L) (ho : h.get? d = some od) : News (noObjs h) L h ([] ++ (d, od) :: ledger h L d) := by
  rintro ⟨a, o⟩ hp
  rcases List.mem_cons.mp hp with e | hp
  · cases e
    exact ⟨ho, hne, noObjs_get _ _⟩
  · obtain ⟨n1, n2, e⟩ := mem_ledger.mp hp
    exact ⟨e, n1, noObjs_get _ _⟩
theorem fr_all {h : Heap} {L : Addr} {m : Str → Option Value} (n : h.Ns L m) : Fr (noObjs h) L h m :=
  ⟨n, fun b o e => (by rw [noObjs_get] at e; cases e), Nat.zero_le _⟩
/-- Upd of the head entry (for append_K, setItem_K ..) -/
theorem upd_ledger {h : Heap} {L d : Addr} {o o' : Obj} : Upd d o o' ((d, o) :: ledger h L d) ((d, o') :: ledger h L d) :=
  .head fun ⟨_, _⟩ hp => (mem_ledger.mp hp).2.1

/-- x.name = v over any heap: L is any namespace of the heap (the frame's, say): its map stays, its object is not told; all else but the dict stays -/
theorem set_field {x C dx L : Addr} {ox : Obj} {m : Str → Option Value} {es es' : List DictEntry} {n n' : Nat} {name : Str} {v : Value} {Q : Unit → Shared → Prop}
    (X : K.In s.heap) (I : PySem.W.InstAt s.heap x ox C (some (dictOf es n))) (hd : ox.dict = some dx) (hL : s.heap.Ns L m) (hne : dx ≠ L)
    (hs : findIn K (.ref C) "__setattr__" = some (some (.builtin "object.__setattr__"))) (hp : plainOver K C = true) (ht : takerIn K C name = some none) (hh : hasDictIn K C = true) (hl : (getL name es).isSome = true)
    (e : (putL name (PyData.keyHash w.params name) (.str name (s.toks + 1)) v es, putN name es n) = (es', n')) (hz : es'.length ≤ 1000)
    (h : ∀ h' : Heap, h'.Ns L m → h'.get? dx = some (dictOf es' n') → (∀ b o, b ≠ dx → b ≠ L → s.heap.get? b = some o → h'.get? b = some o) → Q () { s with heap := h', toks := s.toks + 2 }) :
    wpAny (model prog w) A (setAttr (.ref x) name v) Q E s := by
  obtain ⟨e1, e2⟩ := Prod.mk.inj e
  have hdx : s.heap.get? dx = some (dictOf es n) := by
    have := I.dict
    rw [hd] at this
    exact this
  refine set_plain X I hs (osa_dict (s := { s with toks := s.toks + 1 }) (h₀ := noObjs s.heap) (L := L) (m := m) (od := dictOf es n) (od' := dictOf es' n') (es := es') (n := n') (pre := []) (post := ledger s.heap L dx)
    (fr_all hL) (news_ledger hne hdx) X I hd hp ht hh hl (fun _ q => nomatch q) (fun ⟨_, _⟩ q => (mem_ledger.mp q).2.1) (by rw [putName_dict, e1, e2]) rfl hz fun h' F' N' => ?_)
  exact h h' F'.ns (N'.get (List.Mem.head _)) fun b o n1 n2 ho => N'.get (List.Mem.tail _ (mem_ledger.mpr ⟨n2, n1, ho⟩))
end
end Att

namespace L2
open PySem PySem.Spec PyProof.Rows

theorem vals_ints : ∀ {vs : List Value} {ns : List Int}, IntsAre vs ns → Vals (ns.map V.int) vs
  | _, _, .nil => .nil
  | _, _, .cons n t h => .cons ⟨t, rfl⟩ (vals_ints h)

/-- nothing is tracked but the script, known to the object (or it is an object of the module) -/
def Only (H : Hp) : Prop := ∀ b, H b = none ∨ ∃ o xs, H b = some (.frz o (.lst xs))

/-- THE HEAD: the law's promise, at the heap behind the top. F, the promise of the law's def, may use that base is part of the heap (so K.In base, base.Ns mainGlobals mg stand in Mod) -/
theorem law_call {P : Program} {w : World} {K : PySem.W.Frag} {mg mb : Str → Option Value} {CX : CXT} {k : Nat} {fa a : Addr} {fd : FuncData} {x : Str} {sp : Sp} {s₁ : Shared} {vs : List Value} {ns : List Int}
    (KX : K.In s₁.heap) (hns : s₁.heap.Ns mainGlobals mg) (hb : s₁.heap.Ns builtinsNs mb) (hbb : ∀ x : Str, x ≠ "__name__" → mb x = bootBuiltins x) (hlim : s₁.heap.NoLimit) (hg : s₁.gens = #[])
    (ha : s₁.heap.get? a = some { cls := .type "list", data := .seq vs.toArray }) (hi : IntsAre vs ns) (hl : ns.length ≤ sizeLine) (hr : Room k callerA)
    (F : ∀ base : Heap, K.In base → base.Ns mainGlobals mg → FnOk P w K mg base CX k fa fd [x] sp) (hbind : ∀ (s : Shared) (u : Value), BindsTo s fd ⟨[u], []⟩ [(x, u)])
    (hsp : ∀ H : Hp, Only H → SqL K H a (ns.map V.int) → sp [.ref a] H (fun v _ => v = .bl true) fun _ _ _ => False)
    (hCX : ∀ H e s', CX [] H s₁ (fun _ _ _ => False) e s' → False) :
    codeAny (model P w) callerA (.call (.ref fa) ⟨[.ref a], []⟩) (fun r s' => r = .ok (.ret (.bool true)) ∧ OldK s₁.heap s'.heap ∧ s'.os = s₁.os ∧ AllBare s'.gens) s₁ := by
  have rv := vals_ints hi
  have lenV := hi.length
  -- from an abstract heap in which nothing but the script may be tracked
  have core : ∀ H : Hp, Only H → SqL K H a (ns.map V.int) → HOk P w H s₁.heap → (∀ b, H b ≠ none → b = a) → (H a ≠ none → K.lookup a = none) →
      codeAny (model P w) callerA (.call (.ref fa) ⟨[.ref a], []⟩) (fun r s' => r = .ok (.ret (.bool true)) ∧ OldK s₁.heap s'.heap ∧ s'.os = s₁.os ∧ AllBare s'.gens) s₁ := by
    intro H hO hS hok hA hK
    have base_of : ∀ {b : Addr} {o : Obj}, s₁.heap.get? b = some o → H b = none → (hidT s₁.heap H).get? b = some o := fun e n => hidT_get e n
    have noA : ∀ {b : Addr} {o : Obj} {es : Array DictEntry} {ep : Nat}, s₁.heap.get? b = some o → o.data = .dict es ep → H b = none := fun {b o es ep} e d => by
      cases q : H b with
      | none => rfl
      | some u =>
        have e' : b = a := hA b (by rw [q]; simp)
        subst e'
        rw [ha] at e; cases e
        have d' : Data.seq vs.toArray _ = Data.dict es ep := d
        cases d'
    have nsK : ∀ {b : Addr} {m : Str → Option Value}, s₁.heap.Ns b m → (hidT s₁.heap H).Ns b m := fun {b m} ⟨o, es, ep, e, d, r⟩ => ⟨o, es, ep, base_of e (noA e d), d, r⟩
    have hKb : K.In (hidT s₁.heap H) := fun b o e => base_of (KX b o e) (by
      cases q : H b with
      | none => rfl
      | some u =>
        have e' : b = a := hA b (by rw [q]; simp)
        subst e'
        rw [hK (by rw [q]; simp)] at e; cases e)
    have hM : Mod K mg (hidT s₁.heap H) := ⟨hKb, nsK hns, ⟨mb, nsK hb, hbb⟩, let ⟨mc, h1, h2⟩ := hlim; ⟨mc, nsK h1, h2⟩⟩
    have e0 : Env0 P w K mg (hidT s₁.heap H) callerA [] s₁ H := ⟨rfl, hM, fun b o e => of_hidT e, Nat.le_of_eq (hidT_size _ _), trivial, fun b hb => absurd (show b ∈ ([] : List Addr) from hb) (by simp), hok, .of_eq hg⟩
    refine codeAny_mono ((F _ hKb (nsK hns)).run callerA [] s₁ H ⟨[.ref a], []⟩ [.ref a] [.ref a] _ _ hr e0 (hbind s₁ (.ref a)) (.cons rfl .nil) (hsp H hO hS)) fun r s' h => ?_
    cases r with
    | error e => exact (hCX H e s' h).elim
    | ok fl =>
      cases fl with
      | next => exact False.elim h
      | brk => exact False.elim h
      | cont => exact False.elim h
      | ret u =>
        obtain ⟨v, H', os, bare, un, hok', r', q⟩ := h
        have q' : v = .bl true := q
        subst q'
        obtain rfl : u = Value.bool true := r'
        refine ⟨rfl, OldK.of_keep fun b o e => ?_, os, bare⟩
        cases q : H b with
        | none => exact un.keep b o e q (by intro z; exact absurd (show b ∈ ([] : List Addr) from z) (by simp)) (by simp)
        | some u =>
          rcases hO b with z | ⟨ob, xs, z⟩
          · rw [q] at z; cases z
          · have z2 := un.frzs b ob _ z
            obtain ⟨e1, _⟩ := hok b _ z
            obtain ⟨e2, _⟩ := hok' b _ z2
            rw [e] at e1; cases e1
            exact e2
  cases hk : K.lookup a with
  | some o =>
    -- the script is one of the module's own objects
    have e := KX a o hk
    rw [ha] at e
    cases e
    refine core (fun _ => none) (fun _ => .inl rfl) (.inr ⟨_, vs.toArray, _, hk, rfl, rfl, rfl, by rw [List.size_toArray, lenV]; exact hl, by simpa using rv⟩) (fun b u z => by have z' : (none : Option HO) = some u := z; cases z') (fun b z => absurd rfl z) fun z => absurd rfl z
  | none =>
    refine core (fun b => if b = a then some (.frz { cls := .type "list", data := .seq vs.toArray } (.lst (ns.map V.int))) else none) (fun b => ?_) (.inl (.inr ⟨{ cls := .type "list", data := .seq vs.toArray }, if_pos rfl⟩)) (fun b u z => ?_) (fun b z => ?_) fun _ => hk
    · by_cases hb : b = a
      · exact .inr ⟨_, _, if_pos hb⟩
      · exact .inl (if_neg hb)
    · by_cases hb : b = a
      · have z' := (if_pos hb).symm.trans z
        cases z'
        subst hb
        exact ⟨ha, by rw [List.length_map]; exact hl, vs, _, rv, ha⟩
      · have z' := (if_neg hb).symm.trans z
        cases z'
    · by_cases hb : b = a
      · exact hb
      · exact absurd (if_neg hb) z
end L2

namespace L2
open PySem PySem.Spec PyProof.Rows

abbrev KOf {K : PySem.W.Frag} {h : Heap} (_ : K.In h) : PySem.W.Frag := K

/-- the goal that k_head leaves (case hc), from the law's promise. F gives the function object fd (K's own) once, then the promise over every base -/
theorem walk_of {l : PySem.W.OpenLaw} {n k : Nat} {q : Program} {loose : List Str} {XP : (Str → Option Value) → Heap → Prop} {YP : World → Heap → Prop} {d : DefRec} {K : Params → PySem.W.Frag} {CX : World → CXT} {sp : World → Sp} {x : Str}
    (hn : l.most = some n) (hn2 : n ≤ sizeLine) (hdf : d.params.defaults = []) (hr : Room k callerA)
    (hY : ∀ (w : World) (h : Heap), YP w h → (K w.params).In h)
    (F : ∀ (w : World) (mg : Str → Option Value) (fa : Addr) (h : Heap), (K w.params).In h → h.Ns mainGlobals mg → mg d.name = some (.ref fa) →
      ∃ fd : FuncData, (∀ (s : Shared) (u : Value), BindsTo s fd ⟨[u], []⟩ [(x, u)]) ∧
        ∀ base : Heap, (K w.params).In base → base.Ns mainGlobals mg → FnOk l.prog w (K w.params) mg base (CX w) k fa fd [x] (sp w))
    (hsp : ∀ (w : World) (H : Hp) (a : Addr) (ns : List Int), ns.length ≤ n → Only H → SqL (K w.params) H a (ns.map V.int) → sp w [.ref a] H (fun v _ => v = .bl true) fun _ _ _ => False)
    (hCX : ∀ (w : World) (H : Hp) (s : Shared) (e : Value) (s' : Shared), CX w [] H s (fun _ _ _ => False) e s' → False) :
    PySem.W.WalkO q loose XP YP l.row.toRowW d [] (fun f vs => PySem.call f vs) := by
  refine Att.attach_call hn hdf fun w s₀ s₁ mg mb fa o pm cd doc a vs ns G Y ho hd hcd hmg hobj hints hlen hg => ?_
  have KX := hY w _ Y
  obtain ⟨fd, hb, hF⟩ := F w mg fa _ KX G.T.g hmg
  exact law_call KX G.T.g G.T.b G.T.builtins G.T.nolimit hg hobj hints (Nat.le_trans hlen hn2) hr hF hb (fun H hO hS => hsp w H a ns hlen hO hS) fun H e s' => hCX w H s₁ e s'
/-- the same where the promise hangs on the written part alone: (sp := My.sp_law), no hole under a binder -/
theorem walk_ofK {l : PySem.W.OpenLaw} {n k : Nat} {q : Program} {loose : List Str} {XP : (Str → Option Value) → Heap → Prop} {YP : World → Heap → Prop} {d : DefRec} {K : Params → PySem.W.Frag} {CX : CXT} {sp : PySem.W.Frag → Sp} {x : Str}
    (hn : l.most = some n) (hn2 : n ≤ sizeLine) (hdf : d.params.defaults = []) (hr : Room k callerA)
    (hY : ∀ (w : World) (h : Heap), YP w h → (K w.params).In h)
    (F : ∀ (w : World) (mg : Str → Option Value) (fa : Addr) (h : Heap), (K w.params).In h → h.Ns mainGlobals mg → mg d.name = some (.ref fa) →
      ∃ fd : FuncData, (∀ (s : Shared) (u : Value), BindsTo s fd ⟨[u], []⟩ [(x, u)]) ∧
        ∀ base : Heap, (K w.params).In base → base.Ns mainGlobals mg → FnOk l.prog w (K w.params) mg base CX k fa fd [x] (sp (K w.params)))
    (hsp : ∀ (K : PySem.W.Frag) (H : Hp) (a : Addr) (ns : List Int), ns.length ≤ n → Only H → SqL K H a (ns.map V.int) → sp K [.ref a] H (fun v _ => v = .bl true) fun _ _ _ => False)
    (hCX : ∀ (H : Hp) (s : Shared) (e : Value) (s' : Shared), CX [] H s (fun _ _ _ => False) e s' → False) :
    PySem.W.WalkO q loose XP YP l.row.toRowW d [] (fun f vs => PySem.call f vs) :=
  walk_of (K := K) (CX := fun _ => CX) (sp := fun w => sp (K w.params)) hn hn2 hdf hr hY F (fun w H a ns h1 h2 h3 => hsp (K w.params) H a ns h1 h2 h3) fun _ H s e s' => hCX H s e s'
end L2

/- THE LAST THEOREM (shape; LID, My.* are yours):
   My.Adr: a structure of the addresses that your layer names (classes, functions); My.Txt K t: a structure (Prop) of the equations over K;
   My.txt_mk : {K} {implicit addresses ..} (e1 : nsIn K mainGlobals "law" = some (some (.ref f))) (e2 : K.lookup f = some ⟨oc, od, .func (fnOf "law" "law" params body scope dV kV doc pm an cdv ct), sl⟩) (e3 : codeIn K cdv "law" = true) .. : ∃ t, My.Txt K t

set_option maxRecDepth 100000 in
set_option maxHeartbeats 0 in
theorem PySem.Challenge.cw_LID_holds : PySem.Challenge.rw_LID.Holds := by
  w_on; o_law; k_head; (case hw => w_witness2)
  k_fill
  refine L2.walk_of (l := PySem.Challenge.rw_LID) (n := 63) (k := 40) (x := "script") (CX := fun w => ..) (sp := fun _ => My.sp_law) rfl (by decide) rfl ⟨rfl, by decide, by decide⟩ (fun w h Y => PySem.W.kIn_of Y) ?F ?S ?C
  case F =>
    intro w mg fa h KX G hmg
    have T : ∃ t, My.Txt (L2.KOf KX) t := by
      dsimp only [L2.KOf]                          -- K must stand as «<heap const> w.params» for k_is
      refine' My.txt_mk ?e1 ?e2 ?e3 ..
      (case e1 => PySem.W.k_is)                    -- in the order: a name -> its address -> its object -> its parts
      (case e2 => PySem.W.k_is)
      ..
    obtain ⟨t, T⟩ := T
    have e0 := hmg.symm.trans (PySem.W.mg_of KX G T.law)
    cases e0                                       -- fa is the law's own address
    exact ⟨_, fun s u => .of_eq rfl, fun base kb nb => My.law_fn T kb nb⟩     -- if «.of_eq rfl» comes too early: refine' ⟨_, ?b, fun base kb nb => My.law_fn T kb nb⟩; exact fun s u => .of_eq rfl
  case S => exact fun w H a ns hl hO hS => ..
  case C => exact ..
(the tactic k_is has no namespace: write k_is) -/

/-! SHORT WORDS over the layer: a def of the text, its body, what a loop and a test want. -/
namespace L2
open PySem PySem.Spec PyProof.Rows

/-! ### the text by places -/
/-- the j-th statement of a class's body -/
def inClass (s : Stmt) (j : Nat) : Stmt := match s with
  | .ClassDef _ _ _ body _ _ _ _ _ _ _ => body.getD j (.Pass ⟨0, 0, 0, 0⟩)
  | _ => .Pass ⟨0, 0, 0, 0⟩
def defArgs (s : Stmt) : Arguments := match s with
  | .FunctionDef _ a _ _ _ _ _ _ _ _ => a
  | _ => { posonlyargs := [], args := [], vararg := none, kwonlyargs := [], kw_defaults := [], kwarg := none, defaults := [] }
def defBody (s : Stmt) : List Stmt := match s with
  | .FunctionDef _ _ b _ _ _ _ _ _ _ => b
  | _ => []
def defScope (s : Stmt) : Scope := match s with
  | .FunctionDef _ _ _ _ _ _ sc _ _ _ => sc
  | _ => { kind := .function, names := [], isGenerator := false, isCoroutine := false }

/-! ### no exception leaves a def -/
abbrev CX0 : CXT := fun _ _ _ _ _ _ => False
abbrev E0 : XK := fun _ _ _ => False
theorem pass0 {X : Cx} : Passes CX0 X E0 := fun _ _ _ _ _ _ _ h => h.elim

/-! ### a def (or method) of the text as it stands behind the top -/
structure Fun (K : PySem.W.Frag) (x qual : Str) (st : Stmt) (f : Addr) (fd : FuncData) : Prop where
  ex : ∃ (oc : Value) (od : Option Addr) (kV doc pm : Value) (an : Option Addr) (cdv ct : Value) (osl : Array (Option Value)),
    fd = PySem.W.fnOf x qual (defArgs st) (defBody st) (defScope st) .none kV doc pm an cdv ct ∧ K.lookup f = some ⟨oc, od, .func fd, osl⟩ ∧ PySem.W.codeIn K cdv qual = true
  kp : PySem.W.keepIn K (.ref f) = true
section
variable {P : Program} {w : World} {K : PySem.W.Frag} {mg : Str → Option Value} {base : Heap}
/-- THE RULE for a def: its body as a term of rules, and the reading of that term -/
theorem Fun.ok {x qual : Str} {st : Stmt} {f : Addr} {fd : FuncData} {N ps : List Str} {k : Nat} {sp : Sp} (F : Fun K x qual st f fd) (S : FnScope N ps (defScope st)) (len : ∀ vs H Q E, sp vs H Q E → vs.length = ps.length)
    (hbody : ∀ (cdv : Value) (A : Around) (outer : List Env) (s : Shared) (H : Hp) (vs : List V) (Q : VK) (E : XK), Room k (A.deeper (envOfC qual (defScope st) s.heap.objs.size f cdv)) → sp vs H Q E →
      ∃ t, PSs (cxOf CX0 P w K mg base N qual (defScope st) f cdv A outer s H E).nox (defBody st) t ∧ t { nx := fun _ H' => Q .non H', rt := Q } (start N vs) H) : FnOk P w K mg base CX0 (k + 1) f fd ps sp := by
  obtain ⟨oc, od, kV, doc, pm, an, cdv, ct, osl, rfl, lk, hcd⟩ := F.ex
  refine fn_of lk hcd S len fun A outer s H vs Q E hr hsp => ?_
  obtain ⟨t, h, q⟩ := hbody cdv A outer s H vs Q E hr hsp
  exact ⟨t, h.nox, q⟩
/-- how its arguments bind (no defaults): h is «fun _ _ _ _ _ _ us hl => match us, hl with | [_, _], _ => rfl», one _ a parameter -/
theorem Fun.binds {x qual : Str} {st : Stmt} {f : Addr} {fd : FuncData} {ps : List Str} (F : Fun K x qual st f fd)
    (h : ∀ (kV doc pm : Value) (an : Option Addr) (cdv ct : Value) (us : List Value), us.length = ps.length → bindArgs (PySem.W.fnOf x qual (defArgs st) (defBody st) (defScope st) .none kV doc pm an cdv ct) ⟨us, []⟩ = pure (ps.zip us)) : Binds K fd ps [] := by
  obtain ⟨oc, od, kV, doc, pm, an, cdv, ct, osl, rfl, lk, hcd⟩ := F.ex
  exact .all (h kV doc pm an cdv ct)
theorem fun_mk {x qual : Str} {st : Stmt} {f : Addr} {oc : Value} {od an : Option Addr} {osl : Array (Option Value)} {kV doc pm cdv ct : Value} (l : K.lookup f = some ⟨oc, od, .func (PySem.W.fnOf x qual (defArgs st) (defBody st) (defScope st) .none kV doc pm an cdv ct), osl⟩)
    (c : PySem.W.codeIn K cdv qual = true) (k : PySem.W.keepIn K (.ref f) = true) : Fun K x qual st f (PySem.W.fnOf x qual (defArgs st) (defBody st) (defScope st) .none kV doc pm an cdv ct) := ⟨⟨oc, od, kV, doc, pm, an, cdv, ct, osl, rfl, l, c⟩, k⟩
end
theorem hu_of {A : Around} {k : Nat} (hr : Room k A) : A.units + 1 < cLine := Nat.lt_of_le_of_lt (Nat.add_le_add_left (by decide : 1 ≤ 64) _) hr.units
theorem small1000 {n : Nat} (h : n ≤ 1000) : n < sizeLine := Nat.lt_of_le_of_lt h (by decide)

/-! ### expressions in short: the name that stands in the i-th slot -/
section
variable {X : Cx}
theorem pv (i : Nat) {x : Str} {pos : Pos} (hN : X.N[i]? = some x := by rfl) (hv : Vis X.env.scope x := by first | exact Or.inl rfl | exact Or.inr (Or.inl rfl) | exact Or.inr (Or.inr rfl)) (hd : (x == ("__debug__" : Str)) = false := by decide)
    (hcd : (x == ("__classdict__" : Str)) = false := by decide) : PE X (.Name x pos) (tVar i) := pe_var hN hv hd hcd
/-- len of a dict -/
theorem call_lenD : CallR X (.builtin "len") (fun xs H Q => ∃ a kvs, xs = [V.ref a] ∧ H a = some (.dK kvs) ∧ Q (.int kvs.length) H) := by
  intro pins s σ H xs us Q I r h
  obtain ⟨a, kvs, rfl, ha, q⟩ := h
  obtain ⟨u, rfl, ru⟩ := vals1 r
  cases ru
  exact d_len I (.inl ha) fun t s' I' => ⟨.int kvs.length, H, I', ⟨t, rfl⟩, q⟩
end

/-! ### tests -/
theorem iteF {A B : Prop} (h : B) : if false = true then A else B := by
  rw [if_neg Bool.false_ne_true]
  exact h
theorem iteT {A B : Prop} (h : A) : if true = true then A else B := by
  rw [if_pos rfl]
  exact h
theorem ite2 {c A B : Prop} [Decidable c] (h1 : c → A) (h2 : ¬ c → B) : if c then A else B := by
  by_cases h : c
  · rw [if_pos h]
    exact h1 h
  · rw [if_neg h]
    exact h2 h
theorem iteNS {c A B : Prop} [Decidable c] (hc : c) (h : B) : if (!decide c) = true then A else B := by
  rw [decide_eq_true hc]
  exact iteF h

/-! ### heaps -/
/-- all that was tracked is as it was -/
def Same (H H' : Hp) : Prop := ∀ b o, H b = some o → H' b = some o
theorem Same.refl (H : Hp) : Same H H := fun _ _ h => h
theorem Same.trans {H H1 H2 : Hp} (a : Same H H1) (b : Same H1 H2) : Same H H2 := fun c o h => b c o (a c o h)
theorem Same.free {H H' : Hp} (e : Same H H') {l : Addr} (h : H' l = Option.none) : H l = Option.none := by
  cases q : H l with
  | none => rfl
  | some o =>
    rw [e l o q] at h
    cases h
theorem Same.seq {K : PySem.W.Frag} {H H' : Hp} {a : Addr} {xs : List V} (e : Same H H') (h : SqL K H a xs) : SqL K H' a xs := by
  rcases h with (h | ⟨o, h⟩) | h
  · exact .inl (.inl (e _ _ h))
  · exact .inl (.inr ⟨o, e _ _ h⟩)
  · exact .inr h

/-! ### a dict's pairs: keys that differ -/
section
variable {κ : Type} [DecidableEq κ]
theorem valV_not {kvs : List (κ × V)} {k : κ} (h : valV kvs k = none) : ¬ k ∈ kvs.map (·.1) := by
  intro m
  obtain ⟨p, hp, e⟩ := List.mem_map.mp m
  have q : (kvs.any fun kv => decide (kv.1 = k)) = true := List.any_eq_true.mpr ⟨p, hp, decide_eq_true e⟩
  rw [valV_any, h] at q
  exact absurd q (by simp)
theorem valV_in {kvs : List (κ × V)} {k : κ} {v : V} (h : valV kvs k = some v) : k ∈ kvs.map (·.1) := by
  have q : (kvs.any fun kv => decide (kv.1 = k)) = true := by
    rw [valV_any, h]
    all_goals rfl
  obtain ⟨p, hp, e⟩ := List.any_eq_true.mp q
  exact List.mem_map.mpr ⟨p, hp, of_decide_eq_true e⟩
theorem nd_snoc : ∀ {l : List κ} {k : κ}, l.Nodup → ¬ k ∈ l → (l ++ [k]).Nodup
  | [], k, _, _ => by simp
  | a :: r, k, h, hk => by
    obtain ⟨h1, h2⟩ := List.nodup_cons.mp h
    show (a :: (r ++ [k])).Nodup
    refine List.nodup_cons.mpr ⟨fun m => ?_, nd_snoc h2 fun m => hk (List.mem_cons.mpr (Or.inr m))⟩
    rcases List.mem_append.mp m with q | q
    · exact h1 q
    · exact hk (List.mem_cons.mpr (Or.inl (List.mem_singleton.mp q).symm))
theorem nd_putK {kvs : List (κ × V)} {k : κ} (v : V) (hn : (kvs.map (·.1)).Nodup) (h : valV kvs k = none) : ((putK kvs k v).map (·.1)).Nodup := by
  rw [putK_new v h, List.map_append]
  exact nd_snoc hn (valV_not h)
theorem dropK_pos {p : κ × V} {r : List (κ × V)} {k : κ} (e : p.1 = k) : dropK (p :: r) k = dropK r k := by
  unfold dropK
  rw [List.filter_cons, if_neg (by simp [e])]
theorem dropK_neg {p : κ × V} {r : List (κ × V)} {k : κ} (e : ¬ p.1 = k) : dropK (p :: r) k = p :: dropK r k := by
  unfold dropK
  rw [List.filter_cons, if_pos (by simp [e])]
theorem dropK_no : ∀ {kvs : List (κ × V)} {k : κ}, ¬ k ∈ kvs.map (·.1) → dropK kvs k = kvs
  | [], _, _ => rfl
  | p :: r, k, h => by
    have h' : ¬ k ∈ r.map (·.1) := fun m => by
      obtain ⟨q, hq, e⟩ := List.mem_map.mp m
      exact h (List.mem_map.mpr ⟨q, List.mem_cons.mpr (Or.inr hq), e⟩)
    rw [dropK_neg fun e => h (List.mem_map.mpr ⟨p, List.mem_cons.mpr (Or.inl rfl), e⟩), dropK_no h']
theorem dropK_mem {kvs : List (κ × V)} {k : κ} {p : κ × V} (h : p ∈ dropK kvs k) : p ∈ kvs := (List.mem_filter.mp h).1
theorem nd_dropK : ∀ {kvs : List (κ × V)} {k : κ}, (kvs.map (·.1)).Nodup → ((dropK kvs k).map (·.1)).Nodup
  | [], _, _ => List.nodup_nil
  | p :: r, k, h => by
    have h : (p.1 :: r.map (·.1)).Nodup := h
    obtain ⟨h1, h2⟩ := List.nodup_cons.mp h
    by_cases e : p.1 = k
    · rw [dropK_pos e]
      exact nd_dropK h2
    · rw [dropK_neg e]
      show (p.1 :: (dropK r k).map (·.1)).Nodup
      refine List.nodup_cons.mpr ⟨fun m => h1 ?_, nd_dropK h2⟩
      obtain ⟨q, hq, eq⟩ := List.mem_map.mp m
      exact List.mem_map.mpr ⟨q, dropK_mem hq, eq⟩
theorem dropK_len : ∀ {kvs : List (κ × V)} {k : κ}, (kvs.map (·.1)).Nodup → k ∈ kvs.map (·.1) → (dropK kvs k).length + 1 = kvs.length
  | [], _, _, m => by simp at m
  | p :: r, k, h, m => by
    have h : (p.1 :: r.map (·.1)).Nodup := h
    have m : k = p.1 ∨ k ∈ r.map (·.1) := List.mem_cons.mp m
    obtain ⟨h1, h2⟩ := List.nodup_cons.mp h
    by_cases e : p.1 = k
    · subst e
      rw [dropK_pos rfl, dropK_no h1]
      all_goals rfl
    · have m' : k ∈ r.map (·.1) := m.resolve_left fun z => e z.symm
      have q := dropK_len h2 m'
      rw [dropK_neg e, List.length_cons, List.length_cons]
      omega
end
end L2

end
section
namespace SetX
open PySem PyProof.Rows
section
variable {prog : Program} {w : World} {A : Around} {E : Value → Shared → Prop} {s : Shared}
theorem and_setsX {Q : Value → Shared → Prop} {a b : Addr} {ns ms : List Int} (hab : b ≠ a) (S : SetAt w s.heap a ns) (T : SetAt w s.heap b ms)
    (h : ∀ h' d ks, SetAt w h' s.heap.objs.size ks → (∀ y, y ∈ ks ↔ y ∈ ns ∧ y ∈ ms) → (∀ c o, s.heap.get? c = some o → h'.get? c = some o) → Q (.ref s.heap.objs.size) { s with heap := h', drawn := d }) :
    wpAny (model prog w) A (binaryOp .BitAnd (.ref a) (.ref b)) Q E s := by
  refine wpAny_binaryOp_same S.ty T.ty F.fills_set_and F.slot_set_and (wpAny_call_entry F.slot_set_and S.ty entry_set_and ?_ (F.args_set_and_2 _ _))
  show wpAny _ _ (Builtin.Frozenset.slot1 "__and__" ⟨[.ref a, .ref b], []⟩ >>= _) _ _ _
  refine wpAny_bind (wpAny_pure ?_)
  show wpAny _ _ ((Builtin.Frozenset.isAnySet (.ref a) >>= _) >>= _) _ _ _
  refine wpAny_bind (wpAny_bind (anySet_of S ?_))
  show wpAny _ _ (Builtin.Frozenset.isAnySet (.ref b)) _ _ _
  refine anySet_of T ?_
  show wpAny _ _ (Builtin.Frozenset.intersection _ a (.ref b) >>= _) _ _ _
  refine wpAny_bind (inter_of hab S T fun h' d ks q1 q2 q3 => ?_)
  exact wpAny_pure ⟨_, rfl, by simp, h h' d ks q1 q2 q3⟩
theorem len_setX {Q : Value → Shared → Prop} {a : Addr} {ns : List Int} (S : SetAt w s.heap a ns) (h : ∀ t tk, Q (.int ns.length t) { s with toks := tk }) : wpAny (model prog w) A (call (.builtin "len") [.ref a]) Q E s := by
  obtain ⟨o, es, ep, t, ho, hex, hd, he, rfl, hn, hb, hf, ht⟩ := S
  have hz : es.size < scanBound := by simpa using hb
  refine call_len_set ho hex hd hf (by have : scanBound = 4096 := rfl; omega) ?_
  have e : (es.toList.map val).length = es.size := by simp
  rw [e] at h
  exact h _ _
theorem collect_set {Q : List Value → Shared → Prop} {a : Addr} {ns : List Int} (hh : A.handled = none) (S : SetAt w s.heap a ns)
    (h : ∀ s' vs ms, (∀ b o, s.heap.get? b = some o → s'.heap.get? b = some o) → s'.gens = s.gens → s'.os = s.os → s.heap.objs.size ≤ s'.heap.objs.size → IntsAre vs ms → List.Perm ms ns → Q vs s') : wpAny (model prog w) A (collect (.ref a)) Q E s := by
  have la : a < s.heap.objs.size := by obtain ⟨o, _, _, _, e, _⟩ := S; exact Heap.lt_size e
  unfold collect
  refine wpAny_bind (wpAny_runValue (codeAny_builtin F.entry_proto_collect ?_)); rw [Around.under_plainId F.plain_proto_collect _]
  show wpAny _ A.in1 (newList [] >>= fun l => again (.builtin "list.__iadd__" ⟨[l, .ref a], []⟩)) _ _ s
  refine wpAny_bind (wpAny_newObj_type ?_)
  refine wpAny_pure ⟨plainId_quiet F.plain_list_iadd _, codeAny_builtin F.entry_list_iadd ?_⟩; rw [Around.under_plainId F.plain_list_iadd _]
  generalize hh1 : s.heap.push { cls := .type "list", dict := none, data := .seq ([] : List Value).toArray } = h1
  have k1 : ∀ b o, s.heap.get? b = some o → h1.get? b = some o := fun b ob z => by rw [← hh1]; exact Heap.get?_push_of_some _ z
  have hL1 : h1.get? s.heap.objs.size = some { cls := .type "list", dict := none, data := .seq ([] : List Value).toArray } := by rw [← hh1]; exact Heap.get?_push_size _ rfl
  have S1 : SetAt w h1 a ns := S.keeps fun o z => k1 a o z
  have hsame : Builtin.List.listSameRef (.ref s.heap.objs.size) (.ref a) = false := by simp [Builtin.List.listSameRef, Nat.ne_of_gt la]
  show wpAny _ A.in1 (Builtin.List.listExtendWith (.ref s.heap.objs.size) (.ref a) (.ref s.heap.objs.size)) _ _ { s with heap := h1 }
  unfold Builtin.List.listExtendWith
  have T1 : Shared.TypeIs { s with heap := h1 } (.ref a) "set" := SetAt.ty (s := { s with heap := h1 }) S1
  refine wpAny_bind (wpAny_typeOf T1 ?_)
  rw [if_neg (by rw [hsame]; decide)]
  refine wpAny_bind (set_iter (s := { s with heap := h1 }) S1 fun it fp P St ord s2 W st0 hP hE hp hlt hI kk kg ko kt hTy hfpA hitA => ?_)
  refine wpAny_bind (wpAny_holding ?_)
  unfold Builtin.List.listLengthHint
  have S2 : SetAt w s2.heap a ns := S1.keeps fun o z => kk a o z
  refine wpAny_bind (wpAny_specialOf S2.ty set_len_lookup ?_)
  (generalize hid : ("set.__len__" : String) = id0; wp_delta; rw [show splitId id0 = some ("set", "__len__") from by subst hid; decide +kernel]; subst hid)
  refine wpAny_bind (wpAny_isInstance (b := true) S2.ty sub_set_self ?_)
  simp only [Bool.not_true, Bool.false_eq_true, if_false]
  rw [if_pos (by decide +kernel)]
  refine wpAny_bind (wpAny_typeOf S2.ty ?_)
  dsimp only
  refine wpAny_pure ?_
  rw [if_pos (by decide +kernel)]
  refine wpAny_bind (wpAny_rule ?_)
  have hL2 : s2.heap.get? s.heap.objs.size = some (seqObj "list" #[] 0) := kk _ _ hL1
  have hol : ord.length ≤ sizeLine := by
    have e1 := hp.length_eq
    obtain ⟨o, es, ep, t, _, _, _, _, _, _, hb, _, _⟩ := S
    rw [List.length_map] at e1
    exact fits_line (by omega)
  unfold Builtin.List.listTouch
  refine wpAny_bind (wpAny_bind (listUpdate_at hL2 rfl ?_))
  have q1 := get?_update_seq hL2 (·.push .none)
  refine listUpdate_at q1 rfl ?_
  have q2 := get?_update_seq q1 (·.pop)
  have nS : s.heap.objs.size ∉ fp := fun z => by
    rcases hfpA _ z with e | e
    · exact Nat.ne_of_gt la e
    · have e' : h1.objs.size ≤ s.heap.objs.size := e
      rw [← hh1, Heap.size_push] at e'
      exact absurd e' (Nat.not_succ_le_self _)
  have WW := W A.in1 hh
  have st3 := WW.frame 0 s2 ((s2.heap.update s.heap.objs.size (Obj.mapSeq (·.push .none))).update s.heap.objs.size (Obj.mapSeq (·.pop))) s2.toks st0 (Nat.le_refl _) fun b hb o z => by
    have nb : s.heap.objs.size ≠ b := fun e => nS (e ▸ hb)
    rw [Heap.get?_update_other _ _ nb, Heap.get?_update_other _ _ nb]; exact z
  refine wpAny_pure ⟨plainId_quiet F.plain_extend_loop _, codeAny_extend_loopS WW hol s.heap.objs.size nS _ ord.length 0 _ #[] _ (Nat.sub_zero _) (Nat.zero_le _) st3 q2 (ItemsOf.nil P) fun s' acc c mv hS' hacc => ?_⟩
  show wpAny _ A (load s.heap.objs.size >>= _) _ _ s'
  refine wpAny_bind (wpAny_load hS' ?_)
  refine wpAny_pure ?_
  have hIA : IntsAre acc.toList (ord.map val) := by
    have all : ∀ (vs : List Value) (l : List (Int × Value)), vs.length = l.length → (∀ (i : Nat) (v : Value), vs[i]? = some v → ∃ e, l[i]? = some e ∧ v = e.2) → Ent l → IntsAre vs (l.map val) := by
      intro vs
      induction vs with
      | nil =>
        intro l hl _ _
        have e : l = [] := List.length_eq_zero_iff.mp hl.symm
        subst e; exact .nil
      | cons v r ih =>
        intro l hl hv hE'
        cases l with
        | nil => simp at hl
        | cons e l =>
          obtain ⟨e', q1, q2⟩ := hv 0 v rfl
          have q1' : e = e' := by simpa using q1
          subst q1'
          obtain ⟨n, t, rfl⟩ := hE' e List.mem_cons_self
          subst q2
          exact .cons n t (ih l (by simpa using hl) (fun i v z => by simpa using hv (i + 1) v (by simpa using z)) fun e z => hE' e (List.mem_cons_of_mem _ z))
    refine all acc.toList ord (by simpa using hacc.1) (fun i v z => hP i v (hacc.2 i v (by simpa using z))) hE
  refine h s' acc.toList _ (fun b o z => ?_) ?_ ?_ (Nat.le_of_lt (Heap.lt_size hS')) hIA hp
  · have z1 := kk b o (k1 b o z)
    have nb : b ≠ s.heap.objs.size := Nat.ne_of_lt (Heap.lt_size z)
    have nbI : b ∉ s.heap.objs.size :: [it] := fun y => by
      rcases List.mem_cons.mp y with e | e
      · exact nb e
      · have e' : b = it := by simpa using e
        have q' : h1.objs.size ≤ it := hitA
        rw [← e', ← hh1, Heap.size_push] at q'
        exact absurd (Nat.lt_of_lt_of_le (Nat.lt_succ_of_lt (Heap.lt_size z)) q') (Nat.lt_irrefl _)
    refine mv.heap b o nbI ?_
    show ((s2.heap.update s.heap.objs.size (Obj.mapSeq (·.push .none))).update s.heap.objs.size (Obj.mapSeq (·.pop))).get? b = some o
    rw [Heap.get?_update_other _ _ (Ne.symm nb), Heap.get?_update_other _ _ (Ne.symm nb)]; exact z1
  · have z : s'.gens = s2.gens := mv.gens
    rw [z, kg]
  · have z : s'.os = s2.os := mv.os
    rw [z, ko]
/-- sorted(a) of a set of fewer than 64 ints -/
theorem sorted_set {Q : Value → Shared → Prop} {a : Addr} {ns : List Int} (hh : A.handled = none) (S : SetAt w s.heap a ns) (h64 : ns.length < 64)
    (h : ∀ s' l vs ms n, (∀ b o, s.heap.get? b = some o → s'.heap.get? b = some o) → s'.gens = s.gens → s'.os = s.os → s.heap.objs.size ≤ l → s'.heap.get? l = some (seqObj "list" vs.toArray n) → IntsAre vs ms → List.Perm ms ns → ms.Pairwise (· ≤ ·) → Q (.ref l) s') :
    wpAny (model prog w) A (call (.builtin "sorted") [.ref a]) Q E s := by
  refine Calls.call_function_entry kind_sorted plain_sorted entry_sorted (args_sorted1 _) ?_
  unfold Builtin.«sorted»
  refine wpAny_bind (m := checkCount "sorted" 1 1 _) (wpAny_pure ?_)
  refine wpAny_bind (collect_set hh S fun s1 vs ms k1 g1 o1 hz hI hp => ?_)
  have hvl : vs.length < 64 := by rw [IntsAre.length hI, hp.length_eq]; exact h64
  refine wpAny_bind (wpAny_newList ?_ (by rw [sizeLine_eq]; omega))
  have hL : (s1.heap.push (seqObj "list" vs.toArray 0)).get? s1.heap.objs.size = some (seqObj "list" vs.toArray 0) := Heap.get?_push_size _ rfl
  refine wpAny_bind (wpAny_holding (wpAny_call_entry slot_list_sort ⟨_, hL, rfl⟩ entry_list_sort (list_sort_tree (s := { s1 with heap := s1.heap.push (seqObj "list" vs.toArray 0) }) hL hI hvl fun out ns' a1 a2 a3 => ⟨_, rfl, ?_⟩) (args_list_sort _)))
  obtain ⟨n1, e1⟩ := sortedHeap_at (vs := vs) (out := out) hL
  refine wpAny_pure ⟨_, rfl, h _ s1.heap.objs.size out.toList ns' _ (fun b o z => ?_) g1 o1 hz (by simpa using e1) a1 (a2.trans hp) a3⟩
  have lb : b < s1.heap.objs.size := Heap.lt_size (k1 b o z)
  show (sortedHeap (s1.heap.push (seqObj "list" vs.toArray 0)) s1.heap.objs.size vs out).get? b = some o
  rw [sortedHeap_old (Nat.ne_of_lt lb) (by rw [size_push']; exact Nat.lt_succ_of_lt lb)]
  exact Heap.get?_push_of_some _ (k1 b o z)
end
end SetX

end
section
namespace L2
open PySem PySem.Spec PyProof.Rows

/-! ### a list comprehension of one clause -/
/-- the cells that a block's scope draws from the frame around it -/
def clo (env : Env) : List (Str × NameKind) → List (Str × Addr) → List (Str × Addr)
  | [], acc => acc
  | (n, k) :: r, acc => if k == .free then (match env.cells.lookup n with | some c => clo env r ((n, c) :: acc) | none => clo env r acc) else clo env r acc
theorem clo_from {env : Env} {x : Str} {c : Addr} : ∀ {names : List (Str × NameKind)} {acc : List (Str × Addr)}, (∀ y d, acc.lookup y = some d → env.cells.lookup y = some d) → (clo env names acc).lookup x = some c → env.cells.lookup x = some c
  | [], acc, ha, h => ha x c h
  | (n, k) :: r, acc, ha, h => by
    unfold clo at h
    by_cases hk : (k == NameKind.free) = true
    · rw [if_pos hk] at h
      cases e : env.cells.lookup n with
      | none => rw [e] at h; exact clo_from ha h
      | some d =>
        rw [e] at h
        refine clo_from (fun y d' hy => ?_) h
        rw [List.lookup_cons] at hy
        cases q : y == n with
        | true =>
          rw [q] at hy
          have q' : y = n := eq_of_beq q
          subst q'
          cases hy
          exact e
        | false => rw [q] at hy; exact ha y d' hy
    · rw [if_neg hk] at h; exact clo_from ha h
theorem clo_acc {env : Env} {x : Str} {c : Addr} (hc : env.cells.lookup x = some c) : ∀ {names : List (Str × NameKind)} {acc : List (Str × Addr)}, (acc.lookup x = some c ∨ (x, NameKind.free) ∈ names) → (clo env names acc).lookup x = some c
  | [], acc, h => by
    rcases h with h | h
    · exact h
    · exact absurd h (by simp)
  | (n, k) :: r, acc, h => by
    unfold clo
    by_cases hk : (k == NameKind.free) = true
    · rw [if_pos hk]
      have hk' : k = NameKind.free := eq_of_beq hk
      by_cases hx : x = n
      · subst hx
        rw [hc]
        exact clo_acc hc (.inl (by rw [List.lookup_cons]; simp))
      · have h' : acc.lookup x = some c ∨ (x, NameKind.free) ∈ r := by
          rcases h with h | h
          · exact .inl h
          · rcases List.mem_cons.mp h with e | e
            · exact absurd (congrArg Prod.fst e) hx
            · exact .inr e
        cases e : env.cells.lookup n with
        | none => exact clo_acc hc h'
        | some d =>
          refine clo_acc hc (h'.imp (fun q => ?_) id)
          rw [List.lookup_cons]
          have hb : (x == n) = false := beq_eq_false_iff_ne.mpr hx
          rw [hb]
          exact q
    · rw [if_neg hk]
      refine clo_acc hc (h.imp id fun q => ?_)
      rcases List.mem_cons.mp q with e | e
      · exfalso
        have : k = NameKind.free := (congrArg Prod.snd e).symm
        exact hk (by rw [this]; rfl)
      · exact e
theorem closureFor_clo {scope : Scope} {env : Env} (h : ∀ x ∈ scope.names, x.2 = .free → ∃ c, env.cells.lookup x.1 = some c) : closureFor scope env = pure (clo env scope.names []) := by
  have go : ∀ (names : List (Str × NameKind)) (acc : List (Str × Addr)), (∀ x ∈ names, x.2 = .free → ∃ c, env.cells.lookup x.1 = some c) →
      (forIn names acc fun x cs => (match x with | (name, kind) => if (kind == .free) = true then do let c ← cellOf env name; pure (ForInStep.yield ((name, c) :: cs)) else pure (ForInStep.yield cs) : Sem (ForInStep (List (Str × Addr))))) = (pure (clo env names acc) : Sem (List (Str × Addr))) := by
    intro names
    induction names with
    | nil => intro acc _; rfl
    | cons p r ih =>
      intro acc hp
      obtain ⟨n, k⟩ := p
      have hr := fun x hx => hp x (List.mem_cons_of_mem _ hx)
      rw [List.forIn_cons]
      unfold clo
      by_cases hk : (k == NameKind.free) = true
      · obtain ⟨c, hc⟩ := hp (n, k) List.mem_cons_self (eq_of_beq hk)
        have hco : cellOf env n = pure c := by unfold cellOf; simp only at hc; rw [hc]
        simp only [hk, if_true, hco]
        simp only at hc
        rw [hc]
        exact ih ((n, c) :: acc) hr
      · simp only [hk, if_false]
        exact ih acc hr
  unfold closureFor
  dsimp only
  rw [go scope.names [] h]
  rfl

theorem lookup_relabel_free {env : Env} : ∀ {names : List (Str × NameKind)} {x : Str}, names.lookup x = some .free →
    (names.map fun (n, k) => if (k == NameKind.free && env.scope.kind == .function && env.kindOf n == some .cell) then (n, NameKind.cell) else (n, k)).lookup x = some .cell ∨
    (names.map fun (n, k) => if (k == NameKind.free && env.scope.kind == .function && env.kindOf n == some .cell) then (n, NameKind.cell) else (n, k)).lookup x = some .free
  | [], _, h => by simp at h
  | (n, k) :: r, x, h => by
    have ih := @lookup_relabel_free env r x
    show List.lookup x ((if (k == NameKind.free && env.scope.kind == .function && env.kindOf n == some .cell) = true then (n, NameKind.cell) else (n, k)) :: _) = _ ∨ List.lookup x ((if (k == NameKind.free && env.scope.kind == .function && env.kindOf n == some .cell) = true then (n, NameKind.cell) else (n, k)) :: _) = _
    cases hx : x == n with
    | true =>
      simp only [List.lookup_cons, hx] at h
      cases h
      by_cases hc : (NameKind.free == NameKind.free && env.scope.kind == .function && env.kindOf n == some .cell) = true
      · rw [if_pos hc]; simp only [List.lookup_cons, hx]; exact .inl trivial
      · rw [if_neg hc]; simp only [List.lookup_cons, hx]; exact .inr trivial
    | false =>
      simp only [List.lookup_cons, hx] at h
      by_cases hc : (k == NameKind.free && env.scope.kind == .function && env.kindOf n == some .cell) = true
      · rw [if_pos hc]; simp only [List.lookup_cons, hx]; exact ih h
      · rw [if_neg hc]; simp only [List.lookup_cons, hx]; exact ih h

/-- the context of a block -/
def compX (X : Cx) (scope : Scope) (N' : List Str) (s : Shared) (H : Hp) (fp : List Addr) (C : Addr) : Cx :=
  { prog := X.prog, w := X.w, K := X.K, mg := X.mg, base := X.base, A := X.A, N := N', s₀ := s, H₀ := H, env := compEnvC scope (clo X.env scope.names []) C X.env, outer := X.stack, stack := X.stack, ex := fp, fn := fun _ => false,
    calm := X.calm, pn := [], xe := fun _ _ => False }
/-- what is asked of the names: N, sc0 the frame's; own the block's, fr those drawn, js their places in N -/
structure CompSc (N : List Str) (sc0 scope : Scope) (own fr : List Str) (js : List Nat) : Prop where
  kind : scope.kind = .function
  cell : ∀ y ∈ scope.names, y.2 ≠ .cell
  loc : ∀ x ∈ scope.names, x.2 = .local → scope.names.lookup x.1 = some .local
  free : ∀ x ∈ scope.names, x.2 = .free → sc0.names.lookup x.1 = some .cell ∨ sc0.names.lookup x.1 = some .free
  len : js.length = fr.length
  fr : ∀ p ∈ fr.zip js, N[p.2]? = some p.1 ∧ scope.names.lookup p.1 = some .free

def stOf (own : Nat) (js : List Nat) (σ : St) : St := List.replicate own none ++ js.map fun j => (σ[j]?).join
/-- W: the invariant by the turn, a measure -/
def tComp (wi : TI) (g : TG) (te : TE) (own : Nat) (js : List Nat) : TE := fun σ H Q => wi σ H fun J H1 => ∀ p, H1 p = none → ∃ W : Nat → Nat → St → Hp → Prop, (∃ m, W 0 m (stOf own js σ) (upd H1 p (.lst []))) ∧
  ∀ i m σ' H', W i m σ' H' → (J.stop i H' ∧ Q (.ref p) H') ∨ (J.go i H' ∧ ∀ x H2, J.yld i H' x H2 → g x σ' H2 fun σ2 H3 => te σ2 H3 fun v H4 => ∃ ys, H4 p = some (.lst ys) ∧ ys.length < sizeLine ∧ ∃ m', m' < m ∧ W (i + 1) m' σ2 (upd H4 p (.lst (ys ++ [v]))))

section
variable {X : Cx}
theorem comp_start {pins : List (Addr × Obj)} {σ : St} {H : Hp} {s : Shared} {h1 : Heap} {scope : Scope} {own fr : List Str} {js : List Nat} {sc0 : Scope} {N : List Str} {fp : List Addr} {tk : Nat} (I : Inv X pins σ H s) (hN : X.N = N) (hsc : X.env.scope = sc0) (S : CompSc N sc0 scope own fr js) (hf : ∀ b ∈ fp, FpOk X pins H b)
    (hlt : ∀ b ∈ fp, b < s.heap.objs.size) (hn : h1.Ns s.heap.objs.size (fun _ => none)) (hk : ∀ b o, s.heap.get? b = some o → h1.get? b = some o) :
    Inv (compX X scope (own ++ fr) s H fp s.heap.objs.size) [] (stOf own.length js σ) H { s with heap := h1, toks := tk } := by
  subst hN hsc
  have ok := I.ok
  have cl : ∀ x c, (clo X.env scope.names []).lookup x = some c → X.env.cells.lookup x = some c := fun x c h => clo_from (fun y d hy => by simp at hy) h
  have hasC : ∀ x, (X.env.scope.names.lookup x = some .cell ∨ X.env.scope.names.lookup x = some .free) → ∃ c, X.env.cells.lookup x = some c := fun x hx => ok.has x hx
  refine ⟨⟨ok.mod, S.kind, ok.glob, ok.blt, Nat.le_refl _, fun x y c h1 h2 => ok.inj x y c (cl x c h1) (cl y c h2), fun x hx => ?_, fun _ _ h => (Bool.false_ne_true h).elim, ok.hd, ok.frames, .inl rfl, fun b hb => ⟨Nat.ne_of_lt (hlt b hb), fun x c h => (hf b hb).2.2.2.2.1 x c (cl x c h)⟩,
    fun b o e => I.bs b o e, Nat.le_trans ok.bsz I.sz, fun b o e hb => ?_, fun b hb => fun z => ?_, I.stack, I.stkFree⟩, rfl, I.bare, Un.kept hk, ⟨_, hn, fun i x v h1 h2 h3 => ?_⟩, fun x c h => ?_, I.hok.fresh (Nat.le_refl _), fun x c h => I.freeC x c (cl x c h), fun p hp => absurd hp (by intro z; exact absurd (show p ∈ ([] : List (Addr × Obj)) from z) (by simp)), I.hok.kept hk, ?_⟩
  · -- a cell for each name that is drawn
    have hx' : (relabel scope X.env).names.lookup x = some .cell ∨ (relabel scope X.env).names.lookup x = some .free := hx
    have hfree : ∃ k, scope.names.lookup x = some k ∧ (k = .free ∨ k = .cell) := by
      have back : ∀ (names : List (Str × NameKind)), ((names.map fun (n, k) => if (k == NameKind.free && X.env.scope.kind == .function && X.env.kindOf n == some .cell) then (n, NameKind.cell) else (n, k)).lookup x = some .cell ∨
          (names.map fun (n, k) => if (k == NameKind.free && X.env.scope.kind == .function && X.env.kindOf n == some .cell) then (n, NameKind.cell) else (n, k)).lookup x = some .free) → ∃ k, names.lookup x = some k ∧ (k = .free ∨ k = .cell) := by
        intro names
        induction names with
        | nil => intro h; simp at h
        | cons p r ih =>
          obtain ⟨n, k⟩ := p
          intro h
          rw [List.map_cons] at h
          rw [List.lookup_cons]
          by_cases hc : (k == NameKind.free && X.env.scope.kind == .function && X.env.kindOf n == some .cell) = true
          · simp only [hc, if_true, List.lookup_cons] at h
            cases q : x == n with
            | true =>
              simp only [Bool.and_eq_true] at hc
              exact ⟨k, rfl, .inl (eq_of_beq hc.1.1)⟩
            | false => rw [q] at h; exact ih h
          · simp only [hc, Bool.false_eq_true, if_false, List.lookup_cons] at h
            cases q : x == n with
            | true =>
              rw [q] at h
              refine ⟨k, rfl, ?_⟩
              rcases h with h | h
              · exact .inr (Option.some.inj h)
              · exact .inl (Option.some.inj h)
            | false => rw [q] at h; exact ih h
      exact back _ hx'
    obtain ⟨k, e, z⟩ := hfree
    have hm : (x, k) ∈ scope.names := PySem.mem_of_lookup e
    rcases z with z | z
    · subst z
      obtain ⟨c, hc⟩ := hasC x (S.free _ hm rfl)
      exact ⟨c, clo_acc hc (.inr hm)⟩
    · exact absurd z (S.cell _ hm)
  · rcases (hf b hb).2.2.2.1 with z | z
    · exact ok.noex b o e z
    · exact absurd (Nat.lt_of_lt_of_le (Heap.lt_size (ok.bs b o e).1) z) (Nat.lt_irrefl _)
  · rcases List.mem_cons.mp (I.stkSub b z) with e | e
    · exact (hf b hb).2.1 e
    · exact (hf b hb).2.2.1 e
  · unfold stOf at h2
    by_cases hi : i < own.length
    · rw [List.getElem?_append_left (by simpa using hi), List.getElem?_replicate] at h2
      rw [if_pos hi] at h2
      cases h2
    · have hio : own.length ≤ i := Nat.le_of_not_lt hi
      rw [List.getElem?_append_right (by simpa using hio), List.length_replicate, List.getElem?_map] at h2
      have h1' : fr[i - own.length]? = some x := by
        have h1'' : (own ++ fr)[i]? = some x := h1
        rw [List.getElem?_append_right hio] at h1''
        exact h1''
      cases ej : js[i - own.length]? with
      | none => rw [ej] at h2; cases h2
      | some j =>
        rw [ej] at h2
        have h2' : (σ[j]?).join = some v := Option.some.inj h2
        have h2'' : σ[j]? = some (some v) := by
          cases q : σ[j]? with
          | none => rw [q] at h2'; cases h2'
          | some o => rw [q] at h2'; have : o = some v := h2'; rw [this]
        have hz : (x, j) ∈ fr.zip js := by
          refine List.mem_iff_getElem?.mpr ⟨i - own.length, ?_⟩
          rw [List.getElem?_zip_eq_some]
          exact ⟨h1', ej⟩
        obtain ⟨hj, hxf⟩ := S.fr _ hz
        have hcf := S.free _ (PySem.mem_of_lookup hxf) rfl
        obtain ⟨m, hm, hl⟩ := I.loc
        have hvis : Vis X.env.scope x := hcf.elim (fun z => .inr (.inl z)) fun z => .inr (.inr z)
        obtain ⟨u, r, l⟩ := hl j x v hj h2'' hvis
        refine ⟨u, r, .inr ⟨lookup_relabel_free hxf, ?_⟩⟩
        rcases l with ⟨lk, _⟩ | ⟨_, c, hc, hcell⟩
        · have lk' : X.env.scope.names.lookup x = some .local := lk
          rcases hcf with z | z
          · rw [lk'] at z; cases z
          · rw [lk'] at z; cases z
        · exact ⟨c, clo_acc hc (.inr (PySem.mem_of_lookup hxf)), hcell.keeps hk⟩
  · obtain ⟨v, z⟩ := I.cell x c (cl x c h)
    exact ⟨v, z.keeps hk⟩
  · show (stOf own.length js σ).length = (own ++ fr).length
    unfold stOf
    rw [List.length_append, List.length_replicate, List.length_map, List.length_append, S.len]

theorem compTurn_list1' (elt target iter : Expr) (scope : Scope) (pos : Pos) (it acc : Value) (env : Env) :
    compTurn (.ListComp elt [⟨target, iter, [], 0⟩] scope pos) 0 it acc env = (standAt iter.pos >>= fun _ => pyNext it >>= fun r => match r with
      | none => pure (.done .next)
      | some v => letOwnedTupleGo target it v >>= fun _ => assign target env v >>= fun _ =>
        (eval elt env >>= fun x => call (.builtin "list.append") [acc, x] >>= fun _ => pure ()) >>= fun _ =>
          again (.compLoop (.ListComp elt [⟨target, iter, [], 0⟩] scope pos) 0 it acc env)) := by rfl
theorem codeAny_compLoop_any {prog : Program} {w : World} {A : Around} {s : Shared} {R : Result → Shared → Prop} {elt target iter : Expr} {scope : Scope} {pos : Pos} {it acc : Value} {env : Env} (I : Nat → Shared → Prop)
    (turn : ∀ n s, I n s → wpAny (model prog w) A (pyNext it) (fun r s₁ => match r with
      | none => R (.ok .next) s₁
      | some v => wpAny (model prog w) A (letOwnedTupleGo target it v) (fun _ s₁' => wpAny (model prog w) A (assign target env v) (fun _ s₂ => wpAny (model prog w) A (eval elt env) (fun x s₃ =>
          wpAny (model prog w) A (call (.builtin "list.append") [acc, x]) (fun _ s₄ => ∃ m, m < n ∧ I m s₄) (fun _ _ => False) s₃)
          (fun _ _ => False) s₂) (fun _ _ => False) s₁') (fun _ _ => False) s₁) (fun _ _ => False) s)
    (n : Nat) (h : I n s) :
    codeAny (model prog w) A (.compLoop (.ListComp elt [⟨target, iter, [], 0⟩] scope pos) 0 it acc env) R s := by
  refine codeAny_loop rfl I (fun n s hI => ?_) n h
  show wpAny _ _ ((compTurn (.ListComp elt [⟨target, iter, [], 0⟩] scope pos) 0 it acc env).onRaise (fun x => do noteFrame x env; theTreesLotGoes x)) _ _ s
  refine wpAny_noted ?_
  rw [compTurn_list1']
  refine wpAny_bind (wpAny_standAt (wpAny_bind (wpAny_mono (turn n s hI) (fun r s₁ h₁ => ?_) fun _ _ h' => h'.elim)))
  cases r with
  | none => exact wpAny_pure h₁
  | some v =>
    exact wpAny_bind (wpAny_mono h₁ (fun _ s₁' h₁' => wpAny_bind (wpAny_mono h₁' (fun _ s₂ h₂ => wpAny_bind (wpAny_bind (wpAny_mono h₂ (fun x s₃ h₃ => wpAny_bind (wpAny_mono h₃
      (fun _ s₄ h₄ => wpAny_pure (wpAny_pure ⟨rfl, h₄⟩)) fun _ _ h' => h'.elim)) fun _ _ h' => h'.elim))) fun _ _ h' => h'.elim)) fun _ _ h' => h'.elim)

theorem pe_comp {tg iter elt : Expr} {scope : Scope} {pos : Pos} {wi : TI} {g : TG} {te : TE} (own fr : List Str) (js : List Nat) {sc0 : Scope} {N : List Str} (hc : X.calm = true) (hN : X.N = N) (hsc : X.env.scope = sc0) (S : CompSc N sc0 scope own fr js)
    (hi : PI X tg iter wi) (hg : ∀ s H fp C, PG (compX X scope (own ++ fr) s H fp C) tg g) (he : ∀ s H fp C, PE (compX X scope (own ++ fr) s H fp C) elt te)
    (hs : ∀ x, foldedSetIterable iter X.env x = pure x := by intro _; rfl) : PE X (.ListComp elt [⟨tg, iter, [], 0⟩] scope pos) (tComp wi g te own.length js) := by
  intro pins s σ H Q I h
  rw [eval_ListComp]
  have hclos : closureFor scope X.env = pure (clo X.env scope.names []) := closureFor_clo fun x hx e => by
    subst hsc
    exact I.ok.has x.1 (S.free x hx e)
  refine wpAny_comprehension_free (use := none) rfl hs hclos S.kind S.loc (thn (hi pins s σ H _ I h) fun xv s1 h1 => thn h1 fun itv s2 h2 => ?_)
  obtain ⟨it, fp, tn, J, H2, e, I2, T, st2, f2, rest⟩ := h2
  subst e
  refine wpAny_newObj_type ?_
  obtain ⟨W, ⟨m0, w0⟩, turn⟩ := rest s2.heap.objs.size (I2.hok.fresh (Nat.le_refl _))
  have I3 : Inv X pins σ (upd H2 s2.heap.objs.size (.lst [])) { s2 with heap := s2.heap.push { cls := .type "list", dict := none, data := .seq ([] : List Value).toArray } } :=
    I2.lnew (its := []) (t' := s2.toks) .nil (Nat.zero_le _)
  generalize hs3 : ({ s2 with heap := s2.heap.push { cls := .type "list", dict := none, data := .seq ([] : List Value).toArray } } : Shared) = s3 at I3 ⊢
  have ho3 : ∀ b o, s2.heap.get? b = some o → s3.heap.get? b = some o := fun b o e => by rw [← hs3]; exact Heap.get?_push_of_some _ e
  have f3 : ∀ b ∈ fp, FpOk X pins (upd H2 s2.heap.objs.size (.lst [])) b := fun b hb => by
    obtain ⟨o, e, _⟩ := T.obj _ _ st2 b hb
    exact ⟨by rw [upd_ne (Nat.ne_of_lt (Heap.lt_size e))]; exact (f2 b hb).1, (f2 b hb).2⟩
  have l3 : ∀ b ∈ fp, b < s3.heap.objs.size := fun b hb => by
    obtain ⟨o, e, _⟩ := T.obj _ _ st2 b hb
    exact Heap.lt_size (ho3 b o e)
  have st3 : tn 0 s3.heap := T.keep _ _ _ st2 fun b _ o e => ho3 b o e
  refine wpAny_newFunctionEnv S.cell (by intro y hy; simp at hy) (fun h4 hn4 sb4 => ?_) S.kind
  have ho4 : ∀ b o, s3.heap.get? b = some o → h4.get? b = some o := fun b o e => sb4.extBut b o (Nat.ne_of_lt (Heap.lt_size e)) (Heap.get?_push_of_some _ e)
  have hn4' : h4.Ns s3.heap.objs.size (fun _ => none) := hn4
  have J0 := comp_start (scope := scope) (own := own) (fr := fr) (js := js) (tk := s3.toks + ([] : List (Str × Value)).length) I3 hN hsc S f3 l3 hn4' ho4
  have st4 : tn 0 h4 := T.keep _ _ _ st3 fun b _ o e => ho4 b o e
  show codeAny (model X.prog X.w) X.A (.compStart (.ListComp elt [⟨tg, iter, [], 0⟩] scope pos) 0 (.ref it) (.ref s2.heap.objs.size) (compX X scope (own ++ fr) s3 (upd H2 s2.heap.objs.size (.lst [])) fp s3.heap.objs.size).env) (compPost (model X.prog X.w) X.A X.xe none (EP X pins σ Q) (.ref s2.heap.objs.size) s3.heap.objs.size) _
  generalize hX' : compX X scope (own ++ fr) s3 (upd H2 s2.heap.objs.size (.lst [])) fp s3.heap.objs.size = X' at J0 ⊢
  have hgX : PG X' tg g := hX' ▸ hg _ _ _ _
  have heX : PE X' elt te := hX' ▸ he _ _ _ _
  have eP : X'.prog = X.prog := by rw [← hX']; rfl
  have eW : X'.w = X.w := by rw [← hX']; rfl
  have eK : X'.K = X.K := by rw [← hX']; rfl
  have eC : X'.calm = true := by rw [← hX']; exact hc
  have eA : X'.A = X.A := by rw [← hX']; rfl
  have eX : X'.xe = fun _ _ => False := by rw [← hX']; rfl
  have eEx : X'.ex = fp := by rw [← hX']; rfl
  have eL : X'.env.locals = s3.heap.objs.size := by rw [← hX']; rfl
  have eN : X'.N = own ++ fr := by rw [← hX']; rfl
  have cl' : ∀ x c, X'.env.cells.lookup x = some c → X.env.cells.lookup x = some c := fun x c h => clo_from (names := scope.names) (acc := []) (fun y d hy => by simp at hy) (by rw [← hX'] at h; exact h)
  have eFs : X'.fs = frs X.stack := by rw [← hX']; rfl
  have ePn : X'.pn = [] := by rw [← hX']; rfl
  have fp' : ∀ {H' : Hp}, (∀ b ∈ fp, H' b = none) → ∀ b ∈ fp, FpOk X' [] H' b := fun hn b hb => ⟨hn b hb, by rw [eL]; exact Nat.ne_of_lt (l3 b hb), by
      rw [eFs]; intro z
      rcases List.mem_cons.mp (I3.stkSub b z) with e | e
      · exact (f3 b hb).2.1 e
      · exact (f3 b hb).2.2.1 e, .inl (by rw [eEx]; exact hb), fun x c h => (f3 b hb).2.2.2.2.1 x c (cl' x c h), fun p hp => by rw [ePn] at hp; exact absurd (show p ∈ ([] : List (Addr × Obj)) from hp) (by simp)⟩
  have loop : ∀ s4 : Shared, s4 = { s3 with heap := h4, toks := s3.toks + ([] : List (Str × Value)).length } →
      codeAny (model X.prog X.w) X.A (.compLoop (.ListComp elt [⟨tg, iter, [], 0⟩] scope pos) 0 (.ref it) (.ref s2.heap.objs.size) X'.env) (compPost (model X.prog X.w) X.A X.xe none (EP X pins σ Q) (.ref s2.heap.objs.size) s3.heap.objs.size) s4 := by
    rintro s4 rfl
    refine codeAny_compLoop_any (fun n s' => ∃ i σ' H', Inv X' [] σ' H' s' ∧ tn i s'.heap ∧ (∀ b ∈ fp, H' b = none) ∧ W i n σ' H') ?_ m0 ⟨0, _, _, J0, st4, fun b hb => (f3 b hb).1, w0⟩
    rintro n s5 ⟨i, σ5, H5, I5, st5, fr5, w5⟩
    rcases turn i n σ5 H5 w5 with ⟨stop, q⟩ | ⟨go, step⟩
    · have hd := T.done X' eP eW eK eC i [] s5 σ5 H5 (fun _ _ => False) I5 (fp' fr5) st5 stop
      rw [eA] at hd
      refine thn hd fun r s6 ⟨hr, I6⟩ => ?_
      subst hr
      -- behind the block
      obtain ⟨m6, hn6, _⟩ := I6.loc
      rw [eL] at hn6
      refine ⟨m6, hn6, fun h7 sb7 => ?_⟩
      have hC : H5 s3.heap.objs.size = none := by have := I6.free; rw [eL] at this; exact this
      have hok7 : HOk X.prog X.w H5 h7 := fun b ob e => by
        have e6 := I6.hok b ob e
        rw [eP, eW] at e6
        refine e6.stay (fun c w' hc q => (sb7.2 c ?_).trans q) (fun _ q => q) fun _ _ q => q
        rintro rfl
        rcases hc with z | z
        · rw [← z, hC] at e; cases e
        · rw [hC] at z; cases z
      have un : Un (frs X.stack) fp (upd H2 s2.heap.objs.size (.lst [])) H5 s3.heap h7 := by
        have b6 := I6.base
        have e0 : X'.H₀ = upd H2 s2.heap.objs.size (.lst []) := by rw [← hX']; rfl
        have e1 : X'.s₀ = s3 := by rw [← hX']; rfl
        rw [eFs, eEx, e0, e1] at b6
        have ne : ∀ b o, s3.heap.get? b = some o → b ≠ s3.heap.objs.size := fun b o e => Nat.ne_of_lt (Heap.lt_size e)
        exact ⟨fun b o e n hb hx => (sb7.2 b (ne b o e)).trans (b6.keep b o e n hb hx), fun b o e n hb hx => by
            obtain ⟨sl, z⟩ := b6.slot b o e n hb hx
            exact ⟨sl, (sb7.2 b (ne b o e)).trans z⟩, b6.free, fun b o e hx => by
            obtain ⟨o', z⟩ := b6.there b o e hx
            exact ⟨o', (sb7.2 b (ne b o e)).trans z⟩, b6.tups, b6.frzs, b6.tbls⟩
      have os7 : s6.os = s3.os := by have := I6.os; rw [← hX'] at this; exact this
      have I7 : Inv X pins σ H5 { s6 with heap := h7 } := I3.call' (s' := { s6 with heap := h7 }) (ch := fp) os7 un hok7 I6.bare fun b hb => ⟨(f3 b hb).2.2.2.1, (f3 b hb).2.1, (f3 b hb).2.2.2.2.1, (f3 b hb).2.2.2.2.2⟩
      exact ⟨.ref s2.heap.objs.size, H5, I7, rfl, q⟩
    · have hd := T.item X' eP eW eK eC i [] s5 σ5 H5 (fun _ _ => False) I5 (fp' fr5) st5 go
      rw [eA] at hd
      refine thn hd fun r s6 ⟨u, hr, h6⟩ => ?_
      subst hr
      refine thn h6 fun _ s7 ⟨x, H7, I7, r7, y7, st7, fr7⟩ => ?_
      have I7' := I7.pinned (fp' fr7) (T.obj _ _ st7)
      have hg7 := hgX _ s7 σ5 H7 x u _ I7' r7 (step x H7 y7)
      rw [eP, eW, eA, eX] at hg7
      refine thn hg7 fun _ s8 ⟨σ8, H8, I8, q8⟩ => ?_
      have he8 := heX _ s8 σ8 H8 _ I8 q8
      rw [eP, eW, eA, eX] at he8
      refine thn he8 fun v s9 ⟨z, H9, I9, r9, ys, hp9, hz9, m', hm', w9⟩ => ?_
      have ha := mt_append (X := X') _ s9 σ8 H9 (.ref s2.heap.objs.size) [z] (.ref s2.heap.objs.size) [v] (fun _ H' => ∃ m', m' < n ∧ W (i + 1) m' σ8 H') I9 rfl (.cons r9 .nil) ⟨_, ys, z, rfl, rfl, hp9, hz9, m', hm', w9⟩
      rw [eP, eW, eA, eX] at ha
      refine thn ha fun _ s10 ⟨_, H10, I10, _, m'', hm'', w10⟩ => ?_
      have pin10 : ∀ b ∈ fp, ∀ o, s7.heap.get? b = some o → s10.heap.get? b = some o ∧ H10 b = none := fun b hb o e =>
        let z := I10.pin (b, o) (List.mem_append_right _ (List.mem_append_right _ (mem_pinsAt hb e)))
        ⟨z.1, z.2.1⟩
      refine ⟨m'', hm'', i + 1, σ8, H10, I10.unpinned, T.keep _ _ _ st7 fun b hb o e => (pin10 b hb o e).1, fun b hb => ?_, w10⟩
      obtain ⟨o, e, _⟩ := T.obj _ _ st7 b hb
      exact (pin10 b hb o e).2
  have st4' : tn 0 ({ s3 with heap := h4, toks := s3.toks + ([] : List (Str × Value)).length } : Shared).heap := st4
  exact codeAny_compStart_list (loop _ rfl) (T.self X.A 0 _ _ _ st4' (loop _ rfl))
end
end L2

end
section
namespace PySem
open Sem (wp)
open AutoSeq1 (wpAny_loadPart')
section
variable {prog : Program} {w : World} {A : Around} {E : Value → Shared → Prop} {s : Shared}
theorem nextOf_tup_item {j t : Addr} {i : Nat} {its : Array Value} {y : Value} {Q : Value → Shared → Prop} (hj : s.heap.IsTupleIter j t i) (ht : s.heap.IsTuple t its) (hy : its[i]? = some y)
    (k : ∀ h', h'.IsTupleIter j t (i + 1) → Heap.SameBut j s.heap h' → Q y { s with heap := h' }) : wpAny (model prog w) A (Builtin.SmallTypes.nextOf (.ref j)) Q E s := by
  obtain ⟨ob, e1, e2, e3⟩ := id hj; obtain ⟨ot, f1, f2, nt, f3⟩ := ht; unfold Builtin.SmallTypes.nextOf
  refine wpAny_bind (wpAny_callSpecial?_slot (name := Str.ofString "__next__") hj.typeIs F.slot_tuple_iterator_next (wpAny_call_entry F.slot_tuple_iterator_next hj.typeIs F.entry_tuple_iterator_next ?_ (F.args_tuple_iterator_next_1 _)))
  show wpAny _ _ (field (.ref j) 0 >>= _) _ _ s; refine wpAny_bind (wpAny_field e1 e3 (x := .ref t) rfl ?_)
  show wpAny _ _ (if (Value.ref t == Value.none) = true then _ else _) _ _ s; rw [if_neg (show ¬ ((Value.ref t == Value.none) = true) from Bool.false_ne_true)]
  show wpAny _ _ (field (.ref j) 1 >>= _) _ _ s; refine wpAny_bind (wpAny_field e1 e3 (x := .int i 0) rfl ?_); show wpAny _ _ (seqItems? (.ref t) >>= _) _ _ s
  refine wpAny_bind (wpAny_seqItems f1 f3 ?_); simp only [Int.toNat_natCast, hy]
  refine wpAny_bind (wpAny_setField e1 e3 (by simp) (wpAny_pure ⟨y, rfl, wpAny_pure (k _ ?_ (Heap.SameBut.update ..))⟩))
  exact ⟨_, Heap.get?_update_self _ e1 (Obj.isFreed_of_fields (Obj.data_mapFields e3 _)), (Obj.cls_mapFields ..).trans e2, by rw [Obj.data_mapFields e3]; simp [rawInt]⟩
theorem nextOf_tup_end {j t : Addr} {i : Nat} {its : Array Value} {Q : Value → Shared → Prop} (hh : A.handled = none) (hj : s.heap.IsTupleIter j t i) (ht : s.heap.IsTuple t its) (hy : its[i]? = none)
    (k : ∀ h' e, Heap.ExtBut j s.heap h' → (∃ o, h'.get? e = some o ∧ o.cls = .type "StopIteration") → E (.ref e) { s with heap := h' }) : wpAny (model prog w) A (Builtin.SmallTypes.nextOf (.ref j)) Q E s := by
  obtain ⟨ob, e1, e2, e3⟩ := id hj; obtain ⟨ot, f1, f2, nt, f3⟩ := ht; unfold Builtin.SmallTypes.nextOf
  refine wpAny_bind (wpAny_callSpecial?_slot (name := Str.ofString "__next__") hj.typeIs F.slot_tuple_iterator_next (wpAny_call_entry F.slot_tuple_iterator_next hj.typeIs F.entry_tuple_iterator_next ?_ (F.args_tuple_iterator_next_1 _)))
  show wpAny _ _ (field (.ref j) 0 >>= _) _ _ s; refine wpAny_bind (wpAny_field e1 e3 (x := .ref t) rfl ?_)
  show wpAny _ _ (if (Value.ref t == Value.none) = true then _ else _) _ _ s; rw [if_neg (show ¬ ((Value.ref t == Value.none) = true) from Bool.false_ne_true)]
  show wpAny _ _ (field (.ref j) 1 >>= _) _ _ s; refine wpAny_bind (wpAny_field e1 e3 (x := .int i 0) rfl ?_); show wpAny _ _ (seqItems? (.ref t) >>= _) _ _ s
  refine wpAny_bind (wpAny_seqItems f1 f3 ?_); simp only [Int.toNat_natCast, hy]
  refine wpAny_bind (wpAny_rule (wpAny_bind (wpAny_setField e1 e3 (by simp) ?_))); show wpAny _ _ (newExc (.type "StopIteration") [] >>= _) _ _ _
  refine wpAny_bind ?_; simp only [newExc, newTuple]; refine wpAny_bind (wpAny_newObj_type ?_ (by size_fits))
  refine wpAny_bind (m := firstArgMember _ _) (wpAny_of_eq (a := Value.none) (by first | rfl | (simp only [firstArgMember]; rfl)) ?_); refine wpAny_newObj_type ?_ (by size_fits)
  simp only [raiseNew]; refine wpAny_bind (wpAny_handled ?_); first | rw [show A.in1.handled = none from hh] | rw [hh]
  refine wpAny_bind (wpAny_pure (wpAny_throw ?_)); exact k _ _ (((Heap.SameBut.update ..).extBut.push _).push _) ⟨_, Heap.get?_push_size _ rfl, rfl⟩
end
theorem Draws.tup {prog : Program} {w : World} {A : Around} (hh : A.handled = none) (j t : Addr) (ne : t ≠ j) (its : Array Value) :
    Draws prog w A j [j, t] its.size (fun i v => its[i]? = some v) (fun i h => h.IsTupleIter j t i ∧ h.IsTuple t its) where
  live := fun _ _ st => let ⟨o, ho, _⟩ := st.1; ⟨o, ho⟩
  frame := fun _ _ _ st hk => ⟨let ⟨o, e, r⟩ := st.1; ⟨o, hk j (by simp) o e, r⟩, let ⟨o, e, r⟩ := st.2; ⟨o, hk t (by simp) o e, r⟩⟩
  item := fun i s Q E hi st hQ => by
    refine nextOf_tup_item st.1 st.2 (y := its[i]) (by simp [hi]) fun h' a b => ?_
    exact hQ _ h' s.toks (by simp [hi]) ⟨a, st.2.extBut b.extBut ne⟩ b
  done := fun s Q E st hE => nextOf_tup_end hh st.1 st.2 (by simp) hE
theorem meets_enumerate_newT (l : Addr) (its : Array Value) (n : Nat) (dct : Option Addr) (sl : Array (Option Value)) :
    Meets (Builtin.«enumerate.__new__» ⟨[.type "enumerate", .ref l], []⟩) (fun _ R s => s.heap.get? l = some { cls := .type "tuple", dict := dct, data := .seq its n, slots := sl } ∧
      R (.ok (.ret (.ref (s.heap.push { cls := .type "tuple_iterator", data := .fields #[.ref l, .int 0 0] }).objs.size)))
        { s with heap := (s.heap.push { cls := .type "tuple_iterator", data := .fields #[.ref l, .int 0 0] }).push { cls := .type "enumerate", data := .fields #[.none, .bool false, .ref s.heap.objs.size, rawInt 0, .none, .none] } }) :=
  .of_wp fun prog w A R s h => by
    obtain ⟨hp, g, d, tk, os⟩ := s; obtain ⟨hl, h⟩ := h; have hsub := sub_enumerate
    have hL : Heap.IsTuple (Shared.heap ⟨hp, g, d, tk, os⟩) l its := ⟨_, hl, rfl, n, rfl⟩
    wp_walk using wpAny_loadPart' hl
    refine wpAny_stack_any fun st => wpAny_pure ?_
    split
    · rename_i c _ _ _ _ _
      cases (c == Value.type "enumerate") <;> (wp_walk using wpAny_loadPart' hl, wpAny_pyIter_tuple hL; exact ⟨_, rfl, h⟩)
    · wp_walk using wpAny_loadPart' hl, wpAny_pyIter_tuple hL
      exact ⟨_, rfl, h⟩
theorem call_enumerate_tup {prog : Program} {w : World} {A : Around} {E : Value → Shared → Prop} {s : Shared} {l : Addr} {its : Array Value} {Q : Value → Shared → Prop} (hL : s.heap.IsTuple l its)
    (h : ∀ h', IsEnum h' (s.heap.objs.size + 1) s.heap.objs.size 0 .none → h'.IsTupleIter s.heap.objs.size l 0 → h'.objs.size = s.heap.objs.size + 2 → (∀ b o, s.heap.get? b = some o → h'.get? b = some o) → Q (.ref (s.heap.objs.size + 1)) { s with heap := h' }) :
    wpAny (model prog w) A (call (.type "enumerate") [.ref l]) Q E s := by
  obtain ⟨⟨c, dct, dt, sl⟩, hl, hc, n, hd⟩ := hL
  have hc' : c = .type "tuple" := hc
  have hd' : dt = .seq its n := hd
  subst hc' hd'
  refine callType_new F.called_enumerate (by decide) (F.typeCall_enumerate_1 _) (F.newCall_enumerate_1 _) (fun obj => F.args_object_init_2 obj _) F.entry_enumerate_new (meets_enumerate_newT l its n dct sl) ⟨hl, ?_⟩
  have hz : (s.heap.push { cls := .type "tuple_iterator", data := .fields #[.ref l, .int 0 0] }).objs.size = s.heap.objs.size + 1 := Heap.size_push ..
  show _ ∧ _
  rw [hz]
  have he : IsEnum ((s.heap.push { cls := .type "tuple_iterator", data := .fields #[.ref l, .int 0 0] }).push { cls := .type "enumerate", data := .fields #[.none, .bool false, .ref s.heap.objs.size, rawInt 0, .none, .none] }) (s.heap.objs.size + 1) s.heap.objs.size 0 .none := by
    have := Heap.get?_push_size (s.heap.push { cls := .type "tuple_iterator", data := .fields #[.ref l, .int 0 0] }) (o := { cls := .type "enumerate", data := .fields #[.none, .bool false, .ref s.heap.objs.size, rawInt 0, .none, .none] }) rfl
    rw [hz] at this; exact this
  refine ⟨⟨_, he, rfl⟩, h _ he ⟨_, Heap.get?_push_of_some _ (Heap.get?_push_size _ rfl), rfl, rfl⟩ (by rw [Heap.size_push, hz]) fun b o x => Heap.get?_push_of_some _ (Heap.get?_push_of_some _ x)⟩
end PySem

end
section
namespace L2
open PySem PySem.Spec PyProof.Rows
/-! ### enumerate of a text, of a tuple -/
section
variable {X : Cx} {pins : List (Addr × Obj)} {σ : St} {H : Hp} {s : Shared} {h' : Heap}
/-- the records at ch have turned, a new object is laid and tracked -/
theorem Inv.turnedL {ch : List Addr} {a : Addr} {o : HO} {t' : Nat} (I : Inv X pins σ H s) (hf : ∀ b ∈ ch, FpOk X pins H b) (k : ∀ b u, b ∉ ch → s.heap.get? b = some u → h'.get? b = some u) (hp : s.heap.objs.size ≤ a)
    (new : ObjOk X.prog X.w (upd H a o) h' a o) : Inv X pins σ (upd H a o) { s with heap := h', toks := t' } := by
  have hn : H a = none := I.hok.fresh hp
  have nch : ∀ b u, H b = some u → b ∉ ch := fun b u e z => by have := (hf b z).1; rw [e] at this; cases this
  have nea : ∀ b u, s.heap.get? b = some u → b ≠ a := fun b u e => Nat.ne_of_lt (Nat.lt_of_lt_of_le (Heap.lt_size e) hp)
  refine I.step (g' := s.gens) (d' := s.drawn) (ch := ch) (fun b hb => ⟨(hf b hb).2.2.2.1, (hf b hb).2.1, (hf b hb).2.2.2.2.1, (hf b hb).2.2.2.2.2⟩) (fun b u _ _ hc e _ => k b u hc e) (fun b u _ _ hc e _ => ⟨u.slots, k b u hc e⟩)
    (fun b u _ e n => by rw [upd_ne (nea b u e)]; exact n) (fun b u hc e => ⟨u, k b u hc e⟩) (fun b xs e => by rw [upd_ne (ne_of_none e hn)]; exact e) (fun b u xs e => by rw [upd_ne (ne_of_none e hn)]; exact e)
    (fun b ps e => ⟨#[], by rw [upd_ne (ne_of_none e hn), e]; simp⟩) (fun m hm => ?_) (fun b u e => ?_) I.bare
  · obtain ⟨ol, es, ep, ho, r⟩ := hm
    exact ⟨ol, es, ep, k _ ol (fun z => (hf _ z).2.1 rfl) ho, r⟩
  · by_cases hb : b = a
    · subst hb; rw [upd_same] at e; cases e; exact new
    · rw [upd_ne hb] at e
      refine (I.hok b u e).stay (fun c v hc q => k c v ?_ q) (fun c q => by rw [upd_ne (ne_of_none q hn)]; exact q) fun c xs q => by rw [upd_ne (ne_of_none q hn)]; exact q
      rcases hc with z | z
      · rw [z]; exact nch b u e
      · exact nch c _ z
end
/-- at turn i the pair of i and the i-th sign -/
def ItS (x : Str) : It := ⟨fun i _ => i < x.cps.size, fun i H v H' => ∃ t c, H t = none ∧ x.cps[i]? = some c ∧ v = .ref t ∧ H' = upd H t (.tup [.int i, .str ⟨#[c]⟩]), fun i _ => i = x.cps.size⟩
def ItT (K : PySem.W.Frag) (a : Addr) : It := ⟨fun i H => ∃ xs y, SqT K H a xs ∧ xs[i]? = some y, fun i H v H' => ∃ t y, H t = none ∧ (∀ xs, SqT K H a xs → xs[i]? = some y) ∧ v = .ref t ∧ H' = upd H t (.tup [.int i, y]), fun i H => ∃ xs, SqT K H a xs ∧ i = xs.length⟩
theorem drawsS {prog : Program} {w : World} {A : Around} (hh : A.handled = none) (it : Addr) (x : Str) (t : Tok) :
    Draws prog w A it [it] x.cps.size (fun i v => ∃ c u, x.cps[i]? = some c ∧ v = .str ⟨#[c]⟩ u) (fun i h => h.IsStrIter it (strIterType x) x t i) := by
  cases ha : x.cps.all (· < 128)
  · have e : strIterType x = "str_iterator" := by simp [strIterType, ha]
    rw [e]; exact Draws.strWide hh it x t
  · have e : strIterType x = "str_ascii_iterator" := by simp [strIterType, ha]
    rw [e]; exact Draws.strAscii hh it x t
theorem turn_enumS {P : Program} {w : World} {K : PySem.W.Frag} {elts : List Expr} {k : Nat} {pos : Pos} (x : Str) (t : Tok) (e it : Addr) (hei : e ≠ it) :
    Turn P w K (.Tuple elts k pos) (ItS x) [e, it] e (fun i h => (∃ old, IsEnum h e it i old) ∧ h.IsStrIter it (strIterType x) x t i) where
  mem := by simp
  obj := fun i h st b hb => by
    obtain ⟨⟨old, he⟩, o, ho, hc, hd⟩ := st
    rcases List.mem_cons.mp hb with z | z
    · subst z; exact ⟨_, he, fun v z => by have z' : Data.fields _ = Data.cell v := z; cases z'⟩
    · have z' : b = it := by simpa using z
      subst z'; exact ⟨o, ho, fun v z => by rw [hd] at z; cases z⟩
  keep := fun i h h' st kk => by
    obtain ⟨⟨old, he⟩, o, ho, r⟩ := st
    exact ⟨⟨old, kk e (by simp) _ he⟩, o, kk it (by simp) o ho, r⟩
  item := by
    intro X hP hw hK hc i pins s σ H E I hf st hg
    subst hP hw hK
    obtain ⟨⟨old, he⟩, hs⟩ := st
    have hh : X.A.in1.handled = none := I.ok.hd hc
    refine wpAny_pyNext_enum_itemD (drawsS hh it x t) he hs hg hei (by simp [hei]) fun v h1 tk hv ho hs1 hT hsz hk => ?_
    obtain ⟨c, u, hxc, rfl⟩ := hv
    refine ⟨_, rfl, wpAny_letOwnedTupleGo_enum ho fun h2 he2 sb2 => ?_⟩
    have hlt : e < s.heap.objs.size := Heap.lt_size he
    have sb2' : Heap.SameBut e h1 h2 := sb2
    have hT2 : h2.get? s.heap.objs.size = some { cls := .type "tuple", data := .seq #[.int i tk, .str ⟨#[c]⟩ u] } := (sb2'.2 _ (Nat.ne_of_gt hlt)).trans hT
    refine ⟨.ref s.heap.objs.size, upd H s.heap.objs.size (.tup [.int i, .str ⟨#[c]⟩]), ?_, rfl, ⟨_, c, I.hok.fresh (Nat.le_refl _), hxc, rfl, rfl⟩, ⟨⟨_, by simpa using he2⟩, ?_⟩, fun b hb => ?_⟩
    · refine I.turnedL (ch := [e, it]) (t' := tk + 1) hf (fun b o hb q => ?_) (Nat.le_refl _) ⟨by show 2 ≤ sizeLine; decide, [.int i tk, .str ⟨#[c]⟩ u], .cons ⟨_, rfl⟩ (.cons ⟨_, rfl⟩ .nil), _, hT2, rfl, _, rfl⟩
      have h1' : b ≠ e := fun z => hb (by simp [z])
      have h2' : b ≠ it := fun z => hb (by simp [z])
      exact (sb2'.2 b h1').trans (hk b o h1' h2' q)
    · obtain ⟨o, q, r⟩ := hs1
      exact ⟨o, (sb2'.2 it (Ne.symm hei)).trans q, r⟩
    · have hb0 := hf b hb
      have ne : b ≠ s.heap.objs.size := by
        rcases List.mem_cons.mp hb with z | z
        · rw [z]; exact Nat.ne_of_lt hlt
        · have z' : b = it := by simpa using z
          obtain ⟨o, q, _⟩ := hs
          rw [z']; exact Nat.ne_of_lt (Heap.lt_size q)
      rw [upd_ne ne]; exact hb0.1
  done := by
    intro X hP hw hK hc i pins s σ H E I hf st hg
    subst hP hw hK
    obtain ⟨⟨old, he⟩, hs⟩ := st
    have hh : X.A.in1.handled = none := I.ok.hd hc
    have hi : i = x.cps.size := hg
    obtain ⟨f0, f1, f2, f3, f4, f5⟩ := hf it (by simp)
    refine wpAny_pyNext_enum_endD (drawsS hh it x t) he (by rw [← hi]; exact hs) fun h1 eb => ⟨rfl, I.turned (t' := s.toks) (fun b o hb q => eb b o hb q) f0 f1 f3 f4 f5⟩
  self := fun _ _ _ _ _ st h => by
    obtain ⟨⟨old, he⟩, _⟩ := st
    exact wpAny_pyIter_enum he h
theorem turn_enumT {P : Program} {w : World} {K : PySem.W.Frag} {elts : List Expr} {k : Nat} {pos : Pos} (a e it : Addr) (hei : e ≠ it) :
    Turn P w K (.Tuple elts k pos) (ItT K a) [e, it] e (fun i h => a ≠ it ∧ a ≠ e ∧ (∃ old, IsEnum h e it i old) ∧ h.IsTupleIter it a i) where
  mem := by simp
  obj := fun i h st b hb => by
    obtain ⟨_, _, ⟨old, he⟩, o, ho, hc, hd⟩ := st
    rcases List.mem_cons.mp hb with z | z
    · subst z; exact ⟨_, he, fun v z => by have z' : Data.fields _ = Data.cell v := z; cases z'⟩
    · have z' : b = it := by simpa using z
      subst z'; exact ⟨o, ho, fun v z => by rw [hd] at z; cases z⟩
  keep := fun i h h' st kk => by
    obtain ⟨n1, n2, ⟨old, he⟩, o, ho, r⟩ := st
    exact ⟨n1, n2, ⟨old, kk e (by simp) _ he⟩, o, kk it (by simp) o ho, r⟩
  item := by
    intro X hP hw hK hc i pins s σ H E I hf st hg
    subst hP hw hK
    obtain ⟨n1, n2, ⟨old, he⟩, hs⟩ := st
    have hh : X.A.in1.handled = none := I.ok.hd hc
    obtain ⟨xs, y, hq, hy⟩ := hg
    obtain ⟨its, rv, p, hz⟩ := I.tuple hq
    obtain ⟨u, hu, ru⟩ := rv.get hy
    have hlt' : i < its.toArray.size := by simpa using (List.getElem?_eq_some_iff.mp hu).1
    refine wpAny_pyNext_enum_itemD (Draws.tup hh it a n1 its.toArray) he ⟨hs, p⟩ hlt' hei (by simp [hei, Ne.symm n2]) fun v h1 tk hv ho hs1 hT hsz hk => ?_
    have hv' : v = u := by
      have hu' : its.toArray[i]? = some u := by simpa using hu
      have hv'' : its.toArray[i]? = some v := hv
      rw [hu'] at hv''
      exact (Option.some.inj hv'').symm
    subst hv'
    refine ⟨_, rfl, wpAny_letOwnedTupleGo_enum ho fun h2 he2 sb2 => ?_⟩
    have hlt : e < s.heap.objs.size := Heap.lt_size he
    have sb2' : Heap.SameBut e h1 h2 := sb2
    have hT2 : h2.get? s.heap.objs.size = some { cls := .type "tuple", data := .seq #[.int i tk, v] } := (sb2'.2 _ (Nat.ne_of_gt hlt)).trans hT
    refine ⟨.ref s.heap.objs.size, upd H s.heap.objs.size (.tup [.int i, y]), ?_, rfl, ⟨_, y, I.hok.fresh (Nat.le_refl _), fun ys hys => by rw [I.tuple_inj hys hq]; exact hy, rfl, rfl⟩, ⟨n1, n2, ⟨_, by simpa using he2⟩, ?_⟩, fun b hb => ?_⟩
    · refine I.turnedL (ch := [e, it]) (t' := tk + 1) hf (fun b o hb q => ?_) (Nat.le_refl _) ⟨by show 2 ≤ sizeLine; decide, [.int i tk, v], .cons ⟨_, rfl⟩ (.cons ru .nil), _, hT2, rfl, _, rfl⟩
      have h1' : b ≠ e := fun z => hb (by simp [z])
      have h2' : b ≠ it := fun z => hb (by simp [z])
      exact (sb2'.2 b h1').trans (hk b o h1' h2' q)
    · obtain ⟨⟨o, q, r⟩, _⟩ := hs1
      exact ⟨o, (sb2'.2 it (Ne.symm hei)).trans q, r⟩
    · have hb0 := hf b hb
      have ne : b ≠ s.heap.objs.size := by
        rcases List.mem_cons.mp hb with z | z
        · rw [z]; exact Nat.ne_of_lt hlt
        · have z' : b = it := by simpa using z
          obtain ⟨o, q, _⟩ := hs
          rw [z']; exact Nat.ne_of_lt (Heap.lt_size q)
      rw [upd_ne ne]; exact hb0.1
  done := by
    intro X hP hw hK hc i pins s σ H E I hf st hg
    subst hP hw hK
    obtain ⟨n1, n2, ⟨old, he⟩, hs⟩ := st
    have hh : X.A.in1.handled = none := I.ok.hd hc
    obtain ⟨xs, hq, hi⟩ := hg
    obtain ⟨its, rv, p, hz⟩ := I.tuple hq
    have hi' : i = its.toArray.size := by rw [hi, rv.length]; simp
    obtain ⟨f0, f1, f2, f3, f4, f5⟩ := hf it (by simp)
    refine wpAny_pyNext_enum_endD (Draws.tup hh it a n1 its.toArray) he (by rw [← hi']; exact ⟨hs, p⟩) fun h1 eb => ⟨rfl, I.turned (t' := s.toks) (fun b o hb q => eb b o hb q) f0 f1 f3 f4 f5⟩
  self := fun _ _ _ _ _ st h => by
    obtain ⟨_, _, ⟨old, he⟩, _⟩ := st
    exact wpAny_pyIter_enum he h
section
variable {X : Cx}
def iEnumS (ta : TE) : TI := fun σ H R => ta σ H fun v H1 => ∃ x, v = .str x ∧ R (ItS x) H1
def iEnumT (K : PySem.W.Frag) (ta : TE) : TI := fun σ H R => ta σ H fun v H1 => ∃ a, v = .ref a ∧ (∃ xs, SqT K H1 a xs) ∧ R (ItT K a) H1
theorem boot_enum : bootBuiltins "enumerate" = some (.type "enumerate") := by decide +kernel
theorem pi_enumS {elts : List Expr} {k : Nat} {tp : Pos} {a : Expr} {ta : TE} {p pos : Pos} (hg : Gl X "enumerate") (hm : X.mg "enumerate" = none) (ha : PE X a ta) (hs : starEach [a] X.env = [(false, eval a X.env)] := by rfl) :
    PI X (.Tuple elts k tp) (.Call (.Name "enumerate" p) [a] [] pos) (iEnumS ta) := by
  intro pins s σ H R I h
  refine Call_ (ld_blt I hg hm boot_enum (PyProof.Rows.callWith_type1 (thn (pa_cons ha pa_nil hs pos pins s σ H (fun vs H1 => ∃ x, vs = [.str x] ∧ R (ItS x) H1) I ?_) fun us s1 ⟨vs, H1, I1, r1, q1⟩ => ?_) hs rfl))
  · show ta σ H fun v H1 => ∃ x, [v] = [V.str x] ∧ R (ItS x) H1
    have h' : ta σ H fun v H1 => ∃ x, v = .str x ∧ R (ItS x) H1 := h
    have e : (fun (v : V) H1 => ∃ x, [v] = [V.str x] ∧ R (ItS x) H1) = fun v H1 => ∃ x, v = .str x ∧ R (ItS x) H1 := by
      funext v H1
      simp
    rw [e]; exact h'
  · obtain ⟨x, e, q⟩ := q1
    subst e
    cases r1 with
    | cons r rr =>
      cases rr
      obtain ⟨t, rfl⟩ := r
      refine call_enumerate_str fun h1 he hi hz hk => ?_
      have I2 : Inv X pins σ H1 { s1 with heap := h1 } := I1.kept (t' := s1.toks) hk
      refine wpAny_pyIter_enum he ⟨s1.heap.objs.size + 1, [s1.heap.objs.size + 1, s1.heap.objs.size], _, ItS x, H1, rfl, I2, turn_enumS x t _ _ (Nat.succ_ne_self _), ⟨⟨_, by simpa using he⟩, hi⟩, fun b hb => ?_, q⟩
      have hb' : s1.heap.objs.size ≤ b := by
        rcases List.mem_cons.mp hb with z | z
        · rw [z]; exact Nat.le_succ _
        · have z' : b = s1.heap.objs.size := by simpa using z
          rw [z']; exact Nat.le_refl _
      exact I1.fpOk hb' (I1.hok.fresh hb')
theorem pi_enumT {elts : List Expr} {k : Nat} {tp : Pos} {a : Expr} {ta : TE} {p pos : Pos} (hg : Gl X "enumerate") (hm : X.mg "enumerate" = none) (ha : PE X a ta) (hs : starEach [a] X.env = [(false, eval a X.env)] := by rfl) :
    PI X (.Tuple elts k tp) (.Call (.Name "enumerate" p) [a] [] pos) (iEnumT X.K ta) := by
  intro pins s σ H R I h
  refine Call_ (ld_blt I hg hm boot_enum (PyProof.Rows.callWith_type1 (thn (pa_cons ha pa_nil hs pos pins s σ H (fun vs H1 => ∃ x, vs = [.ref x] ∧ (∃ xs, SqT X.K H1 x xs) ∧ R (ItT X.K x) H1) I ?_) fun us s1 ⟨vs, H1, I1, r1, q1⟩ => ?_) hs rfl))
  · show ta σ H fun v H1 => ∃ x, [v] = [V.ref x] ∧ (∃ xs, SqT X.K H1 x xs) ∧ R (ItT X.K x) H1
    have h' : ta σ H fun v H1 => ∃ x, v = .ref x ∧ (∃ xs, SqT X.K H1 x xs) ∧ R (ItT X.K x) H1 := h
    have e : (fun (v : V) H1 => ∃ x, [v] = [V.ref x] ∧ (∃ xs, SqT X.K H1 x xs) ∧ R (ItT X.K x) H1) = fun v H1 => ∃ x, v = .ref x ∧ (∃ xs, SqT X.K H1 x xs) ∧ R (ItT X.K x) H1 := by
      funext v H1
      simp
    rw [e]; exact h'
  · obtain ⟨x, e, ⟨xs, hq⟩, q⟩ := q1
    subst e
    cases r1 with
    | cons r rr =>
      cases rr
      cases r
      obtain ⟨its, rv, pt, hz0⟩ := I1.tuple hq
      have ptl : x < s1.heap.objs.size := by obtain ⟨o, e, _⟩ := pt; exact Heap.lt_size e
      refine call_enumerate_tup pt fun h1 he hi hz hk => ?_
      have I2 : Inv X pins σ H1 { s1 with heap := h1 } := I1.kept (t' := s1.toks) hk
      refine wpAny_pyIter_enum he ⟨s1.heap.objs.size + 1, [s1.heap.objs.size + 1, s1.heap.objs.size], _, ItT X.K x, H1, rfl, I2, turn_enumT x _ _ (Nat.succ_ne_self _), ⟨Nat.ne_of_lt ptl, Nat.ne_of_lt (Nat.lt_succ_of_lt ptl), ⟨_, by simpa using he⟩, hi⟩, fun b hb => ?_, q⟩
      have hb' : s1.heap.objs.size ≤ b := by
        rcases List.mem_cons.mp hb with z | z
        · rw [z]; exact Nat.le_succ _
        · have z' : b = s1.heap.objs.size := by simpa using z
          rw [z']; exact Nat.le_refl _
      exact I1.fpOk hb' (I1.hok.fresh hb')
end
/-- over the pairs of a text's places and signs -/
theorem for_enumS {x : Str} {g : TG} {tb : TS} {D : Ends} {σ : St} {H : Hp} (Pv : Nat → St → Hp → Prop) (h0 : Pv 0 σ H)
    (hs : ∀ i c t σ H, x.cps[i]? = some c → H t = none → Pv i σ H → g (.ref t) σ (upd H t (.tup [.int i, .str ⟨#[c]⟩])) fun σ2 H2 => tb { D with nx := Pv (i + 1), ct := Pv (i + 1), bk := D.nx } σ2 H2) (hd : ∀ σ H, Pv x.cps.size σ H → D.nx σ H) :
    ∃ W : Nat → Nat → St → Hp → Prop, (∃ m, W 0 m σ H) ∧ ∀ i m σ H, W i m σ H →
      ((ItS x).stop i H ∧ D.nx σ H) ∨ ((ItS x).go i H ∧ ∃ N : St → Hp → Prop, (∀ σ' H', N σ' H' → ∃ m', m' < m ∧ W (i + 1) m' σ' H') ∧ ∀ v H', (ItS x).yld i H v H' → g v σ H' fun σ2 H2 => tb { D with nx := N, ct := N, bk := D.nx } σ2 H2) := by
  refine ⟨fun i m σ H => m = x.cps.size - i ∧ i ≤ x.cps.size ∧ Pv i σ H, ⟨_, rfl, Nat.zero_le _, h0⟩, ?_⟩
  rintro i m σ H ⟨rfl, hi, p⟩
  by_cases hlt : i < x.cps.size
  · refine .inr ⟨hlt, Pv (i + 1), fun σ' H' p' => ⟨x.cps.size - (i + 1), by omega, rfl, hlt, p'⟩, fun v H' y => ?_⟩
    obtain ⟨t, c, ht, hc, rfl, rfl⟩ := y
    exact hs i c t σ H hc ht p
  · have e : i = x.cps.size := by omega
    subst e
    exact .inl ⟨rfl, hd σ H p⟩
theorem for_enumT {K : PySem.W.Frag} {a : Addr} {xs : List V} {g : TG} {tb : TS} {D : Ends} {σ : St} {H : Hp} (Pv : Nat → St → Hp → Prop) (h0 : Pv 0 σ H) (hl : ∀ i σ H, i ≤ xs.length → Pv i σ H → SqT K H a xs)
    (hs : ∀ i y t σ H, xs[i]? = some y → H t = none → Pv i σ H → g (.ref t) σ (upd H t (.tup [.int i, y])) fun σ2 H2 => tb { D with nx := Pv (i + 1), ct := Pv (i + 1), bk := D.nx } σ2 H2) (hd : ∀ σ H, Pv xs.length σ H → D.nx σ H) :
    ∃ W : Nat → Nat → St → Hp → Prop, (∃ m, W 0 m σ H) ∧ ∀ i m σ H, W i m σ H →
      ((ItT K a).stop i H ∧ D.nx σ H) ∨ ((ItT K a).go i H ∧ ∃ N : St → Hp → Prop, (∀ σ' H', N σ' H' → ∃ m', m' < m ∧ W (i + 1) m' σ' H') ∧ ∀ v H', (ItT K a).yld i H v H' → g v σ H' fun σ2 H2 => tb { D with nx := N, ct := N, bk := D.nx } σ2 H2) := by
  refine ⟨fun i m σ H => m = xs.length - i ∧ i ≤ xs.length ∧ Pv i σ H, ⟨_, rfl, Nat.zero_le _, h0⟩, ?_⟩
  rintro i m σ H ⟨rfl, hi, p⟩
  have q := hl i σ H hi p
  by_cases hlt : i < xs.length
  · refine .inr ⟨⟨xs, xs[i], q, by simp [hlt]⟩, Pv (i + 1), fun σ' H' p' => ⟨xs.length - (i + 1), by omega, rfl, hlt, p'⟩, fun v H' y => ?_⟩
    obtain ⟨t, c, ht, hc, rfl, rfl⟩ := y
    exact hs i c t σ H (hc xs q) ht p
  · have e : i = xs.length := by omega
    subst e
    exact .inl ⟨⟨xs, q, rfl⟩, hd σ H p⟩
end L2

end
section
namespace L2
open PySem PySem.Spec PyProof.Rows
section
variable {X : Cx}
/-! ### == and != of two lists of flat items -/
def eqVs : List V → List V → Bool
  | [], [] => true
  | x :: xs, y :: ys => eqV x y && eqVs xs ys
  | _, _ => false
theorem eqVs_range : ∀ (xs ys : List V), xs.length = ys.length → (List.range xs.length).all (fun j => eqV (xs.getD j .non) (ys.getD j .non)) = eqVs xs ys
  | [], [], _ => rfl
  | x :: xs, y :: ys, h => by
    have ih := eqVs_range xs ys (by simpa using h)
    rw [List.length_cons, List.range_succ_eq_map, List.all_cons, List.all_map]
    show (eqV x y && _) = (eqV x y && eqVs xs ys)
    rw [← ih]; rfl
theorem eqVs_len : ∀ (xs ys : List V), xs.length ≠ ys.length → eqVs xs ys = false
  | [], [], h => absurd rfl h
  | [], _ :: _, _ => rfl
  | _ :: _, [], _ => rfl
  | x :: xs, y :: ys, h => by
    show (eqV x y && eqVs xs ys) = false
    rw [eqVs_len xs ys fun z => h (by simp [z])]; simp
theorem eqVs_ints : ∀ (ns ms : List Int), eqVs (ns.map V.int) (ms.map V.int) = decide (ns = ms)
  | [], [] => rfl
  | [], _ :: _ => rfl
  | _ :: _, [] => rfl
  | n :: ns, m :: ms => by
    show ((n == m) && eqVs (ns.map V.int) (ms.map V.int)) = _
    rw [eqVs_ints ns ms]
    by_cases h1 : n = m
    · by_cases h2 : ns = ms
      · simp [h1, h2]
      · simp [h1, h2]
    · simp [h1]
theorem vals_getD {xs : List V} {us : List Value} (r : Vals xs us) {j : Nat} (h : j < us.length) : RelV (xs.getD j .non) us[j] := by
  have hx : j < xs.length := by rw [r.length]; exact h
  obtain ⟨u, hu, ru⟩ := r.get (i := j) (x := xs[j]) (by simp [hx])
  have e : us[j] = u := by
    have := hu
    rw [List.getElem?_eq_getElem h] at this
    exact Option.some.inj this
  have e2 : xs.getD j .non = xs[j] := by simp [List.getD, hx]
  rw [e, e2]; exact ru
theorem flat_getD {xs : List V} (f : xs.all flatV = true) {j : Nat} (h : j < xs.length) : flatV (xs.getD j .non) = true := by
  have e2 : xs.getD j .non = xs[j] := by simp [List.getD, h]
  rw [e2]
  exact List.all_eq_true.mp f _ (List.getElem_mem h)
/-- what the items answer, place by place -/
theorem items_eqAt {A : Around} {s : Shared} {xs ys : List V} {us vs : List Value} (rx : Vals xs us) (ry : Vals ys vs) (fx : xs.all flatV = true) (fy : ys.all flatV = true) :
    ∀ j (h1 : j < us.toArray.size) (h2 : j < vs.toArray.size), SeqAt.EqAt A s us.toArray[j] vs.toArray[j] (eqV (xs.getD j .non) (ys.getD j .non)) := by
  intro j h1 h2
  have h1' : j < us.length := by simpa using h1
  have h2' : j < vs.length := by simpa using h2
  have q := eqAt_V (A := A) (s := s) (vals_getD rx h1') (vals_getD ry h2') (flat_getD fx (by rw [rx.length]; exact h1')) (flat_getD fy (by rw [ry.length]; exact h2'))
  simpa using q
def rEqL (K : PySem.W.Frag) : R2 := fun x y H Q => ∃ a b xs ys, x = .ref a ∧ y = .ref b ∧ SqL K H a xs ∧ SqL K H b ys ∧ xs.all flatV = true ∧ ys.all flatV = true ∧ Q (.bl (eqVs xs ys)) H
def rNeL (K : PySem.W.Frag) : R2 := fun x y H Q => ∃ a b xs ys, x = .ref a ∧ y = .ref b ∧ SqL K H a xs ∧ SqL K H b ys ∧ xs.all flatV = true ∧ ys.all flatV = true ∧ Q (.bl (!eqVs xs ys)) H
theorem op_eqL (hu : X.A.units < cLine) : OpR X (compareOp .Eq) (rEqL X.K) := by
  intro pins s σ H x y v u Q I rx ry h
  obtain ⟨a, b, xs, ys, rfl, rfl, hx, hy, fx, fy, q⟩ := h
  cases rx
  cases ry
  obtain ⟨us, r1, p1, z1⟩ := I.list hx
  obtain ⟨vs, r2, p2, z2⟩ := I.list hy
  by_cases hl : xs.length = ys.length
  · refine SeqAt.eq_listAt p1.isList p2.isList (by simp [← r1.length, ← r2.length, hl]) hu (items_eqAt r1 r2 fx fy) ⟨.bl (eqVs xs ys), H, I, ?_, q⟩
    show Value.bool _ = Value.bool _
    rw [← eqVs_range xs ys hl]; simp [← r1.length]
  · refine SeqAt.eq_list_lengthsAt p1.isList p2.isList (by simpa [← r1.length, ← r2.length] using hl) hu ⟨.bl (eqVs xs ys), H, I, ?_, q⟩
    show Value.bool _ = Value.bool _
    rw [eqVs_len xs ys hl]
theorem ne_at {prog : Program} {w : World} {A : Around} {E : Value → Shared → Prop} {s : Shared} {l b : Addr} {items items2 : Array Value} {e : Nat → Bool} {Q : Value → Shared → Prop} (hl : s.heap.IsList l items) (hb : s.heap.IsList b items2) (hsz : items.size = items2.size) (hu : A.units < cLine)
    (he : ∀ j (h1 : j < items.size) (h2 : j < items2.size), SeqAt.EqAt A.in1 s items[j] items2[j] (e j)) (h : Q (.bool (!((List.range items.size).all e))) s) : wpAny (model prog w) A (compareOp .NotEq (.ref l) (.ref b)) Q E s := by
  obtain ⟨⟨c, dd, dt, sl⟩, ho, hc, n, hd⟩ := hl
  obtain ⟨⟨c2, dd2, dt2, sl2⟩, ho2, hc2, n2, hd2⟩ := hb
  dsimp only at hc hd hc2 hd2
  subst hc hd hc2 hd2
  exact richCompare_meets_room (op := .NotEq) ⟨_, ho, rfl⟩ ⟨_, ho2, rfl⟩ F.slot_list_ne F.entry_list_ne (F.args_list_ne_2 _ _) (SeqAt.list_neAt l b items items2 n n2 dd dd2 sl sl2 hsz e)
    ⟨ho, ho2, he, ⟨(fun x => nomatch x), h⟩⟩ hu
theorem ne_at_len {prog : Program} {w : World} {A : Around} {E : Value → Shared → Prop} {s : Shared} {l b : Addr} {items items2 : Array Value} {Q : Value → Shared → Prop} (hl : s.heap.IsList l items) (hb : s.heap.IsList b items2) (hsz : (items.size != items2.size) = true) (hu : A.units < cLine)
    (h : Q (.bool true) s) : wpAny (model prog w) A (compareOp .NotEq (.ref l) (.ref b)) Q E s := by
  obtain ⟨⟨c, dd, dt, sl⟩, ho, hc, n, hd⟩ := hl
  obtain ⟨⟨c2, dd2, dt2, sl2⟩, ho2, hc2, n2, hd2⟩ := hb
  dsimp only at hc hd hc2 hd2
  subst hc hd hc2 hd2
  exact richCompare_meets_room (op := .NotEq) ⟨_, ho, rfl⟩ ⟨_, ho2, rfl⟩ F.slot_list_ne F.entry_list_ne (F.args_list_ne_2 _ _) (SeqAt.list_ne_lengthsAt l b items items2 n n2 dd dd2 sl sl2 hsz)
    ⟨ho, ho2, ⟨(fun x => nomatch x), h⟩⟩ hu
theorem op_neL (hu : X.A.units < cLine) : OpR X (compareOp .NotEq) (rNeL X.K) := by
  intro pins s σ H x y v u Q I rx ry h
  obtain ⟨a, b, xs, ys, rfl, rfl, hx, hy, fx, fy, q⟩ := h
  cases rx
  cases ry
  obtain ⟨us, r1, p1, z1⟩ := I.list hx
  obtain ⟨vs, r2, p2, z2⟩ := I.list hy
  by_cases hl : xs.length = ys.length
  · refine ne_at p1.isList p2.isList (by simp [← r1.length, ← r2.length, hl]) hu (items_eqAt r1 r2 fx fy) ⟨.bl (!eqVs xs ys), H, I, ?_, q⟩
    show Value.bool _ = Value.bool _
    rw [← eqVs_range xs ys hl]; simp [← r1.length]
  · refine ne_at_len p1.isList p2.isList (by simpa [← r1.length, ← r2.length] using hl) hu ⟨.bl (!eqVs xs ys), H, I, ?_, q⟩
    show Value.bool _ = Value.bool _
    rw [eqVs_len xs ys hl]; rfl
/-- two lists of two lists each, all four apart -/
theorem op_eqLL (hu : X.A.units + 1 < cLine) : OpR X (compareOp .Eq) (fun x y H Q => ∃ a b a1 a2 b1 b2 w1 w2 z1 z2, x = .ref a ∧ y = .ref b ∧ SqL X.K H a [.ref a1, .ref a2] ∧ SqL X.K H b [.ref b1, .ref b2] ∧ a1 ≠ b1 ∧ a2 ≠ b2 ∧
    SqL X.K H a1 w1 ∧ SqL X.K H a2 w2 ∧ SqL X.K H b1 z1 ∧ SqL X.K H b2 z2 ∧ w1.all flatV = true ∧ w2.all flatV = true ∧ z1.all flatV = true ∧ z2.all flatV = true ∧ Q (.bl (eqVs w1 z1 && eqVs w2 z2)) H) := by
  intro pins s σ H x y v u Q I rx ry h
  obtain ⟨a, b, a1, a2, b1, b2, w1, w2, z1, z2, rfl, rfl, hx, hy, n1, n2, h1, h2, h3, h4, f1, f2, f3, f4, q⟩ := h
  cases rx
  cases ry
  obtain ⟨us, r1, p1, _⟩ := I.list hx
  obtain ⟨vs, r2, p2, _⟩ := I.list hy
  obtain ⟨u1, u2, rfl, q1, q2⟩ := r1.two
  obtain ⟨v1, v2, rfl, q3, q4⟩ := r2.two
  cases q1; cases q2; cases q3; cases q4
  have rc : ∀ {l m : Addr} {xs ys : List V}, l ≠ m → SqL X.K H l xs → SqL X.K H m ys → xs.all flatV = true → ys.all flatV = true → SeqAt.EqAt X.A.in1 s (.ref l) (.ref m) (eqVs xs ys) := by
    intro l m xs ys hne hl hm fx fy
    obtain ⟨us, r1, p1, z1⟩ := I.list hl
    obtain ⟨vs, r2, p2, z2⟩ := I.list hm
    refine SeqAt.EqAt.of_refs hne ?_
    by_cases hlen : xs.length = ys.length
    · have := SeqAt.RcAt.lists (A := X.A.in1) (s := s) p1.isList p2.isList (by simp [← r1.length, ← r2.length, hlen]) (by show X.A.units + 1 < cLine; exact hu) (items_eqAt r1 r2 fx fy)
      rw [← eqVs_range xs ys hlen]; simpa [← r1.length] using this
    · have := SeqAt.RcAt.lists_lengths (A := X.A.in1) (s := s) p1.isList p2.isList (by simpa [← r1.length, ← r2.length] using hlen) (by show X.A.units + 1 < cLine; exact hu)
      rw [eqVs_len xs ys hlen]; exact this
  refine SeqAt.eq_listAt (e := fun j => if j = 0 then eqVs w1 z1 else eqVs w2 z2) p1.isList p2.isList rfl (by omega) (fun j hj1 hj2 => ?_) ⟨.bl (eqVs w1 z1 && eqVs w2 z2), H, I, ?_, q⟩
  · have hj : j < 2 := hj1
    match j, hj with
    | 0, _ => exact rc n1 h1 h3 f1 f3
    | 1, _ => exact rc n2 h2 h4 f2 f4
  · show Value.bool _ = Value.bool _
    simp [List.range_succ]
/-! ### any, all of a list of truths -/
theorem boot_anyX : bootBuiltins "any" = some (.builtin "any") := by decide +kernel
theorem boot_allX : bootBuiltins "all" = some (.builtin "all") := by decide +kernel
theorem range_any (bs : List Bool) : (List.range bs.length).any (fun i => bs.getD i false) = bs.any id := by
  induction bs with
  | nil => rfl
  | cons b r ih =>
    rw [List.length_cons, List.range_succ_eq_map, List.any_cons, List.any_map, List.any_cons, ← ih]; rfl
theorem range_all (bs : List Bool) : (List.range bs.length).all (fun i => bs.getD i false) = bs.all id := by
  induction bs with
  | nil => rfl
  | cons b r ih =>
    rw [List.length_cons, List.range_succ_eq_map, List.all_cons, List.all_map, List.all_cons, ← ih]; rfl
theorem truth_bools {prog : Program} {w : World} {A : Around} {bs : List Bool} {its : List Value} (r : Vals (bs.map V.bl) its) : TruthOf prog w A (fun i v => its.toArray[i]? = some v) (fun i => bs.getD i false) := by
  intro i v s Q E hv hq
  have hv' : its[i]? = some v := by simpa using hv
  have hi : i < its.length := (List.getElem?_eq_some_iff.mp hv').1
  have hb : i < bs.length := by have := r.length; simp at this; omega
  obtain ⟨u, hu, ru⟩ := r.get (i := i) (x := .bl bs[i]) (by simp [hb])
  rw [hv'] at hu
  cases hu
  cases ru
  have e : bs.getD i false = bs[i] := by simp [List.getD, hb]
  have hq' : Q (bs.getD i false) s := hq
  rw [e] at hq'
  exact wpAny_pure hq'
theorem call_anyL (hc : X.calm = true) : CallR X (.builtin "any") (fun xs H Q => ∃ (p : Addr) (bs : List Bool), xs = [V.ref p] ∧ H p = some (.lst (bs.map V.bl)) ∧ Q (.bl (bs.any id)) H) := by
  intro pins s σ H xs us Q I r h
  obtain ⟨p, bs, rfl, hp, q⟩ := h
  obtain ⟨u, rfl, ru⟩ := vals1 r
  cases ru
  obtain ⟨its, rv, pl, hz⟩ := I.list (SqL.of (K := X.K) hp)
  have lt : p < s.heap.objs.size := by obtain ⟨o, n, e, _⟩ := pl; exact Heap.lt_size e
  refine call_any_walk (wpAny_pyIter_list pl.isList ⟨_, _, _, _, _, _, fun i => bs.getD i false, rfl, Walks.list (A := X.A.in1) (I.ok.hd hc) _ p (Nat.ne_of_lt lt) its.toArray, ⟨⟨_, Heap.get?_push_size _ rfl, rfl, rfl⟩, pl.isList.push _⟩, truth_bools rv, fun h' tk k => ?_⟩)
  refine ⟨.bl (bs.any id), H, ?_, ?_, q⟩
  · exact I.kept (t' := tk) fun b o e => k b o (by simp; exact Nat.ne_of_lt (Heap.lt_size e)) (Heap.get?_push_of_some _ e)
  · show Value.bool _ = Value.bool _
    have e : its.toArray.size = bs.length := by have := rv.length; simp at this; simp [this]
    rw [e, range_any]
theorem call_allL (hc : X.calm = true) : CallR X (.builtin "all") (fun xs H Q => ∃ (p : Addr) (bs : List Bool), xs = [V.ref p] ∧ H p = some (.lst (bs.map V.bl)) ∧ Q (.bl (bs.all id)) H) := by
  intro pins s σ H xs us Q I r h
  obtain ⟨p, bs, rfl, hp, q⟩ := h
  obtain ⟨u, rfl, ru⟩ := vals1 r
  cases ru
  obtain ⟨its, rv, pl, hz⟩ := I.list (SqL.of (K := X.K) hp)
  have lt : p < s.heap.objs.size := by obtain ⟨o, n, e, _⟩ := pl; exact Heap.lt_size e
  refine call_all_walk (wpAny_pyIter_list pl.isList ⟨_, _, _, _, _, _, fun i => bs.getD i false, rfl, Walks.list (A := X.A.in1) (I.ok.hd hc) _ p (Nat.ne_of_lt lt) its.toArray, ⟨⟨_, Heap.get?_push_size _ rfl, rfl, rfl⟩, pl.isList.push _⟩, truth_bools rv, fun h' tk k => ?_⟩)
  refine ⟨.bl (bs.all id), H, ?_, ?_, q⟩
  · exact I.kept (t' := tk) fun b o e => k b o (by simp; exact Nat.ne_of_lt (Heap.lt_size e)) (Heap.get?_push_of_some _ e)
  · show Value.bool _ = Value.bool _
    have e : its.toArray.size = bs.length := by have := rv.length; simp at this; simp [this]
    rw [e, range_all]
/-! ### isinstance, a dict of the module, index of a tuple -/
theorem call_isi : CallR X (.builtin "isinstance") (fun xs H Q => ∃ x n t b, xs = [x, .ty n] ∧ TyOf X.K H x t ∧ PySem.W.kitOne X.K t (.type n) = some b ∧ Q (.bl b) H) := by
  intro pins s σ H xs us Q I r h
  obtain ⟨x, n, t, b, rfl, ty, e, q⟩ := h
  obtain ⟨u, c, rfl, r1, r2⟩ := vals2 r
  cases (show c = Value.type n from r2)
  exact isinst_ok I r1 ty e fun tk => ⟨.bl b, H, I.tok tk, rfl, q⟩
theorem ix_kd : IxR X (fun x y H Q => ∃ a es n z v u, x = .ref a ∧ y = .str z ∧ X.K.lookup a = some ⟨.type "dict", none, .dict es n, #[]⟩ ∧ PySem.W.KeysLit X.w.params es.toList ∧ PySem.W.nsIn X.K a z = some (some u) ∧ RelV v u ∧ Q v H) := by
  intro value slice pins s σ H x y v u Q I rx ry h hs
  obtain ⟨a, es, n, z, vv, uu, rfl, rfl, hl, hk, he, rv, q⟩ := h
  cases rx
  obtain ⟨t, rfl⟩ := ry
  obtain ⟨m, F⟩ := I.fr
  exact PySem.W.topItem_K F I.mod.kin hl hk he ⟨vv, H, I.tok _, rv, q⟩ hs
end
end L2

end
section
namespace L2
open PySem PySem.Spec PyProof.Rows
/-! ### sets of ints -/
def SetO (w : World) (a : Addr) (ns : List Int) : HO := .ext fun h => SetX.SetAt w h a ns
section
variable {X : Cx} {pins : List (Addr × Obj)} {σ : St} {H : Hp} {s : Shared} {h' : Heap}
/-- a new object laid and tracked; what is drawn may have changed -/
theorem Inv.laidS {a : Addr} {o : HO} {s' : Shared} (I : Inv X pins σ H s) (ho : s'.os = s.os) (hg : s'.gens = s.gens) (k : ∀ b u, s.heap.get? b = some u → s'.heap.get? b = some u) (hp : s.heap.objs.size ≤ a) (new : ObjOk X.prog X.w (upd H a o) s'.heap a o) : Inv X pins σ (upd H a o) s' := by
  have u : Un (frs X.stack) [] H (upd H a o) s.heap s'.heap := Un.laid k hp (I.hok.fresh hp)
  exact I.call' (ch := []) ho u (I.hok.laid k hp new) (by rw [hg]; exact I.bare) fun b hb => nomatch hb
theorem setO_ok {w : World} {P : Program} {a : Addr} {ns : List Int} {H' : Hp} (S : SetX.SetAt w h' a ns) : ObjOk P w H' h' a (SetO w a ns) :=
  ⟨S, (let ⟨o, _, _, _, e, _⟩ := S; ⟨o, e⟩), fun _ _ q k => q.keeps k⟩
theorem Inv.setAt {a : Addr} {ns : List Int} (I : Inv X pins σ H s) (e : H a = some (SetO X.w a ns)) : SetX.SetAt X.w s.heap a ns := (I.hok a _ e).1
end
section
variable {X : Cx}
theorem call_setL (hc : X.calm = true) : CallR X (.type "set") (fun xs H Q => ∃ (l : Addr) (ns : List Int), xs = [.ref l] ∧ SqL X.K H l (ns.map V.int) ∧ ns.length ≤ 1000 ∧ ∀ (p : Addr) (ms : List Int), H p = none → (∀ y, y ∈ ms ↔ y ∈ ns) → ms.Nodup → Q (.ref p) (upd H p (SetO X.w p ms))) := by
  intro pins s σ H xs us Q I r h
  obtain ⟨l, ns, rfl, hq, hl, q⟩ := h
  obtain ⟨u, rfl, ru⟩ := vals1 r
  cases ru
  obtain ⟨its, rv, p, hz⟩ := I.list hq
  have hi : IntsAre its ns := intsAre_of rv
  have hn : its.length = ns.length := hi.length
  refine SetX.call_set_listX (I.ok.hd hc) p.isList (by simpa using hi) (by have : scanBound = 4096 := rfl; simp; omega) fun h1 tk ms S m2 k => ?_
  have nd : ms.Nodup := by obtain ⟨_, _, _, _, _, _, _, _, rfl, z, _⟩ := S; exact z
  exact ⟨.ref s.heap.objs.size, _, I.laidS (s' := { s with heap := h1, toks := tk }) rfl rfl (fun b u e => k b u (Heap.lt_size e) e) (Nat.le_refl _) (setO_ok S), rfl, q _ ms (I.hok.fresh (Nat.le_refl _)) m2 nd⟩
theorem op_andS : OpR X (binaryOp .BitAnd) (fun x y H Q => ∃ (a b : Addr) (ns ms : List Int), x = .ref a ∧ y = .ref b ∧ b ≠ a ∧ H a = some (SetO X.w a ns) ∧ H b = some (SetO X.w b ms) ∧ ∀ (p : Addr) (ks : List Int), H p = none → (∀ y, y ∈ ks ↔ y ∈ ns ∧ y ∈ ms) → Q (.ref p) (upd H p (SetO X.w p ks))) := by
  intro pins s σ H x y v u Q I rx ry h
  obtain ⟨a, b, ns, ms, rfl, rfl, hab, ha, hb, q⟩ := h
  cases rx
  cases ry
  refine SetX.and_setsX hab (I.setAt ha) (I.setAt hb) fun h1 d ks S m2 k => ?_
  exact ⟨.ref s.heap.objs.size, _, I.laidS (s' := { s with heap := h1, drawn := d }) rfl rfl (fun b u e => k b u e) (Nat.le_refl _) (setO_ok S), rfl, q _ ks (I.hok.fresh (Nat.le_refl _)) m2⟩
theorem call_lenS : CallR X (.builtin "len") (fun xs H Q => ∃ (a : Addr) (ns : List Int), xs = [V.ref a] ∧ H a = some (SetO X.w a ns) ∧ Q (.int ns.length) H) := by
  intro pins s σ H xs us Q I r h
  obtain ⟨a, ns, rfl, ha, q⟩ := h
  obtain ⟨u, rfl, ru⟩ := vals1 r
  cases ru
  exact SetX.len_setX (I.setAt ha) fun t tk => ⟨.int ns.length, H, I.tok tk, ⟨t, rfl⟩, q⟩
theorem call_sortedS (hc : X.calm = true) : CallR X (.builtin "sorted") (fun xs H Q => ∃ (a : Addr) (ns : List Int), xs = [V.ref a] ∧ H a = some (SetO X.w a ns) ∧ ns.length < 64 ∧ ∀ (p : Addr) (ms : List Int), H p = none → List.Perm ms ns → ms.Pairwise (· ≤ ·) → Q (.ref p) (upd H p (.lst (ms.map V.int)))) := by
  intro pins s σ H xs us Q I r h
  obtain ⟨a, ns, rfl, ha, hl, q⟩ := h
  obtain ⟨u, rfl, ru⟩ := vals1 r
  cases ru
  refine SetX.sorted_set (I.ok.hd hc) (I.setAt ha) hl fun s1 l vs ms n k g o hz e hi hp hs => ?_
  have hv : Vals (ms.map V.int) vs := vals_ints hi
  have new : ObjOk X.prog X.w (upd H l (.lst (ms.map V.int))) s1.heap l (.lst (ms.map V.int)) := ⟨by rw [List.length_map, hp.length_eq, sizeLine_eq]; omega, vs, n, hv, e⟩
  exact ⟨.ref l, _, I.laidS (s' := s1) o g k hz new, rfl, q _ ms (I.hok.fresh hz) hp hs⟩
/-! ### texts -/
def cntS (c : Nat) (z : Str) : Nat := z.cps.toList.count c
theorem cnt_count (c : Nat) : ∀ l : List Nat, PyProof.Rows.cnt c l = (l.count c : Int)
  | [] => rfl
  | n :: r => by
    rw [PyProof.Rows.cnt_cons, cnt_count c r, List.count_cons]
    by_cases e : n = c
    · subst e; simp; omega
    · simp [e]
theorem mt_count : MtR X "str.count" (fun x xs H Q => ∃ (z : Str) (c : Nat), x = .str z ∧ xs = [.str ⟨#[c]⟩] ∧ Q (.int (cntS c z)) H) := by
  intro pins s σ H x xs v us Q I rx rs h
  obtain ⟨z, c, rfl, rfl, q⟩ := h
  obtain ⟨t, rfl⟩ := rx
  obtain ⟨u, rfl, t', rfl⟩ := vals1 rs
  refine SC.count ⟨.int (cntS c z), H, I.tok _, ⟨s.toks, ?_⟩, q⟩
  have e : Txt.count z ⟨#[c]⟩ = PyProof.Rows.cnt c z.cps.toList := PyProof.Rows.count_is z c
  rw [e, cnt_count]; rfl
theorem mt_join : MtR X "str.join" (fun x xs H Q => ∃ (z : Str) (p : Addr) (ys : List Str), x = .str z ∧ xs = [.ref p] ∧ SqL X.K H p (ys.map V.str) ∧ (ys.map (·.length)).sum + ys.length * z.length ≤ 16777216 ∧ Q (.str (Txt.join z ys)) H) := by
  intro pins s σ H x xs v us Q I rx rs h
  obtain ⟨z, p, ys, rfl, rfl, hq, hz, q⟩ := h
  obtain ⟨t, rfl⟩ := rx
  obtain ⟨u, rfl, ru⟩ := vals1 rs
  cases ru
  obtain ⟨its, rv, pl, _⟩ := I.list hq
  have hs : StrsAre its ys := by
    have all : ∀ (ys : List Str) (its : List Value), Vals (ys.map V.str) its → StrsAre its ys := by
      intro ys
      induction ys with
      | nil => intro its r; cases r; exact .nil
      | cons y r ih =>
        intro its rr
        cases rr with
        | cons r1 r2 => obtain ⟨t, rfl⟩ := r1; exact .cons _ _ (ih _ r2)
    exact all ys its rv
  exact join_list pl.isList (by simpa using hs) hz fun t' k => ⟨.str (Txt.join z ys), H, I.tok _, ⟨t', rfl⟩, q⟩
theorem op_mulS : OpR X (binaryOp .Mult) (fun x y H Q => ∃ (z : Str) (n : Int), x = .str z ∧ y = .int n ∧ MulOk z n ∧ Q (.str (Txt.mul z n)) H) := by
  intro pins s σ H x y v u Q I rx ry h
  obtain ⟨z, n, rfl, rfl, hk, q⟩ := h
  obtain ⟨t, rfl⟩ := rx
  obtain ⟨t', rfl⟩ := ry
  exact SB.mul hk fun t1 k => ⟨.str (Txt.mul z n), H, I.tok _, ⟨t1, rfl⟩, q⟩
theorem sl_str : SlR X (fun x lo hi H Q => ∃ (z : Str), x = .str z ∧ z.length ≤ sizeLine ∧ Q (.str (Txt.slice z lo hi)) H) := by
  intro pins s σ H x v vl vu lo hi sl Q I rx hs pl pu h
  obtain ⟨z, rfl, hz, q⟩ := h
  obtain ⟨t, rfl⟩ := rx
  refine ⟨"str", _, F.slot_str_getitem.lookup, typeIs_str _ _ _, ?_⟩
  have fin : ∀ l u : Option (Int × Tok), s.heap.IsSlice sl l u none → l.map (·.1) = lo → u.map (·.1) = hi → wpAny (model X.prog X.w) X.A (getItem (.str z t) (.ref sl)) (EP X pins σ Q) X.xe s := by
    intro l u hS hl hu
    subst hl hu
    refine wpAny_getItem_str_slice (l := l) (u := u) (st := none) hS rfl ?_
    exact post_val_or_str ⟨Nat.le_trans (Txt.slice_le z _ _) hz, fun t' k => ⟨.str (Txt.slice z _ _), H, I.tok _, ⟨t', rfl⟩, q⟩⟩
  cases pl with
  | none => cases pu with
    | none => exact fin none none hs rfl rfl
    | int j u => exact fin none (some (j, u)) hs rfl rfl
  | int i u' => cases pu with
    | none => exact fin (some (i, u')) none hs rfl rfl
    | int j u => exact fin (some (i, u')) (some (j, u)) hs rfl rfl
end
end L2

end
section
namespace PySem.W
open PySem PySem.Spec PySem.Calls PyProof.Rows
section
variable {prog : Program} {w : World} {A : Around} {E : Value → Shared → Prop} {s : Shared} {K : Frag} {x D : Addr} {ox : Obj}
/-- an exception class of one's own, as the fragment tells it -/
structure XCls (K : Frag) (D : Addr) : Prop where
  ga : findIn K (.ref D) "__getattribute__" = some (some (.builtin "BaseException.__getattribute__"))
  gn : findIn K (.ref D) "__getattr__" = some none
  fo : findObj K D none "__class__" = some (.bind (.builtin "getset_descriptor.__get__") (.builtin "object.__class__"))
  be : mroIn K D (.type "BaseException") = some true
  ob : mroIn K D (.type "object") = some true
  cl : (clsIn K D).isSome = true
theorem xc_class {Q : Option Value → Shared → Prop} (C : XCls K D) (X : K.In s.heap) (I : InstAt s.heap x ox D none) (h : Q (some (.ref D)) { s with toks := s.toks + 1 }) : wpAny (model prog w) A (getAttr? (.ref x) "__class__") Q E s := by
  obtain ⟨hh, g, d, t, os⟩ := s
  have L0 := I.type (M := model prog w)
  have L1 := looks_findIn (M := model prog w) X C.ga
  have L2 := looks_findIn (M := model prog w) X C.gn
  have L3 := looks_find (M := model prog w) X I C.fo
  have L4 := looks_mroIn (M := model prog w) X C.be
  have hk : builtinKind "BaseException.__getattribute__" = some .slot := by decide +kernel
  have hsp : splitId "BaseException.__getattribute__" = some ("BaseException", "__getattribute__") := by decide +kernel
  have hne : (Value.builtin "BaseException.__getattribute__" == Value.builtin "object.__getattribute__") = false := by decide +kernel
  unfold getAttr? getAttrBy? getAttrBy
  refine wpAny_bind (wpAny_mkText (wpAny_bind (wpAny_attempt (wpAny_holding (wpAny_bind (L0.at (wpAny_bind (L1.at ?_))))))))
  show wpAny _ _ (if (onTheHeap (Value.ref D) && Value.builtin "BaseException.__getattribute__" == Value.builtin "object.__getattribute__") = true then _ else getAttrByItsOwn _ _ _ _ _ _) _ _ _
  rw [hne, Bool.and_false, if_neg Bool.false_ne_true]
  unfold getAttrByItsOwn hookBefore
  show wpAny _ _ (typeLookup (.ref D) "__getattr__" >>= _) _ _ _
  refine wpAny_bind (L2.at ?_)
  unfold callGetattribute boundAndCalled
  rw [F.attr_ValueError.ga.bind (.ref x)]
  refine wpAny_bind (wpAny_attempt (wpAny_holding ?_))
  rw [if_neg (show ¬ ((false && onTheHeap (Value.builtin "BaseException.__getattribute__")) = true) from fun z => nomatch z)]
  refine wpAny_bind (wpAny_pure ?_)
  refine wpAny_call (codeAny_call_builtin F.attr_ValueError.ga.plain F.entry_bexc_ga ?_)
  have ar := F.args_bexc_ga (.ref x) (.str "__class__" t)
  simp only [checkBuiltinCall, hk, hsp]
  unfold isInstance
  have L5 : Looks (model prog w) hh (isSubtype (Value.ref D) (Value.type "BaseException") >>= fun b => pure b) true := L4.andThen .now
  show wpAny _ _ (isInstance (.ref x) (.type "BaseException") >>= _) _ _ _
  unfold isInstance
  refine wpAny_bind (wpAny_bind (L0.at (L4.at ?_)))
  simp only [Bool.not_true, Bool.false_eq_true, if_false]
  repeat (any_goals (first | assumption | wp_step))
  refine wpAny_loadPart I.at_ (wpAny_pure ?_)
  rw [I.cls]
  refine wpAny_bind (L3.at ?_)
  show wpAny _ _ (Builtin.ObjectAttr.bindTo (Value.builtin "getset_descriptor.__get__") (Value.builtin "object.__class__") (Value.ref x) (Value.ref D)) _ _ _
  unfold Builtin.ObjectAttr.bindTo
  repeat (any_goals (first | assumption | with_reducible refine class_get (ox := ox) (od := none) X I C.ob ?_ | wp_step))
theorem kitx_exc (C : XCls K D) : KitX K (.ref x) (.ref D) (fun h => InstAt h x ox D none) where
  ty := fun _ _ _ I => I.type
  it := fun _ _ X _ => by
    have z := C.cl; unfold clsIn at z
    split at z
    · rename_i c' d' cd' sl' ho; intro A' Q' E' s' k q; unfold isType loadHead; exact wpAny_bind (wpAny_loadPart (k _ _ (X _ _ ho)) (wpAny_pure q))
    · cases z
  ne := fun h tp dd its n sl X htp => by
    refine Bool.eq_false_iff.mpr fun q => ?_
    have e : D = tp := Value.ref.inj (beq_iff_eq.mp q)
    subst e; have z := C.cl; unfold clsIn at z
    split at z
    · rename_i c' d' cd' sl' ho; exact nomatch (X _ _ ho).symm.trans htp
    · cases z
  ca := fun X I k => xc_class C X I k
end
end PySem.W

end
section
namespace PySem
open Sem (wp)
/-- an exception as it lies: its class, no dict of its own, its trace, its context -/
def ExcSh (h : Heap) (e : Addr) (C t1 c2 : Value) : Prop := ∃ oe vs, h.get? e = some oe ∧ oe.cls = C ∧ oe.dict = none ∧ oe.data = .fields vs ∧ vs[1]? = some t1 ∧ vs[2]? = some c2
def TbSh (h : Heap) (T : Addr) (fl : Value) : Prop := ∃ oT ts, h.get? T = some oT ∧ oT.data = .fields ts ∧ ts[3]? = some fl
/-- kept but those at ch; the frames up to their slots -/
def KeepX (fs ch : List Addr) (h h' : Heap) : Prop := (∀ b o, b ∉ ch → b ∉ fs → h.get? b = some o → h'.get? b = some o) ∧ ∀ b o, b ∉ ch → b ∈ fs → h.get? b = some o → ∃ sl, h'.get? b = some { o with slots := sl }
theorem KeepX.any {fs ch : List Addr} {h h' : Heap} (k : KeepX fs ch h h') {b : Addr} {o : Obj} (hb : b ∉ ch) (e : h.get? b = some o) : ∃ sl, h'.get? b = some { o with slots := sl } := by
  by_cases hf : b ∈ fs
  · exact k.2 b o hb hf e
  · exact ⟨o.slots, k.1 b o hb hf e⟩
theorem KeepX.trans {fs ch : List Addr} {h1 h2 h3 : Heap} (a : KeepX fs ch h1 h2) (b : KeepX fs ch h2 h3) : KeepX fs ch h1 h3 :=
  ⟨fun x o c f e => b.1 x o c f (a.1 x o c f e), fun x o c f e => by obtain ⟨sl, e1⟩ := a.2 x o c f e; obtain ⟨sl', e2⟩ := b.2 x _ c f e1; exact ⟨sl', e2⟩⟩
theorem KeepX.mono {fs ch ch' : List Addr} {h1 h2 : Heap} (a : KeepX fs ch h1 h2) (s : ∀ b ∈ ch, b ∈ ch') : KeepX fs ch' h1 h2 := ⟨fun x o c f e => a.1 x o (fun z => c (s x z)) f e, fun x o c f e => a.2 x o (fun z => c (s x z)) f e⟩
/-- a change at T, which is not yet there at first or among ch -/
theorem KeepX.then1 {fs ch : List Addr} {h1 h2 h3 : Heap} {T : Addr} (a : KeepX fs ch h1 h2) (b : KeepX fs [T] h2 h3) (n : h1.get? T = none ∨ T ∈ ch) : KeepX fs ch h1 h3 := by
  have ne : ∀ x o, x ∉ ch → h1.get? x = some o → x ∉ [T] := fun x o c e z => by
    simp at z; subst z
    rcases n with n | n
    · rw [n] at e; cases e
    · exact c n
  exact ⟨fun x o c f e => b.1 x o (ne x o c e) f (a.1 x o c f e), fun x o c f e => by obtain ⟨sl, e1⟩ := a.2 x o c f e; obtain ⟨sl', e2⟩ := b.2 x _ (ne x o c e) f e1; exact ⟨sl', e2⟩⟩
theorem dict_mapF (o : Obj) (f : Array Value → Array Value) : (o.mapFields f).dict = o.dict := by
  obtain ⟨c, d, dt, sl⟩ := o
  cases dt <;> rfl
section
variable {M : Model} {A : Around} {E : Value → Shared → Prop} {s : Shared}
theorem entryX {base : Heap} {env env' : Env} {outer : List Env} {L e : Addr} {C t1 c2 head : Value} {hadNext : Bool} {Q : Unit → Shared → Prop} (hfr : A.frames = some (env :: outer)) (hl : s.heap.FunFrames base (env :: outer)) (hf : env.frame = some L) (hf' : env'.frame = some L) (he : ExcSh s.heap e C t1 c2)
    (k : ∀ h' T, s.heap.objs.size ≤ T → T ≠ e → ExcSh h' e C (.ref T) c2 → TbSh h' T (rawInt L) → KeepX ((env :: outer).filterMap (·.frame)) [e] s.heap h' → Q () { s with heap := h' }) :
    wpAny M A (do let a ← frameOf env'; let pl ← entryPlaceOf L hadNext; let b ← EntryCells.newEntry head a .none (rawInt L) .none pl; setField (.ref e) 1 b) Q E s := by
  obtain ⟨oe, vs, h0, hc, hdc, hd, h1, h2⟩ := he
  have ef : frameOf env' = frameOf env := by unfold frameOf; rw [hf, hf']
  rw [ef]
  have nf : e ∉ (env :: outer).filterMap (·.frame) := fun hm => by obtain ⟨_, o, ho, hn⟩ := hl.mem hm; rw [h0] at ho; cases ho; exact hn vs hd
  refine wpAny_bind (wpAny_frameOf_fun hfr hl hf fun g1 sg => wpAny_bind (wpAny_entryPlaceOf fun pl hpl => ?_))
  unfold EntryCells.newEntry newFields
  refine wpAny_bind (wpAny_newObj_type ?_ (hpl.sizeOk5 _ _ _ _ _))
  have a1 : g1.get? e = some oe := (sg.2.1 e nf).trans h0
  generalize hoT : ({ cls := .type "traceback", dict := none, data := .fields ([head, .ref L, .none, rawInt L, .none] ++ (if pl.isEmpty then List.replicate 6 Value.none else pl)).toArray } : Obj) = oT
  have hsz : 1 < vs.size := (Array.getElem?_eq_some_iff.mp h1).1
  have a2 := Heap.get?_push_of_some (h := g1) oT a1
  refine wpAny_setField a2 hd hsz ?_
  have ne : g1.objs.size ≠ e := Nat.ne_of_gt (Heap.lt_size a1)
  have d3 := Obj.data_mapFields hd (·.setIfInBounds 1 (Value.ref g1.objs.size))
  have fr0 : oT.isFreed = false := by subst hoT; rfl
  refine k _ g1.objs.size (by rw [sg.1]; exact Nat.le_refl _) ne ⟨_, _, Heap.get?_update_self _ a2 (Obj.isFreed_of_fields d3), (Obj.cls_mapFields _ _).trans hc, ?_, d3, by simp [hsz], ?_⟩ ⟨oT, _, ?_, by subst hoT; rfl, ?_⟩ ⟨fun b o hb hfs eb => ?_, fun b o hb hfs eb => ?_⟩
  · rw [dict_mapF]; exact hdc
  · rw [Array.getElem?_setIfInBounds_ne (by decide)]; exact h2
  · rw [Heap.get?_update_other _ _ (Ne.symm ne)]; exact Heap.get?_push_size g1 fr0
  · simp
  · have hbe : b ≠ e := fun z => hb (by simp [z])
    rw [Heap.get?_update_other _ _ (Ne.symm hbe)]
    exact Heap.get?_push_of_some _ ((sg.2.1 b hfs).trans eb)
  · have hbe : b ≠ e := fun z => hb (by simp [z])
    obtain ⟨sl, q⟩ := sg.2.2 b o eb
    exact ⟨sl, by rw [Heap.get?_update_other _ _ (Ne.symm hbe)]; exact Heap.get?_push_of_some _ q⟩
/-- the trace is none, or a record -/
def NoFl (h : Heap) (e : Addr) (t1 : Value) : Prop := t1 = .none ∨ ∃ T fl, t1 = .ref T ∧ T ≠ e ∧ TbSh h T fl
/-- the flight is set -/
theorem setFlX {e T : Addr} {C c2 fl : Value} {fs : List Addr} {fr : Option Addr} {Q : Unit → Shared → Prop} (n : T ≠ e) (he : ExcSh s.heap e C (.ref T) c2) (ht : TbSh s.heap T fl)
    (k : ∀ h', (∀ o, s.heap.get? e = some o → h'.get? e = some o) → ExcSh h' e C (.ref T) c2 → TbSh h' T (fr.elim .none fun f => rawInt f) → KeepX fs [T] s.heap h' → Q () { s with heap := h' }) : wpAny M A (setFlight (.ref e) fr) Q E s := by
  obtain ⟨oe, vs, h0, hc, hdc, hd, h1, h2⟩ := he
  obtain ⟨oT, ts, g0, gd, g3⟩ := ht
  have sz : 3 < ts.size := (Array.getElem?_eq_some_iff.mp g3).1
  unfold setFlight
  refine wpAny_bind (wpAny_field h0 hd h1 ?_)
  rw [if_pos (show (Value.ref T != Value.none) = true from by simp)]
  refine wpAny_setField g0 gd sz (k _ (fun o q => by rw [Heap.get?_update_other _ _ n]; exact q) ⟨oe, vs, by rw [Heap.get?_update_other _ _ n]; exact h0, hc, hdc, hd, h1, h2⟩ ⟨_, _, Heap.get?_update_self _ g0 (Obj.isFreed_of_fields (Obj.data_mapFields gd _)), Obj.data_mapFields gd _, by simp [sz]⟩ ⟨fun b o hb _ q => ?_, fun b o hb _ q => ⟨o.slots, ?_⟩⟩)
  · rw [Heap.get?_update_other _ _ (fun z => hb (by simp [z]))]; exact q
  · rw [Heap.get?_update_other _ _ (fun z => hb (by simp [z]))]; exact q
/-- a frame is noted on an exception -/
theorem noteX {base : Heap} {env env' : Env} {outer : List Env} {L e : Addr} {C t1 c2 : Value} {ch : List Addr} {Q : Unit → Shared → Prop} (hfr : A.frames = some (env :: outer)) (hl : s.heap.FunFrames base (env :: outer)) (hf : env.frame = some L) (hf' : env'.frame = some L) (he : ExcSh s.heap e C t1 c2) (ht : NoFl s.heap e t1)
    (hch : e ∈ ch) (hch' : ∀ T, t1 = .ref T → T ∈ ch)
    (k : ∀ h' T, (s.heap.objs.size ≤ T ∨ t1 = .ref T) → T ≠ e → ExcSh h' e C (.ref T) c2 → TbSh h' T (rawInt L) → KeepX ((env :: outer).filterMap (·.frame)) ch s.heap h' → Q () { s with heap := h' }) :
    wpAny M A (noteFrame (.ref e) env') Q E s := by
  obtain ⟨oe, vs, h0, hc, hdc, hd, h1, h2⟩ := id he
  unfold noteFrame
  simp only [hf']
  refine wpAny_bind (wpAny_field h0 hd h1 ?_)
  rcases ht with rfl | ⟨T, fl, rfl, hTe, oT, ts, g0, gd, g3⟩
  · rw [if_neg (show ¬ ((Value.none != Value.none) = true) from by simp)]
    exact entryX hfr hl hf hf' he fun g T n1 n2 x1 x2 x3 => k g T (.inl n1) n2 x1 x2 (x3.mono fun b hb => by simp at hb; rw [hb]; exact hch)
  · rw [if_pos (show (Value.ref T != Value.none) = true from by simp)]
    refine wpAny_bind (wpAny_field g0 gd g3 ?_)
    by_cases hfl : (fl == rawInt L) = true
    · rw [if_pos hfl]
      have e3 : fl = rawInt L := eq_of_beq hfl
      subst e3
      exact wpAny_pure (k s.heap T (.inr rfl) hTe he ⟨oT, ts, g0, gd, g3⟩ ⟨fun _ _ _ _ q => q, fun _ o _ _ q => ⟨o.slots, q⟩⟩)
    rw [if_neg hfl]
    have sz : 3 < ts.size := (Array.getElem?_eq_some_iff.mp g3).1
    refine wpAny_bind (wpAny_setField g0 gd sz ?_)
    have oth : ∀ b, b ≠ T → (s.heap.update T (Obj.mapFields (·.setIfInBounds 3 Value.none))).get? b = s.heap.get? b := fun b hb => Heap.get?_update_other _ _ (Ne.symm hb)
    have szU : (s.heap.update T (Obj.mapFields (·.setIfInBounds 3 Value.none))).objs.size = s.heap.objs.size := by simp
    have nfT : ∀ b, b ∈ (env :: outer).filterMap (·.frame) → b ≠ T := fun b hb z => by obtain ⟨_, o, ho, hn⟩ := hl.mem hb; rw [z, g0] at ho; cases ho; exact hn ts gd
    have he' : ExcSh (s.heap.update T (Obj.mapFields (·.setIfInBounds 3 Value.none))) e C (.ref T) c2 := ⟨oe, vs, (oth e (Ne.symm hTe)).trans h0, hc, hdc, hd, h1, h2⟩
    have hl' : Heap.FunFrames (s.heap.update T (Obj.mapFields (·.setIfInBounds 3 Value.none))) base (env :: outer) := hl.of_keeps fun b o hb hn => ⟨o, (oth b fun z => by rw [z, g0] at hb; cases hb; exact hn ts gd).trans hb, rfl⟩
    refine entryX (s := { s with heap := s.heap.update T (Obj.mapFields (·.setIfInBounds 3 Value.none)) }) hfr hl' hf hf' he' fun g T' n1 n2 x1 x2 x3 => k g T' (.inl (by rw [← szU]; exact n1)) n2 x1 x2 ⟨fun b o hb hfs eb => ?_, fun b o hb hfs eb => ?_⟩
    · have nb : b ≠ T := fun z => hb (z ▸ hch' T rfl)
      exact x3.1 b o (fun z => by simp at z; exact hb (z ▸ hch)) hfs ((oth b nb).trans eb)
    · exact x3.2 b o (fun z => by simp at z; exact hb (z ▸ hch)) hfs ((oth b (nfT b hfs)).trans eb)
/-- a frame is left, or its handlers are reached -/
theorem leaveX {base : Heap} {env : Env} {outer : List Env} {L e : Addr} {C t1 c2 : Value} {ch : List Addr} {Q : Unit → Shared → Prop} (hfr : A.frames = some (env :: outer)) (hl : s.heap.FunFrames base (env :: outer)) (hf : env.frame = some L) (he : ExcSh s.heap e C t1 c2) (ht : NoFl s.heap e t1)
    (hch : e ∈ ch) (hch' : ∀ T, t1 = .ref T → T ∈ ch)
    (k : ∀ h' T, (s.heap.objs.size ≤ T ∨ t1 = .ref T) → T ≠ e → ExcSh h' e C (.ref T) c2 → TbSh h' T .none → KeepX ((env :: outer).filterMap (·.frame)) ch s.heap h' → Q () { s with heap := h' }) :
    wpAny M A (noteFrame (.ref e) env) (fun _ s2 => wpAny M A (setFlight (.ref e) none) Q E s2) E s :=
  noteX hfr hl hf hf he ht hch hch' fun g T n1 n2 x1 x2 x3 => setFlX (s := { s with heap := g }) n2 x1 x2 fun h' _ y1 y2 y3 => k h' T n1 n2 y1 y2 (x3.then1 y3 (n1.imp (fun z => Heap.get?_none_of_le z) (hch' T)))
end
end PySem

end
section
namespace L2
open PySem PySem.Spec PyProof.Rows
/-! ### exceptions: as they fly, as they leave a def -/
section
variable {P : Program} {w : World} {H H' : Hp} {h h' h0 : Heap} {a : Addr} {o : HO}
theorem ObjOk.there (x : ObjOk P w H h a o) : ∃ u, h.get? a = some u := by
  cases o with
  | lst xs => obtain ⟨_, _, _, _, e⟩ := x; exact ⟨_, e⟩
  | tup xs => obtain ⟨_, _, _, _, e, _⟩ := x; exact ⟨_, e⟩
  | dK kvs => obtain ⟨_, _, _, _, o, _, _, e, _⟩ := x; exact ⟨_, e⟩
  | dT kvs => obtain ⟨_, _, _, _, o, _, _, e, _⟩ := x; exact ⟨_, e⟩
  | set S n => obtain ⟨o, _, _, _, e, _⟩ := x; exact ⟨_, e⟩
  | ins C dx fs => obtain ⟨_, _, _, e, _⟩ := x; exact ⟨_, e⟩
  | own y => obtain ⟨_, e⟩ := x; exact ⟨_, e⟩
  | xd fs => obtain ⟨_, ⟨_, _, _, e, _⟩, _⟩ := x; exact ⟨_, e⟩
  | rng lo hi => obtain ⟨_, _, _, e⟩ := x; exact ⟨_, e⟩
  | frz ob u => obtain ⟨e, _⟩ := x; exact ⟨_, e⟩
  | tbl ps => exact ⟨_, (show h.get? a = some _ from x)⟩
  | met f y => exact ⟨_, (show h.get? a = some _ from x)⟩
  | ext φ => obtain ⟨_, ⟨_, e⟩, _⟩ := x; exact ⟨_, e⟩
theorem HOk.none_of (x : HOk P w H h) (e : h.get? a = none) : H a = none := by
  cases q : H a with
  | none => rfl
  | some u => obtain ⟨o, z⟩ := (x a u q).there; rw [e] at z; cases z
theorem HOk.leftX {fs ch : List Addr} (x : HOk P w H h) (k : KeepX fs ch h h') (hc : ∀ b ∈ ch, H b = none) (hf : ∀ b ∈ fs, H b = none) : HOk P w H h' := fun b u e => by
  refine (x b u e).stay (fun c v hc' q => k.1 c v (fun z => ?_) (fun z => ?_) q) (fun _ q => q) fun _ _ q => q
  · have n := hc c z
    rcases hc' with r | r
    · rw [r, e] at n; cases n
    · rw [r] at n; cases n
  · have n := hf c z
    rcases hc' with r | r
    · rw [r, e] at n; cases n
    · rw [r] at n; cases n
theorem Un.leftX {fs fs' ch ex : List Addr} {H0 : Hp} (u : Un fs ex H0 H h0 h) (k : KeepX fs' ch h h') (hc : ∀ b ∈ ch, h0.get? b = none) (hf : ∀ b o, h0.get? b = some o → b ∈ fs' → b ∈ fs) : Un fs ex H0 H h0 h' := by
  have nc : ∀ b o, h0.get? b = some o → b ∉ ch := fun b o e z => by rw [hc b z] at e; cases e
  refine ⟨fun b o e n hb hx => k.1 b o (nc b o e) (fun z => hb (hf b o e z)) (u.keep b o e n hb hx), fun b o e n hb hx => ?_, u.free, fun b o e hx => ?_, u.tups, u.frzs, u.tbls⟩
  · obtain ⟨sl, q⟩ := u.slot b o e n hb hx
    obtain ⟨sl', q'⟩ := k.any (nc b o e) q
    exact ⟨sl', q'⟩
  · obtain ⟨o', q⟩ := u.there b o e hx
    obtain ⟨sl', q'⟩ := k.any (nc b o e) q
    exact ⟨_, q'⟩
end
/-- not there at first, and not of the abstract heap -/
def New (h0 : Heap) (H : Hp) (b : Addr) : Prop := h0.get? b = none ∧ H b = none
/-- the context: none, or one whose own is none -/
def CtxOk (d : Bool) (h0 : Heap) (H : Hp) (a : Addr) (t1 c2 : Value) (h : Heap) : Prop := c2 = .none ∨ ∃ b ob vb, d = true ∧ c2 = .ref b ∧ b ≠ a ∧ t1 ≠ .ref b ∧ New h0 H b ∧ h.get? b = some ob ∧ ob.data = .fields vb ∧ vb[2]? = some .none
/-- an exception in flight, of the class at C, new since h0 -/
def FlX (d : Bool) (h0 : Heap) (H : Hp) (a C : Addr) (h : Heap) : Prop := New h0 H a ∧ ∃ t1 c2, ExcSh h a (.ref C) t1 c2 ∧ NoFl h a t1 ∧ (∀ T, t1 = .ref T → New h0 H T) ∧ CtxOk d h0 H a t1 c2 h
theorem CtxOk.new {d : Bool} {h0 h1 : Heap} {H H' : Hp} {a : Addr} {t1 c2 : Value} {h : Heap} (x : CtxOk d h0 H a t1 c2 h) (k : ∀ b, New h0 H b → New h1 H' b) : CtxOk d h1 H' a t1 c2 h := by
  rcases x with x | ⟨b, ob, vb, e0, e1, e2, e3, e4, e5⟩
  · exact .inl x
  · exact .inr ⟨b, ob, vb, e0, e1, e2, e3, k b e4, e5⟩
theorem FlX.new {d : Bool} {h0 h1 : Heap} {H H' : Hp} {a C : Addr} {h : Heap} (x : FlX d h0 H a C h) (k : ∀ b, New h0 H b → New h1 H' b) : FlX d h1 H' a C h := by
  obtain ⟨n, t1, c2, x1, x2, x3, x4⟩ := x
  exact ⟨k a n, t1, c2, x1, x2, fun T e => k T (x3 T e), x4.new k⟩
/-- how an exception lies behind a call -/
def CXE (d : Bool) (P : Program) (w : World) : CXT := fun outer H s E e s' => ∃ a C H', e = .ref a ∧ s'.os = s.os ∧ AllBare s'.gens ∧ Un (frs outer) [] H H' s.heap s'.heap ∧ HOk P w H' s'.heap ∧ FlX d s.heap H' a C s'.heap ∧ E (.ref C) none H'
def chX (a : Addr) (t1 : Value) : List Addr := a :: (match t1 with | .ref T => [T] | _ => [])
theorem chX_ref {a T : Addr} : T ∈ chX a (.ref T) := by simp [chX]
theorem chX_all {a : Addr} {t1 : Value} {p : Addr → Prop} (h1 : p a) (h2 : ∀ T, t1 = .ref T → p T) : ∀ b ∈ chX a t1, p b := fun b hb => by
  unfold chX at hb
  rcases List.mem_cons.mp hb with e | e
  · rw [e]; exact h1
  · cases t1 <;> simp at e
    rw [e]; exact h2 _ rfl
/-- the context stays as a frame is noted -/
theorem CtxOk.step {d : Bool} {h0 : Heap} {H : Hp} {a T : Addr} {t1 c2 : Value} {h h' base : Heap} {l : List Env} (x : CtxOk d h0 H a t1 c2 h) (k : KeepX (l.filterMap (·.frame)) (chX a t1) h h') (hl : h.FunFrames base l) (n : h.objs.size ≤ T ∨ t1 = .ref T) : CtxOk d h0 H a (.ref T) c2 h' := by
  rcases x with x | ⟨b, ob, vb, e0, e1, e2, e3, e4, e5, e6, e7⟩
  · exact .inl x
  · have nb : b ∉ chX a t1 := fun hb => by
      unfold chX at hb
      rcases List.mem_cons.mp hb with z | z
      · exact e2 z
      · cases t1 <;> simp at z
        exact e3 (by rw [z])
    have nf : b ∉ l.filterMap (·.frame) := fun hb => by obtain ⟨_, o, ho, hn⟩ := hl.mem hb; rw [e5] at ho; cases ho; exact hn vb e6
    refine .inr ⟨b, ob, vb, e0, e1, e2, fun z => ?_, e4, k.1 b ob nb nf e5, e6, e7⟩
    have z' : T = b := by injection z
    rcases n with n | n
    · rw [z'] at n; exact absurd (Nat.lt_of_lt_of_le (Heap.lt_size e5) n) (Nat.lt_irrefl _)
    · exact e3 (by rw [n, z'])
/-- an exception that meets the wish leaves -/
def Lv (d : Bool) (X : Cx) (E : XK) : Prop := ∀ (pins : List (Addr × Obj)) (σ : St) (H' : Hp) (s' : Shared) (a C : Addr), Inv X pins σ H' s' → FlX d X.s₀.heap H' a C s'.heap → E (.ref C) none H' → X.xe (.ref a) s'
theorem Un.old {fs : List Addr} {H0 H : Hp} {h0 h : Heap} {b : Addr} (u : Un fs [] H0 H h0 h) (n : h.objs.size ≤ b) : h0.get? b = none := by
  cases e : h0.get? b with
  | none => rfl
  | some o => obtain ⟨o', e'⟩ := u.there b o e (by simp); exact absurd (Nat.lt_of_lt_of_le (Heap.lt_size e') n) (Nat.lt_irrefl _)
theorem lv_of {d : Bool} {P : Program} {w : World} {K : PySem.W.Frag} {mg : Str → Option Value} {base : Heap} {N : List Str} {qual : Str} {scope : Scope} {f : Addr} {cd : Value} {A : Around} {outer : List Env} {s : Shared} {H : Hp} {E : XK} :
    Lv d (cxOf (CXE d P w) P w K mg base N qual scope f cd A outer s H E) E := by
  intro pins σ H' s' a C I F q
  obtain ⟨n0, t1, c2, sh, nf, hT, hx⟩ := F
  show wpAny (model P w) (A.deeper (envOfC qual scope s.heap.objs.size f cd)) (leaving (envOfC qual scope s.heap.objs.size f cd) (.ref a)) (fun _ s'' => CXE d P w outer H s E (.ref a) s'') _ s'
  unfold leaving
  refine wpAny_bind (leaveX (base := base) (outer := outer) (ch := chX a t1) I.ok.frames I.stack rfl sh nf (by simp [chX]) (fun T e => by rw [e]; exact chX_ref) fun h' T zT neT sh' tb' kp => ?_)
  have nT : New s.heap H' T := by
    rcases zT with z | z
    · exact ⟨I.base.old z, I.hok.fresh z⟩
    · exact hT T z
  have frs' : ∀ b ∈ frs (envOfC qual scope s.heap.objs.size f cd :: outer), H' b = none := fun b hb => I.stkFree b hb
  refine ⟨a, C, H', rfl, I.os, I.bare, Un.leftX I.base kp (chX_all n0.1 fun T e => (hT T e).1) fun b o e hb => ?_, I.hok.leftX kp (chX_all n0.2 fun T e => (hT T e).2) frs', ⟨n0, .ref T, c2, sh', .inr ⟨T, _, rfl, neT, tb'⟩, fun T' e => ?_, hx.step kp I.stack zT⟩, q⟩
  · rcases List.mem_cons.mp (I.stkSub b hb) with z | z
    · exfalso
      have e' : s.heap.get? b = some o := e
      have : b = s.heap.objs.size := z
      rw [this] at e'
      exact absurd (Heap.lt_size e') (Nat.lt_irrefl _)
    · exact z
  · cases e
    exact nT
/-- a callee's exception leaves this body too -/
theorem Lv.pass {d : Bool} {X : Cx} {E : XK} (L : Lv d X E) (hx : X.ex = []) : Passes (CXE d X.prog X.w) X E := by
  intro pins σ H s e s' I h
  obtain ⟨a, C, H', rfl, os, bare, un, hok, fl, q⟩ := h
  have I' : Inv X pins σ H' s' := I.call' os un hok bare (fun b z => absurd z (by simp))
  have old : ∀ b, s.heap.get? b = none → X.s₀.heap.get? b = none := fun b e => by
    cases z : X.s₀.heap.get? b with
    | none => rfl
    | some o => obtain ⟨o', z'⟩ := I.base.there b o z (by rw [hx]; simp); rw [e] at z'; cases z'
  exact L pins σ H' s' a C I' (fl.new fun b n => ⟨old b n.1, n.2⟩) q
/-- a def that may raise: its body, its wish -/
theorem Fun.okE {d : Bool} {P : Program} {w : World} {K : PySem.W.Frag} {mg : Str → Option Value} {base : Heap} {x qual : Str} {st : Stmt} {f : Addr} {fd : FuncData} {N ps : List Str} {k : Nat} {sp : Sp} (F : Fun K x qual st f fd) (S : FnScope N ps (defScope st)) (len : ∀ vs H Q E, sp vs H Q E → vs.length = ps.length)
    (hbody : ∀ (cdv : Value) (A : Around) (outer : List Env) (s : Shared) (H : Hp) (vs : List V) (Q : VK) (E : XK), Room k (A.deeper (envOfC qual (defScope st) s.heap.objs.size f cdv)) → sp vs H Q E → Lv d (cxOf (CXE d P w) P w K mg base N qual (defScope st) f cdv A outer s H E) E → Passes (CXE d P w) (cxOf (CXE d P w) P w K mg base N qual (defScope st) f cdv A outer s H E) E →
      ∃ t, PSs (cxOf (CXE d P w) P w K mg base N qual (defScope st) f cdv A outer s H E) (defBody st) t ∧ t { nx := fun _ H' => Q .non H', rt := Q } (start N vs) H) : FnOk P w K mg base (CXE d P w) (k + 1) f fd ps sp := by
  obtain ⟨oc, od, kV, doc, pm, an, cdv, ct, osl, rfl, lk, hcd⟩ := F.ex
  exact fn_of lk hcd S len fun A outer s H vs Q E hr hsp => hbody cdv A outer s H vs Q E hr hsp lv_of (lv_of.pass rfl)
/-- a def that never raises is one that may -/
theorem FnOk.mayE {d : Bool} {P : Program} {w : World} {K : PySem.W.Frag} {mg : Str → Option Value} {base : Heap} {k : Nat} {f : Addr} {fd : FuncData} {ps : List Str} {sp : Sp} (F : FnOk P w K mg base CX0 k f fd ps sp) : FnOk P w K mg base (CXE d P w) k f fd ps sp :=
  ⟨F.len, fun A outer s H args us vs Q E hr e0 hb hv hs => codeAny_mono (F.run A outer s H args us vs Q E hr e0 hb hv hs) fun r s' h => by
    cases r with
    | error e => exact False.elim h
    | ok fl => cases fl <;> exact h⟩
/-- .. and one whose wish is that nothing is raised never does -/
theorem FnOk.never {d : Bool} {P : Program} {w : World} {K : PySem.W.Frag} {mg : Str → Option Value} {base : Heap} {k : Nat} {f : Addr} {fd : FuncData} {ps : List Str} {sp : Sp} (F : FnOk P w K mg base (CXE d P w) k f fd ps sp) : FnOk P w K mg base CX0 k f fd ps (fun vs H Q _ => sp vs H Q E0) :=
  ⟨fun vs H Q E h => F.len vs H Q E0 h, fun A outer s H args us vs Q E hr e0 hb hv hs => codeAny_mono (F.run A outer s H args us vs Q E0 hr e0 hb hv hs) fun r s' h => by
    cases r with
    | error e => obtain ⟨_, _, _, _, _, _, _, _, _, z⟩ := h; exact False.elim z
    | ok fl => cases fl <;> exact h⟩
end L2

end
section
namespace L2
open PySem PySem.Spec PyProof.Rows
/-! ### raise C('..'), C an own class under ValueError -/
abbrev vMro : List Value := [.type "ValueError", .type "Exception", .type "BaseException", .type "object"]
theorem exc_obj {K : PySem.W.Frag} {h : Heap} {C : Addr} (X : K.In h) (q : PySem.W.excIn K C vMro "ValueError.__new__" = true) :
    ∃ tl N nm qn bs hdct sn sub ab col dd k0 k1 k2 k3 k5 mN, h.get? C = some (excClassObj nm qn C N bs tl hdct sn sub ab col dd k0 k1 k2 k3 k5 "ValueError.__new__") ∧ h.Ns N mN ∧ mN "__init__" = none ∧ OwnTail h vMro tl := by
  unfold PySem.W.excIn at q
  split at q
  · rename_i dd cd sl ho
    split at q
    · rename_i C' bm k0 k1 k2 k3 n k5 hm hs
      simp only [Bool.and_eq_true, beq_iff_eq, Bool.not_eq_true'] at q
      obtain ⟨⟨⟨⟨⟨rfl, rfl⟩, hdel⟩, ht⟩, hok⟩, hni⟩ := q
      obtain ⟨nm, bs, mro, ns, qn, hd, sn, sub, ab, col, del⟩ := cd
      dsimp only at hm hdel hok hni; subst hm hdel
      have hsl : sl = #[k0, k1, k2, k3, some (.builtin "ValueError.__new__"), k5] := by obtain ⟨l⟩ := sl; simp only at hs; rw [hs]
      subst hsl
      exact ⟨bm, ns, nm, qn, bs, hd, sn, sub, ab, col, dd, k0, k1, k2, k3, k5, _, X _ _ ho, .of_isNs (PySem.W.isNs_of_in X hok), PySem.W.nsMap_none_of_in X hok hni, PySem.W.tail_of_in X ht⟩
    · cases q
  · cases q
section
variable {X : Cx}
def tRaise (E : XK) (C : Addr) : TS := fun _ _ H => E (.ref C) none H
theorem ps_raise {d : Bool} {E : XK} {x z : Str} {C : Addr} {np cpos pos kp : Pos} {kj : Nat} (L : Lv d X E) (hc : X.calm = true) (hxe : X.ex = []) (hg : Gl X x) (hm : X.mg x = some (.ref C)) (hx : PySem.W.excIn X.K C vMro "ValueError.__new__" = true)
    (hd : (x == ("__debug__" : Str)) = false := by decide) (he : starEach [.Constant (.str z) kj kp] X.env = (false, eval (.Constant (.str z) kj kp) X.env) :: starEach [] X.env := by rfl) :
    PS X (.Raise (some (.Call (.Name x np) [.Constant (.str z) kj kp] [] cpos)) none pos) (tRaise E C) := by
  intro pins s σ H D I h
  obtain ⟨tl, N, nm, qn, bs, hdct, sn, sub, ab, col, dd, k0, k1, k2, k3, k5, mN, hC, hN, hni, T⟩ := exc_obj I.kIn hx
  refine wpAny_Raise_call_subU (C := C) (nm := nm) (q := qn) (N := N) (bs := bs) (bm := tl) (hdct := hdct) (sn := sn) (sub := sub) (ab := ab) (col := col) (dd := dd) (k0 := k0) (k1 := k1) (k2 := k2) (k3 := k3) (k5 := k5) (mN := mN)
    F.excBase_ValueError (by decide +kernel) F.excBase_ValueError (T.hasType F.excBase_ValueError.hasBase) (I.ok.hd hc) (by rw [he]; rfl) hni (ld_glob I hg hm ⟨rfl, ?_⟩ hd)
  rw [he]
  show wpAny _ _ (evalArgs (.ref C) true ((false, eval (.Constant (.str z) kj kp) X.env) :: backTo cpos (starEach [] X.env)) []) _ _ _
  have e0 : backTo cpos (starEach [] X.env) = [] := by rfl
  rw [e0]
  refine Calls.evalArgs_plain (Calls.spliced_cons (Calls.Constant_str (Calls.spliced_nil ⟨rfl, (by show 1 ≤ sizeLine; decide), hC, hN, T, fun h' e hm => ?_⟩)))
  obtain ⟨t, ht, _, _⟩ := hm.there
  have old : ∀ b, s.heap.get? b = none → X.s₀.heap.get? b = none := fun b e => by
    cases z : X.s₀.heap.get? b with
    | none => rfl
    | some o => obtain ⟨o', z'⟩ := I.base.there b o z (by rw [hxe]; simp); rw [e] at z'; cases z'
  exact L pins σ H _ e C (I.kept (t' := s.toks + 1) hm.keeps) ⟨⟨old e hm.new, I.hok.none_of hm.new⟩, .none, .none, ⟨_, _, ht, rfl, rfl, rfl, rfl, rfl⟩, .inl rfl, (fun T q => nomatch q), .inl rfl⟩ h
/-! ### try: .. except C as x: .. -/
/-- the context of the handler's suite: the exception is held, with its own context -/
abbrev hX (X : Cx) (a : Addr) (oe : Obj) (px : List (Addr × Obj)) : Cx := { X with A := X.A.mark (some (.ref a)), calm := false, pn := (a, oe) :: (px ++ X.pn), xe := fun _ _ => False }
/-- the context of the tried suite -/
abbrev tX (X : Cx) (pn : List (Addr × Obj)) (E : Value → Shared → Prop) : Cx := { X with pn := pn, xe := E }
theorem Cx.Ok.hX {X : Cx} (ok : X.Ok) (a : Addr) (oe : Obj) (px : List (Addr × Obj)) : (hX X a oe px).Ok :=
  ⟨ok.mod, ok.kind, ok.glob, ok.blt, ok.above, ok.inj, ok.has, ok.cab, (fun z => nomatch z), ok.frames, ok.stk, ok.exf, ok.bs, ok.bsz, ok.noex, ok.exfs, ok.funs, ok.frf⟩
theorem Cx.Ok.tX {X : Cx} (ok : X.Ok) (pn : List (Addr × Obj)) (E : Value → Shared → Prop) : (tX X pn E).Ok :=
  ⟨ok.mod, ok.kind, ok.glob, ok.blt, ok.above, ok.inj, ok.has, ok.cab, ok.hd, ok.frames, ok.stk, ok.exf, ok.bs, ok.bsz, ok.noex, ok.exfs, ok.funs, ok.frf⟩
/-- what is known of an exception's context -/
def HCtx (px : List (Addr × Obj)) (a : Addr) (c2 : Value) : Prop := c2 = .none ∨ ∃ b ob vb, c2 = .ref b ∧ b ≠ a ∧ (b, ob) ∈ px ∧ ob.data = .fields vb ∧ vb[2]? = some .none
/-- what is known of an exception that is held -/
structure Held (px : List (Addr × Obj)) (a : Addr) (oe : Obj) (C : Addr) : Prop where
  cls : oe.cls = .ref C
  dict : oe.dict = none
  fld : ∃ vs c2, oe.data = .fields vs ∧ vs[2]? = some c2 ∧ HCtx px a c2
/-- what the tried suite's exceptions are to meet: a clause for each, none leaves -/
def FTry (X : Cx) (B : Addr) (okC : Addr → Prop) (th : Addr → Addr → TS) (D : Ends) (i : Nat) : XK := fun Cv _ H' => ∃ C, Cv = .ref C ∧ okC C ∧ PySem.W.exmOne X.K (.ref C) (.ref B) = some true ∧
  ∀ a, th a C { nx := fun _ _ => False, rt := D.rt } ((List.replicate X.N.length none).set i (some (.ref a))) H'
def tTry (X : Cx) (B : Addr) (okC : Addr → Prop) (tb : XK → TS) (th : Addr → Addr → TS) (i : Nat) : TS := fun D σ H => tb (FTry X B okC th D i) D σ H
/-- .. where the handler raises another -/
def FFrom (X : Cx) (E : XK) (B C2 : Addr) : XK := fun Cv _ H' => ∃ C, Cv = .ref C ∧ PySem.W.exmOne X.K (.ref C) (.ref B) = some true ∧ E (.ref C2) none H'
def tFrom (X : Cx) (E : XK) (B C2 : Addr) (tb : XK → TS) : TS := fun D σ H => tb (FFrom X E B C2) D σ H
end
end L2

end
section
namespace L2
open PySem PySem.Spec PyProof.Rows
section
variable {X : Cx} {pins : List (Addr × Obj)} {σ : St} {H : Hp} {s : Shared}
def Pinned (X : Cx) (H : Hp) (h : Heap) (p : Addr × Obj) : Prop := h.get? p.1 = some p.2 ∧ H p.1 = none ∧ p.1 ≠ X.env.locals ∧ p.1 ∉ X.fs ∧ ∀ v, p.2.data ≠ .cell v
theorem Inv.hold (I : Inv X pins σ H s) {a : Addr} {oe : Obj} {px : List (Addr × Obj)} (k : ∀ p ∈ (a, oe) :: px, Pinned X H s.heap p) : Inv (hX X a oe px) pins σ H s :=
  ⟨I.ok.hX a oe px, I.os, I.bare, I.base, I.loc, I.cell, I.free, I.freeC, fun p hp => by
    have hp' : p ∈ ((a, oe) :: (px ++ X.pn)) ++ pins := hp
    simp only [List.mem_append, List.mem_cons] at hp'
    rcases hp' with (z | z | z) | z
    · exact k p (by rw [z]; exact List.mem_cons_self)
    · exact k p (List.mem_cons_of_mem _ z)
    · exact I.pin p (List.mem_append_left _ z)
    · exact I.pin p (List.mem_append_right _ z), I.hok, I.len⟩
theorem Inv.loose {a : Addr} {oe : Obj} {px : List (Addr × Obj)} (I : Inv (hX X a oe px) pins σ H s) (ok : X.Ok) : Inv X pins σ H s := ⟨ok, I.os, I.bare, I.base, I.loc, I.cell, I.free, I.freeC, fun p hp => I.pin p (by
    have : p ∈ X.pn ∨ p ∈ pins := List.mem_append.mp hp
    show p ∈ ((a, oe) :: (px ++ X.pn)) ++ pins
    simp only [List.mem_append, List.mem_cons]
    rcases this with z | z
    · exact .inl (.inr (.inr z))
    · exact .inr z), I.hok, I.len⟩
/-- the handler's name is gone; nothing is known of the others -/
theorem Inv.goes {h' : Heap} {t' : Nat} {m' : Str → Option Value} (I : Inv X pins σ H s) (hs : Heap.SameBut X.env.locals s.heap h') (hn : h'.Ns X.env.locals m') : Inv X pins (List.replicate X.N.length none) H { s with heap := h', toks := t' } := by
  have ne : ∀ b o, X.s₀.heap.get? b = some o → b ≠ X.env.locals := fun b o e => Nat.ne_of_lt (Nat.lt_of_lt_of_le (Heap.lt_size e) I.ok.above)
  refine ⟨I.ok, I.os, I.bare, ⟨fun b o e n hb hx => (hs.2 b (ne b o e)).trans (I.base.keep b o e n hb hx), fun b o e n hb hx => ?_, I.base.free, fun b o e hx => ?_, I.base.tups, I.base.frzs, I.base.tbls⟩, ⟨m', hn, fun j y v e1 e2 e3 => ?_⟩, fun y c e => ?_, I.free, I.freeC, fun p hp => ?_, fun b ob e => ?_, by simp⟩
  · obtain ⟨sl, e1⟩ := I.base.slot b o e n hb hx; exact ⟨sl, (hs.2 b (ne b o e)).trans e1⟩
  · obtain ⟨o', e1⟩ := I.base.there b o e hx; exact ⟨o', (hs.2 b (ne b o e)).trans e1⟩
  · rw [List.getElem?_replicate] at e2; split at e2 <;> cases e2
  · obtain ⟨v, z⟩ := I.cell y c e; exact ⟨v, z.sameBut hs (I.cne y c e)⟩
  · obtain ⟨e, n, nl, nf, d⟩ := I.pin p hp; exact ⟨(hs.2 p.1 nl).trans e, n, nl, nf, d⟩
  · refine (I.hok b ob e).stay (fun c w' hc q => (hs.2 c ?_).trans q) (fun _ q => q) fun _ _ q => q
    rintro rfl
    rcases hc with z | z
    · rw [← z, I.free] at e; cases e
    · rw [I.free] at z; cases z
theorem Inv.blank (I : Inv X pins σ H s) : Inv X pins (List.replicate X.N.length none) H s := I.weak (by simp [I.len]) fun i v e => by rw [List.getElem?_replicate] at e; split at e <;> cases e
/-- an exception as it is caught: noted, its flight ended, its class looked at -/
theorem catchX {d : Bool} {x : Str} {B : Addr} {nm : Option Str} {b0 : Stmt} {suite : List Stmt} {np hp : Pos} {σ1 : St} {H0 : Hp} {s1 s' : Shared} {F : XK} {e : Value} {Q : Flow → Shared → Prop} (hst : X.stack = X.env :: X.outer) (hfr : X.env.frame = some X.env.locals) (hg : Gl X x) (hm : X.mg x = some (.ref B)) (hdb : (x == ("__debug__" : Str)) = false)
    (I1 : Inv X pins σ1 H0 s1) (q : CXE d X.prog X.w X.stack H0 s1 F e s') (hF : ∀ C H1, F (.ref C) none H1 → PySem.W.exmOne X.K (.ref C) (.ref B) = some true)
    (k : ∀ a C H1 h3 T oe px c2, e = .ref a → T ≠ a → ExcSh h3 a (.ref C) (.ref T) c2 → TbSh h3 T .none → New s1.heap H1 a → New s1.heap H1 T → h3.get? a = some oe → (d = false → c2 = .none) → Held px a oe C → F (.ref C) none H1 →
      (∀ h4, (∀ o, h3.get? a = some o → h4.get? a = some o) → KeepX (frs X.stack) [T] h3 h4 → Inv X pins σ1 H1 { s' with heap := h4 } ∧ ∀ p ∈ (a, oe) :: px, Pinned X H1 h4 p) →
      codeAny (model X.prog X.w) (X.A.mark (some (.ref a))) (.handlers (.ref a) [.ExceptHandler none nm (b0 :: suite) hp] X.env) (fun r s₂ => match r with
          | .ok f => (match nm with
            | none => Q f s₂
            | some n => wpAny (model X.prog X.w) X.A (do bindName X.env n .none; unbindBehindTheSuite X.env n hp) (fun _ s₃ => Q f s₃) X.xe s₂)
          | .error x => cameBackBy (model X.prog X.w) X.A X.env X.xe x s₂) { s' with heap := h3 }) :
    wpAny (model X.prog X.w) X.A (noteFrame e X.env) (fun _ s2 => wpAny (model X.prog X.w) X.A (setFlight e none) (fun _ s3 => wpAny (model X.prog X.w) X.A (handleBy e X.env [.ExceptHandler (some (.Name x np)) nm (b0 :: suite) hp]) Q X.xe s3) X.xe s2) X.xe s' := by
  obtain ⟨a, C, H1, rfl, os, bare, un, hok, ⟨⟨n0, nH⟩, t1, c2, sh, nf, hT, hx⟩, qF⟩ := q
  have hex := hF C H1 qF
  have I2 : Inv X pins σ1 H1 s' := I1.call' os un hok bare (fun b z => absurd z (by simp))
  have hf2 : X.A.frames = some (X.env :: X.outer) := by rw [← hst]; exact I1.ok.frames
  have st2 : s'.heap.FunFrames X.base (X.env :: X.outer) := by rw [← hst]; exact I2.stack
  refine leaveX (ch := chX a t1) hf2 st2 hfr sh nf (by simp [chX]) (fun T e => by rw [e]; exact chX_ref) fun h3 T zT neT sh3 tb3 kp3 => ?_
  have hx3 := hx.step kp3 st2 zT
  rw [← hst] at kp3
  have u3 : Un (frs X.stack) [] H0 H1 s1.heap h3 := Un.leftX un kp3 (chX_all n0 fun T e => (hT T e).1) fun b o _ hb => hb
  have ok3 : HOk X.prog X.w H1 h3 := hok.leftX kp3 (chX_all nH fun T e => (hT T e).2) I2.stkFree
  have nT : New s1.heap H1 T := by
    rcases zT with z | z
    · exact ⟨un.old z, I2.hok.fresh z⟩
    · exact hT T z
  have inv : ∀ h4, KeepX (frs X.stack) [T] h3 h4 → Inv X pins σ1 H1 { s' with heap := h4 } := fun h4 kp4 =>
    I1.call' (s' := { s' with heap := h4 }) os (Un.leftX u3 kp4 (fun b hb => by simp at hb; rw [hb]; exact nT.1) fun b o _ hb => hb) (ok3.leftX kp4 (fun b hb => by simp at hb; rw [hb]; exact nT.2) I2.stkFree) bare (fun b z => absurd z (by simp))
  have away1 : ∀ b, s1.heap.get? b = none → b ≠ X.env.locals := fun b nb z => by
    obtain ⟨m, ⟨o, _, _, e, _⟩, _⟩ := I1.loc
    rw [← z, nb] at e
    cases e
  have away2 : ∀ b, s1.heap.get? b = none → b ∉ X.fs := fun b nb z => by
    obtain ⟨_, o, e, _⟩ := I1.stack.mem (show b ∈ X.stack.filterMap (·.frame) by rw [hst, List.filterMap_cons, hfr]; exact List.mem_cons_of_mem _ z)
    rw [nb] at e
    cases e
  have away : ∀ b, s1.heap.get? b = none → b ≠ X.env.locals ∧ b ∉ X.fs := fun b nb => ⟨away1 b nb, away2 b nb⟩
  obtain ⟨oe, vs, h0, hc, hdc, hdt, v1, v2⟩ := id sh3
  -- those that are pinned: itself, its context
  have ex : ∃ px, HCtx px a c2 ∧ ∀ h4, (∀ o, h3.get? a = some o → h4.get? a = some o) → KeepX (frs X.stack) [T] h3 h4 → ∀ p ∈ (a, oe) :: px, Pinned X H1 h4 p := by
    have pa : ∀ h4, (∀ o, h3.get? a = some o → h4.get? a = some o) → Pinned X H1 h4 (a, oe) := fun h4 k4 => ⟨k4 _ h0, nH, (away a n0).1, (away a n0).2, fun v z => by rw [show (a, oe).2.data = .fields vs from hdt] at z; cases z⟩
    rcases hx3 with z | ⟨b, ob, vb, e0, e1, e2, e3, e4, e5, e6, e7⟩
    · exact ⟨[], .inl z, fun h4 k4 _ p hp => by simp at hp; rw [hp]; exact pa h4 k4⟩
    · refine ⟨[(b, ob)], .inr ⟨b, ob, vb, e1, e2, by simp, e6, e7⟩, fun h4 k4 kp4 p hp => ?_⟩
      rcases List.mem_cons.mp hp with z | z
      · rw [z]; exact pa h4 k4
      · simp at z; rw [z]
        have nbT : b ∉ [T] := fun hb => by simp at hb; exact e3 (by rw [hb])
        have nbf : b ∉ frs X.stack := fun hb => by
          obtain ⟨_, o, e, _⟩ := I1.stack.mem hb
          rw [e4.1] at e; cases e
        exact ⟨kp4.1 b ob nbT nbf e5, e4.2, (away b e4.1).1, (away b e4.1).2, fun v z => by rw [show (b, ob).2.data = .fields vb from e6] at z; cases z⟩
  obtain ⟨px, hctx, hpin⟩ := ex
  have id3 : KeepX (frs X.stack) [T] h3 h3 := ⟨fun _ _ _ _ q => q, fun _ o _ _ q => ⟨o.slots, q⟩⟩
  have I3 := inv h3 id3
  have I3h : Inv (hX X a oe px) pins σ1 H1 { s' with heap := h3 } := I3.hold (hpin h3 (fun _ q => q) id3)
  refine wpAny_handleBy_cons (codeAny_handlers_test (ld_glob (X := hX X a oe px) I3h hg hm ?_ hdb)) (by intro q; cases q)
  have IA : PySem.W.InstAt h3 a oe C none := ⟨h0, hc, by unfold PySem.W.notCls; rw [hdt], by rw [hdc]; trivial⟩
  refine (PySem.W.exm_one (M := model X.prog X.w) I3.kIn IA.type hex).here ?_
  exact k a C H1 h3 T oe px c2 rfl neT sh3 tb3 ⟨n0, nH⟩ nT h0 (fun hd => by
    rcases hx with z | ⟨_, _, _, e0, _⟩
    · exact z
    · rw [hd] at e0; cases e0) ⟨hc, hdc, vs, c2, hdt, v2, hctx⟩ qF fun h4 k4 kp4 => ⟨inv h4 kp4, hpin h4 k4 kp4⟩
/-- the body of a try: its context, and back -/
theorem tried {d : Bool} {body : List Stmt} {tb : XK → TS} {F : XK} {D : Ends} {Q : Flow → Shared → Prop} {EE : Value → Shared → Prop} (I : Inv X pins σ H s)
    (hb : ∀ (pn : List (Addr × Obj)) (E : Value → Shared → Prop), Passes (CXE d X.prog X.w) (tX X pn E) F → PSs (tX X pn E) body (tb F)) (h : tb F D σ H) (hQ : ∀ f s1, SP X pins D f s1 → Q f s1)
    (hE : ∀ e s', (∃ σ1 H0 s1, Inv X pins σ1 H0 s1 ∧ CXE d X.prog X.w X.stack H0 s1 F e s') → EE e s') : wpAny (model X.prog X.w) X.A (execs body X.env) Q EE s := by
  have pass : Passes (CXE d X.prog X.w) (tX X (X.pn ++ pins) fun e s' => ∃ σ1 H0 s1, Inv X pins σ1 H0 s1 ∧ CXE d X.prog X.w X.stack H0 s1 F e s') F := fun pins' σ1 H1 s1 e s' I1 q =>
    ⟨σ1, H1, s1, ⟨I.ok, I1.os, I1.bare, I1.base, I1.loc, I1.cell, I1.free, I1.freeC, fun p hp => I1.pin p (List.mem_append_left _ hp), I1.hok, I1.len⟩, q⟩
  have I0 : Inv (tX X (X.pn ++ pins) fun e s' => ∃ σ1 H0 s1, Inv X pins σ1 H0 s1 ∧ CXE d X.prog X.w X.stack H0 s1 F e s') [] σ H s := ⟨I.ok.tX _ _, I.os, I.bare, I.base, I.loc, I.cell, I.free, I.freeC, fun p hp => I.pin p (by simpa using hp), I.hok, I.len⟩
  have back : ∀ {σ' H' s'}, Inv (tX X (X.pn ++ pins) fun e s' => ∃ σ1 H0 s1, Inv X pins σ1 H0 s1 ∧ CXE d X.prog X.w X.stack H0 s1 F e s') [] σ' H' s' → Inv X pins σ' H' s' := fun {σ' H' s'} J => ⟨I.ok, J.os, J.bare, J.base, J.loc, J.cell, J.free, J.freeC, fun p hp => J.pin p (by simpa using hp), J.hok, J.len⟩
  refine wpAny_mono (hb _ _ pass [] s σ H D I0 h) (fun f s1 q => hQ f s1 ?_) hE
  cases f with
  | next => obtain ⟨σ', H', J, q⟩ := q; exact ⟨σ', H', back J, q⟩
  | brk => obtain ⟨σ', H', J, q⟩ := q; exact ⟨σ', H', back J, q⟩
  | cont => obtain ⟨σ', H', J, q⟩ := q; exact ⟨σ', H', back J, q⟩
  | ret u => obtain ⟨v, σ', H', J, r, q⟩ := q; exact ⟨v, σ', H', back J, r, q⟩
/-- the exception is caught -/
theorem ps_try {d : Bool} (okC : Addr → Prop) {x n : Str} {B : Addr} {body : List Stmt} {b0 : Stmt} {suite : List Stmt} {np hp pos : Pos} {tb : XK → TS} {th : Addr → Addr → TS} {i : Nat} (hst : X.stack = X.env :: X.outer) (hfr : X.env.frame = some X.env.locals) (hg : Gl X x) (hm : X.mg x = some (.ref B))
    (hN : X.N.Nodup) (hi : X.N[i]? = some n) (hl : X.env.scope.names.lookup n = some .local)
    (hb : ∀ (F : XK) (pn : List (Addr × Obj)) (E : Value → Shared → Prop), Passes (CXE d X.prog X.w) (tX X pn E) F → PSs (tX X pn E) body (tb F))
    (hs : ∀ (a : Addr) (oe : Obj) (px : List (Addr × Obj)) (C : Addr), okC C → Held px a oe C → PSs (hX X a oe px) (b0 :: suite) (th a C)) (hd : (x == ("__debug__" : Str)) = false := by decide) :
    PS X (.Try body [.ExceptHandler (some (.Name x np)) (some n) (b0 :: suite) hp] [] [] pos) (tTry X B okC tb th i) := by
  intro pins s σ H D I h
  refine wpAny_Try_except ?_
  refine tried (d := d) I (fun pn E => hb _ pn E) h (fun f s1 q => ?_) fun e s' q => ?_
  · cases f with
    | next => exact wpAny_execs_nil q
    | brk => exact q
    | cont => exact q
    | ret u => exact q
  · obtain ⟨σ1, H0, s1, I1, q⟩ := q
    refine catchX hst hfr hg hm hd I1 q (fun C H1 ⟨C', e, _, hex, _⟩ => by cases e; exact hex) fun a C H1 h3 T oe px c2 ea neT sh3 tb3 na nT h0 _ held qF keep => ?_
    obtain ⟨C', eC, hok', hex, rd⟩ := qF
    cases eC
    refine codeAny_handlers_suite_as (setFlX (s := { s' with heap := h3 }) (fs := frs X.stack) neT sh3 tb3 fun h4 e4 _ _ kp4 => ?_)
    obtain ⟨I4, hp4⟩ := keep h4 e4 kp4
    have I4h : Inv (hX X a oe px) pins σ1 H1 { s' with heap := h4 } := I4.hold hp4
    refine store_ok (X := hX X a oe px) (i := i) (v := .ref a) I4h hN hi (.inl hl) rfl (fun s5 I5 => ?_) (.inr hl)
    have iL : i < σ1.length := by rw [I1.len]; exact (List.getElem?_eq_some_iff.mp hi).1
    have I6 : Inv (hX X a oe px) pins ((List.replicate X.N.length none).set i (some (.ref a))) H1 s5 := I5.weak (by simp [I1.len]) fun j v e => by
      by_cases hj : j = i
      · subst hj
        rw [List.getElem?_set_self (by rw [List.length_replicate, ← I1.len]; exact iL)] at e
        cases e
        exact List.getElem?_set_self iL
      · rw [List.getElem?_set_ne (Ne.symm hj), List.getElem?_replicate] at e
        split at e <;> cases e
    refine wpAny_mono (hs a oe px C hok' held pins s5 _ H1 _ I6 (rd a)) (fun f s7 q => ?_) fun _ _ z => False.elim z
    cases f with
    | next => obtain ⟨_, _, _, z⟩ := q; exact False.elim z
    | brk => obtain ⟨_, _, _, z⟩ := q; exact False.elim z
    | cont => obtain ⟨_, _, _, z⟩ := q; exact False.elim z
    | ret u =>
      obtain ⟨v, σ7, H7, I7, r7, q7⟩ := q
      obtain ⟨m7, hn7, _⟩ := id I7.loc
      refine wpAny_nameGoes hl hn7 (by rw [I.ok.kind]; rfl) fun h8 m8 hn8 sb8 => ?_
      exact ⟨v, _, H7, (I7.loose I.ok).goes sb8 hn8, r7, q7⟩
end
end L2

end
section
namespace PySem
open Sem (wp)
theorem entry_unchain : entryFor table "proto.unchain" = some Builtin.«proto.unchain» := entryFor_of_tree (by kernel_rfl)
section
variable {prog : Program} {w : World} {A : Around} {E : Value → Shared → Prop} {s : Shared}
/-- an exception raised while one is held, whose context is none or has none -/
theorem raiseNew_held {α : Type} {a e : Addr} {oa oe : Obj} {va vs : Array Value} {c2 : Value} {px : List (Addr × Obj)} {Q : α → Shared → Prop} (hh : A.handled = some (.ref e)) (hna : ∀ p ∈ (e, oe) :: px, p.1 ≠ a) (ha : s.heap.get? a = some oa) (hda : oa.data = .fields va) (hz : 2 < va.size)
    (hp : ∀ p ∈ (e, oe) :: px, s.heap.get? p.1 = some p.2) (hde : oe.data = .fields vs) (h2 : vs[2]? = some c2) (hc : L2.HCtx px e c2) (h : E (.ref a) { s with heap := s.heap.update a (Obj.mapFields (·.setIfInBounds 2 (.ref e))) }) : wpAny (model prog w) A (raiseNew (.ref a) : Sem α) Q E s := by
  have ne : e ≠ a := hna _ List.mem_cons_self
  have he : s.heap.get? e = some oe := hp _ List.mem_cons_self
  unfold raiseNew
  refine wpAny_bind (wpAny_handled ?_)
  rw [hh]
  show wpAny _ _ (if ((Value.ref e != Value.ref a) = true) then _ else _) _ _ _
  rw [if_pos (show (Value.ref e != Value.ref a) = true by simp [bne_iff_ne]; exact ne)]
  have fin : wpAny (model prog w) A (updateField a 2 (Value.ref e) >>= fun _ => throw (Value.ref a)) Q E s := wpAny_bind (wpAny_setField (a := a) (i := 2) ha hda hz (wpAny_throw h))
  refine wpAny_bind (wpAny_holding (wpAny_runValue (codeAny_builtin entry_unchain ?_)))
  show wpAny _ _ (field (.ref e) 2 >>= _) _ _ _
  refine wpAny_bind (wpAny_field he hde h2 ?_)
  rcases hc with rfl | ⟨b, ob, vb, rfl, hb, hm, hd, hb2⟩
  · rw [if_pos (show (Value.none == Value.none) = true from rfl)]
    exact wpAny_pure fin
  · have nb : b ≠ a := hna _ (List.mem_cons_of_mem _ hm)
    rw [if_neg (show ¬ ((Value.ref b == Value.none) = true) from Bool.false_ne_true), if_neg (show ¬ ((Value.ref b == Value.ref a) = true) from fun z => nb (Value.ref.inj (beq_iff_eq.mp z))), if_neg (show ¬ ((Value.ref b == Value.ref e) = true) from fun z => hb (Value.ref.inj (beq_iff_eq.mp z)))]
    refine wpAny_bind (wpAny_pure (wpAny_pure ⟨Code.quiet_builtin _ (by decide +kernel), codeAny_builtin entry_unchain ?_⟩))
    show wpAny _ _ (field (.ref b) 2 >>= _) _ _ _
    refine wpAny_bind (wpAny_field (hp _ (List.mem_cons_of_mem _ hm)) hd hb2 ?_)
    rw [if_pos (show (Value.none == Value.none) = true from rfl)]
    exact wpAny_pure fin
/-- a list's iterator at its end, while an exception is held -/
theorem pyNext_list_endH {it l e : Addr} {i : Nat} {items : Array Value} {oe : Obj} {vs : Array Value} {c2 : Value} {px : List (Addr × Obj)} {Q : Option Value → Shared → Prop} (hh : A.handled = some (.ref e)) (hit : s.heap.IsListIter it l i) (hl : s.heap.IsList l items) (hx : items[i]? = none)
    (hp : ∀ p ∈ (e, oe) :: px, s.heap.get? p.1 = some p.2) (hde : oe.data = .fields vs) (h2 : vs[2]? = some c2) (hcx : L2.HCtx px e c2) (hne : ∀ p ∈ (e, oe) :: px, p.1 ≠ it) (hQ : ∀ h', Heap.ExtBut it s.heap h' → Q none { s with heap := h' }) : wpAny (model prog w) A (pyNext (.ref it)) Q E s := by
  obtain ⟨o, ho, hc, hd⟩ := id hit
  obtain ⟨ol, hol, _, nl, hdl⟩ := hl
  unfold pyNext
  refine wpAny_bind (wpAny_attempt (wpAny_callSpecial?_slot (name := Str.ofString "__next__") hit.typeIs slot_listiter_next (wpAny_call_entry slot_listiter_next hit.typeIs entry_listiter_next ?_ (args_listiter_next _))))
  show wpAny _ _ (field (.ref it) 0 >>= _) _ _ s
  refine wpAny_bind (wpAny_field ho hd (x := .ref l) rfl ?_)
  show wpAny _ _ (if (Value.ref l == Value.none) = true then _ else _) _ _ s
  rw [if_neg (show ¬ ((Value.ref l == Value.none) = true) from Bool.false_ne_true)]
  show wpAny _ _ (field (.ref it) 1 >>= _) _ _ s; refine wpAny_bind (wpAny_field ho hd (x := .int i 0) rfl ?_)
  show wpAny _ _ (seqItems? (.ref l) >>= _) _ _ s; refine wpAny_bind (wpAny_seqItems hol hdl ?_); simp only [Int.toNat_natCast, hx]
  refine wpAny_bind (wpAny_rule (wpAny_bind (wpAny_setField ho hd (by simp) ?_)))
  show wpAny _ _ (newExc (.type "StopIteration") [] >>= _) _ _ _; refine wpAny_bind ?_; simp only [newExc, newTuple]
  refine wpAny_bind (wpAny_newObj_type ?_ (by size_fits))
  refine wpAny_bind (m := firstArgMember _ _) (wpAny_of_eq (a := Value.none) (by first | rfl | (simp only [firstArgMember]; rfl)) ?_)
  refine wpAny_newObj_type ?_ (by size_fits)
  have hp2 : ∀ p ∈ (e, oe) :: px, Heap.get? ((s.heap.update it (Obj.mapFields (·.setIfInBounds 0 Value.none))).push { cls := .type "tuple", data := .seq ([] : List Value).toArray }) p.1 = some p.2 := fun p hpx => Heap.get?_push_of_some _ (by rw [Heap.get?_update_other _ _ (Ne.symm (hne p hpx))]; exact hp p hpx)
  refine raiseNew_held (A := A.in1) (oe := oe) (px := px) hh (fun p hpx => Nat.ne_of_lt (Heap.lt_size (hp2 p hpx))) (Heap.get?_push_size _ rfl) rfl ?_ (fun p hpx => Heap.get?_push_of_some _ (hp2 p hpx)) hde h2 hcx ?_
  · rw [Array.size_append]; exact Nat.lt_of_lt_of_le (by decide : 2 < 6) (Nat.le_add_right _ _)
  refine wpAny_bind (wpAny_isInstance (T := "StopIteration") (b := true) ⟨_, Heap.get?_update_self _ (Heap.get?_push_size _ rfl) rfl, rfl⟩ isSubtype_stop ?_)
  refine wpAny_pure (hQ _ fun b o hb eb => ?_)
  have h1 : Heap.get? ((s.heap.update it (Obj.mapFields (·.setIfInBounds 0 Value.none))).push { cls := .type "tuple", data := .seq ([] : List Value).toArray }) b = some o := Heap.get?_push_of_some _ (by rw [Heap.get?_update_other _ _ (Ne.symm hb)]; exact eb)
  rw [Heap.get?_update_other _ _ (Ne.symm (Nat.ne_of_lt (Heap.lt_size h1)))]
  exact Heap.get?_push_of_some _ h1
theorem Walks.listH (e : Addr) (oe : Obj) (px : List (Addr × Obj)) {vs : Array Value} {c2 : Value} (hh : A.handled = some (.ref e)) (hde : oe.data = .fields vs) (h2 : vs[2]? = some c2) (hcx : L2.HCtx px e c2) (I ax : Addr) (hne : ax ≠ I) (hnI : ∀ p ∈ (e, oe) :: px, p.1 ≠ I) (items : Array Value) :
    Walks prog w A I (I :: ax :: ((e, oe) :: px).map (·.1)) [I] items.size (fun i v => items[i]? = some v) (fun i h => h.IsListIter I ax i ∧ h.IsList ax items ∧ ∀ p ∈ (e, oe) :: px, h.get? p.1 = some p.2) where
  sub := fun b hb => by simp at hb; simp [hb]
  frame := fun _ _ _ st hk => ⟨st.1.at fun o q => hk I (by simp) o q, st.2.1.at fun o q => hk ax (by simp) o q, fun p hp => hk p.1 (List.mem_cons_of_mem _ (List.mem_cons_of_mem _ (List.mem_map_of_mem hp))) _ (st.2.2 p hp)⟩
  item := fun i s Q E hi st hQ => by
    refine wpAny_pyNext_list_item st.1 st.2.1 (x := items[i]) (by simp [hi]) fun h' hit' hs' => ?_
    exact hQ _ h' s.toks (by simp [hi]) ⟨hit', st.2.1.extBut hs'.extBut hne, fun p hp => hs'.extBut p.1 p.2 (hnI p hp) (st.2.2 p hp)⟩ fun b o hb q => hs'.extBut b o (fun h => hb (by simp [h])) q
  done := fun s Q E st hQ => pyNext_list_endH hh st.1 st.2.1 (by simp) st.2.2 hde h2 hcx hnI fun h' he' => hQ h' s.toks fun b o hb q => he' b o (fun h => hb (by simp [h])) q
  self := fun _ _ _ _ st hQ => wpAny_pyIter_listiter st.1 hQ
end
end PySem
namespace L2
open PySem PySem.Spec PyProof.Rows
section
variable {X : Cx}
/-- any(..) while an exception is held -/
theorem call_anyH {a : Addr} {oe : Obj} {px : List (Addr × Obj)} {C : Addr} (hd : Held px a oe C) (hm : ∀ p ∈ (a, oe) :: px, p ∈ X.pn) (hA : X.A.handled = some (.ref a)) : CallR X (.builtin "any") (fun xs H Q => ∃ (p : Addr) (bs : List Bool), xs = [V.ref p] ∧ H p = some (.lst (bs.map V.bl)) ∧ Q (.bl (bs.any id)) H) := by
  intro pins s σ H xs us Q I r h
  obtain ⟨p, bs, rfl, hp, q⟩ := h
  obtain ⟨u, rfl, ru⟩ := vals1 r
  cases ru
  obtain ⟨its, rv, pl, hz⟩ := I.list (SqL.of (K := X.K) hp)
  have lt : p < s.heap.objs.size := by obtain ⟨o, n, e, _⟩ := pl; exact Heap.lt_size e
  obtain ⟨vs, c2, hd1, hd2, hd3⟩ := hd.fld
  have pe : ∀ p ∈ (a, oe) :: px, s.heap.get? p.1 = some p.2 := fun p hp => (I.pin p (List.mem_append_left _ (hm p hp))).1
  refine call_any_walk (wpAny_pyIter_list pl.isList ⟨_, _, _, _, _, _, fun i => bs.getD i false, rfl, Walks.listH (A := X.A.in1) a oe px hA hd1 hd2 hd3 _ p (Nat.ne_of_lt lt) (fun p hp => Nat.ne_of_lt (Heap.lt_size (pe p hp))) its.toArray, ⟨⟨_, Heap.get?_push_size _ rfl, rfl, rfl⟩, pl.isList.push _, fun p hp => Heap.get?_push_of_some _ (pe p hp)⟩, truth_bools rv, fun h' tk k => ?_⟩)
  refine ⟨.bl (bs.any id), H, ?_, ?_, q⟩
  · exact I.kept (t' := tk) fun b o e => k b o (by simp; exact Nat.ne_of_lt (Heap.lt_size e)) (Heap.get?_push_of_some _ e)
  · show Value.bool _ = Value.bool _
    have e : its.toArray.size = bs.length := by have := rv.length; simp at this; simp [this]
    rw [e, range_any]
/-- isinstance(error, C) of the exception that is held -/
theorem call_isiH {K : PySem.W.Frag} {a : Addr} {oe : Obj} {px : List (Addr × Obj)} {C : Addr} (hK : X.K = K) (hd : Held px a oe C) (hc : PySem.W.XCls K C) (hm : (a, oe) ∈ X.pn) : CallR X (.builtin "isinstance") (fun xs H Q => ∃ c b, (xs = [.ref a, c]) ∧ ∃ cv, (∀ u, RelV c u → u = cv) ∧ PySem.W.kitOne K (.ref C) cv = some b ∧ Q (.bl b) H) := by
  subst hK
  intro pins s σ H xs us Q I r h
  obtain ⟨c, b, rfl, cv, hcv, e, q⟩ := h
  obtain ⟨u, c', rfl, r1, r2⟩ := vals2 r
  cases (show u = Value.ref a from r1)
  have := hcv _ r2
  subst this
  have pe := (I.pin (a, oe) (List.mem_append_left _ hm)).1
  obtain ⟨vs, c2, hd1, _⟩ := hd.fld
  have IA : PySem.W.InstAt s.heap a oe C none := ⟨pe, hd.cls, by unfold PySem.W.notCls; rw [hd1], by rw [hd.dict]; trivial⟩
  refine PySem.W.kia_one (PySem.W.kitx_exc hc) I.kIn IA e (fun z => nomatch z) fun tk => ⟨.bl b, H, I.tok tk, rfl, q⟩
end
end L2

end
section
namespace PySem
open Sem (wp)
section
variable {prog : Program} {w : World} {A : Around} {E : Value → Shared → Prop} {s : Shared} {env : Env}
variable {nm q : Str} {C N : Addr} {bs bm bmB : List Value} {hdct : Bool} {sn : List Str} {sub : List Value} {ab : Bool} {col : Option Bool} {dd : Option Addr} {k0 k1 k2 k3 k5 : Option Value} {B Bn newId nid initId inN : String} {bmN : List Value}
/-- raise .. from None, while an exception without a context is held -/
theorem raiseStmt_from {x c : Sem Value} {a : Addr} {Q : Flow → Shared → Prop} (hbase : bm.contains (.type "BaseException") = true) (hh : A.handled = some (.ref a)) (hcn : ∀ s' (Q' : Value → Shared → Prop), Q' .none s' → wpAny (model prog w) A c Q' E s')
    (h : wpAny (model prog w) A x (fun v s₁ => ∃ e t oa va, v = .ref e ∧ a ≠ e ∧ s₁.heap.get? C = some (excClassObj nm q C N bs bm hdct sn sub ab col dd k0 k1 k2 k3 k5 newId) ∧
      s₁.heap.get? e = some { cls := .ref C, data := .fields #[.ref t, .none, .none, .none, .bool false, .none] } ∧ s₁.heap.get? a = some oa ∧ oa.data = .fields va ∧ va[2]? = some .none ∧
      ∀ h', (∀ b, b ≠ e → h'.get? b = s₁.heap.get? b) → h'.get? e = some { cls := .ref C, data := .fields #[.ref t, .none, .ref a, .none, .bool true, .none] } → E (.ref e) { s₁ with heap := h' }) E s) :
    wpAny (model prog w) A (raiseStmt env (some x) (some c)) Q E s := by
  have hcB : (Value.ref C :: bm).contains (.type "BaseException") = true := by rw [List.contains_cons, hbase, Bool.or_true]
  unfold raiseStmt
  refine wpAny_bind (wpAny_mono h (fun v s₁ h₁ => ?_) fun _ _ x => x)
  obtain ⟨e, t, oa, va, rfl, ne, hC, he, ha, hda, h2, hE⟩ := h₁
  obtain ⟨hp, g, d, tk, os⟩ := s₁
  refine wpAny_bind (wpAny_holding (hcn _ _ (wpAny_bind (wpAny_pure ?_))))
  have nCe : C ≠ e := fun z => by rw [z] at hC; have := hC.symm.trans he; cases this
  -- the fields as they are set
  have f1 : (hp.update e (Obj.mapFields (·.setIfInBounds 3 Value.none))).get? e = some { cls := .ref C, data := .fields #[.ref t, .none, .none, .none, .bool false, .none] } := Heap.get?_update_self _ he rfl
  have f2 : ((hp.update e (Obj.mapFields (·.setIfInBounds 3 Value.none))).update e (Obj.mapFields (·.setIfInBounds 4 (Value.bool true)))).get? e = some { cls := .ref C, data := .fields #[.ref t, .none, .none, .none, .bool true, .none] } := Heap.get?_update_self _ f1 rfl
  have o2 : ∀ b, b ≠ e → ((hp.update e (Obj.mapFields (·.setIfInBounds 3 Value.none))).update e (Obj.mapFields (·.setIfInBounds 4 (Value.bool true)))).get? b = hp.get? b := fun b hb => by
    rw [Heap.get?_update_other _ _ (Ne.symm hb), Heap.get?_update_other _ _ (Ne.symm hb)]
  repeat (first | with_reducible refine wpAny_loadPart_at he ?_ | with_reducible refine wpAny_loadPart_at hC ?_ | (with_reducible refine wpAny_isSubtype_exc hC ?_; rw [hcB]) | with_reducible refine wpAny_setField he rfl (by decide) ?_ | with_reducible refine wpAny_setField f1 rfl (by decide) ?_ | wp_step)
  refine raiseNew_held (oe := oa) (px := []) (c2 := .none) hh (fun p hp => by simp at hp; rw [hp]; exact ne) f2 rfl (by show 2 < 6; decide) (fun p hp => by simp at hp; rw [hp]; exact (o2 a ne).trans ha) hda h2 (.inl rfl) ?_
  refine hE _ (fun b hb => ?_) (Heap.get?_update_self _ f2 rfl)
  rw [Heap.get?_update_other _ _ (Ne.symm hb)]; exact o2 b hb
end
end PySem

end
section
namespace PySem
open Sem (wp)
section
variable {prog : Program} {w : World} {A : Around} {E : Value → Shared → Prop} {s : Shared} {env : Env}
variable {nm q : Str} {C N : Addr} {bs bm bmB : List Value} {hdct : Bool} {sn : List Str} {sub : List Value} {ab : Bool} {col : Option Bool} {dd : Option Addr} {k0 k1 k2 k3 k5 : Option Value} {B Bn newId nid initId inN : String} {bmN : List Value}
theorem Raise_from (Fn : ExcBaseFacts Bn newId inN bmN) (hBn : bmB.contains (.type Bn) = true) (F : ExcBaseFacts B nid initId bmB) {mN : Str → Option Value} {x : Str} {a : Addr} {np cpos pos kp : Pos} {j : Nat} {args : List Expr} {Q : Flow → Shared → Prop}
    (hbase : bm.contains (.type "BaseException") = true) (hh : A.handled = some (.ref a)) (hplain : (backTo cpos (starEach args env)).any (·.1) = false) (hni : mN "__init__" = none)
    (h : wpAny (model prog w) A (eval (.Name x np) env) (fun f s₁ => f = .ref C ∧ wpAny (model prog w) A (evalArgs (.ref C) true (backTo cpos (starEach args env)) [])
      (fun ar s₂ => ar.kw = [] ∧ ar.pos.length ≤ sizeLine ∧ s₂.heap.get? C = some (excClassObj nm q C N bs bm hdct sn sub ab col dd k0 k1 k2 k3 k5 newId) ∧ s₂.heap.Ns N mN ∧ OwnTail s₂.heap bmB bm ∧ (∃ oa va, s₂.heap.get? a = some oa ∧ oa.data = .fields va ∧ va[2]? = some .none) ∧
        ∀ h' e t, (∀ b o, s₂.heap.get? b = some o → h'.get? b = some o) → s₂.heap.get? e = none → h'.get? e = some { cls := .ref C, data := .fields #[.ref t, .none, .ref a, .none, .bool true, .none] } → E (.ref e) { s₂ with heap := h' }) E s₁) E s) :
    wpAny (model prog w) A (exec (.Raise (some (.Call (.Name x np) args [] cpos)) (some (.Constant .none j kp)) pos) env) Q E s := by
  rw [arm_exec_Raise]
  refine wpAny_bind (wpAny_standAt (raiseStmt_from (C := C) (nm := nm) (q := q) (N := N) (bs := bs) (bm := bm) (hdct := hdct) (sn := sn) (sub := sub) (ab := ab) (col := col) (dd := dd) (k0 := k0) (k1 := k1) (k2 := k2) (k3 := k3) (k5 := k5) (newId := newId) hbase hh (fun s' Q' q' => wpAny_bind (PyProof.Rows.Constant_none (wpAny_bind (wpAny_standAt (wpAny_pure q'))))) (wpAny_bind (wpAny_mono (wpAny_Call_ofName (wpAny_mono h (fun f s₁ h₁ => ?_) fun _ _ x => x)) (fun v s₃ h₃ => wpAny_bind (wpAny_standAt (wpAny_pure h₃))) fun _ _ x => x))))
  obtain ⟨rfl, h₁⟩ := h₁
  unfold callWith
  refine wpAny_bind (wpAny_holding (wpAny_mono h₁ (fun ar s₂ h₂ => wpAny_bind (wpAny_standAt ?_)) fun _ _ x => x))
  obtain ⟨apos, akw⟩ := ar
  obtain ⟨hkw, hlen, hC, hn, T, ⟨oa, va, ha, hda, hv⟩, h₂⟩ := h₂
  obtain rfl : akw = [] := hkw
  obtain ⟨hp, g, d, tk, os⟩ := s₂
  simp only [hplain]
  refine wpAny_bind (wpAny_keeperOf_exc hC ?_)
  refine wpAny_bind (wpAny_call_exc_subU (hrest := hlen) Fn hBn F T hC hn hni fun h' e hm => wpAny_bind (wpAny_holding (wpAny_point (wpAny_pure ?_))))
  obtain ⟨t, ht, _, _⟩ := hm.there
  have ne : ∀ b o, hp.get? b = some o → b ≠ e := fun b o e1 z => by rw [z] at e1; have := hm.new; rw [show (Heap.get? hp e) = none from this] at e1; cases e1
  refine ⟨e, t, oa, va, rfl, ne a oa ha, hm.keeps _ _ hC, ht, hm.keeps _ _ ha, hda, hv, fun h2 o2 e2 => h₂ h2 e t (fun b o eb => (o2 b (ne b o eb)).trans (hm.keeps _ _ eb)) hm.new e2⟩
end
end PySem
namespace L2
open PySem PySem.Spec PyProof.Rows
section
variable {X : Cx}
theorem ps_tryFrom {E : XK} {x y z : Str} {B C2 : Addr} {body : List Stmt} {np hp pos np2 cpos rpos kp kp2 : Pos} {kj kj2 : Nat} {tb : XK → TS} (L : Lv true X E) (hxe : X.ex = []) (hst : X.stack = X.env :: X.outer) (hfr : X.env.frame = some X.env.locals) (hg : Gl X x) (hm : X.mg x = some (.ref B)) (hg2 : Gl X y) (hm2 : X.mg y = some (.ref C2)) (hx : PySem.W.excIn X.K C2 vMro "ValueError.__new__" = true)
    (hb : ∀ (F : XK) (pn : List (Addr × Obj)) (E : Value → Shared → Prop), Passes (CXE false X.prog X.w) (tX X pn E) F → PSs (tX X pn E) body (tb F)) (hd : (x == ("__debug__" : Str)) = false := by decide) (hd2 : (y == ("__debug__" : Str)) = false := by decide)
    (he : starEach [.Constant (.str z) kj kp] X.env = (false, eval (.Constant (.str z) kj kp) X.env) :: starEach [] X.env := by rfl) :
    PS X (.Try body [.ExceptHandler (some (.Name x np)) none [.Raise (some (.Call (.Name y np2) [.Constant (.str z) kj kp] [] cpos)) (some (.Constant .none kj2 kp2)) rpos] hp] [] [] pos) (tFrom X E B C2 tb) := by
  intro pins s σ H D I h
  refine wpAny_Try_except ?_
  refine tried (d := false) I (fun pn E => hb _ pn E) h (fun f s1 q => ?_) fun e s' q => ?_
  · cases f with
    | next => exact wpAny_execs_nil q
    | brk => exact q
    | cont => exact q
    | ret u => exact q
  · obtain ⟨σ1, H0, s1, I1, q⟩ := q
    refine catchX hst hfr hg hm hd I1 q (fun C H1 ⟨C', e, hex, _⟩ => by cases e; exact hex) fun a C H1 h3 T oe px c2 ea neT sh3 tb3 na nT h0 hn2 held qF keep => ?_
    obtain ⟨C', eC, hex, rd⟩ := qF
    cases eC
    have c20 := hn2 rfl
    subst c20
    refine codeAny_handlers_suite (setFlX (s := { s' with heap := h3 }) (fs := frs X.stack) neT sh3 tb3 fun h4 e4 sh4 _ kp4 => ?_)
    obtain ⟨I4, hp4⟩ := keep h4 e4 kp4
    have I4h : Inv (hX X a oe px) pins σ1 H1 { s' with heap := h4 } := I4.hold hp4
    obtain ⟨tl, N, nm, qn, bs, hdct, sn, sub, ab, col, dd, k0, k1, k2, k3, k5, mN, hC, hN, hni, T'⟩ := exc_obj I4.kIn hx
    obtain ⟨oe', vs, g0, hc, hdc, hdt, v1, v2⟩ := id sh4
    refine wpAny_execs_cons (Raise_from (a := a) (C := C2) (nm := nm) (q := qn) (N := N) (bs := bs) (bm := tl) (hdct := hdct) (sn := sn) (sub := sub) (ab := ab) (col := col) (dd := dd) (k0 := k0) (k1 := k1) (k2 := k2) (k3 := k3) (k5 := k5) (mN := mN)
      F.excBase_ValueError (by decide +kernel) F.excBase_ValueError (T'.hasType F.excBase_ValueError.hasBase) rfl (by rw [he]; rfl) hni (ld_glob (X := hX X a oe px) I4h hg2 hm2 ⟨rfl, ?_⟩ hd2))
    rw [he]
    show wpAny _ _ (evalArgs (.ref C2) true ((false, eval (.Constant (.str z) kj kp) X.env) :: backTo cpos (starEach [] X.env)) []) _ _ _
    have e0 : backTo cpos (starEach [] X.env) = [] := by rfl
    rw [e0]
    refine Calls.evalArgs_plain (Calls.spliced_cons (Calls.Constant_str (Calls.spliced_nil ⟨rfl, (by show 1 ≤ sizeLine; decide), hC, hN, T', ⟨oe', vs, g0, hdt, v2⟩, fun h5 e t k5' n5 e5 => ?_⟩)))
    -- the new one lies; it is noted, and goes on
    have hf2 : (X.A.mark (some (.ref a))).frames = some (X.env :: X.outer) := by rw [← hst]; exact I4.ok.frames
    have I5 : Inv X pins σ1 H1 { s' with heap := h5, toks := s'.toks + 1 } := I4.kept (t' := s'.toks + 1) k5'
    have st5 : h5.FunFrames X.base (X.env :: X.outer) := by rw [← hst]; exact I5.stack
    have sh5 : ExcSh h5 e (.ref C2) .none (.ref a) := ⟨_, _, e5, rfl, rfl, rfl, rfl, rfl⟩
    show wpAny _ _ (noteFrame (.ref e) X.env) _ _ _
    refine noteX (ch := [e]) hf2 st5 hfr hfr sh5 (.inl rfl) (by simp) (fun T q => nomatch q) fun h6 T6 z6 n6 sh6 tb6 kp6 => ?_
    rw [← hst] at kp6
    have z6' : h5.objs.size ≤ T6 := z6.resolve_right fun q => nomatch q
    obtain ⟨oe6, vs6, p0, _, _, pd, p1, _⟩ := id sh6
    show wpAny _ _ _ _ _ { s' with heap := h6, toks := s'.toks + 1 }
    refine wpAny_bind (wpAny_field p0 pd p1 ?_)
    rw [if_neg (show ¬ ((Value.ref T6 == Value.none) = true) from Bool.false_ne_true)]
    refine setFlX (s := { s' with heap := h6, toks := s'.toks + 1 }) (fs := frs X.stack) n6 sh6 tb6 fun h7 _ sh7 tb7 kp7 => ?_
    have T6n : h4.get? T6 = none := by
      cases q : h4.get? T6 with
      | none => rfl
      | some o => exact absurd (Nat.lt_of_lt_of_le (Heap.lt_size (k5' T6 o q)) z6') (Nat.lt_irrefl _)
    have u5 : Un (frs X.stack) [] H1 H1 h4 h5 := Un.kept k5'
    have u6 := Un.leftX u5 kp6 (fun b hb => by simp at hb; rw [hb]; exact n5) fun b o _ hb => hb
    have u7 := Un.leftX u6 kp7 (fun b hb => by simp at hb; rw [hb]; exact T6n) fun b o _ hb => hb
    have He : H1 e = none := I4.hok.none_of n5
    have HT : H1 T6 = none := I5.hok.fresh z6'
    have k6 := (I4.hok.kept k5').leftX kp6 (fun b hb => by simp at hb; rw [hb]; exact He) I4.stkFree
    have k7 := k6.leftX kp7 (fun b hb => by simp at hb; rw [hb]; exact HT) I4.stkFree
    have I7 : Inv X pins σ1 H1 { s' with heap := h7, toks := s'.toks + 1 } := I4.call' (s' := { s' with heap := h7, toks := s'.toks + 1 }) rfl u7 k7 I4.bare (fun b z => absurd z (by simp))
    have old : ∀ b, h4.get? b = none → X.s₀.heap.get? b = none := fun b e => by
      cases z : X.s₀.heap.get? b with
      | none => rfl
      | some o => obtain ⟨o', z'⟩ := I4.base.there b o z (by rw [hxe]; simp); rw [show Heap.get? h4 b = none from e] at z'; cases z'
    have old1 : ∀ b, s1.heap.get? b = none → X.s₀.heap.get? b = none := fun b e => by
      cases z : X.s₀.heap.get? b with
      | none => rfl
      | some o => obtain ⟨o', z'⟩ := I1.base.there b o z (by rw [hxe]; simp); rw [e] at z'; cases z'
    have nea : a ≠ e := fun z => by rw [← z, g0] at n5; cases n5
    have naT : a ≠ T6 := fun z => by rw [← z, g0] at T6n; cases T6n
    have nfa : a ∉ frs X.stack := fun hb => by obtain ⟨_, o, ho, hn⟩ := I4.stack.mem hb; rw [show (Heap.get? h4 a) = some oe' from g0] at ho; cases ho; exact hn vs hdt
    refine L pins σ1 H1 _ e C2 I7 ⟨⟨old e n5, He⟩, .ref T6, .ref a, sh7, .inr ⟨T6, _, rfl, n6, tb7⟩, fun T q => ?_, .inr ⟨a, oe', vs, rfl, rfl, nea, fun q => ?_, ⟨old1 a na.1, na.2⟩, ?_, hdt, v2⟩⟩ rd
    · cases q; exact ⟨old T6 T6n, HT⟩
    · injection q with q; exact naT q.symm
    · exact kp7.1 a oe' (by simp; exact naT) nfa (kp6.1 a oe' (by simp; exact nea) nfa (k5' a oe' g0))
end
end L2

end
section
namespace L2
open PySem PySem.Spec PyProof.Rows
/-! ### a block whose element may raise -/
abbrev compXE (X : Cx) (scope : Scope) (N' : List Str) (s : Shared) (H : Hp) (fp : List Addr) (C : Addr) (pn : List (Addr × Obj)) (xe : Value → Shared → Prop) : Cx := { compX X scope N' s H fp C with pn := pn, xe := xe }
section
variable {X : Cx}
theorem codeAny_compLoop_anyE {prog : Program} {w : World} {A : Around} {s : Shared} {R : Result → Shared → Prop} {elt target iter : Expr} {scope : Scope} {pos : Pos} {it acc : Value} {env : Env} (EE : Value → Shared → Prop) (hEE : ∀ e s', EE e s' → notedBy (model prog w) A env (fun x s' => R (.error x) s') e s') (I : Nat → Shared → Prop)
    (turn : ∀ n s, I n s → wpAny (model prog w) A (pyNext it) (fun r s₁ => match r with
      | none => R (.ok .next) s₁
      | some v => wpAny (model prog w) A (letOwnedTupleGo target it v) (fun _ s₁' => wpAny (model prog w) A (assign target env v) (fun _ s₂ => wpAny (model prog w) A (eval elt env) (fun x s₃ =>
          wpAny (model prog w) A (call (.builtin "list.append") [acc, x]) (fun _ s₄ => ∃ m, m < n ∧ I m s₄) (fun _ _ => False) s₃)
          EE s₂) (fun _ _ => False) s₁') (fun _ _ => False) s₁) (fun _ _ => False) s)
    (n : Nat) (h : I n s) :
    codeAny (model prog w) A (.compLoop (.ListComp elt [⟨target, iter, [], 0⟩] scope pos) 0 it acc env) R s := by
  refine codeAny_loop rfl I (fun n s hI => ?_) n h
  show wpAny _ _ ((compTurn (.ListComp elt [⟨target, iter, [], 0⟩] scope pos) 0 it acc env).onRaise (fun x => do noteFrame x env; theTreesLotGoes x)) _ _ s
  refine wpAny_noted ?_
  rw [compTurn_list1']
  refine wpAny_bind (wpAny_standAt (wpAny_bind (wpAny_mono (turn n s hI) (fun r s₁ h₁ => ?_) fun _ _ h' => h'.elim)))
  cases r with
  | none => exact wpAny_pure h₁
  | some v =>
    exact wpAny_bind (wpAny_mono h₁ (fun _ s₁' h₁' => wpAny_bind (wpAny_mono h₁' (fun _ s₂ h₂ => wpAny_bind (wpAny_bind (wpAny_mono h₂ (fun x s₃ h₃ => wpAny_bind (wpAny_mono h₃
      (fun _ s₄ h₄ => wpAny_pure (wpAny_pure ⟨rfl, h₄⟩)) fun _ _ h' => h'.elim)) fun e s' h' => hEE e s' h'))) fun _ _ h' => h'.elim)) fun _ _ h' => h'.elim)

theorem pe_compE {d : Bool} {E : XK} {tg iter elt : Expr} {scope : Scope} {pos : Pos} {wi : TI} {g : TG} {te : TE} (own fr : List Str) (js : List Nat) {sc0 : Scope} {N : List Str} (L : Lv d X E) (hxe : X.ex = []) (hst : X.stack = X.env :: X.outer) (hfr : X.env.frame = some X.env.locals) (hc : X.calm = true) (hN : X.N = N) (hsc : X.env.scope = sc0) (S : CompSc N sc0 scope own fr js)
    (hi : PI X tg iter wi) (hg : ∀ s H fp C, PG (compX X scope (own ++ fr) s H fp C) tg g) (he : ∀ s H fp C pn xe, Passes (CXE d X.prog X.w) (compXE X scope (own ++ fr) s H fp C pn xe) E → PE (compXE X scope (own ++ fr) s H fp C pn xe) elt te)
    (hs : ∀ x, foldedSetIterable iter X.env x = pure x := by intro _; rfl) : PE X (.ListComp elt [⟨tg, iter, [], 0⟩] scope pos) (tComp wi g te own.length js) := by
  intro pins s σ H Q I h
  rw [eval_ListComp]
  have hclos : closureFor scope X.env = pure (clo X.env scope.names []) := closureFor_clo fun x hx e => by
    subst hsc
    exact I.ok.has x.1 (S.free x hx e)
  refine wpAny_comprehension_free (use := none) rfl hs hclos S.kind S.loc (thn (hi pins s σ H _ I h) fun xv s1 h1 => thn h1 fun itv s2 h2 => ?_)
  obtain ⟨it, fp, tn, J, H2, e, I2, T, st2, f2, rest⟩ := h2
  subst e
  refine wpAny_newObj_type ?_
  obtain ⟨W, ⟨m0, w0⟩, turn⟩ := rest s2.heap.objs.size (I2.hok.fresh (Nat.le_refl _))
  have I3 : Inv X pins σ (upd H2 s2.heap.objs.size (.lst [])) { s2 with heap := s2.heap.push { cls := .type "list", dict := none, data := .seq ([] : List Value).toArray } } :=
    I2.lnew (its := []) (t' := s2.toks) .nil (Nat.zero_le _)
  generalize hs3 : ({ s2 with heap := s2.heap.push { cls := .type "list", dict := none, data := .seq ([] : List Value).toArray } } : Shared) = s3 at I3 ⊢
  have ho3 : ∀ b o, s2.heap.get? b = some o → s3.heap.get? b = some o := fun b o e => by rw [← hs3]; exact Heap.get?_push_of_some _ e
  have f3 : ∀ b ∈ fp, FpOk X pins (upd H2 s2.heap.objs.size (.lst [])) b := fun b hb => by
    obtain ⟨o, e, _⟩ := T.obj _ _ st2 b hb
    exact ⟨by rw [upd_ne (Nat.ne_of_lt (Heap.lt_size e))]; exact (f2 b hb).1, (f2 b hb).2⟩
  have l3 : ∀ b ∈ fp, b < s3.heap.objs.size := fun b hb => by
    obtain ⟨o, e, _⟩ := T.obj _ _ st2 b hb
    exact Heap.lt_size (ho3 b o e)
  have st3 : tn 0 s3.heap := T.keep _ _ _ st2 fun b _ o e => ho3 b o e
  refine wpAny_newFunctionEnv S.cell (by intro y hy; simp at hy) (fun h4 hn4 sb4 => ?_) S.kind
  have ho4 : ∀ b o, s3.heap.get? b = some o → h4.get? b = some o := fun b o e => sb4.extBut b o (Nat.ne_of_lt (Heap.lt_size e)) (Heap.get?_push_of_some _ e)
  have hn4' : h4.Ns s3.heap.objs.size (fun _ => none) := hn4
  have J0 := comp_start (scope := scope) (own := own) (fr := fr) (js := js) (tk := s3.toks + ([] : List (Str × Value)).length) I3 hN hsc S f3 l3 hn4' ho4
  have st4 : tn 0 h4 := T.keep _ _ _ st3 fun b _ o e => ho4 b o e
  show codeAny (model X.prog X.w) X.A (.compStart (.ListComp elt [⟨tg, iter, [], 0⟩] scope pos) 0 (.ref it) (.ref s2.heap.objs.size) (compX X scope (own ++ fr) s3 (upd H2 s2.heap.objs.size (.lst [])) fp s3.heap.objs.size).env) (compPost (model X.prog X.w) X.A X.xe none (EP X pins σ Q) (.ref s2.heap.objs.size) s3.heap.objs.size) _
  generalize hX' : compX X scope (own ++ fr) s3 (upd H2 s2.heap.objs.size (.lst [])) fp s3.heap.objs.size = X' at J0 ⊢
  have hgX : PG X' tg g := hX' ▸ hg _ _ _ _
  have heX : ∀ pn xe, Passes (CXE d X.prog X.w) { X' with pn := pn, xe := xe } E → PE { X' with pn := pn, xe := xe } elt te := fun pn xe hp => by subst hX'; exact he _ _ _ _ pn xe hp
  have eP : X'.prog = X.prog := by rw [← hX']; rfl
  have eW : X'.w = X.w := by rw [← hX']; rfl
  have eK : X'.K = X.K := by rw [← hX']; rfl
  have eC : X'.calm = true := by rw [← hX']; exact hc
  have eA : X'.A = X.A := by rw [← hX']; rfl
  have eX : X'.xe = fun _ _ => False := by rw [← hX']; rfl
  have eEx : X'.ex = fp := by rw [← hX']; rfl
  have eL : X'.env.locals = s3.heap.objs.size := by rw [← hX']; rfl
  have eN : X'.N = own ++ fr := by rw [← hX']; rfl
  have cl' : ∀ x c, X'.env.cells.lookup x = some c → X.env.cells.lookup x = some c := fun x c h => clo_from (names := scope.names) (acc := []) (fun y d hy => by simp at hy) (by rw [← hX'] at h; exact h)
  have eFs : X'.fs = frs X.stack := by rw [← hX']; rfl
  have ePn : X'.pn = [] := by rw [← hX']; rfl
  have fp' : ∀ {H' : Hp}, (∀ b ∈ fp, H' b = none) → ∀ b ∈ fp, FpOk X' [] H' b := fun hn b hb => ⟨hn b hb, by rw [eL]; exact Nat.ne_of_lt (l3 b hb), by
      rw [eFs]; intro z
      rcases List.mem_cons.mp (I3.stkSub b z) with e | e
      · exact (f3 b hb).2.1 e
      · exact (f3 b hb).2.2.1 e, .inl (by rw [eEx]; exact hb), fun x c h => (f3 b hb).2.2.2.2.1 x c (cl' x c h), fun p hp => by rw [ePn] at hp; exact absurd (show p ∈ ([] : List (Addr × Obj)) from hp) (by simp)⟩
  have eS : X'.stack = X.stack := by rw [← hX']; rfl
  have eB : X'.base = X.base := by rw [← hX']; rfl
  have e0 : X'.H₀ = upd H2 s2.heap.objs.size (.lst []) := by rw [← hX']; rfl
  have e1 : X'.s₀ = s3 := by rw [← hX']; rfl
  have eF : X'.env.frame = X.env.frame := by rw [← hX']; rfl
  -- an exception out of the element
  obtain ⟨EE, hEE⟩ : ∃ EE : Value → Shared → Prop, EE = fun e s' => ∃ pinsP σ1 H0 s1, Inv X' pinsP σ1 H0 s1 ∧ (∀ b ∈ fp, ∃ o, s1.heap.get? b = some o) ∧ CXE d X'.prog X'.w X'.stack H0 s1 E e s' := ⟨_, rfl⟩
  have pass : ∀ e s', EE e s' →
      notedBy (model X.prog X.w) X.A X'.env (fun x s' => compPost (model X.prog X.w) X.A X.xe none (EP X pins σ Q) (.ref s2.heap.objs.size) s3.heap.objs.size (.error x) s') e s' := by
    rw [hEE]
    rintro e s' ⟨pinsP, σ1, H0, s1, I1, there, a, C, H1, rfl, os, bare, un, hok, ⟨n0, t1, c2, sh, nf, hT, hx⟩, q⟩
    have J2 : Inv X' pinsP σ1 H1 s' := I1.call' os un hok bare (fun b z => absurd z (by simp))
    have hf2 : X.A.frames = some (X.env :: X.outer) := by rw [← hst]; exact I3.ok.frames
    have st2 : s'.heap.FunFrames X.base (X.env :: X.outer) := by rw [← hst, ← eB, ← eS]; exact J2.stack
    show wpAny _ _ (noteFrame (.ref a) X'.env) _ _ s'
    refine noteX (ch := chX a t1) hf2 st2 hfr (eF.trans hfr) sh nf (by simp [chX]) (fun T e => by rw [e]; exact chX_ref) fun h5 T zT neT sh5 tb5 kp5 => ?_
    have hx5 := hx.step kp5 st2 zT
    rw [← hst] at kp5
    have kp5' : KeepX (frs X'.stack) (chX a t1) s'.heap h5 := by rw [eS]; exact kp5
    have u5 : Un (frs X'.stack) [] H0 H1 s1.heap h5 := Un.leftX un kp5' (chX_all n0.1 fun T e => (hT T e).1) fun b o _ hb => hb
    have ok5 : HOk X'.prog X'.w H1 h5 := hok.leftX kp5' (chX_all n0.2 fun T e => (hT T e).2) J2.stkFree
    have nT : New s1.heap H1 T := by
      rcases zT with z | z
      · exact ⟨un.old z, J2.hok.fresh z⟩
      · exact hT T z
    have J5 : Inv X' pinsP σ1 H1 { s' with heap := h5 } := I1.call' (s' := { s' with heap := h5 }) os u5 ok5 bare (fun b z => absurd z (by simp))
    obtain ⟨m5, hn5, _⟩ := id J5.loc
    rw [eL] at hn5
    have away : ∀ b, s1.heap.get? b = none → b ≠ s3.heap.objs.size := fun b nb z => by
      obtain ⟨m, ⟨o, _, _, e, _⟩, _⟩ := I1.loc
      rw [eL, ← z, nb] at e; cases e
    refine ⟨m5, hn5, fun h6 sb6 cenv _ => ?_⟩
    have sh6 : ExcSh h6 a (.ref C) (.ref T) c2 := by
      obtain ⟨oe, vs, z0, zr⟩ := sh5
      exact ⟨oe, vs, (sb6.2 a (away a n0.1)).trans z0, zr⟩
    have tb6 : TbSh h6 T (rawInt X.env.locals) := by
      obtain ⟨oe, vs, z0, zr⟩ := tb5
      exact ⟨oe, vs, (sb6.2 T (away T nT.1)).trans z0, zr⟩
    obtain ⟨oe6, vs6, p0, _, _, pd, p1, _⟩ := id sh6
    unfold PySem.passOn
    refine wpAny_bind (wpAny_field (s := { s' with heap := h6 }) p0 pd p1 ?_)
    rw [if_neg (show ¬ ((Value.ref T == Value.none) = true) from Bool.false_ne_true)]
    refine wpAny_bind (setFlX (s := { s' with heap := h6 }) (fs := frs X.stack) neT sh6 tb6 fun h7 _ sh7 tb7 kp7 => wpAny_throw ?_)
    have old3 : ∀ b, s1.heap.get? b = none → s3.heap.get? b = none := fun b nb => by
      cases z : s3.heap.get? b with
      | none => rfl
      | some o =>
        by_cases hb : b ∈ fp
        · obtain ⟨o', z'⟩ := there b hb; rw [nb] at z'; cases z'
        · obtain ⟨o', z'⟩ := I1.base.there b o (by rw [e1]; exact z) (by rw [eEx]; exact hb); rw [nb] at z'; cases z'
    have old : ∀ b, s1.heap.get? b = none → X.s₀.heap.get? b = none := fun b nb => by
      cases z : X.s₀.heap.get? b with
      | none => rfl
      | some o => obtain ⟨o', z'⟩ := I3.base.there b o z (by rw [hxe]; simp); rw [old3 b nb] at z'; cases z'
    have kp6 : KeepX (frs X.stack) [s3.heap.objs.size] h5 h6 := ⟨fun b o hb _ q => (sb6.2 b (fun z => hb (by simp [z]))).trans q, fun b o hb _ q => ⟨o.slots, (sb6.2 b (fun z => hb (by simp [z]))).trans q⟩⟩
    have b5 := J5.base
    rw [eFs, eEx, e0, e1] at b5
    have u6 := Un.leftX b5 kp6 (fun b hb => by simp at hb; rw [hb]; exact Heap.get?_none_of_le (Nat.le_refl _)) fun b o _ hb => hb
    have u7 := Un.leftX u6 kp7 (fun b hb => by simp at hb; rw [hb]; exact old3 T nT.1) fun b o _ hb => hb
    have fr5 : ∀ b ∈ frs X.stack, H1 b = none := fun b hb => J5.stkFree b (by rw [eS]; exact hb)
    have hC5 : H1 s3.heap.objs.size = none := by have := J5.free; rw [eL] at this; exact this
    have k5 : HOk X.prog X.w H1 h5 := by have := J5.hok; rw [eP, eW] at this; exact this
    have k6 := k5.leftX kp6 (fun b hb => by simp at hb; rw [hb]; exact hC5) fr5
    have k7 := k6.leftX kp7 (fun b hb => by simp at hb; rw [hb]; exact nT.2) fr5
    have os7 : s'.os = s3.os := by have := J5.os; rw [e1] at this; exact this
    have I7 : Inv X pins σ H1 { s' with heap := h7 } := I3.call' (s' := { s' with heap := h7 }) (ch := fp) os7 u7 k7 bare fun b hb => ⟨(f3 b hb).2.2.2.1, (f3 b hb).2.1, (f3 b hb).2.2.2.2.1, (f3 b hb).2.2.2.2.2⟩
    refine L pins σ H1 _ a C I7 ⟨⟨old a n0.1, n0.2⟩, .ref T, c2, sh7, .inr ⟨T, _, rfl, neT, tb7⟩, fun T' z => ?_, ?_⟩ q
    · cases z; exact ⟨old T nT.1, nT.2⟩
    · rcases hx5 with z | ⟨b, ob, vb, z0, z1, z2, z3, z4, z5, z6, z7⟩
      · exact .inl z
      · have nf7 : b ∉ frs X.stack := fun hb => by
          obtain ⟨_, o, ho, hn⟩ := J5.stack.mem (b := b) (by rw [eS]; exact hb)
          rw [show Heap.get? h5 b = some ob from z5] at ho; cases ho; exact hn vb z6
        exact .inr ⟨b, ob, vb, z0, z1, z2, z3, ⟨old b z4.1, z4.2⟩, kp7.1 b ob (fun hb => by simp at hb; exact z3 (by rw [hb])) nf7 ((sb6.2 b (away b z4.1)).trans z5), z6, z7⟩
  have loop : ∀ s4 : Shared, s4 = { s3 with heap := h4, toks := s3.toks + ([] : List (Str × Value)).length } →
      codeAny (model X.prog X.w) X.A (.compLoop (.ListComp elt [⟨tg, iter, [], 0⟩] scope pos) 0 (.ref it) (.ref s2.heap.objs.size) X'.env) (compPost (model X.prog X.w) X.A X.xe none (EP X pins σ Q) (.ref s2.heap.objs.size) s3.heap.objs.size) s4 := by
    rintro s4 rfl
    refine codeAny_compLoop_anyE EE pass (fun n s' => ∃ i σ' H', Inv X' [] σ' H' s' ∧ tn i s'.heap ∧ (∀ b ∈ fp, H' b = none) ∧ W i n σ' H') ?_ m0 ⟨0, _, _, J0, st4, fun b hb => (f3 b hb).1, w0⟩
    rintro n s5 ⟨i, σ5, H5, I5, st5, fr5, w5⟩
    rcases turn i n σ5 H5 w5 with ⟨stop, q⟩ | ⟨go, step⟩
    · have hd := T.done X' eP eW eK eC i [] s5 σ5 H5 (fun _ _ => False) I5 (fp' fr5) st5 stop
      rw [eA] at hd
      refine thn hd fun r s6 ⟨hr, I6⟩ => ?_
      subst hr
      -- behind the block
      obtain ⟨m6, hn6, _⟩ := I6.loc
      rw [eL] at hn6
      refine ⟨m6, hn6, fun h7 sb7 => ?_⟩
      have hC : H5 s3.heap.objs.size = none := by have := I6.free; rw [eL] at this; exact this
      have hok7 : HOk X.prog X.w H5 h7 := fun b ob e => by
        have e6 := I6.hok b ob e
        rw [eP, eW] at e6
        refine e6.stay (fun c w' hc q => (sb7.2 c ?_).trans q) (fun _ q => q) fun _ _ q => q
        rintro rfl
        rcases hc with z | z
        · rw [← z, hC] at e; cases e
        · rw [hC] at z; cases z
      have un : Un (frs X.stack) fp (upd H2 s2.heap.objs.size (.lst [])) H5 s3.heap h7 := by
        have b6 := I6.base
        have e0 : X'.H₀ = upd H2 s2.heap.objs.size (.lst []) := by rw [← hX']; rfl
        have e1 : X'.s₀ = s3 := by rw [← hX']; rfl
        rw [eFs, eEx, e0, e1] at b6
        have ne : ∀ b o, s3.heap.get? b = some o → b ≠ s3.heap.objs.size := fun b o e => Nat.ne_of_lt (Heap.lt_size e)
        exact ⟨fun b o e n hb hx => (sb7.2 b (ne b o e)).trans (b6.keep b o e n hb hx), fun b o e n hb hx => by
            obtain ⟨sl, z⟩ := b6.slot b o e n hb hx
            exact ⟨sl, (sb7.2 b (ne b o e)).trans z⟩, b6.free, fun b o e hx => by
            obtain ⟨o', z⟩ := b6.there b o e hx
            exact ⟨o', (sb7.2 b (ne b o e)).trans z⟩, b6.tups, b6.frzs, b6.tbls⟩
      have os7 : s6.os = s3.os := by have := I6.os; rw [← hX'] at this; exact this
      have I7 : Inv X pins σ H5 { s6 with heap := h7 } := I3.call' (s' := { s6 with heap := h7 }) (ch := fp) os7 un hok7 I6.bare fun b hb => ⟨(f3 b hb).2.2.2.1, (f3 b hb).2.1, (f3 b hb).2.2.2.2.1, (f3 b hb).2.2.2.2.2⟩
      exact ⟨.ref s2.heap.objs.size, H5, I7, rfl, q⟩
    · have hd := T.item X' eP eW eK eC i [] s5 σ5 H5 (fun _ _ => False) I5 (fp' fr5) st5 go
      rw [eA] at hd
      refine thn hd fun r s6 ⟨u, hr, h6⟩ => ?_
      subst hr
      refine thn h6 fun _ s7 ⟨x, H7, I7, r7, y7, st7, fr7⟩ => ?_
      have I7' := I7.pinned (fp' fr7) (T.obj _ _ st7)
      have hg7 := hgX _ s7 σ5 H7 x u _ I7' r7 (step x H7 y7)
      rw [eP, eW, eA, eX] at hg7
      refine thn hg7 fun _ s8 ⟨σ8, H8, I8, q8⟩ => ?_
      have pn8 : ∀ b ∈ fp, ∃ o, (b, o) ∈ pinsAt fp s7.heap := fun b hb => by
        obtain ⟨o, e, _⟩ := T.obj _ _ st7 b hb
        exact ⟨o, mem_pinsAt hb e⟩
      have Pa : Passes (CXE d X.prog X.w) { X' with pn := pinsAt fp s7.heap, xe := EE } E := fun pins1 σ1 H1 s1 e s' J1 q1 => by
        show EE e s'
        rw [hEE]
        refine ⟨pinsAt fp s7.heap ++ pins1, σ1, H1, s1, ⟨I8.ok, J1.os, J1.bare, J1.base, J1.loc, J1.cell, J1.free, J1.freeC, fun p hp => J1.pin p (by rw [ePn] at hp; exact hp), J1.hok, J1.len⟩, fun b hb => ?_, by rw [eP, eW]; exact q1⟩
        obtain ⟨o, ho⟩ := pn8 b hb
        exact ⟨o, (J1.pin (b, o) (List.mem_append_left _ ho)).1⟩
      have I8' : Inv { X' with pn := pinsAt fp s7.heap, xe := EE } [] σ8 H8 s8 := ⟨⟨I8.ok.mod, I8.ok.kind, I8.ok.glob, I8.ok.blt, I8.ok.above, I8.ok.inj, I8.ok.has, I8.ok.cab, I8.ok.hd, I8.ok.frames, I8.ok.stk, I8.ok.exf, I8.ok.bs, I8.ok.bsz, I8.ok.noex, I8.ok.exfs, I8.ok.funs, I8.ok.frf⟩, I8.os, I8.bare, I8.base, I8.loc, I8.cell, I8.free, I8.freeC, fun p hp => I8.pin p (by rw [ePn]; simpa using hp), I8.hok, I8.len⟩
      have he8 : wpAny (model X.prog X.w) X.A (eval elt X'.env) (EP { X' with pn := pinsAt fp s7.heap, xe := EE } [] σ8 fun v H4 => ∃ ys, H4 s2.heap.objs.size = some (.lst ys) ∧ ys.length < sizeLine ∧ ∃ m', m' < n ∧ W (i + 1) m' σ8 (upd H4 s2.heap.objs.size (.lst (ys ++ [v])))) EE s8 := by
        have z := heX _ _ Pa [] s8 σ8 H8 _ I8' q8
        rw [← eP, ← eW, ← eA]
        exact z
      refine thn he8 fun v s9 ⟨z, H9, J9, r9, ys, hp9, hz9, m', hm', w9⟩ => ?_
      have I9 : Inv X' ([] ++ pinsAt fp s7.heap) σ8 H9 s9 := ⟨I8.ok, J9.os, J9.bare, J9.base, J9.loc, J9.cell, J9.free, J9.freeC, fun p hp => J9.pin p (by rw [ePn] at hp; simpa using hp), J9.hok, J9.len⟩
      have ha := mt_append (X := X') _ s9 σ8 H9 (.ref s2.heap.objs.size) [z] (.ref s2.heap.objs.size) [v] (fun _ H' => ∃ m', m' < n ∧ W (i + 1) m' σ8 H') I9 rfl (.cons r9 .nil) ⟨_, ys, z, rfl, rfl, hp9, hz9, m', hm', w9⟩
      rw [eP, eW, eA, eX] at ha
      refine thn ha fun _ s10 ⟨_, H10, I10, _, m'', hm'', w10⟩ => ?_
      have pin10 : ∀ b ∈ fp, ∀ o, s7.heap.get? b = some o → s10.heap.get? b = some o ∧ H10 b = none := fun b hb o e =>
        let z := I10.pin (b, o) (List.mem_append_right _ (List.mem_append_right _ (mem_pinsAt hb e)))
        ⟨z.1, z.2.1⟩
      refine ⟨m'', hm'', i + 1, σ8, H10, I10.unpinned, T.keep _ _ _ st7 fun b hb o e => (pin10 b hb o e).1, fun b hb => ?_, w10⟩
      obtain ⟨o, e, _⟩ := T.obj _ _ st7 b hb
      exact (pin10 b hb o e).2
  have st4' : tn 0 ({ s3 with heap := h4, toks := s3.toks + ([] : List (Str × Value)).length } : Shared).heap := st4
  exact codeAny_compStart_list (loop _ rfl) (T.self X.A 0 _ _ _ st4' (loop _ rfl))
end
end L2

end
section
namespace L2
open PySem PySem.Spec PyProof.Rows
theorem Same.put' {H H' : Hp} {p : PySem.Addr} {o : HO} (h : Same H H') (hp : H p = none) : Same H (L2.upd H' p o) := fun b u e => by rw [upd_ne (ne_of_none e hp)]; exact h b u e
/-- a comprehension whose items are F 0, .., F (n - 1), in a heap that else stays -/
theorem comp_gen {J : It} {g : TG} {te : TE} {H1 : Hp} {σ0 : St} {R : Hp → Prop} {p : Addr} (hp : H1 p = none) (n : Nat) (hz : n < sizeLine) (F : Nat → V) (Ps : St → Prop) (h0 : Ps σ0) (hstop : ∀ H', Same H1 H' → J.stop n H') (hgo : ∀ i H', i < n → Same H1 H' → J.go i H')
    (step : ∀ i σ' H' x H2, i < n → Ps σ' → Same H1 H' → J.yld i H' x H2 → ∀ K : V → St → Hp → Prop, (∀ σ2 H4, Ps σ2 → Same H' H4 → K (F i) σ2 H4) → g x σ' H2 fun σ2 H3 => te σ2 H3 fun v H4 => K v σ2 H4)
    (fin : ∀ H', Same H1 H' → H' p = some (.lst ((List.range n).map F)) → R H') :
    ∃ W : Nat → Nat → St → Hp → Prop, (∃ m, W 0 m σ0 (upd H1 p (.lst []))) ∧
      ∀ i m σ' H', W i m σ' H' → (J.stop i H' ∧ R H') ∨ (J.go i H' ∧ ∀ x H2, J.yld i H' x H2 → g x σ' H2 fun σ2 H3 => te σ2 H3 fun v H4 => ∃ ys, H4 p = some (.lst ys) ∧ ys.length < sizeLine ∧ ∃ m', m' < m ∧ W (i + 1) m' σ2 (upd H4 p (.lst (ys ++ [v])))) := by
  refine ⟨fun i m σ' H' => m = n - i ∧ i ≤ n ∧ Ps σ' ∧ Same H1 H' ∧ H' p = some (.lst ((List.range i).map F)), ⟨_, rfl, Nat.zero_le _, h0, (Same.refl H1).put' hp, upd_same⟩, ?_⟩
  rintro i m σ' H' ⟨rfl, hi, ps, sm, lp⟩
  by_cases hlt : i < n
  · refine .inr ⟨hgo i H' hlt sm, fun x H2 y => step i σ' H' x H2 hlt ps sm y _ fun σ2 H4 ps2 sm2 => ?_⟩
    refine ⟨_, sm2 _ _ lp, by simp; omega, n - (i + 1), by omega, rfl, hlt, ps2, (sm.trans sm2).put' hp, ?_⟩
    rw [upd_same, List.range_succ, List.map_append]; rfl
  · have e : i = n := by omega
    subst e
    exact .inl ⟨hstop H' sm, fin H' sm lp⟩
theorem comp_enumS {x : Str} {g : TG} {te : TE} {H1 : Hp} {σ0 : St} {R : Hp → Prop} {p : Addr} (hp : H1 p = none) (hz : x.cps.size < sizeLine) (F : Nat → V) (Ps : St → Prop) (h0 : Ps σ0)
    (step : ∀ i c t σ' H', x.cps[i]? = some c → H' t = none → Ps σ' → Same H1 H' → ∀ K : V → St → Hp → Prop, (∀ σ2 H4, Ps σ2 → Same H' H4 → K (F i) σ2 H4) → g (.ref t) σ' (upd H' t (.tup [.int i, .str ⟨#[c]⟩])) fun σ2 H3 => te σ2 H3 fun v H4 => K v σ2 H4)
    (fin : ∀ H', Same H1 H' → H' p = some (.lst ((List.range x.cps.size).map F)) → R H') :
    ∃ W : Nat → Nat → St → Hp → Prop, (∃ m, W 0 m σ0 (upd H1 p (.lst []))) ∧
      ∀ i m σ' H', W i m σ' H' → ((ItS x).stop i H' ∧ R H') ∨ ((ItS x).go i H' ∧ ∀ v H2, (ItS x).yld i H' v H2 → g v σ' H2 fun σ2 H3 => te σ2 H3 fun v H4 => ∃ ys, H4 p = some (.lst ys) ∧ ys.length < sizeLine ∧ ∃ m', m' < m ∧ W (i + 1) m' σ2 (upd H4 p (.lst (ys ++ [v])))) := by
  refine comp_gen (J := ItS x) hp x.cps.size hz F Ps h0 (fun _ _ => rfl) (fun i _ hi _ => hi) (fun i σ' H' v H2 hi ps sm y K k => ?_) fin
  obtain ⟨t, c, ht, hc, rfl, rfl⟩ := y
  exact step i c t σ' H' hc ht ps sm K k
theorem comp_list {KK : PySem.W.Frag} {a : Addr} {xs : List V} {g : TG} {te : TE} {H1 : Hp} {σ0 : St} {R : Hp → Prop} {p : Addr} (hp : H1 p = none) (ha : H1 a = some (.lst xs)) (hz : xs.length < sizeLine) (F : V → V) (Ps : St → Prop) (h0 : Ps σ0)
    (step : ∀ (i : Nat) x σ' H', xs[i]? = some x → Ps σ' → Same H1 H' → ∀ K : V → St → Hp → Prop, (∀ σ2 H4, Ps σ2 → Same H' H4 → K (F x) σ2 H4) → g x σ' H' fun σ2 H3 => te σ2 H3 fun v H4 => K v σ2 H4)
    (fin : ∀ H', Same H1 H' → H' p = some (.lst (xs.map F)) → R H') :
    ∃ W : Nat → Nat → St → Hp → Prop, (∃ m, W 0 m σ0 (upd H1 p (.lst []))) ∧
      ∀ i m σ' H', W i m σ' H' → ((Itl KK a).stop i H' ∧ R H') ∨ ((Itl KK a).go i H' ∧ ∀ v H2, (Itl KK a).yld i H' v H2 → g v σ' H2 fun σ2 H3 => te σ2 H3 fun v H4 => ∃ ys, H4 p = some (.lst ys) ∧ ys.length < sizeLine ∧ ∃ m', m' < m ∧ W (i + 1) m' σ2 (upd H4 p (.lst (ys ++ [v])))) := by
  refine comp_gen (J := Itl KK a) hp xs.length hz (fun i => F (xs.getD i .non)) Ps h0 (fun H' sm => ⟨xs, SqL.of (sm _ _ ha), Nat.le_refl _⟩) (fun i H' hi sm => ⟨xs, xs[i], SqL.of (sm _ _ ha), by simp [hi]⟩) (fun i σ' H' v H2 hi ps sm y K k => ?_) (fun H' sm hq => fin H' sm ?_)
  · obtain ⟨e, y⟩ := y
    subst e
    have hv := y xs (SqL.of (sm _ _ ha))
    refine step i v σ' _ hv ps sm K fun σ2 H4 p2 s2 => ?_
    have := k σ2 H4 p2 s2
    rw [show xs.getD i V.non = v by simp [List.getD, hv]] at this
    exact this
  · rw [hq]
    congr 2
    refine List.ext_getElem (by simp) fun i h1 h2 => ?_
    simp at h1 h2
    simp [List.getD, h2]
theorem comp_range {lo : Int} {n : Nat} {g : TG} {te : TE} {H1 : Hp} {σ0 : St} {R : Hp → Prop} {p : Addr} (hp : H1 p = none) (hz : n < sizeLine) (F : Nat → V) (Ps : St → Prop) (h0 : Ps σ0)
    (step : ∀ i σ' H', i < n → Ps σ' → Same H1 H' → ∀ K : V → St → Hp → Prop, (∀ σ2 H4, Ps σ2 → Same H' H4 → K (F i) σ2 H4) → g (.int (lo + i)) σ' H' fun σ2 H3 => te σ2 H3 fun v H4 => K v σ2 H4)
    (fin : ∀ H', Same H1 H' → H' p = some (.lst ((List.range n).map F)) → R H') :
    ∃ W : Nat → Nat → St → Hp → Prop, (∃ m, W 0 m σ0 (upd H1 p (.lst []))) ∧
      ∀ i m σ' H', W i m σ' H' → ((Itr lo n).stop i H' ∧ R H') ∨ ((Itr lo n).go i H' ∧ ∀ v H2, (Itr lo n).yld i H' v H2 → g v σ' H2 fun σ2 H3 => te σ2 H3 fun v H4 => ∃ ys, H4 p = some (.lst ys) ∧ ys.length < sizeLine ∧ ∃ m', m' < m ∧ W (i + 1) m' σ2 (upd H4 p (.lst (ys ++ [v])))) := by
  refine comp_gen (J := Itr lo n) hp n hz F Ps h0 (fun _ _ => Nat.le_refl _) (fun i _ hi _ => hi) (fun i σ' H' v H2 hi ps sm y K k => ?_) fin
  obtain ⟨e, y⟩ := y
  subst e y
  exact step i σ' _ hi ps sm K k
theorem comp_tup {KK : PySem.W.Frag} {a : Addr} {xs : List V} {g : TG} {te : TE} {H1 : Hp} {σ0 : St} {R : Hp → Prop} {p : Addr} (hp : H1 p = none) (ha : SqT KK H1 a xs) (hz : xs.length < sizeLine) (F : V → V) (Ps : St → Prop) (h0 : Ps σ0)
    (step : ∀ (i : Nat) x σ' H', xs[i]? = some x → Ps σ' → Same H1 H' → ∀ K : V → St → Hp → Prop, (∀ σ2 H4, Ps σ2 → Same H' H4 → K (F x) σ2 H4) → g x σ' H' fun σ2 H3 => te σ2 H3 fun v H4 => K v σ2 H4)
    (fin : ∀ H', Same H1 H' → H' p = some (.lst (xs.map F)) → R H') :
    ∃ W : Nat → Nat → St → Hp → Prop, (∃ m, W 0 m σ0 (upd H1 p (.lst []))) ∧
      ∀ i m σ' H', W i m σ' H' → ((Itt KK a).stop i H' ∧ R H') ∨ ((Itt KK a).go i H' ∧ ∀ v H2, (Itt KK a).yld i H' v H2 → g v σ' H2 fun σ2 H3 => te σ2 H3 fun v H4 => ∃ ys, H4 p = some (.lst ys) ∧ ys.length < sizeLine ∧ ∃ m', m' < m ∧ W (i + 1) m' σ2 (upd H4 p (.lst (ys ++ [v])))) := by
  have tp : ∀ H', Same H1 H' → SqT KK H' a xs := fun H' e => by
    rcases ha with (h | ⟨o, h⟩) | h
    · exact .inl (.inl (e _ _ h))
    · exact .inl (.inr ⟨o, e _ _ h⟩)
    · exact .inr h
  refine comp_gen (J := Itt KK a) hp xs.length hz (fun i => F (xs.getD i .non)) Ps h0 (fun H' sm => ⟨xs, tp H' sm, Nat.le_refl _⟩) (fun i H' hi sm => ⟨xs, xs[i], tp H' sm, by simp [hi]⟩) (fun i σ' H' v H2 hi ps sm y K k => ?_) (fun H' sm hq => fin H' sm ?_)
  · obtain ⟨e, y⟩ := y
    subst e
    have hv := y xs (tp _ sm)
    refine step i v σ' _ hv ps sm K fun σ2 H4 p2 s2 => ?_
    have := k σ2 H4 p2 s2
    rw [show xs.getD i V.non = v by simp [List.getD, hv]] at this
    exact this
  · rw [hq]
    congr 2
    refine List.ext_getElem (by simp) fun i h1 h2 => ?_
    simp at h1 h2
    simp [List.getD, h2]
end L2

end
section
namespace L2
open PySem PySem.Spec PyProof.Rows
/-! ### rules inside a comprehension: the fragment named -/
section
variable {X : Cx} {K : PySem.W.Frag} {pos : Pos}
theorem pg_tupK {es : List Expr} {k : Nat} {t : TGs} {n : Nat} (hK : X.K = K) (hc : X.calm = true) (h : PGs X es t) (hn : (assignEach es X.env).length = n := by rfl) (hst : (assignEach es X.env).findIdx? (·.1) = none := by rfl) : PG X (.Tuple es k pos) (gTup K n t) := hK ▸ pg_tup hc h hn hst
theorem ix_listK (hK : X.K = K) : IxR X (rIxL K) := hK ▸ ix_list
theorem ix_tupK (hK : X.K = K) : IxR X (rIxT K) := hK ▸ ix_tup
theorem op_in_seqK (hK : X.K = K) : OpR X (compareOp .In) (rIn K false) := hK ▸ op_in_seq
theorem op_notIn_seqK (hK : X.K = K) : OpR X (compareOp .NotIn) (rIn K true) := hK ▸ op_notIn_seq
theorem call_len_seqK (hK : X.K = K) : CallR X (.builtin "len") (fun xs H Q => ∃ p ys, xs = [.ref p] ∧ (SqL K H p ys ∨ SqT K H p ys) ∧ Q (.int ys.length) H) := hK ▸ call_len_seq
theorem call_isiK (hK : X.K = K) : CallR X (.builtin "isinstance") (fun xs H Q => ∃ x n t b, xs = [x, .ty n] ∧ TyOf K H x t ∧ PySem.W.kitOne K t (.type n) = some b ∧ Q (.bl b) H) := hK ▸ call_isi
end
end L2

end
section
namespace L2
open PySem PySem.Spec PyProof.Rows
/-! ### many written items at once -/
section
variable {X : Cx}
def tVs (vs : List V) : TA := fun _ H Q => Q vs H
def conV : Expr → Option V
  | .Constant (.int i) _ _ => some (.int i)
  | .Constant (.str x) _ _ => some (.str x)
  | .Constant (.bool b) _ _ => some (.bl b)
  | .Constant .none _ _ => some .non
  | _ => none
theorem pa_vs : ∀ (vs : List V) {es : List Expr}, es.map conV = vs.map some → PA X es (tVs vs)
  | [], [], _ => fun pos pins s σ H Q I h => pa_nil pos pins s σ H Q I h
  | [], e :: es, h => by simp at h
  | v :: vs, [], h => by simp at h
  | v :: vs, e :: es, h => by
    simp only [List.map_cons, List.cons.injEq] at h
    obtain ⟨h1, h2⟩ := h
    have ih := pa_vs vs h2
    intro pos pins s σ H Q I hq
    have step : ∀ {te : TE}, PE X e te → (∀ σ H Q, te σ H Q ↔ Q v H) → starEach (e :: es) X.env = (false, eval e X.env) :: starEach es X.env → wpAny (model X.prog X.w) X.A (spliced (backTo pos (starEach (e :: es) X.env))) (AP X pins σ Q) X.xe s := by
      intro te he ht hs
      exact pa_cons he ih hs pos pins s σ H Q I ((ht σ H _).mpr hq)
    cases e <;> simp only [conV, reduceCtorEq] at h1
    rename_i c k p
    cases c <;> simp only [conV, Option.some.injEq, reduceCtorEq] at h1
    all_goals subst h1
    · exact step pe_non (fun _ _ _ => Iff.rfl) rfl
    · exact step pe_bl (fun _ _ _ => Iff.rfl) rfl
    · exact step pe_int (fun _ _ _ => Iff.rfl) rfl
    · exact step pe_str (fun _ _ _ => Iff.rfl) rfl
end
end L2

end
section
namespace L2
open PySem PySem.Spec PyProof.Rows
section
variable {X : Cx} {K : PySem.W.Frag} {pos : Pos}
theorem pe_bmK {T id : String} {name : Str} {r : V → List V → Hp → VK → Prop} {o e : Expr} {es : List Expr} {to : TE} {t : TA} {apos cpos : Pos} (hK : X.K = K) (pa : PlainAttrs T) (slot : Slot T name id) (hty : typeOf (.builtin id) = pure (.type "method_descriptor")) (hm : MtR X id r) (ho : PE X o to) (ha : PA X (e :: es) t)
    (hbase : attributeBase o name X.env (eval o X.env) = eval o X.env := by rfl)
    (hfew : ((backTo cpos (starEach (e :: es) X.env)).all (fun x => !x.1) && (backToKw cpos (keywordEach [] X.env)).all (fun x => x.1.isSome) && decide ((e :: es).length + ([] : List Keyword).length + (if ([] : List Keyword).isEmpty then 0 else 1) < 30)) = true := by rfl)
    (hline : (apos.endLine == cpos.line) = true := by rfl) (hs : starEach (e :: es) X.env = (false, eval e X.env) :: starEach es X.env := by rfl) (hplain : (backTo cpos (starEach es X.env)).any (·.1) = false := by rfl) :
    PE X (.Call (.Attribute o name apos) (e :: es) [] cpos) (tBM K T r to t) := hK ▸ pe_bm pa slot hty hm ho ha hbase hfew hline hs hplain
end
end L2

end
section
namespace L2
open PySem PySem.Spec PyProof.Rows PySem.Builtin PySem.Builtin.Str
section
variable {prog : Program} {w : World} {A : Around} {E : Value → Shared → Prop} {s : Shared} {x y : Str} {t u : Tok} {Q : Value → Shared → Prop}
theorem split_push (hy : (y.length == 0) = false) (hsz : x.length + 2 ≤ sizeLine)
    (hq : ∀ (l : List (Str × Tok)) k, l.map (·.1) = Txt.split x y → Q (.ref s.heap.objs.size) { s with heap := s.heap.push { cls := .type "list", data := .seq (strValues l).toArray }, toks := k }) :
    wpAny (model prog w) A (call (.builtin "str.split") [.str x t, .str y u]) Q E s := by
  have hsz1 : x.length ≤ sizeLine := by omega
  have hsz2 : (partsBetween x (occurrences x y 0 x.length (x.length + 1)) y.length).length ≤ sizeLine := by
    rw [PyProof.Rows.len_partsBetween]
    have := StrLaws.occ_length_le x y 0 x.length (x.length + 1)
    omega
  cases h1 : (decide (x.length < y.length) || decide (strKind x < strKind y))
  · cases hf : (occurrences x y 0 x.length (x.length + 1)).isEmpty
    · refine call_meets F.slot_str_split (typeIs_str _ _ _) F.entry_str_split (F.args_str_split_2 _ _) (meets_str_split_sep x y t u h1 hy hf hsz1 hsz2) ?_
      show wants Q E _ { s with toks := _, heap := s.heap.push { cls := .type "list", data := .seq (strsFrom s.toks (partsBetween x (occurrences x y 0 x.length (x.length + 1)) y.length)).toArray } }
      rw [strsFrom_eq]
      exact hq (numbered s.toks _) _ ((numbered_texts _ _).trans ((if_neg (ne_true_of_eq_false h1)).trans (if_neg (ne_true_of_eq_false hf))).symm)
    · exact call_meets F.slot_str_split (typeIs_str _ _ _) F.entry_str_split (F.args_str_split_2 _ _) (meets_str_split_not_found x y t u h1 hy hf)
        (hq [(x, t)] s.toks ((if_neg (ne_true_of_eq_false h1)).trans (if_pos hf)).symm)
  · exact call_meets F.slot_str_split (typeIs_str _ _ _) F.entry_str_split (F.args_str_split_2 _ _) (meets_str_split_cannot_occur x y t u h1)
      (hq [(x, t)] s.toks (if_pos h1).symm)
theorem vals_strs : ∀ (l : List (Str × Tok)), Vals ((l.map (·.1)).map V.str) (strValues l)
  | [] => .nil
  | (x, t) :: l => .cons ⟨t, rfl⟩ (vals_strs l)
end
def rSplit : V → List V → Hp → VK → Prop := fun x xs H Q => ∃ (z y : Str), x = .str z ∧ xs = [.str y] ∧ (y.length == 0) = false ∧ z.length + 2 ≤ sizeLine ∧ ∀ p, H p = none → Q (.ref p) (upd H p (.lst ((Txt.split z y).map V.str)))
section
variable {X : Cx}
/-! ### texts: split, strip, int, walked -/
theorem mt_split : MtR X "str.split" rSplit := by
  intro pins s σ H x xs v us Q I rx rs h
  obtain ⟨z, y, rfl, rfl, hy, hz, q⟩ := h
  obtain ⟨t, rfl⟩ := rx
  obtain ⟨u, rfl, t', rfl⟩ := vals1 rs
  refine split_push hy hz fun l k e => ?_
  have hv : Vals ((Txt.split z y).map V.str) (strValues l) := by rw [← e]; exact vals_strs l
  have hl : ((Txt.split z y).map V.str).length ≤ sizeLine := by rw [List.length_map]; exact Nat.le_trans (PyProof.Rows.split_le z y) hz
  exact ⟨.ref s.heap.objs.size, _, I.lnew (its := strValues l) (t' := k) hv hl, rfl, q _ (I.hok.fresh (Nat.le_refl _))⟩
theorem mt_strip : MtR X "str.strip" (fun x xs H Q => ∃ (z y : Str), x = .str z ∧ xs = [.str y] ∧ z.length ≤ sizeLine ∧ Q (.str (Txt.stripChars z y)) H) := by
  intro pins s σ H x xs v us Q I rx rs h
  obtain ⟨z, y, rfl, rfl, hz, q⟩ := h
  obtain ⟨t, rfl⟩ := rx
  obtain ⟨u, rfl, t', rfl⟩ := vals1 rs
  exact call_meets F.slot_str_strip (typeIs_str _ _ _) F.entry_str_strip (F.args_str_strip_2 _ _) (gives_str_strip_chars z y t t').meets (post_val_or_made (fun _ => fits_stripped _ _ _ hz) fun t1 k => ⟨.str (Txt.stripChars z y), H, I.tok _, ⟨t1, rfl⟩, q⟩)
theorem call_intS : CallR X (.type "int") (fun xs H Q => ∃ (z : Str) (n : Int), xs = [.str z] ∧ intText? z = some n ∧ z.length ≤ 640 ∧ Q (.int n) H) := by
  intro pins s σ H xs us Q I r h
  obtain ⟨z, n, rfl, hn, hz, q⟩ := h
  obtain ⟨u, rfl, t, rfl⟩ := vals1 r
  exact PySem.W.KIN.call_text hn hz ⟨.int n, H, I.tok _, ⟨_, rfl⟩, q⟩
end
/-- at turn i the i-th sign -/
def ItC (x : Str) : It := ⟨fun i _ => i < x.cps.size, fun i H v H' => ∃ c, x.cps[i]? = some c ∧ v = .str ⟨#[c]⟩ ∧ H' = H, fun i _ => i = x.cps.size⟩
theorem walkC {prog : Program} {w : World} {A : Around} (hh : A.handled = none) (it : Addr) (x : Str) (t : Tok) : Walks prog w A it [it] [it] x.cps.size (SignAt x) (fun i h => h.IsStrIter it (strIterType x) x t i) := by
  cases ha : x.cps.all (· < 128)
  · have e : strIterType x = "str_iterator" := by simp [strIterType, ha]
    rw [e]; exact Walks.strWide hh it x t
  · have e : strIterType x = "str_ascii_iterator" := by simp [strIterType, ha]
    rw [e]; exact Walks.strAscii hh it x t
theorem iterT (x : Str) : strIterType x = "str_iterator" ∨ strIterType x = "str_ascii_iterator" := by
  unfold strIterType; split
  · exact .inr rfl
  · exact .inl rfl
theorem turn_str {P : Program} {w : World} {K : PySem.W.Frag} {tg : Expr} (x : Str) (t : Tok) (it : Addr) : Turn P w K tg (ItC x) [it] it (fun i h => h.IsStrIter it (strIterType x) x t i) where
  mem := by simp
  obj := fun i h st b hb => by
    have e : b = it := by simpa using hb
    subst e
    obtain ⟨o, e, c, d⟩ := st
    exact ⟨o, e, fun v z => by rw [d] at z; cases z⟩
  keep := fun i h h' st k => by obtain ⟨o, ho, r⟩ := st; exact ⟨o, k it (by simp) o ho, r⟩
  item := by
    intro X hP hw hK hc i pins s σ H E I hf st hg
    subst hP hw hK
    obtain ⟨f0, f1, f2, f3, f4, f5⟩ := hf it (by simp)
    refine (walkC (I.ok.hd hc) it x t).item i s _ E hg st fun v h' tk hv st' hk => ?_
    obtain ⟨c, u, hc', rfl⟩ := hv
    have I1 : Inv X pins σ H { s with heap := h', toks := tk } := I.turned (t' := tk) (fun b o hb e => hk b o (by simpa using hb) e) f0 f1 f3 f4 f5
    obtain ⟨o, e, cc, d⟩ := id st'
    have hn : ["enumerate", "zip", "dict_itemiterator", "dict_reverseitemiterator", "odict_iterator", "itertools.zip_longest", "itertools.pairwise"].contains (strIterType x) = false := by
      rcases iterT x with z | z <;> rw [z] <;> decide
    exact ⟨_, rfl, go_of (s := { s with heap := h', toks := tk }) e cc d hn ⟨.str ⟨#[c]⟩, H, I1, ⟨_, rfl⟩, ⟨c, hc', rfl, rfl⟩, st', fun b hb => (hf b hb).1⟩⟩
  done := by
    intro X hP hw hK hc i pins s σ H E I hf st hg
    subst hP hw hK
    obtain ⟨f0, f1, f2, f3, f4, f5⟩ := hf it (by simp)
    have e : i = x.cps.size := hg
    subst e
    exact (walkC (I.ok.hd hc) it x t).done s _ E st fun h' tk hk => ⟨rfl, I.turned (t' := tk) (fun b o hb e => hk b o (by simpa using hb) e) f0 f1 f3 f4 f5⟩
  self := fun A i s Q E st h => by
    rcases iterT x with z | z
    · have st' : s.heap.IsStrIter it "str_iterator" x t i := by rw [← z]; exact st
      exact wpAny_pyIter_striter_wide st' h
    · have st' : s.heap.IsStrIter it "str_ascii_iterator" x t i := by rw [← z]; exact st
      exact wpAny_pyIter_striter_ascii st' h
section
variable {X : Cx} {tg : Expr}
def iStr (tl : TE) : TI := fun σ H R => tl σ H fun v H1 => ∃ x, v = .str x ∧ R (ItC x) H1
theorem pi_str {l : Expr} {tl : TE} (hl : PE X l tl) : PI X tg l (iStr tl) := by
  intro pins s σ H R I h
  refine thn (hl pins s σ H _ I h) fun v s1 ⟨x, H1, I1, r1, q1⟩ => ?_
  obtain ⟨x, rfl, q⟩ := q1
  obtain ⟨t, rfl⟩ := r1
  refine wpAny_pyIter_strU ⟨s1.heap.objs.size, [s1.heap.objs.size], _, _, H1, rfl, I1.kept (t' := s1.toks) fun b o e => Heap.get?_push_of_some _ e, turn_str x t _, ⟨_, Heap.get?_push_size _ rfl, rfl, rfl⟩, fun b hb => ?_, q⟩
  have e : b = s1.heap.objs.size := by simpa using hb
  subst e
  exact I1.fpOk (Nat.le_refl _) (I1.hok.fresh (Nat.le_refl _))
end
theorem comp_str {x : Str} {g : TG} {te : TE} {H1 : Hp} {σ0 : St} {R : Hp → Prop} {p : Addr} (hp : H1 p = none) (hz : x.cps.size < sizeLine) (F : Nat → V) (Ps : St → Prop) (h0 : Ps σ0)
    (step : ∀ c σ' H', c ∈ x.cps.toList → Ps σ' → Same H1 H' → ∀ K : V → St → Hp → Prop, (∀ σ2 H4, Ps σ2 → Same H' H4 → K (F c) σ2 H4) → g (.str ⟨#[c]⟩) σ' H' fun σ2 H3 => te σ2 H3 fun v H4 => K v σ2 H4)
    (fin : ∀ H', Same H1 H' → H' p = some (.lst (x.cps.toList.map F)) → R H') :
    ∃ W : Nat → Nat → St → Hp → Prop, (∃ m, W 0 m σ0 (upd H1 p (.lst []))) ∧
      ∀ i m σ' H', W i m σ' H' → ((ItC x).stop i H' ∧ R H') ∨ ((ItC x).go i H' ∧ ∀ v H2, (ItC x).yld i H' v H2 → g v σ' H2 fun σ2 H3 => te σ2 H3 fun v H4 => ∃ ys, H4 p = some (.lst ys) ∧ ys.length < sizeLine ∧ ∃ m', m' < m ∧ W (i + 1) m' σ2 (upd H4 p (.lst (ys ++ [v])))) := by
  refine comp_gen (J := ItC x) hp x.cps.size hz (fun i => F (x.cps.getD i 0)) Ps h0 (fun _ _ => rfl) (fun i _ hi _ => hi) (fun i σ' H' v H2 hi ps sm y K k => ?_) (fun H' sm hq => fin H' sm ?_)
  · obtain ⟨c, hc, rfl, rfl⟩ := y
    have e : x.cps.getD i 0 = c := by simp [Array.getD, hi, (Array.getElem?_eq_some_iff.mp hc).2]
    refine step c σ' _ (by rw [Array.mem_toList_iff]; exact Array.mem_of_getElem? hc) ps sm K fun σ2 H4 p2 s2 => ?_
    have := k σ2 H4 p2 s2
    rw [e] at this
    exact this
  · rw [hq]
    congr 2
    refine List.ext_getElem (by simp) fun i h1 h2 => ?_
    simp at h1 h2
    simp [Array.getD, h2]
end L2

end
section
namespace L2
open PySem PySem.Spec PyProof.Rows
section
variable {X : Cx} {pins : List (Addr × Obj)} {σ : St} {H : Hp} {s : Shared}
/-- two lists that are not one, item by item -/
theorem Inv.eqAt (I : Inv X pins σ H s) {A' : Around} (hu : A'.units < cLine) {l m : Addr} {xs ys : List V} (hne : l ≠ m) (hl : SqL X.K H l xs) (hm : SqL X.K H m ys) (fx : xs.all flatV = true) (fy : ys.all flatV = true) : SeqAt.EqAt A' s (.ref l) (.ref m) (eqVs xs ys) := by
  obtain ⟨us, r1, p1, z1⟩ := I.list hl
  obtain ⟨vs, r2, p2, z2⟩ := I.list hm
  refine SeqAt.EqAt.of_refs hne ?_
  by_cases hlen : xs.length = ys.length
  · have := SeqAt.RcAt.lists (A := A') (s := s) p1.isList p2.isList (by simp [← r1.length, ← r2.length, hlen]) hu (items_eqAt r1 r2 fx fy)
    rw [← eqVs_range xs ys hlen]; simpa [← r1.length] using this
  · have := SeqAt.RcAt.lists_lengths (A := A') (s := s) p1.isList p2.isList (by simpa [← r1.length, ← r2.length] using hlen) hu
    rw [eqVs_len xs ys hlen]; exact this
/-- two pairs of lists, what they hold -/
def Two (K : PySem.W.Frag) (H : Hp) (a1 a2 b1 b2 : Addr) (w1 w2 z1 z2 : List V) : Prop := a1 ≠ b1 ∧ a2 ≠ b2 ∧ SqL K H a1 w1 ∧ SqL K H a2 w2 ∧ SqL K H b1 z1 ∧ SqL K H b2 z2 ∧ w1.all flatV = true ∧ w2.all flatV = true ∧ z1.all flatV = true ∧ z2.all flatV = true
theorem Inv.two (I : Inv X pins σ H s) (hu : X.A.units + 1 < cLine) {a1 a2 b1 b2 : Addr} {w1 w2 z1 z2 : List V} (T : Two X.K H a1 a2 b1 b2 w1 w2 z1 z2) : ∀ j (h1 : j < (#[Value.ref a1, .ref a2] : Array Value).size) (h2 : j < (#[Value.ref b1, .ref b2] : Array Value).size),
    SeqAt.EqAt X.A.in1 s (#[Value.ref a1, .ref a2] : Array Value)[j] (#[Value.ref b1, .ref b2] : Array Value)[j] (if j = 0 then eqVs w1 z1 else eqVs w2 z2) := by
  obtain ⟨n1, n2, h1, h2, h3, h4, f1, f2, f3, f4⟩ := T
  have hu' : X.A.in1.units < cLine := hu
  intro j hj1 hj2
  have hj : j < 2 := hj1
  match j, hj with
  | 0, _ => exact I.eqAt hu' n1 h1 h3 f1 f3
  | 1, _ => exact I.eqAt hu' n2 h2 h4 f2 f4
end
section
variable {X : Cx}
theorem op_neLL (hu : X.A.units + 1 < cLine) : OpR X (compareOp .NotEq) (fun x y H Q => ∃ a b a1 a2 b1 b2 w1 w2 z1 z2, x = .ref a ∧ y = .ref b ∧ SqL X.K H a [.ref a1, .ref a2] ∧ SqL X.K H b [.ref b1, .ref b2] ∧ Two X.K H a1 a2 b1 b2 w1 w2 z1 z2 ∧ Q (.bl (!(eqVs w1 z1 && eqVs w2 z2))) H) := by
  intro pins s σ H x y v u Q I rx ry h
  obtain ⟨a, b, a1, a2, b1, b2, w1, w2, z1, z2, rfl, rfl, hx, hy, T, q⟩ := h
  cases rx
  cases ry
  obtain ⟨us, r1, p1, _⟩ := I.list hx
  obtain ⟨vs, r2, p2, _⟩ := I.list hy
  obtain ⟨u1, u2, rfl, q1, q2⟩ := r1.two
  obtain ⟨v1, v2, rfl, q3, q4⟩ := r2.two
  cases q1; cases q2; cases q3; cases q4
  refine ne_at (e := fun j => if j = 0 then eqVs w1 z1 else eqVs w2 z2) p1.isList p2.isList rfl (by omega) (I.two hu T) ⟨.bl (!(eqVs w1 z1 && eqVs w2 z2)), H, I, ?_, q⟩
  show Value.bool _ = Value.bool _
  simp [List.range_succ]
theorem op_eqTT (hu : X.A.units + 1 < cLine) : OpR X (compareOp .Eq) (fun x y H Q => ∃ a b a1 a2 b1 b2 w1 w2 z1 z2, x = .ref a ∧ y = .ref b ∧ SqT X.K H a [.ref a1, .ref a2] ∧ SqT X.K H b [.ref b1, .ref b2] ∧ Two X.K H a1 a2 b1 b2 w1 w2 z1 z2 ∧ Q (.bl (eqVs w1 z1 && eqVs w2 z2)) H) := by
  intro pins s σ H x y v u Q I rx ry h
  obtain ⟨a, b, a1, a2, b1, b2, w1, w2, z1, z2, rfl, rfl, hx, hy, T, q⟩ := h
  cases rx
  cases ry
  obtain ⟨us, r1, p1, _⟩ := I.tuple hx
  obtain ⟨vs, r2, p2, _⟩ := I.tuple hy
  obtain ⟨u1, u2, rfl, q1, q2⟩ := r1.two
  obtain ⟨v1, v2, rfl, q3, q4⟩ := r2.two
  cases q1; cases q2; cases q3; cases q4
  refine SeqAt.eq_tupleAt (e := fun j => if j = 0 then eqVs w1 z1 else eqVs w2 z2) p1 p2 (by omega) (I.two hu T) ⟨.bl (eqVs w1 z1 && eqVs w2 z2), H, I, ?_, q⟩
  show Value.bool _ = Value.bool _
  simp [List.range_succ]
theorem op_neTT (hu : X.A.units + 1 < cLine) : OpR X (compareOp .NotEq) (fun x y H Q => ∃ a b a1 a2 b1 b2 w1 w2 z1 z2, x = .ref a ∧ y = .ref b ∧ SqT X.K H a [.ref a1, .ref a2] ∧ SqT X.K H b [.ref b1, .ref b2] ∧ Two X.K H a1 a2 b1 b2 w1 w2 z1 z2 ∧ Q (.bl (!(eqVs w1 z1 && eqVs w2 z2))) H) := by
  intro pins s σ H x y v u Q I rx ry h
  obtain ⟨a, b, a1, a2, b1, b2, w1, w2, z1, z2, rfl, rfl, hx, hy, T, q⟩ := h
  cases rx
  cases ry
  obtain ⟨us, r1, p1, _⟩ := I.tuple hx
  obtain ⟨vs, r2, p2, _⟩ := I.tuple hy
  obtain ⟨u1, u2, rfl, q1, q2⟩ := r1.two
  obtain ⟨v1, v2, rfl, q3, q4⟩ := r2.two
  cases q1; cases q2; cases q3; cases q4
  refine SeqAt.RcNeAt.tuples (e := fun j => if j = 0 then eqVs w1 z1 else eqVs w2 z2) p1 p2 (by omega) (I.two hu T) X.prog X.w _ _ ⟨.bl (!(eqVs w1 z1 && eqVs w2 z2)), H, I, ?_, q⟩
  show Value.bool _ = Value.bool _
  simp [List.range_succ]
end
end L2

end
section
namespace Tx
open PySem PySem.NumText
/-! ### counts as they are written -/
def isFig (c : Nat) : Bool := decide (48 ≤ c) && decide (c ≤ 57)
def okL (ds : List Nat) : Bool := decide (1 ≤ ds.length) && decide (ds.length ≤ 9) && ds.all isFig && (!(decide (ds.head? = some 48)) || decide (ds = [48]))
def okW (w : Str) : Bool := okL w.cps.toList
def valW (w : Str) : Int := (digitsVal w.cps.toList : Nat)
theorem dig_char : ∀ d : Nat, d < 10 → (Nat.digitChar d).toNat = d + 48 := by decide
theorem fold_ge : ∀ (cs : List Nat) (a : Nat), a ≤ cs.foldl (fun acc c => acc * 10 + (c - 48)) a
  | [], a => Nat.le_refl a
  | c :: cs, a => Nat.le_trans (by omega) (fold_ge cs (a * 10 + (c - 48)))
theorem val_pos {ds : List Nat} (h : ds ≠ []) (hd : AllDigits ds) (h0 : ds.head? ≠ some 48) : 1 ≤ digitsVal ds := by
  cases ds with
  | nil => exact absurd rfl h
  | cons c cs =>
    have hc := hd c List.mem_cons_self
    have : c ≠ 48 := fun z => h0 (by rw [z]; rfl)
    refine Nat.le_trans ?_ (fold_ge cs (0 * 10 + (c - 48)))
    omega
theorem val_snoc (cs : List Nat) (c : Nat) : digitsVal (cs ++ [c]) = digitsVal cs * 10 + (c - 48) := by
  unfold digitsVal; rw [List.foldl_append]; rfl
theorem canon : ∀ (n : Nat) (ds : List Nat), ds.length = n → ds ≠ [] → AllDigits ds → (ds.head? = some 48 → ds = [48]) → (Nat.toDigits 10 (digitsVal ds)).map Char.toNat = ds
  | 0, ds, hn, h, _, _ => absurd (List.length_eq_zero_iff.mp hn) h
  | n + 1, ds, hn, h, hd, h0 => by
    obtain ⟨init, c, rfl⟩ : ∃ init c, ds = init ++ [c] := ⟨ds.dropLast, ds.getLast h, (List.dropLast_concat_getLast h).symm⟩
    have hc := hd c (by simp)
    by_cases hi : init = []
    · subst hi
      have e : digitsVal ([] ++ [c]) = c - 48 := by rw [val_snoc]; show 0 * 10 + (c - 48) = _; omega
      rw [e, Nat.toDigits_of_lt_base (by omega)]
      show [(Nat.digitChar (c - 48)).toNat] = [c]
      rw [dig_char _ (by omega)]
      congr 1; omega
    · have hh : (init ++ [c]).head? = init.head? := by cases init with | nil => exact absurd rfl hi | cons => rfl
      have h48 : init.head? ≠ some 48 := fun z => by
        have := h0 (hh.trans z)
        have l := congrArg List.length this
        simp at l
        exact hi l
      have hdi : AllDigits init := fun d hd' => hd d (by simp [hd'])
      have ih := canon n init (by simp at hn; exact hn) hi hdi fun z => absurd z h48
      have p := val_pos hi hdi h48
      rw [val_snoc]
      have t : Nat.toDigits 10 (digitsVal init) ++ Nat.toDigits 10 (c - 48) = Nat.toDigits 10 (10 * digitsVal init + (c - 48)) := Nat.toDigits_append_toDigits (by decide) p (by omega)
      have e : digitsVal init * 10 + (c - 48) = 10 * digitsVal init + (c - 48) := by omega
      rw [e, ← t, List.map_append, ih, Nat.toDigits_of_lt_base (by omega)]
      show init ++ [(Nat.digitChar (c - 48)).toNat] = _
      rw [dig_char _ (by omega)]
      congr 2; omega
theorem val_lt : ∀ (n : Nat) (ds : List Nat), ds.length = n → AllDigits ds → digitsVal ds < 10 ^ n
  | 0, ds, hn, _ => by rw [List.length_eq_zero_iff.mp hn]; decide
  | n + 1, ds, hn, hd => by
    have h : ds ≠ [] := fun z => by rw [z] at hn; cases hn
    obtain ⟨init, c, rfl⟩ : ∃ init c, ds = init ++ [c] := ⟨ds.dropLast, ds.getLast h, (List.dropLast_concat_getLast h).symm⟩
    have hc := hd c (by simp)
    have ih := val_lt n init (by simp at hn; exact hn) fun d hd' => hd d (by simp [hd'])
    rw [val_snoc, Nat.pow_succ]
    omega
theorem okL_iff {ds : List Nat} (h : okL ds = true) : ds ≠ [] ∧ ds.length ≤ 9 ∧ AllDigits ds ∧ (ds.head? = some 48 → ds = [48]) := by
  unfold okL at h
  simp only [Bool.and_eq_true, decide_eq_true_eq, Bool.or_eq_true, Bool.not_eq_true', decide_eq_false_iff_not] at h
  obtain ⟨⟨⟨h1, h2⟩, h3⟩, h4⟩ := h
  refine ⟨fun z => by rw [z] at h1; simp at h1, h2, fun c hc => ?_, fun z => h4.resolve_left fun q => q z⟩
  have := List.all_eq_true.mp h3 c hc
  unfold isFig at this
  simpa using this
theorem valW_in {w : Str} (h : okW w = true) : 0 ≤ valW w ∧ valW w ≤ 999999999 := by
  obtain ⟨_, h2, h3, _⟩ := okL_iff h
  have l := val_lt _ _ rfl h3
  have p : 10 ^ w.cps.toList.length ≤ 10 ^ 9 := Nat.pow_le_pow_right (by decide) h2
  have : (10 : Nat) ^ 9 = 1000000000 := by decide
  unfold valW
  omega
/-! ### a text's two sides -/
def side (z : Str) : Option (List Int) := if (Txt.split z " ").all okW = true then some ((Txt.split z " ").map valW) else none
def Fit (l r : List Int) : Prop := l.Pairwise (· < ·) ∧ r.Pairwise (· < ·) ∧ l.length = r.length ∧ ∀ k ∈ l, k ∉ r
instance (l r : List Int) : Decidable (Fit l r) := by unfold Fit; infer_instance
def fits (l r : List Int) : Option (List Int × List Int) := if Fit l r then some (l, r) else none
def rd2 (a b : Str) : Option (List Int × List Int) := match side a, side b with
  | some l, some r => fits l r
  | _, _ => none
def rdP : List Str → Option (List Int × List Int)
  | [a, b] => rd2 a b
  | _ => none
def rd (z : Str) : Option (List Int × List Int) := if z = "-" then some ([], []) else rdP (Txt.split z " | ")
def strI (i : Int) : Str := Str.ofString (toString i)
def wr (l r : List Int) : Str := if l.length = 0 then "-" else Str.join " " (l.map strI) ++ " | " ++ Str.join " " (r.map strI)
theorem side_len {z : Str} {l : List Int} (h : side z = some l) : l.length = (Txt.split z " ").length ∧ 1 ≤ l.length ∧ ∀ k ∈ l, 0 ≤ k ∧ k ≤ 999999999 := by
  unfold side at h
  split at h
  · rename_i ok
    cases h
    refine ⟨by simp, by simp; exact PyProof.Rows.split_pos z " ", fun k hk => ?_⟩
    obtain ⟨w, hw, rfl⟩ := List.mem_map.mp hk
    exact valW_in (List.all_eq_true.mp ok w hw)
  · cases h
theorem strip_all (w F : Str) : decide (Txt.stripChars w F = ⟨#[]⟩) = w.cps.toList.all F.cps.contains := by
  have tw : ∀ l : List Nat, l.all F.cps.contains = true → l.takeWhile F.cps.contains = l := fun l h => by
    induction l with
    | nil => rfl
    | cons c cs ih =>
      simp only [List.all_cons, Bool.and_eq_true] at h
      rw [List.takeWhile_cons, if_pos h.1, ih h.2]
  have len : w.cps.toList.length = w.length := Array.length_toList
  by_cases ha : w.cps.toList.all F.cps.contains = true
  · rw [ha]
    refine decide_eq_true ?_
    unfold Txt.stripChars Txt.stripBy
    have lo : stripLo F.cps.contains true w = w.length := by unfold stripLo; rw [if_pos rfl, tw _ ha, len]
    have hi : stripHi F.cps.contains true w w.length = w.length := by
      unfold stripHi; rw [if_pos rfl, ← len, List.drop_length]; simp
    by_cases hz : w.length = 0
    · have e : w = ⟨#[]⟩ := by
        apply Str.ext'
        apply Array.toList_inj.mp
        exact List.length_eq_zero_iff.mp (len.trans hz)
      subst e
      split
      · rfl
      · unfold stripped
        apply Str.ext'
        apply Array.toList_inj.mp
        rw [StrLaws.strSub_toList]; simp
    · rw [if_neg (by unfold stripSame; rw [lo]; simp [hz])]
      unfold stripped
      rw [lo, hi]
      apply Str.ext'
      apply Array.toList_inj.mp
      rw [StrLaws.strSub_toList]; simp
  · rw [Bool.not_eq_true] at ha
    rw [ha]
    have tl : ∀ l : List Nat, l.all F.cps.contains = false → (l.takeWhile F.cps.contains).length < l.length := fun l => by
      induction l with
      | nil => intro h; cases h
      | cons c cs ih =>
        intro h
        rw [List.takeWhile_cons]
        split
        · rename_i hc
          rw [List.all_cons, hc, Bool.true_and] at h
          have := ih h
          simp; omega
        · simp
    have dw : ∀ l : List Nat, l.all F.cps.contains = false → (l.drop (l.takeWhile F.cps.contains).length).all F.cps.contains = false := fun l => by
      induction l with
      | nil => intro h; cases h
      | cons c cs ih =>
        intro h
        rw [List.takeWhile_cons]
        split
        · rename_i hc
          rw [List.all_cons, hc, Bool.true_and] at h
          exact ih h
        · exact h
    refine decide_eq_false fun e => ?_
    have h1 := tl _ ha
    have h2 := dw _ ha
    have h3 : (w.cps.toList.drop (w.cps.toList.takeWhile F.cps.contains).length).reverse.all F.cps.contains = false := by rw [List.all_reverse]; exact h2
    have h4 := tl _ h3
    rw [List.length_reverse, List.length_drop] at h4
    unfold Txt.stripChars Txt.stripBy at e
    split at e
    · rw [e] at ha; cases ha
    · unfold stripped at e
      have e' := congrArg (fun z : Str => z.cps.toList.length) e
      simp only [StrLaws.strSub_toList, List.length_take, List.length_drop] at e'
      have lo : stripLo F.cps.contains true w = (w.cps.toList.takeWhile F.cps.contains).length := by unfold stripLo; rw [if_pos rfl]
      have hi : stripHi F.cps.contains true w (stripLo F.cps.contains true w) = w.length - ((w.cps.toList.drop (w.cps.toList.takeWhile F.cps.contains).length).reverse.takeWhile F.cps.contains).length := by unfold stripHi; rw [if_pos rfl, lo]
      rw [hi, lo] at e'
      have z : ((⟨#[]⟩ : Str).cps.toList).length = 0 := rfl
      rw [z] at e'
      have l5 : w.cps.toList.length = w.length := len
      rw [l5] at e' h4 h1
      omega
/-- read, and written again -/
theorem strI_val (hs : ∀ m : Nat, (strI (m : Int)).cps.toList = (Nat.toDigits 10 m).map Char.toNat) {w : Str} (h : okW w = true) : strI (valW w) = w := by
  obtain ⟨h1, _, h3, h4⟩ := okL_iff h
  apply Str.ext'
  apply Array.toList_inj.mp
  unfold valW
  rw [hs]
  exact canon _ _ rfl h1 h3 h4
theorem side_wr (hs : ∀ m : Nat, (strI (m : Int)).cps.toList = (Nat.toDigits 10 m).map Char.toNat) {z : Str} {l : List Int} (h : side z = some l) : Str.join " " (l.map strI) = z := by
  unfold side at h
  split at h
  · rename_i ok
    cases h
    have e : ((Txt.split z " ").map valW).map strI = Txt.split z " " := by
      rw [List.map_map]
      conv => rhs; rw [← List.map_id (Txt.split z " ")]
      exact List.map_congr_left fun w hw => strI_val hs (List.all_eq_true.mp ok w hw)
    rw [e]
    exact StrLaws.join_split z " "
  · cases h
theorem rd_wr (hs : ∀ m : Nat, (strI (m : Int)).cps.toList = (Nat.toDigits 10 m).map Char.toNat) {z : Str} {l r : List Int} (h : rd z = some (l, r)) : wr l r = z := by
  unfold rd at h
  split at h
  · rename_i e
    cases h
    rw [e]; rfl
  · unfold rdP at h
    split at h
    · rename_i a b e
      unfold rd2 at h
      split at h
      · rename_i l' r' h1 h2
        unfold fits at h
        split at h
        · cases h
          have p := (side_len h1).2.1
          unfold wr
          rw [if_neg (by omega), side_wr hs h1, side_wr hs h2]
          have j := StrLaws.join_split z " | "
          rw [e] at j
          exact j
        · cases h
      · cases h
    · cases h
theorem rd_fit {z : Str} {l r : List Int} (h : rd z = some (l, r)) : Fit l r ∧ (∀ k ∈ l, 0 ≤ k ∧ k ≤ 999999999) ∧ ∀ k ∈ r, 0 ≤ k ∧ k ≤ 999999999 := by
  unfold rd at h
  split at h
  · cases h
    exact ⟨⟨.nil, .nil, rfl, fun k hk => by simp at hk⟩, fun k hk => by simp at hk, fun k hk => by simp at hk⟩
  · unfold rdP at h
    split at h
    · rename_i a b e
      unfold rd2 at h
      split at h
      · rename_i l' r' h1 h2
        unfold fits at h
        split at h
        · rename_i f
          cases h
          exact ⟨f, (side_len h1).2.2, (side_len h2).2.2⟩
        · cases h
      · cases h
    · cases h
/-! ### how many words -/
def blanks (z : Str) : Nat := z.cps.toList.count 32
theorem blanks_app (a b : Str) : blanks (a ++ b) = blanks a + blanks b := by
  unfold blanks
  have : (a ++ b).cps.toList = a.cps.toList ++ b.cps.toList := by
    show (a.cps ++ b.cps).toList = _
    simp
  rw [this, List.count_append]
theorem blanks_join (y : Str) : ∀ (l : List Str) (p : Str), p ∈ l → blanks p ≤ blanks (Str.join y l)
  | [], _, h => by simp at h
  | [a], p, h => by simp at h; rw [h]; exact Nat.le_refl _
  | a :: b :: r, p, h => by
    show _ ≤ blanks (a ++ y ++ Str.join y (b :: r))
    rw [blanks_app, blanks_app]
    rcases List.mem_cons.mp h with e | e
    · rw [e]; omega
    · have := blanks_join y (b :: r) p e
      omega
theorem blanks_part {z y p : Str} (h : p ∈ Txt.split z y) : blanks p ≤ blanks z := by
  have := blanks_join y _ p h
  rwa [StrLaws.join_split] at this
theorem words_le (z : Str) : (Txt.split z " ").length ≤ 1 + blanks z := by
  have e : (" " : Str) = ⟨#[32]⟩ := by decide +kernel
  rw [e]
  have h := PyProof.Rows.split_len z 32
  have c : ∀ l : List Nat, PyProof.Rows.cnt 32 l = (l.count 32 : Nat) := fun l => by
    induction l with
    | nil => rfl
    | cons a l ih =>
      rw [PyProof.Rows.cnt_cons, ih, List.count_cons]
      by_cases h : a = 32
      · simp [h]; omega
      · simp [h]
  rw [c] at h
  unfold blanks
  omega
theorem rd_few {z : Str} {l r : List Int} (h : rd z = some (l, r)) : l.length ≤ 1 + blanks z ∧ r.length ≤ 1 + blanks z := by
  unfold rd at h
  split at h
  · cases h; exact ⟨Nat.zero_le _, Nat.zero_le _⟩
  · unfold rdP at h
    split at h
    · rename_i a b e
      have ba : blanks a ≤ blanks z := blanks_part (y := " | ") (by rw [e]; simp)
      have bb : blanks b ≤ blanks z := blanks_part (y := " | ") (by rw [e]; simp)
      unfold rd2 at h
      split at h
      · rename_i l' r' h1 h2
        unfold fits at h
        split at h
        · cases h
          have e1 := (side_len h1).1
          have e2 := (side_len h2).1
          have w1 := words_le a
          have w2 := words_le b
          omega
        · cases h
      · cases h
    · cases h
end Tx

end
section
namespace Tx
open PySem PySem.NumText
theorem hs_num : ∀ m : Nat, (strI (m : Int)).cps.toList = (Nat.toDigits 10 m).map Char.toNat := fun m => PySem.W.KIN.signs_num m
theorem blanks_strI {k : Int} (h : 0 ≤ k) : blanks (strI k) = 0 := by
  obtain ⟨m, rfl⟩ := Int.eq_ofNat_of_zero_le h
  unfold blanks
  rw [hs_num]
  refine List.count_eq_zero_of_not_mem fun hc => ?_
  obtain ⟨ch, hch, e⟩ := List.mem_map.mp hc
  have r := Nat.isDigit_of_mem_toDigits (by decide) (by decide) hch
  have e' : ch = ' ' := by
    apply Char.ext
    apply UInt32.toNat_inj.mp
    exact e
  rw [e'] at r
  revert r
  decide
theorem blanks_ws : ∀ (ws : List Str), (∀ x ∈ ws, blanks x = 0) → blanks (Str.join " " ws) = ws.length - 1
  | [], _ => rfl
  | [a], h => h a (by simp)
  | a :: b :: r, h => by
    show blanks (a ++ " " ++ Str.join " " (b :: r)) = _
    have e : blanks " " = 1 := by decide +kernel
    rw [blanks_app, blanks_app, e, h a (by simp), blanks_ws (b :: r) fun x hx => h x (List.mem_cons_of_mem _ hx)]
    simp only [List.length_cons]
    omega
theorem blanks_wr {l r : List Int} (h1 : ∀ k ∈ l, 0 ≤ k) (h2 : ∀ k ∈ r, 0 ≤ k) (e : l.length = r.length) : blanks (wr l r) ≤ 2 * l.length := by
  unfold wr
  split
  · have : blanks "-" = 0 := by decide +kernel
    omega
  · have e2 : blanks " | " = 2 := by decide +kernel
    rw [blanks_app, blanks_app, e2, blanks_ws _ fun x hx => by obtain ⟨k, hk, rfl⟩ := List.mem_map.mp hx; exact blanks_strI (h1 k hk), blanks_ws _ fun x hx => by obtain ⟨k, hk, rfl⟩ := List.mem_map.mp hx; exact blanks_strI (h2 k hk)]
    simp only [List.length_map]
    omega
theorem cut_to {z : Str} {i : Int} (h0 : 0 ≤ i) (h1 : i ≤ z.length) : (Txt.slice z none (some i)).cps.toList = z.cps.toList.take i.toNat := by
  rw [beq_iff_eq.mp (PyProof.Rows.slice_closes_toL h0 h1)]
  show List.take (i - 0).toNat (List.drop 0 _) = _
  rw [List.drop_zero, Int.sub_zero]
theorem cut_from {z : Str} {i : Int} (h0 : 0 ≤ i) : (Txt.slice z (some i) none).cps.toList = z.cps.toList.drop i.toNat := by
  have len : z.cps.toList.length = z.length := Array.length_toList
  by_cases h : i ≤ z.length
  · rw [PyProof.Rows.slice_from_eq h0 h rfl]
    show List.take _ _ = _
    exact List.take_of_length_le (by rw [List.length_drop]; omega)
  · rw [PyProof.Rows.slice_beyond (by omega), List.drop_of_length_le (by omega)]; rfl
theorem blanks_cut {z : Str} {i d : Int} (h0 : 0 ≤ i) (h1 : i ≤ z.length) (hd : 0 ≤ d) : blanks (Txt.slice z none (some i)) + blanks (Txt.slice z (some (i + d)) none) ≤ blanks z := by
  unfold blanks
  rw [cut_to h0 h1, cut_from (by omega)]
  have e : z.cps.toList = z.cps.toList.take i.toNat ++ z.cps.toList.drop i.toNat := (List.take_append_drop _ _).symm
  have e2 : (i + d).toNat = i.toNat + d.toNat := by omega
  rw [e2, ← List.drop_drop]
  conv => rhs; rw [e, List.count_append]
  exact Nat.add_le_add_left ((List.drop_sublist _ _).count_le _) _
theorem len_app (x y : Str) : (x ++ y).length = x.length + y.length := by
  show (x.cps ++ y.cps).size = _
  rw [Array.size_append]; rfl
theorem mul_list (z : Str) : ∀ n : Nat, ((List.replicate n z.cps).foldl (· ++ ·) #[]).toList = (List.replicate n z.cps.toList).flatten := fun n => by
  have : ∀ (n : Nat) (acc : Array Nat), ((List.replicate n z.cps).foldl (· ++ ·) acc).toList = acc.toList ++ (List.replicate n z.cps.toList).flatten := fun n => by
    induction n with
    | zero => intro acc; simp
    | succ n ih => intro acc; rw [List.replicate_succ, List.foldl_cons, ih]; simp [List.replicate_succ, List.append_assoc]
  rw [this]; simp
theorem ones (n : Nat) : (List.replicate n [49]).flatten = List.replicate n 49 := by
  induction n with
  | zero => rfl
  | succ n ih => rw [List.replicate_succ, List.flatten_cons, ih]; rfl
theorem many_ones : (Txt.mul "1" 4000).length = 4000 ∧ blanks (Txt.mul "1" 4000) = 0 := by
  have e1 : ("1" : Str).cps.toList = [49] := by decide +kernel
  have l1 : ("1" : Str).length = 1 := by decide +kernel
  have e : (Txt.mul "1" 4000).cps.toList = List.replicate 4000 49 := by
    unfold Txt.mul
    rw [if_neg (by decide), if_neg (by rw [l1]; decide)]
    show ((List.replicate (4000 : Int).toNat ("1" : Str).cps).foldl (· ++ ·) #[]).toList = _
    rw [mul_list, e1, ones]; rfl
  refine ⟨?_, ?_⟩
  · have : (Txt.mul "1" 4000).cps.toList.length = (Txt.mul "1" 4000).length := Array.length_toList
    rw [← this, e, List.length_replicate]
  · unfold blanks; rw [e]; exact List.count_eq_zero_of_not_mem fun h => by have := List.eq_of_mem_replicate h; omega
end Tx

end
section
namespace L2
open PySem PySem.Spec PyProof.Rows
/-- a def that can be called: its name, how it binds, its promise -/
def Can (P : Program) (w : World) (K : PySem.W.Frag) (mg : Str → Option Value) (base : Heap) (CX : CXT) (k : Nat) (x : Str) (ps : List Str) (sp : Sp) : Prop :=
  ∃ f fd, mg x = some (.ref f) ∧ PySem.W.keepIn K (.ref f) = true ∧ Binds K fd ps [] ∧ FnOk P w K mg base CX k f fd ps sp
theorem pe_can {X : Cx} {CX : CXT} {k : Nat} {x : Str} {ps : List Str} {sp : Sp} {E : XK} {e : Expr} {es : List Expr} {t : TA} {p pos : Pos} (C : Can X.prog X.w X.K X.mg X.base CX k x ps sp) (hr : Room k X.A) (hx : Passes CX X E) (ha : PA X (e :: es) t) (hg : Gl X x := by rfl)
    (hdb : (x == ("__debug__" : Str)) = false := by decide) (he : starEach (e :: es) X.env = (false, eval e X.env) :: starEach es X.env := by rfl) (hpl : (backTo pos (starEach es X.env)).any (·.1) = false := by rfl) : PE X (.Call (.Name x p) (e :: es) [] pos) (tCall sp [] E t) := by
  obtain ⟨f, fd, h1, h2, h3, h4⟩ := C
  exact pe_call h4 hr hg h1 h2 h3 .nil hx ha hdb he hpl
theorem tru {b : Bool} (h : b = true) {A B : Prop} (a : A) : if b = true then A else B := by rw [if_pos h]; exact a
theorem fls {b : Bool} (h : b = false) {A B : Prop} (a : B) : if b = true then A else B := by rw [if_neg (by rw [h]; simp)]; exact a
theorem Same.upd {H H' : Hp} {p : Addr} {o : HO} (h : Same H H') (hp : H' p = none) : Same H (L2.upd H' p o) := fun b u e => by rw [upd_ne (ne_of_none (h b u e) hp)]; exact h b u e
theorem Same.upd0 {H : Hp} {p : Addr} {o : HO} (hp : H p = none) : Same H (L2.upd H p o) := (Same.refl H).upd hp
theorem Same.tup {K : PySem.W.Frag} {H H' : Hp} {a : Addr} {xs : List V} (e : Same H H') (h : SqT K H a xs) : SqT K H' a xs := by
  rcases h with (h | ⟨o, h⟩) | h
  · exact .inl (.inl (e _ _ h))
  · exact .inl (.inr ⟨o, e _ _ h⟩)
  · exact .inr h
theorem pe_can0 {X : Cx} {CX : CXT} {k : Nat} {x : Str} {sp : Sp} {E : XK} {p pos : Pos} (C : Can X.prog X.w X.K X.mg X.base CX k x [] sp) (hr : Room k X.A) (hx : Passes CX X E) (hg : Gl X x := by rfl) (hdb : (x == ("__debug__" : Str)) = false := by decide) : PE X (.Call (.Name x p) [] [] pos) (tCall sp [] E tNil) := by
  obtain ⟨f, fd, h1, h2, h3, h4⟩ := C
  exact pe_call0 h4 hr hg h1 h2 h3 .nil hx hdb
theorem Can.never {d : Bool} {P : Program} {w : World} {K : PySem.W.Frag} {mg : Str → Option Value} {base : Heap} {k : Nat} {x : Str} {ps : List Str} {sp : Sp} (C : Can P w K mg base (CXE d P w) k x ps sp) : Can P w K mg base CX0 k x ps (fun vs H Q _ => sp vs H Q E0) := by
  obtain ⟨f, fd, a, b, c, d⟩ := C
  exact ⟨f, fd, a, b, c, d.never⟩
theorem Can.mayE {d : Bool} {P : Program} {w : World} {K : PySem.W.Frag} {mg : Str → Option Value} {base : Heap} {k : Nat} {x : Str} {ps : List Str} {sp : Sp} (C : Can P w K mg base CX0 k x ps sp) : Can P w K mg base (CXE d P w) k x ps sp := by
  obtain ⟨f, fd, a, b, c, e⟩ := C
  exact ⟨f, fd, a, b, c, e.mayE⟩
/-- a comprehension whose element may raise -/
theorem comp_listE {KK : PySem.W.Frag} {a : Addr} {xs : List V} {g : TG} {te : TE} {H1 : Hp} {σ0 : St} {R : Hp → Prop} {p : Addr} (hp : H1 p = none) (ha : H1 a = some (.lst xs)) (hz : xs.length < sizeLine) (F : V → V) (Gd : V → Prop) (Ps : St → Prop) (h0 : Ps σ0)
    (step : ∀ (i : Nat) x σ' H', xs[i]? = some x → Ps σ' → Same H1 H' → ∀ K : V → St → Hp → Prop, (Gd x → ∀ σ2 H4, Ps σ2 → Same H' H4 → K (F x) σ2 H4) → g x σ' H' fun σ2 H3 => te σ2 H3 fun v H4 => K v σ2 H4)
    (fin : ∀ H', (∀ x ∈ xs, Gd x) → Same H1 H' → H' p = some (.lst (xs.map F)) → R H') :
    ∃ W : Nat → Nat → St → Hp → Prop, (∃ m, W 0 m σ0 (upd H1 p (.lst []))) ∧
      ∀ i m σ' H', W i m σ' H' → ((Itl KK a).stop i H' ∧ R H') ∨ ((Itl KK a).go i H' ∧ ∀ v H2, (Itl KK a).yld i H' v H2 → g v σ' H2 fun σ2 H3 => te σ2 H3 fun v H4 => ∃ ys, H4 p = some (.lst ys) ∧ ys.length < sizeLine ∧ ∃ m', m' < m ∧ W (i + 1) m' σ2 (upd H4 p (.lst (ys ++ [v])))) := by
  refine ⟨fun i m σ' H' => m = xs.length - i ∧ i ≤ xs.length ∧ Ps σ' ∧ Same H1 H' ∧ H' p = some (.lst ((xs.take i).map F)) ∧ ∀ x ∈ xs.take i, Gd x, ⟨_, rfl, Nat.zero_le _, h0, (Same.refl H1).put' hp, upd_same, fun x hx => by simp at hx⟩, ?_⟩
  rintro i m σ' H' ⟨rfl, hi, ps, sm, lp, gd⟩
  by_cases hlt : i < xs.length
  · refine .inr ⟨⟨xs, xs[i], SqL.of (sm _ _ ha), by simp [hlt]⟩, fun x H2 y => ?_⟩
    obtain ⟨e, y⟩ := y
    subst e
    have hv := y xs (SqL.of (sm _ _ ha))
    refine step i x σ' _ hv ps sm _ fun gx σ2 H4 ps2 sm2 => ?_
    refine ⟨_, sm2 _ _ lp, by simp; omega, xs.length - (i + 1), by omega, rfl, hlt, ps2, (sm.trans sm2).put' hp, ?_, ?_⟩
    · rw [upd_same, List.take_succ, hv, List.map_append]; rfl
    · intro z hz
      rw [List.take_succ, hv] at hz
      rcases List.mem_append.mp hz with q | q
      · exact gd z q
      · simp at q; rw [q]; exact gx
  · have e : i = xs.length := by omega
    subst e
    rw [List.take_length] at lp gd
    exact .inl ⟨⟨xs, SqL.of (sm _ _ ha), Nat.le_refl _⟩, fin H' gd sm lp⟩
end L2
namespace Ks
open PySem L2
def top (i : Nat) : Stmt := PySem.Challenge.pw_oddcoin_k05_written.main.body.getD i (.Pass ⟨0, 0, 0, 0⟩)
abbrev ch1 (c : Nat) : Str := ⟨#[c]⟩
/-- builtin names that the text does not bind -/
structure Blt (mg : Str → Option Value) : Prop where
  isi : mg "isinstance" = none
  int : mg "int" = none
  bool : mg "bool" = none
  str : mg "str" = none
  list : mg "list" = none
  tuple : mg "tuple" = none
  len : mg "len" = none
  set : mg "set" = none
  enum : mg "enumerate" = none
  range : mg "range" = none
  any : mg "any" = none
  all : mg "all" = none
  sorted : mg "sorted" = none
  max : mg "max" = none
  min : mg "min" = none
/-- what isinstance answers -/
structure Kit (K : PySem.W.Frag) : Prop where
  ii : PySem.W.kitOne K (.type "int") (.type "int") = some true
  ib : PySem.W.kitOne K (.type "int") (.type "bool") = some false
  bb : PySem.W.kitOne K (.type "bool") (.type "bool") = some true
  ss : PySem.W.kitOne K (.type "str") (.type "str") = some true
  ll : PySem.W.kitOne K (.type "list") (.type "list") = some true
  tt : PySem.W.kitOne K (.type "tuple") (.type "tuple") = some true
  ns : PySem.W.kitOne K (.type "NoneType") (.type "str") = some false
  is : PySem.W.kitOne K (.type "int") (.type "str") = some false
  bs : PySem.W.kitOne K (.type "bool") (.type "str") = some false
  ls : PySem.W.kitOne K (.type "list") (.type "str") = some false
theorem boot_isi : bootBuiltins "isinstance" = some (.builtin "isinstance") := by decide +kernel
theorem boot_intT : bootBuiltins "int" = some (.type "int") := by decide +kernel
theorem boot_boolT : bootBuiltins "bool" = some (.type "bool") := by decide +kernel
theorem boot_strT : bootBuiltins "str" = some (.type "str") := by decide +kernel
theorem boot_listT : bootBuiltins "list" = some (.type "list") := by decide +kernel
theorem boot_tupT : bootBuiltins "tuple" = some (.type "tuple") := by decide +kernel
theorem boot_setT : bootBuiltins "set" = some (.type "set") := by decide +kernel
theorem boot_lenB : bootBuiltins "len" = some (.builtin "len") := by decide +kernel
theorem boot_sortedB : bootBuiltins "sorted" = some (.builtin "sorted") := by decide +kernel
theorem boot_maxB : bootBuiltins "max" = some (.builtin "max") := by decide +kernel
theorem boot_minB : bootBuiltins "min" = some (.builtin "min") := by decide +kernel
structure EA where
  coin : Addr
  marks : Addr
  weigh : Addr
  out : Addr
  never : Addr
  bcoin : Addr
  text : Addr
def EA.six (e : EA) : List Addr := [e.marks, e.weigh, e.out, e.never, e.bcoin, e.text]
structure Errs (K : PySem.W.Frag) (mg : Str → Option Value) (e : EA) : Prop where
  m_coin : mg "CoinError" = some (.ref e.coin)
  m_marks : mg "BadMarks" = some (.ref e.marks)
  m_weigh : mg "BadWeighing" = some (.ref e.weigh)
  m_out : mg "BadOutcome" = some (.ref e.out)
  m_never : mg "Never" = some (.ref e.never)
  m_bcoin : mg "BadCoin" = some (.ref e.bcoin)
  m_text : mg "BadText" = some (.ref e.text)
  val : mg "ValueError" = none
  nd : e.six.Nodup
  exc : ∀ c ∈ e.six, PySem.W.excIn K c vMro "ValueError.__new__" = true
  xc : ∀ c ∈ e.six, PySem.W.XCls K c
  exm : ∀ c ∈ e.six, PySem.W.exmOne K (.ref c) (.ref e.coin) = some true
  exs : ∀ c ∈ e.six, ∀ d ∈ e.six, PySem.W.exmOne K (.ref c) (.ref d) = some (decide (c = d))
  kit : ∀ c ∈ e.six, ∀ d ∈ e.six, PySem.W.kitOne K (.ref c) (.ref d) = some (decide (c = d))
  kval : ∀ c ∈ e.six, PySem.W.kitOne K (.ref c) (.type "ValueError") = some true
theorem EA.m1 (e : EA) : e.marks ∈ e.six := by simp [EA.six]
theorem EA.m2 (e : EA) : e.weigh ∈ e.six := by simp [EA.six]
theorem EA.m3 (e : EA) : e.out ∈ e.six := by simp [EA.six]
theorem EA.m4 (e : EA) : e.never ∈ e.six := by simp [EA.six]
theorem EA.m5 (e : EA) : e.bcoin ∈ e.six := by simp [EA.six]
theorem EA.m6 (e : EA) : e.text ∈ e.six := by simp [EA.six]
theorem boot_valT : bootBuiltins "ValueError" = some (.type "ValueError") := by decide +kernel
section
variable {P : Program} {w : World} {K : PySem.W.Frag} {mg : Str → Option Value} {base : Heap}
/-! ### the law's own: cell_at, draw -/
def cellF (ns : List Int) (k : Int) : Int := ns.getD k.toNat 0
def spCell (K : PySem.W.Frag) : Sp := fun vs H Q _ => ∃ (a : Addr) (ns : List Int) (k : Int), vs = [.ref a, .int k] ∧ SqL K H a (ns.map V.int) ∧ 0 ≤ k ∧ Q (.int (cellF ns k)) H
theorem sc__law_cell_at : FnScope ["_law_script", "_law_k"] ["_law_script", "_law_k"] (defScope (top 24)) := ⟨rfl, rfl, rfl, by decide +kernel, rfl, by decide +kernel, by decide +kernel⟩
theorem ok_cell {f : Addr} {fd : FuncData} (F : Fun K "_law_cell_at" "_law_cell_at" (top 24) f fd) (B : Blt mg) : FnOk P w K mg base CX0 1 f fd ["_law_script", "_law_k"] (spCell K) := by
  refine F.ok sc__law_cell_at (fun vs H Q E h => ?_) (fun cdv A outer s H vs Q E hr h => ?_)
  · obtain ⟨a, ns, k, rfl, _⟩ := h; rfl
  · obtain ⟨a, ns, k, rfl, ha, hk, q⟩ := h
    refine ⟨_, (pss_cons (ps_if (pt_cmpR op_lt (pv 1) (pe_callB call_len_seq (by rfl) B.len boot_lenB (pa_cons (pv 0) pa_nil)) (nomark _)) (pss_one (ps_ret (pe_ix ix_list (pv 0) (pv 1) (fun _ _ => rfl)))) pss_nil)
      (pss_one (ps_ret pe_int))), ?_⟩
    refine ⟨_, rfl, _, rfl, a, _, rfl, .inl ha, _, _, rfl, rfl, _, rfl, ?_⟩
    by_cases h : k < ((ns.map V.int).length : Int)
    · refine tru (decide_eq_true h) ?_
      have hn : k.toNat < ns.length := by simp at h; omega
      have e : cellF ns k = ns[k.toNat] := by unfold cellF; simp [List.getD, hn]
      rw [e] at q
      refine ⟨_, rfl, _, rfl, a, _, _, .int ns[k.toNat], rfl, rfl, ha, ?_, q⟩
      have := atI_nat (xs := ns.map V.int) (j := k.toNat) (v := V.int ns[k.toNat]) (by simp [hn])
      rw [Int.toNat_of_nonneg hk] at this
      exact this
    · have e : cellF ns k = 0 := by unfold cellF; simp at h; simp [List.getD, show ns.length ≤ k.toNat by omega]
      rw [e] at q
      exact fls (decide_eq_false h) q
def primes : List Int := [1000003, 1000033, 1000037, 1000039, 1000081, 1000099, 1000117, 1000121, 1000133, 1000151, 1000159, 1000171, 1000183, 1000187, 1000193, 1000199]
def drawF (c k m : Int) : Int := (c * 48271 + k * 69621) % (primes.getD (k % 16).toNat 0) % m
theorem drawF_nonneg {c k m : Int} (h : 0 < m) : 0 ≤ drawF c k m := Int.emod_nonneg _ (by omega)
theorem drawF_lt {c k m : Int} (h : 0 < m) : drawF c k m < m := Int.emod_lt_of_pos _ h
def spDraw : Sp := fun vs H Q _ => ∃ (c k m : Int), vs = [.int c, .int k, .int m] ∧ 0 ≤ k ∧ 0 < m ∧ ∀ (H' : Hp), Same H H' → Q (.int (drawF c k m)) H'
theorem sc__law_draw : FnScope ["_law_cell", "_law_k", "_law_many", "_law_primes"] ["_law_cell", "_law_k", "_law_many"] (defScope (top 25)) := ⟨rfl, rfl, rfl, by decide +kernel, rfl, by decide +kernel, by decide +kernel⟩
def primesE : List Expr := [.Constant (.int 1000003) 0 ⟨82, 19, 82, 26⟩, .Constant (.int 1000033) 0 ⟨82, 28, 82, 35⟩, .Constant (.int 1000037) 0 ⟨82, 37, 82, 44⟩, .Constant (.int 1000039) 0 ⟨82, 46, 82, 53⟩, .Constant (.int 1000081) 0 ⟨82, 55, 82, 62⟩, .Constant (.int 1000099) 0 ⟨82, 64, 82, 71⟩, .Constant (.int 1000117) 0 ⟨82, 73, 82, 80⟩, .Constant (.int 1000121) 0 ⟨82, 82, 82, 89⟩, .Constant (.int 1000133) 0 ⟨82, 91, 82, 98⟩, .Constant (.int 1000151) 0 ⟨82, 100, 82, 107⟩, .Constant (.int 1000159) 0 ⟨82, 109, 82, 116⟩, .Constant (.int 1000171) 0 ⟨82, 118, 82, 125⟩, .Constant (.int 1000183) 0 ⟨82, 127, 82, 134⟩, .Constant (.int 1000187) 0 ⟨82, 136, 82, 143⟩, .Constant (.int 1000193) 0 ⟨82, 145, 82, 152⟩, .Constant (.int 1000199) 0 ⟨82, 154, 82, 161⟩]
theorem primesE_is : primesE.map conV = (primes.map V.int).map some := by kernel_rfl
theorem pa_primes {X : Cx} : PA X primesE (tVs (primes.map V.int)) := @pa_vs X (primes.map V.int) primesE primesE_is
theorem pe_primes {X : Cx} {k : Nat} {p : Pos} : PE X (.Tuple primesE k p) (tTup (tVs (primes.map V.int))) := by
  have h := @pa_primes X
  revert h
  generalize primesE = es
  intro h
  exact pe_tup h
theorem pss_primes {X : Cx} {rest : List Stmt} {u : TS} {k : Nat} {p p1 p2 : Pos} (hN : X.N.Nodup) (hi : X.N[3]? = some ("_law_primes" : Str)) (hx : X.env.scope.names.lookup ("_law_primes" : Str) = some .local) (hs : swapsWith (.Tuple primesE k p) (some (.Name "_law_primes" p1)) p2.line X.env = pure false) (hr : PSs X rest u) :
    PSs X (.Assign [.Name "_law_primes" p1] (.Tuple primesE k p) p2 :: rest) (tSeq (tAsg (tTup (tVs (primes.map V.int))) (gName 3)) u) := by
  have h := @pe_primes X k p
  revert h hs
  generalize primesE = es
  intro hs h
  exact pss_cons (ps_set hN hi (.inl hx) h hs (.inr hx)) hr
theorem primes_at (i : Nat) (h : i < 16) : (primes.map V.int)[i]? = some (.int (primes.getD i 0)) ∧ 0 < primes.getD i 0 := by
  have hl : i < primes.length := h
  have e : primes.getD i 0 = primes[i] := by simp [List.getD, hl]
  rw [e]
  refine ⟨by rw [List.getElem?_map, List.getElem?_eq_getElem hl]; rfl, ?_⟩
  have ha : primes.all (fun p => decide (0 < p)) = true := by decide +kernel
  exact of_decide_eq_true (List.all_eq_true.mp ha _ (List.getElem_mem hl))
theorem ok_draw {f : Addr} {fd : FuncData} (F : Fun K "_law_draw" "_law_draw" (top 25) f fd) : FnOk P w K mg base CX0 1 f fd ["_law_cell", "_law_k", "_law_many"] spDraw := by
  refine F.ok sc__law_draw (fun vs H Q E h => ?_) (fun cdv A outer s H vs Q E hr h => ?_)
  · obtain ⟨c, k, m, rfl, _⟩ := h; rfl
  · obtain ⟨c, k, m, rfl, hk, hm, q⟩ := h
    refine ⟨_, @pss_primes _ _ _ _ _ _ _ sc__law_draw.nd rfl rfl (by kernel_rfl) (pss_one (ps_ret (pe_op op_mod (pe_op op_mod (pe_op op_add (pe_op op_mul (pv 0) pe_int) (pe_op op_mul (pv 1) pe_int)) (pe_ix ix_tup (pv 3) (pe_op op_mod (pv 1) pe_int) (fun _ _ => rfl))) (pv 2)))), ?_⟩
    refine ⟨by show 16 ≤ sizeLine; decide, fun t ht => ?_⟩
    have h16 : 0 ≤ k % 16 ∧ k % 16 < 16 := ⟨Int.emod_nonneg _ (by decide), Int.emod_lt_of_pos _ (by decide)⟩
    obtain ⟨hp1, hp2⟩ := primes_at (k % 16).toNat (by omega)
    have hat := atI_nat hp1
    rw [Int.toNat_of_nonneg h16.1] at hat
    refine ⟨_, rfl, _, _, rfl, rfl, .inr ⟨by decide, by decide⟩, _, rfl, _, _, rfl, rfl, .inr ⟨by decide, by decide⟩, _, _, rfl, rfl, _, rfl, _, rfl, _, _, rfl, rfl, (by show (0 : Int) < 16; decide), t, primes.map V.int, _, _, rfl, rfl, SqT.of upd_same, hat, _, _, rfl, rfl, hp2, _, rfl, _, _, rfl, rfl, hm, ?_⟩
    exact q _ (Same.upd0 ht)
end
end Ks

end
section
namespace L2
open PySem PySem.Spec PyProof.Rows
theorem cx_own {CX : CXT} {P : Program} {w : World} {K : PySem.W.Frag} {mg : Str → Option Value} {base : Heap} {N : List Str} {qual : Str} {scope : Scope} {f : Addr} {cd : Value} {A : Around} {outer : List Env} {s : Shared} {H : Hp} {E : XK} :
    PassesOwn (model P w) (cxOf CX P w K mg base N qual scope f cd A outer s H E).A (cxOf CX P w K mg base N qual scope f cd A outer s H E).env (cxOf CX P w K mg base N qual scope f cd A outer s H E).xe := fun e s' h => wpAny_leaving_again (SameStack.refl _) h
end L2
namespace Ks
open PySem L2
/-- the counts rise from last on, none above hi -/
def up (hi : Int) : Int → List Int → Bool
  | _, [] => true
  | last, k :: ks => decide (last < k) && decide (k ≤ hi) && up hi k ks
theorem up_iff (hi : Int) : ∀ (ks : List Int) (last : Int), up hi last ks = true ↔ ks.Pairwise (· < ·) ∧ ∀ k ∈ ks, last < k ∧ k ≤ hi
  | [], _ => by simp [up]
  | k :: ks, last => by
    unfold up
    rw [Bool.and_eq_true, Bool.and_eq_true, decide_eq_true_eq, decide_eq_true_eq, up_iff hi ks k, List.pairwise_cons]
    constructor
    · rintro ⟨⟨h1, h2⟩, h3, h4⟩
      refine ⟨⟨fun a ha => (h4 a ha).1, h3⟩, fun a ha => ?_⟩
      rcases List.mem_cons.mp ha with e | e
      · rw [e]; exact ⟨h1, h2⟩
      · have := h4 a e; omega
    · rintro ⟨⟨h1, h2⟩, h3⟩
      have hk := h3 k List.mem_cons_self
      exact ⟨hk, h2, fun a ha => ⟨h1 a ha, (h3 a (List.mem_cons_of_mem _ ha)).2⟩⟩
theorem ints_at {ks : List Int} {i : Nat} {y : V} (h : (ks.map V.int)[i]? = some y) : ∃ z, ks[i]? = some z ∧ y = .int z := by
  rw [List.getElem?_map] at h
  cases e : ks[i]? with
  | none => rw [e] at h; cases h
  | some z => rw [e] at h; exact ⟨z, rfl, (Option.some.inj h).symm⟩
theorem drop_at {α : Type} {ks : List α} {i : Nat} {z : α} (h : ks[i]? = some z) : ks.drop i = z :: ks.drop (i + 1) := by
  obtain ⟨hl, e⟩ := List.getElem?_eq_some_iff.mp h
  rw [List.drop_eq_getElem_cons hl, e]
section
variable {P : Program} {w : World} {K : PySem.W.Frag} {mg : Str → Option Value} {base : Heap}
/-! ### is_whole -/
def spWhole : Sp := fun vs H Q _ => ∃ i, vs = [.int i] ∧ Q (.bl true) H
theorem sc_is_whole : FnScope ["value"] ["value"] (defScope (top 9)) := ⟨rfl, rfl, rfl, by decide +kernel, rfl, by decide +kernel, by decide +kernel⟩
theorem ok_is_whole {f : Addr} {fd : FuncData} (F : Fun K "is_whole" "is_whole" (top 9) f fd) (B : Blt mg) (T : Kit K) : FnOk P w K mg base CX0 1 f fd ["value"] spWhole := by
  refine F.ok sc_is_whole (fun vs H Q E h => ?_) (fun cdv A outer s H vs Q E hr h => ?_)
  · obtain ⟨i, rfl, _⟩ := h; rfl
  · obtain ⟨i, rfl, k⟩ := h
    refine ⟨_, pss_one (ps_ret (pe_and (pe_callB call_isi (by rfl) B.isi boot_isi (pa_cons (pv 0) (pa_cons (pe_bltn (v := .ty "int") (by rfl) B.int boot_intT rfl) pa_nil)))
      (pe_one (pe_not (pe_callB call_isi (by rfl) B.isi boot_isi (pa_cons (pv 0) (pa_cons (pe_bltn (v := .ty "bool") (by rfl) B.bool boot_boolT rfl) pa_nil))))))), ?_⟩
    refine ⟨_, rfl, _, _, _, _, rfl, .int i, T.ii, _, rfl, iteT ?_⟩
    exact ⟨_, rfl, _, _, _, _, rfl, .int i, T.ib, _, rfl, k⟩
/-! ### check_side -/
def spSide (c : Addr) : Sp := fun vs H Q E => ∃ (n : Int) (a : Addr) (ks : List Int), vs = [.int n, .ref a] ∧ H a = some (.lst (ks.map V.int)) ∧ (up n (-1) ks = true → Q .non H) ∧ (up n (-1) ks = false → E (.ref c) none H)
theorem sc_check_side : FnScope ["highest", "side", "last", "coin"] ["highest", "side"] (defScope (top 10)) := ⟨rfl, rfl, rfl, by decide +kernel, rfl, by decide +kernel, by decide +kernel⟩
theorem ok_check_side {f : Addr} {fd : FuncData} {c : Addr} (F : Fun K "check_side" "check_side" (top 10) f fd) (B : Blt mg) (T : Kit K) (m_BadWeighing : mg "BadWeighing" = some (.ref c)) (x_BadWeighing : PySem.W.excIn K c vMro "ValueError.__new__" = true)
    (c_is_whole : Can P w K mg base CX0 1 "is_whole" ["value"] spWhole) : FnOk P w K mg base (CXE false P w) 2 f fd ["highest", "side"] (spSide c) := by
  refine F.okE sc_check_side (fun vs H Q E h => ?_) (fun cdv A outer s H vs Q E hr h L pass => ?_)
  · obtain ⟨n, a, ks, rfl, _⟩ := h; rfl
  · obtain ⟨n, a, ks, rfl, ha, k, kn⟩ := h
    refine ⟨_, (pss_cons (ps_if (pt_not (pt_val (pe_callB call_isi (by rfl) B.isi boot_isi (pa_cons (pv 1) (pa_cons (pe_bltn (v := .ty "list") (by rfl) B.list boot_listT rfl) pa_nil))))) (pss_one (ps_raise L rfl rfl (by rfl) m_BadWeighing x_BadWeighing)) pss_nil)
      (pss_cons (ps_set (i := 2) sc_check_side.nd rfl (Or.inl rfl) (pe_un un_neg pe_int))
      (pss_one (ps_for cx_own rfl (pi_list (pv 1)) (pg_name (i := 3) sc_check_side.nd rfl (Or.inl rfl)) (pss_cons (ps_if (pt_not (pt_val (pe_can c_is_whole (hr.mono (by decide)) (E := E0) pass0 (pa_cons (pv 3) pa_nil)))) (pss_one (ps_raise L rfl rfl (by rfl) m_BadWeighing x_BadWeighing)) pss_nil) (pss_cons (ps_if (pt_cmpR op_le (pv 3) (pv 2) (nomark _)) (pss_one (ps_raise L rfl rfl (by rfl) m_BadWeighing x_BadWeighing)) pss_nil) (pss_cons (ps_if (pt_cmpR op_gt (pv 3) (pv 0) (nomark _)) (pss_one (ps_raise L rfl rfl (by rfl) m_BadWeighing x_BadWeighing)) pss_nil) (pss_one (ps_set (i := 2) sc_check_side.nd rfl (Or.inl rfl) (pv 3)))))))))), ?_⟩
    refine ⟨_, rfl, _, _, _, _, rfl, .lst ha, T.ll, _, rfl, iteF ?_⟩
    refine ⟨_, rfl, ?_⟩
    refine ⟨_, rfl, a, rfl, ⟨_, SqL.of ha⟩, for_list (K := K) (a := a) (xs := ks.map V.int) (fun i σ H2 => H2 = H ∧ ∃ (last : Int) (v : Option V), σ = [some (.int n), some (.ref a), some (.int last), v] ∧ up n (-1) ks = up n last (ks.drop i))
      ⟨rfl, _, _, rfl, rfl⟩ (fun i σ H2 _ ⟨e, _⟩ => by rw [e]; exact SqL.of ha) ?_ ?_⟩
    · rintro i y σ H2 hi ⟨rfl, last, v, rfl, hl⟩
      obtain ⟨z, hz, rfl⟩ := ints_at hi
      rw [drop_at hz] at hl
      refine ⟨_, rfl, z, rfl, _, rfl, iteF ?_⟩
      refine ⟨_, rfl, _, rfl, _, _, rfl, rfl, _, rfl, ?_⟩
      by_cases h1 : z ≤ last
      · refine tru (decide_eq_true h1) (kn ?_)
        rw [hl]; unfold up; rw [decide_eq_false (by omega)]; rfl
      refine fls (decide_eq_false h1) ?_
      refine ⟨_, rfl, _, rfl, _, _, rfl, rfl, _, rfl, ?_⟩
      by_cases h2 : z > n
      · refine tru (decide_eq_true h2) (kn ?_)
        rw [hl]; unfold up; rw [decide_eq_true (show last < z by omega), decide_eq_false (show ¬ z ≤ n by omega)]; rfl
      refine fls (decide_eq_false h2) ?_
      refine ⟨_, rfl, rfl, z, _, rfl, ?_⟩
      rw [hl]
      show up n last (z :: _) = _
      rw [up, decide_eq_true (show last < z by omega), decide_eq_true (show z ≤ n by omega)]; rfl
    · rintro σ H2 ⟨rfl, last, v, rfl, hl⟩
      refine k ?_
      rw [hl, List.length_map, List.drop_length]; rfl
/-! ### check_weighing -/
def cwOk (n : Int) (l r : List Int) : Bool := up n (-1) l && up n (-1) r && decide (l.length = r.length) && decide (∀ k ∈ l, k ∉ r)
def spCW (c : Addr) : Sp := fun vs H Q E => ∃ (n : Int) (a b : Addr) (l r : List Int), vs = [.int n, .ref a, .ref b] ∧ H a = some (.lst (l.map V.int)) ∧ H b = some (.lst (r.map V.int)) ∧ l.length ≤ 100 ∧ r.length ≤ 100 ∧ (cwOk n l r = true → ∀ H', Same H H' → Q .non H') ∧ (cwOk n l r = false → ∀ H', Same H H' → E (.ref c) none H')
theorem sc_check_weighing : FnScope ["highest", "left", "right"] ["highest", "left", "right"] (defScope (top 11)) := ⟨rfl, rfl, rfl, by decide +kernel, rfl, by decide +kernel, by decide +kernel⟩
theorem ok_check_weighing {f : Addr} {fd : FuncData} {c : Addr} (F : Fun K "check_weighing" "check_weighing" (top 11) f fd) (B : Blt mg) (m_BadWeighing : mg "BadWeighing" = some (.ref c)) (x_BadWeighing : PySem.W.excIn K c vMro "ValueError.__new__" = true)
    (c_check_side : Can P w K mg base (CXE false P w) 2 "check_side" ["highest", "side"] (spSide c)) : FnOk P w K mg base (CXE false P w) 3 f fd ["highest", "left", "right"] (spCW c) := by
  refine F.okE sc_check_weighing (fun vs H Q E h => ?_) (fun cdv A outer s H vs Q E hr h L pass => ?_)
  · obtain ⟨n, a, b, l, r, rfl, _⟩ := h; rfl
  · obtain ⟨n, a, b, l, r, rfl, ha, hb, hll, hlr, k, kn⟩ := h
    refine ⟨_, (pss_cons (ps_expr (pe_can c_check_side (hr.mono (by decide)) pass (pa_cons (pv 0) (pa_cons (pv 1) pa_nil))))
      (pss_cons (ps_expr (pe_can c_check_side (hr.mono (by decide)) pass (pa_cons (pv 0) (pa_cons (pv 2) pa_nil))))
      (pss_cons (ps_if (pt_cmpR op_ne (pe_callB call_len_seq (by rfl) B.len boot_lenB (pa_cons (pv 1) pa_nil)) (pe_callB call_len_seq (by rfl) B.len boot_lenB (pa_cons (pv 2) pa_nil)) (nomark _)) (pss_one (ps_raise L rfl rfl (by rfl) m_BadWeighing x_BadWeighing)) pss_nil)
      (pss_one (ps_if (pt_cmpR op_gt (pe_callB call_lenS (by rfl) B.len boot_lenB (pa_cons (pe_op op_andS (pe_callTy (call_setL rfl) (by rfl) B.set boot_setT (pa_cons (pv 1) pa_nil)) (pe_callTy (call_setL rfl) (by rfl) B.set boot_setT (pa_cons (pv 2) pa_nil))) pa_nil)) pe_int (nomark _)) (pss_one (ps_raise L rfl rfl (by rfl) m_BadWeighing x_BadWeighing)) pss_nil))))), ?_⟩
    refine ⟨_, rfl, _, rfl, n, a, l, rfl, ha, fun u1 => ?_, fun u1 => kn (by unfold cwOk; rw [u1]; rfl) H (Same.refl H)⟩
    refine ⟨_, rfl, _, rfl, n, b, r, rfl, hb, fun u2 => ?_, fun u2 => kn (by unfold cwOk; rw [u1, u2]; rfl) H (Same.refl H)⟩
    refine ⟨_, rfl, a, _, rfl, .inl (SqL.of ha), _, rfl, b, _, rfl, .inl (SqL.of hb), rfl, _, rfl, ?_⟩
    by_cases hlen : l.length = r.length
    · refine iteNS (by
        show V.int _ = V.int _
        rw [List.length_map, List.length_map, hlen]) ?_
      refine ⟨_, rfl, a, l, rfl, SqL.of ha, by omega, fun p1 m1 hp1 e1 n1 => ?_⟩
      have hb1 : upd H p1 (SetO w p1 m1) b = some (.lst (r.map V.int)) := by rw [upd_ne (ne_of_none hb hp1)]; exact hb
      refine ⟨_, rfl, b, r, rfl, SqL.of hb1, by omega, fun p2 m2 hp2 e2 n2 => ?_⟩
      have h12 : p2 ≠ p1 := fun z => by rw [z, upd_same] at hp2; cases hp2
      have q1 : upd (upd H p1 (SetO w p1 m1)) p2 (SetO w p2 m2) p1 = some (SetO w p1 m1) := by rw [upd_ne (Ne.symm h12), upd_same]
      refine ⟨p1, p2, m1, m2, rfl, rfl, h12, q1, upd_same, fun p3' ks hp3 e3 => ?_⟩
      have s1 : Same H (upd H p1 (SetO w p1 m1)) := Same.upd0 hp1
      have s3 := (s1.upd (o := SetO w p2 m2) hp2).upd (o := SetO w p3' ks) hp3
      refine ⟨p3', ks, rfl, upd_same, _, _, rfl, rfl, _, rfl, ?_⟩
      by_cases hd : ∀ k ∈ l, k ∉ r
      · have hk : ks = [] := by
          cases ks with
          | nil => rfl
          | cons y t =>
            have := (e3 y).mp List.mem_cons_self
            exact absurd ((e2 y).mp this.2) (hd y ((e1 y).mp this.1))
        subst hk
        exact iteF (k (by unfold cwOk; rw [u1, u2, decide_eq_true hlen, decide_eq_true hd]; rfl) _ s3)
      · have hk : 0 < ks.length := by
          cases ks with
          | nil =>
            exfalso
            refine hd fun y hy hy' => ?_
            have := (e3 y).mpr ⟨(e1 y).mpr hy, (e2 y).mpr hy'⟩
            simp at this
          | cons y t => simp
        refine tru (decide_eq_true (show (ks.length : Int) > 0 by omega)) (kn (by unfold cwOk; rw [u1, u2, decide_eq_true hlen, decide_eq_false hd]; rfl) _ s3)
    · refine tru ?_ (kn (by unfold cwOk; rw [u1, u2, decide_eq_false hlen]; rfl) H (Same.refl H))
      show (!decide (V.int _ = V.int _)) = true
      rw [List.length_map, List.length_map, decide_eq_false (fun z => hlen (by injection z with z; omega))]; rfl
end
end Ks

end
section
namespace Ks
open PySem L2
theorem boot_allB : bootBuiltins "all" = some (.builtin "all") := by decide +kernel
/-- the texts' own constants -/
structure Glb (mg : Str → Option Value) : Prop where
  high : ∃ t, mg "HIGHEST" = some (.int 999999999 t)
  most : ∃ t, mg "MOST_FIGURES" = some (.int 9 t)
  figs : ∃ t, mg "FIGURES" = some (.str "0123456789" t)
  betw : ∃ t, mg "BETWEEN_SIDES" = some (.str " | " t)
  none : ∃ t, mg "NONE" = some (.str "-" t)
def Small (l : List Int) : Prop := ∀ k ∈ l, 0 ≤ k ∧ k ≤ 999999999
theorem log_small {i : Int} (h : 0 ≤ i ∧ i ≤ 999999999) : i.natAbs.log2 < 1920 := by
  by_cases h0 : i.natAbs = 0
  · rw [h0]; decide
  · exact (Nat.log2_lt h0).mpr (Nat.lt_of_le_of_lt (show i.natAbs ≤ 999999999 by omega) (by decide))
theorem strI_len {i : Int} (h : 0 ≤ i ∧ i ≤ 999999999) : (Tx.strI i).length ≤ 10 := PySem.W.KT.len_num h.1 (by omega)
theorem strI_sum : ∀ (l : List Int), Small l → ((l.map Tx.strI).map (·.length)).sum ≤ 10 * l.length
  | [], _ => Nat.le_refl _
  | k :: l, h => by
    have h1 := strI_len (h k List.mem_cons_self)
    have h2 := strI_sum l fun x hx => h x (List.mem_cons_of_mem _ hx)
    simp only [List.map_cons, List.sum_cons, List.length_cons] at h2 ⊢
    omega
theorem hs_num : ∀ m : Nat, (Tx.strI (m : Int)).cps.toList = (Nat.toDigits 10 m).map Char.toNat := fun m => PySem.W.KIN.signs_num m
theorem join_len (y : Str) : ∀ l : List Str, (Str.join y l).length ≤ (l.map (·.length)).sum + l.length * y.length := fun l => by
  rw [← StrLaws.glued_eq_join, size_glued]
  have : (l.length - 1) * y.length ≤ l.length * y.length := Nat.mul_le_mul_right _ (by omega)
  omega
section
variable {P : Program} {w : World} {K : PySem.W.Frag} {mg : Str → Option Value} {base : Heap}
/-! ### side_written, written -/
def spSW : Sp := fun vs H Q _ => ∃ (a : Addr) (l : List Int), vs = [.ref a] ∧ H a = some (.lst (l.map V.int)) ∧ l.length ≤ 100 ∧ Small l ∧ ∀ H', Same H H' → Q (.str (Str.join " " (l.map Tx.strI))) H'
theorem sc_side_written : FnScope ["side"] ["side"] (defScope (top 18)) := ⟨rfl, rfl, rfl, by decide +kernel, rfl, by decide +kernel, by decide +kernel⟩
theorem ok_side_written {f : Addr} {fd : FuncData} (F : Fun K "side_written" "side_written" (top 18) f fd) (B : Blt mg) : FnOk P w K mg base CX0 1 f fd ["side"] spSW := by
  refine F.ok sc_side_written (fun vs H Q E h => ?_) (fun cdv A outer s H vs Q E hr h => ?_)
  · obtain ⟨a, l, rfl, _⟩ := h; rfl
  · obtain ⟨a, l, rfl, ha, hl, hs, q⟩ := h
    refine ⟨_, (pss_one (ps_ret (pe_bm PySem.F.plainAttrs_str PySem.F.slot_str_join PySem.F.type_str_join mt_join pe_str (pa_cons (pe_comp (N := ["side"]) (sc0 := defScope (top 18)) ["coin"] [] [] rfl rfl rfl ⟨rfl, by decide +kernel, by decide +kernel, by decide +kernel, rfl, by decide +kernel⟩ (pi_list (pv 0)) (fun _ _ _ _ => (pg_name (i := 0) (by decide +kernel : (["coin"] : List Str).Nodup) rfl (Or.inl rfl) (.inr rfl))) (fun _ _ _ _ => (pe_callTy call_str_int (by rfl) B.str boot_strT (pa_cons (pv 0) pa_nil)))) pa_nil)))), ?_⟩
    refine ⟨rfl, _, rfl, a, rfl, ⟨_, SqL.of ha⟩, fun p hp => comp_list hp ha (by simp; exact small1000 (by omega)) (fun v => match v with | .int i => .str (Tx.strI i) | v => v) (fun σ' => ∃ v0, σ' = [v0]) ⟨none, rfl⟩ ?_ ?_⟩
    · rintro i x σ' H' hx ⟨v0, rfl⟩ sm KK kk
      obtain ⟨z, hz, rfl⟩ := ints_at hx
      have hz' := hs z (List.mem_of_getElem? hz)
      exact ⟨_, rfl, z, rfl, log_small hz', kk [some (.int z)] H' ⟨_, rfl⟩ (Same.refl _)⟩
    · intro H' sm hq
      have e : (l.map V.int).map (fun v => match v with | .int i => V.str (Tx.strI i) | v => v) = (l.map Tx.strI).map V.str := by rw [List.map_map, List.map_map]; rfl
      rw [e] at hq
      refine ⟨_, p, _, rfl, rfl, SqL.of hq, ?_, ?_⟩
      · have := strI_sum l hs
        rw [List.length_map]
        have e1 : (" " : Str).length = 1 := by decide +kernel
        rw [e1]; omega
      · show Q (.str (PySem.Builtin.Str.glued " " (l.map Tx.strI))) H'
        rw [StrLaws.glued_eq_join]
        exact q H' sm
def spWr : Sp := fun vs H Q _ => ∃ (a b : Addr) (l r : List Int), vs = [.ref a, .ref b] ∧ H a = some (.lst (l.map V.int)) ∧ H b = some (.lst (r.map V.int)) ∧ l.length ≤ 100 ∧ r.length ≤ 100 ∧ Small l ∧ Small r ∧ Tx.Fit l r ∧ ∀ H', Same H H' → Q (.str (Tx.wr l r)) H'
theorem cw_fit {l r : List Int} (f : Tx.Fit l r) (h1 : Small l) (h2 : Small r) : cwOk 999999999 l r = true := by
  obtain ⟨a, b, c, d⟩ := f
  unfold cwOk
  rw [(up_iff _ l (-1)).mpr ⟨a, fun k hk => by have := h1 k hk; omega⟩, (up_iff _ r (-1)).mpr ⟨b, fun k hk => by have := h2 k hk; omega⟩, decide_eq_true c, decide_eq_true d]; rfl
theorem sc_written : FnScope ["left", "right"] ["left", "right"] (defScope (top 19)) := ⟨rfl, rfl, rfl, by decide +kernel, rfl, by decide +kernel, by decide +kernel⟩
theorem ok_written {f : Addr} {fd : FuncData} {c : Addr} (F : Fun K "written" "written" (top 19) f fd) (B : Blt mg) (G : Glb mg) (c_check_weighing : Can P w K mg base CX0 3 "check_weighing" ["highest", "left", "right"] (fun vs H Q _ => spCW c vs H Q E0))
    (c_side_written : Can P w K mg base CX0 1 "side_written" ["side"] spSW) : FnOk P w K mg base CX0 4 f fd ["left", "right"] spWr := by
  refine F.ok sc_written (fun vs H Q E h => ?_) (fun cdv A outer s H vs Q E hr h => ?_)
  · obtain ⟨a, b, l, r, rfl, _⟩ := h; rfl
  · obtain ⟨a, b, l, r, rfl, ha, hb, hl, hlr, hs, hsr, fit, q⟩ := h
    obtain ⟨t1, m_HIGHEST⟩ := G.high
    obtain ⟨t2, m_NONE⟩ := G.none
    obtain ⟨t3, m_BETWEEN_SIDES⟩ := G.betw
    refine ⟨_, (pss_cons (ps_expr (pe_can c_check_weighing (hr.mono (by decide)) pass0 (pa_cons (pe_glob (v := .int 999999999) (by rfl) m_HIGHEST ⟨_, rfl⟩) (pa_cons (pv 0) (pa_cons (pv 1) pa_nil)))))
      (pss_cons (ps_if (pt_cmpR op_eq (pe_callB call_len_seq (by rfl) B.len boot_lenB (pa_cons (pv 0) pa_nil)) pe_int (nomark _)) (pss_one (ps_ret (pe_glob (v := .str "-") (by rfl) m_NONE ⟨_, rfl⟩))) pss_nil)
      (pss_one (ps_ret (pe_op op_add_str (pe_op op_add_str (pe_can c_side_written (hr.mono (by decide)) pass0 (pa_cons (pv 0) pa_nil)) (pe_glob (v := .str " | ") (by rfl) m_BETWEEN_SIDES ⟨_, rfl⟩)) (pe_can c_side_written (hr.mono (by decide)) pass0 (pa_cons (pv 1) pa_nil))))))), ?_⟩
    refine ⟨_, rfl, _, rfl, 999999999, a, b, l, r, rfl, ha, hb, hl, hlr, fun _ H1 s1 => ?_, fun z => by rw [cw_fit fit hs hsr] at z; cases z⟩
    refine ⟨_, rfl, a, _, rfl, .inl (SqL.of (s1 _ _ ha)), rfl, _, rfl, ?_⟩
    by_cases h0 : l.length = 0
    · refine tru (decide_eq_true (by rw [List.length_map, h0]; rfl)) ?_
      have e : Tx.wr l r = "-" := by unfold Tx.wr; rw [if_pos h0]
      rw [e] at q
      exact q H1 s1
    · refine fls (decide_eq_false fun z => h0 (by have z := V.int.inj z; rw [List.length_map] at z; omega)) ?_
      have e : Tx.wr l r = Str.join " " (l.map Tx.strI) ++ " | " ++ Str.join " " (r.map Tx.strI) := by unfold Tx.wr; rw [if_neg h0]
      rw [e] at q
      have jl : ∀ x : List Int, x.length ≤ 100 → Small x → (Str.join " " (x.map Tx.strI)).length ≤ 1100 := fun x hx sx => by
        have h1 := join_len " " (x.map Tx.strI)
        have h2 := strI_sum x sx
        rw [List.length_map] at h1
        have e1 : (" " : Str).length = 1 := by decide +kernel
        rw [e1] at h1; omega
      have l3 : (" | " : Str).length = 3 := by decide +kernel
      have ap : ∀ x y : Str, (x ++ y).length = x.length + y.length := fun x y => by
        show (x.cps ++ y.cps).size = _
        rw [Array.size_append]; rfl
      have sz : 4000 ≤ sizeLine := by decide
      refine ⟨_, rfl, a, l, rfl, s1 _ _ ha, hl, hs, fun H2 s2 => ⟨_, _, rfl, rfl, by have := jl l hl hs; omega, _, rfl, b, r, rfl, s2 _ _ (s1 _ _ hb), hlr, hsr, fun H3 s3 => ⟨_, _, rfl, rfl, ?_, q H3 ((s1.trans s2).trans s3)⟩⟩⟩
      have h1 := jl l hl hs
      have h2 := jl r hlr hsr
      rw [ap, l3]; omega
/-! ### count_read -/
def spCR (c : Addr) : Sp := fun vs H Q E => ∃ z : Str, vs = [.str z] ∧ z.length ≤ sizeLine ∧ (Tx.okW z = true → ∀ H', Same H H' → Q (.int (Tx.valW z)) H') ∧ (Tx.okW z = false → ∀ H', Same H H' → E (.ref c) none H')
theorem fig_list : ("0123456789" : Str).cps.toList = [48, 49, 50, 51, 52, 53, 54, 55, 56, 57] := by decide +kernel
theorem fig_mem (n : Nat) : decide (n ∈ ("0123456789" : Str).cps.toList) = Tx.isFig n := by
  rw [fig_list]
  unfold Tx.isFig
  by_cases h : 48 ≤ n ∧ n ≤ 57
  · have : n ∈ [48, 49, 50, 51, 52, 53, 54, 55, 56, 57] := by simp; omega
    rw [decide_eq_true this, decide_eq_true h.1, decide_eq_true h.2]; rfl
  · have : n ∉ [48, 49, 50, 51, 52, 53, 54, 55, 56, 57] := by simp; omega
    rw [decide_eq_false this]
    by_cases h1 : 48 ≤ n
    · rw [decide_eq_true h1, decide_eq_false (by omega)]; rfl
    · rw [decide_eq_false h1]; rfl
theorem occ1 (c : Nat) (z : Str) : (!(Builtin.Str.occurrences z (ch1 c) 0 z.length 1).isEmpty) = decide (c ∈ z.cps.toList) := by rw [PySem.StrLaws.found_one]
theorem s_zero : ("0" : Str) = ch1 48 := by decide +kernel
theorem len_list (z : Str) : z.length = z.cps.toList.length := by rw [Array.length_toList]; rfl
theorem str_eq_list {x y : Str} : x = y ↔ x.cps.toList = y.cps.toList := ⟨fun h => by rw [h], fun h => Str.ext' (Array.toList_inj.mp h)⟩
/-- the nought at the head -/
theorem head_zero {z : Str} {c : Nat} (h : atI z.cps.toList 0 = some c) : z.cps.toList.head? = some c := by
  cases e : z.cps.toList with
  | nil => rw [e] at h; cases h
  | cons d r => rw [e] at h; have : atI (d :: r) (0 : Int) = some d := atI_nat (j := 0) rfl; rw [this] at h; cases h; rfl
theorem first_at {z : Str} (h : z.length ≠ 0) : ∃ c, atI z.cps.toList 0 = some c := by
  cases e : z.cps.toList with
  | nil => exact absurd (by rw [len_list, e]; rfl) h
  | cons d r => exact ⟨d, atI_nat (j := 0) rfl⟩
theorem sc_count_read : FnScope ["figures"] ["figures"] (defScope (top 20)) := ⟨rfl, rfl, rfl, by decide +kernel, rfl, by decide +kernel, by decide +kernel⟩
theorem ok_count_read {f : Addr} {fd : FuncData} {c : Addr} (F : Fun K "count_read" "count_read" (top 20) f fd) (B : Blt mg) (G : Glb mg) (m_BadText : mg "BadText" = some (.ref c)) (x_BadText : PySem.W.excIn K c vMro "ValueError.__new__" = true) :
    FnOk P w K mg base (CXE true P w) 1 f fd ["figures"] (spCR c) := by
  refine F.okE sc_count_read (fun vs H Q E h => ?_) (fun cdv A outer s H vs Q E hr h L pass => ?_)
  · obtain ⟨z, rfl, _⟩ := h; rfl
  · obtain ⟨z, rfl, hz, k, kn⟩ := h
    obtain ⟨t1, m_MOST⟩ := G.most
    obtain ⟨t2, m_FIGURES⟩ := G.figs
    refine ⟨_, (pss_cons (ps_if (PW.pt (pw_or (pt_cmpR op_eq (pe_callB call_len_str (by rfl) B.len boot_lenB (pa_cons (pv 0) pa_nil)) pe_int (nomark _)) (pw_or1 (pt_cmpR op_gt (pe_callB call_len_str (by rfl) B.len boot_lenB (pa_cons (pv 0) pa_nil)) (pe_glob (v := .int 9) (by rfl) m_MOST ⟨_, rfl⟩) (nomark _))))) (pss_one (ps_raise L rfl rfl (by rfl) m_BadText x_BadText)) pss_nil)
      (pss_cons (ps_if (pt_not (pt_val (pe_callB (call_allL rfl) (by rfl) B.all boot_allB (pa_cons (pe_comp (N := ["figures"]) (sc0 := defScope (top 20)) ["sign"] [] [] rfl rfl rfl ⟨rfl, by decide +kernel, by decide +kernel, by decide +kernel, rfl, by decide +kernel⟩ (pi_str (pv 0)) (fun _ _ _ _ => (pg_name (i := 0) (by decide +kernel : (["sign"] : List Str).Nodup) rfl (Or.inl rfl) (.inr rfl))) (fun _ _ _ _ => (pe_cmpR op_in_str (pv 0) (pe_glob (v := .str "0123456789") (by rfl) m_FIGURES ⟨_, rfl⟩) rfl))) pa_nil)))) (pss_one (ps_raise L rfl rfl (by rfl) m_BadText x_BadText)) pss_nil)
      (pss_cons (ps_if (PW.pt (pw_and (pt_cmpR op_eq (pe_ix ix_str (pv 0) pe_int (fun _ _ => rfl)) pe_str (nomark _)) (pw_and1 (pt_cmpR op_ne (pv 0) pe_str (nomark _))))) (pss_one (ps_raise L rfl rfl (by rfl) m_BadText x_BadText)) pss_nil)
      (pss_one (ps_ret (pe_callTy call_intS (by rfl) B.int boot_intT (pa_cons (pv 0) pa_nil))))))), ?_⟩
    have ln := len_list z
    refine ⟨_, rfl, z, rfl, hz, rfl, _, rfl, ?_⟩
    by_cases h0 : z.length = 0
    · refine tru (decide_eq_true (by rw [h0]; rfl)) (tru rfl (kn ?_ H (Same.refl H)))
      unfold Tx.okW Tx.okL; rw [← ln, h0]; rfl
    refine fls (decide_eq_false fun q => h0 (by have := V.int.inj q; omega)) ?_
    refine ⟨_, rfl, z, rfl, hz, _, _, rfl, rfl, _, rfl, ?_⟩
    by_cases h9 : (z.length : Int) > 9
    · refine tru (decide_eq_true h9) (kn ?_ H (Same.refl H))
      unfold Tx.okW Tx.okL; rw [← ln, decide_eq_true (show 1 ≤ z.length by omega), decide_eq_false (show ¬ z.length ≤ 9 by omega)]; rfl
    refine fls (decide_eq_false h9) ?_
    refine ⟨_, rfl, z, rfl, fun p hp => comp_str hp (small1000 (show z.length ≤ 1000 by omega)) (fun c => V.bl (Tx.isFig c)) (fun σ' => ∃ v0, σ' = [v0]) ⟨none, rfl⟩ ?_ ?_⟩
    · rintro c σ' H' hc ⟨v0, rfl⟩ sm KK kk
      refine ⟨_, rfl, _, _, rfl, rfl, ?_⟩
      have := kk [some (.str ⟨#[c]⟩)] H' ⟨_, rfl⟩ (Same.refl _)
      rw [occ1, fig_mem]
      exact this
    · intro H1 s1 hq
      refine ⟨p, z.cps.toList.map Tx.isFig, rfl, by rw [hq, List.map_map]; rfl, _, rfl, ?_⟩
      have ea : (z.cps.toList.map Tx.isFig).all id = z.cps.toList.all Tx.isFig := by rw [List.all_map]; rfl
      rw [ea]
      cases hf : z.cps.toList.all Tx.isFig with
      | false =>
        refine iteT (kn ?_ H1 s1)
        unfold Tx.okW Tx.okL; rw [hf, Bool.and_false]; rfl
      | true =>
        refine iteF ?_
        obtain ⟨d, hd⟩ := first_at h0
        have hh := head_zero hd
        refine ⟨_, rfl, z, 0, d, rfl, rfl, hz, hd, rfl, _, rfl, ?_⟩
        have okz : Tx.okW z = (!(decide (d = 48)) || decide (z = "0")) := by
          have e3 : decide (z.cps.toList = [48]) = decide (z = "0") := decide_eq_decide.mpr (by rw [str_eq_list, s_zero])
          unfold Tx.okW Tx.okL
          rw [← ln, decide_eq_true (show 1 ≤ z.length by omega), decide_eq_true (show z.length ≤ 9 by omega), hf, hh, e3]
          simp
        have num : Tx.okW z = true → intText? z = some (Tx.valW z) := fun ok => by
          obtain ⟨x1, x2, x3, _⟩ := Tx.okL_iff ok
          exact PySem.intText_digits x3 x1 (by omega)
        have ed : decide (V.str ⟨#[d]⟩ = V.str "0") = decide (d = 48) := decide_eq_decide.mpr ⟨fun q => by
          have q := V.str.inj q
          rw [s_zero] at q
          have := congrArg (fun x : Str => x.cps.toList) q
          simpa using this, fun q => by rw [q, s_zero]⟩
        by_cases h48 : d = 48
        · refine tru (by rw [ed, decide_eq_true h48]) ⟨_, rfl, rfl, _, rfl, ?_⟩
          by_cases hz0 : z = "0"
          · have ok : Tx.okW z = true := by rw [okz, decide_eq_true hz0]; simp
            exact iteNS (congrArg V.str hz0) ⟨_, rfl, z, _, rfl, num ok, by omega, k ok H1 s1⟩
          · have ok : Tx.okW z = false := by rw [okz, decide_eq_false hz0, decide_eq_true h48]; rfl
            exact tru (by rw [decide_eq_false (fun q => hz0 (V.str.inj q))]; rfl) (kn ok H1 s1)
        · have ok : Tx.okW z = true := by rw [okz, decide_eq_false h48]; rfl
          exact fls (by rw [ed, decide_eq_false h48]) (fls rfl ⟨_, rfl, z, _, rfl, num ok, by omega, k ok H1 s1⟩)
/-! ### side_read -/
def spSR (c : Addr) : Sp := fun vs H Q E => ∃ z : Str, vs = [.str z] ∧ z.length ≤ 5000 ∧ (∀ l, Tx.side z = some l → ∀ p H', H p = none → Same H H' → H' p = some (.lst (l.map V.int)) → Q (.ref p) H') ∧ (Tx.side z = none → ∀ H', Same H H' → E (.ref c) none H')
theorem blank_len : (((" " : Str).length) == 0) = false := by decide +kernel
theorem le_sum : ∀ (l : List Nat) (a : Nat), a ∈ l → a ≤ l.sum
  | [], _, h => by simp at h
  | x :: l, a, h => by
    rw [List.sum_cons]
    rcases List.mem_cons.mp h with e | e
    · omega
    · have := le_sum l a e; omega
theorem len_part {z y p : Str} (hy : 1 ≤ y.length) (h : p ∈ Txt.split z y) : p.length ≤ z.length := by
  have h1 := PyProof.Rows.split_weight z y hy
  have h2 : p.length ≤ ((Txt.split z y).map (·.length)).sum := le_sum _ _ (List.mem_map_of_mem h)
  have h3 : 1 ≤ (Txt.split z y).length := List.length_pos_of_mem h
  omega
theorem strs_at {ks : List Str} {i : Nat} {y : V} (h : (ks.map V.str)[i]? = some y) : ∃ z, z ∈ ks ∧ y = .str z := by
  rw [List.getElem?_map] at h
  cases e : ks[i]? with
  | none => rw [e] at h; cases h
  | some z => rw [e] at h; exact ⟨z, List.mem_of_getElem? e, (Option.some.inj h).symm⟩
theorem sc_side_read : FnScope ["text"] ["text"] (defScope (top 21)) := ⟨rfl, rfl, rfl, by decide +kernel, rfl, by decide +kernel, by decide +kernel⟩
theorem ok_side_read {f : Addr} {fd : FuncData} {c : Addr} (F : Fun K "side_read" "side_read" (top 21) f fd) (c_count_read : Can P w K mg base (CXE true P w) 1 "count_read" ["figures"] (spCR c)) : FnOk P w K mg base (CXE true P w) 2 f fd ["text"] (spSR c) := by
  refine F.okE sc_side_read (fun vs H Q E h => ?_) (fun cdv A outer s H vs Q E hr h L pass => ?_)
  · obtain ⟨z, rfl, _⟩ := h; rfl
  · obtain ⟨z, rfl, hz, k, kn⟩ := h
    refine ⟨_, (pss_one (ps_ret (pe_compE (N := ["text"]) (sc0 := defScope (top 21)) ["figures"] [] [] L rfl rfl rfl rfl rfl rfl ⟨rfl, by decide +kernel, by decide +kernel, by decide +kernel, rfl, by decide +kernel⟩ (pi_list (pe_bm PySem.F.plainAttrs_str PySem.F.slot_str_split PySem.F.type_str_split mt_split (pv 0) (pa_cons pe_str pa_nil))) (fun _ _ _ _ => (pg_name (i := 0) (by decide +kernel : (["figures"] : List Str).Nodup) rfl (Or.inl rfl) (.inr rfl))) (fun _ _ _ _ _ _ hp => (pe_can c_count_read (hr.mono (by decide)) hp (pa_cons (pv 0) pa_nil)))))), ?_⟩
    have sz : 6000 < sizeLine := by decide
    refine ⟨_, rfl, rfl, z, " ", rfl, rfl, blank_len, by omega, fun q hq => ⟨q, rfl, ⟨_, SqL.of upd_same⟩, fun p hp => ?_⟩⟩
    have hl : ((Txt.split z " ").map V.str).length < sizeLine := by rw [List.length_map]; have := PyProof.Rows.split_le z " "; omega
    have s0 : Same H (upd H q (.lst ((Txt.split z " ").map V.str))) := Same.upd0 hq
    have hp0 : H p = none := by
      cases e : H p with
      | none => rfl
      | some u => rw [s0 _ _ e] at hp; cases hp
    refine comp_listE hp upd_same hl (fun v => match v with | .str w => .int (Tx.valW w) | v => v) (fun v => ∀ w, v = .str w → Tx.okW w = true) (fun σ' => ∃ v0, σ' = [v0]) ⟨none, rfl⟩ ?_ ?_
    · rintro i x σ' H' hx ⟨v0, rfl⟩ sm KK kk
      obtain ⟨wd, hw, rfl⟩ := strs_at hx
      refine ⟨_, rfl, wd, rfl, ?_, fun ok H4 s4 => kk (fun w' e => by cases e; exact ok) [some (.str wd)] H4 ⟨_, rfl⟩ s4, fun nok H4 s4 => kn ?_ H4 (s0.trans (sm.trans s4))⟩
      · have := len_part (by decide +kernel) hw; omega
      · unfold Tx.side
        rw [if_neg fun a => by have := List.all_eq_true.mp a wd hw; rw [nok] at this; cases this]
    · intro H' gd sm hq'
      have al : (Txt.split z " ").all Tx.okW = true := List.all_eq_true.mpr fun wd hw => gd (.str wd) (List.mem_map_of_mem hw) wd rfl
      refine k ((Txt.split z " ").map Tx.valW) (by unfold Tx.side; rw [if_pos al]) p H' hp0 (s0.trans sm) ?_
      rw [hq', List.map_map, List.map_map]; rfl
/-! ### read -/
def NotS (K : PySem.W.Frag) (H : Hp) (v : V) : Prop := ∃ t, TyOf K H v t ∧ PySem.W.kitOne K t (.type "str") = some false
structure Pair (H H' : Hp) (p a b : Addr) (l r : List Int) : Prop where
  same : Same H H'
  np : H p = none
  na : H a = none
  nb : H b = none
  ne : a ≠ b
  tup : H' p = some (.tup [.ref a, .ref b])
  left : H' a = some (.lst (l.map V.int))
  right : H' b = some (.lst (r.map V.int))
def spRead (K : PySem.W.Frag) (c : Addr) : Sp := fun vs H Q E => ∃ v : V, vs = [v] ∧ ((NotS K H v ∧ E (.ref c) none H) ∨ ∃ z : Str, v = .str z ∧ z.length ≤ 5000 ∧ Tx.blanks z ≤ 63 ∧ (∀ l r, Tx.rd z = some (l, r) → ∀ p a b H', Pair H H' p a b l r → Q (.ref p) H') ∧ (Tx.rd z = none → ∀ H', Same H H' → E (.ref c) none H'))
theorem _root_.L2.Same.none {H H' : Hp} (s : Same H H') {p : Addr} (h : H' p = none) : H p = none := by
  cases e : H p with
  | none => rfl
  | some u => rw [s _ _ e] at h; cases h
theorem bar_len : (((" | " : Str).length) == 0) = false := by decide +kernel
theorem rd_dash : Tx.rd "-" = some ([], []) := by unfold Tx.rd; rw [if_pos rfl]
theorem rd_split {z : Str} (h : z ≠ "-") {ps : List Str} (e : Txt.split z " | " = ps) : Tx.rd z = Tx.rdP ps := by
  unfold Tx.rd; rw [if_neg h, e]
theorem cw_is {l r : List Int} (h1 : Small l) (h2 : Small r) : cwOk 999999999 l r = decide (Tx.Fit l r) := by
  by_cases f : Tx.Fit l r
  · rw [cw_fit f h1 h2, decide_eq_true f]
  · rw [decide_eq_false f]
    refine Bool.eq_false_iff.mpr fun q => f ?_
    unfold cwOk at q
    simp only [Bool.and_eq_true, decide_eq_true_eq, up_iff] at q
    exact ⟨q.1.1.1.1, q.1.1.2.1, q.1.2, q.2⟩
theorem side_few {z a : Str} {l : List Int} (hz : Tx.blanks z ≤ 63) (ha : a ∈ Txt.split z " | ") (h : Tx.side a = some l) : l.length ≤ 64 ∧ Small l := by
  obtain ⟨h1, _, h3⟩ := Tx.side_len h
  have h4 := Tx.words_le a
  have h5 := Tx.blanks_part ha
  exact ⟨by omega, h3⟩
theorem sc_read : FnScope ["text", "sides", "left", "right"] ["text"] (defScope (top 22)) := ⟨rfl, rfl, rfl, by decide +kernel, rfl, by decide +kernel, by decide +kernel⟩
theorem ok_read {f : Addr} {fd : FuncData} {e : EA} (F : Fun K "read" "read" (top 22) f fd) (B : Blt mg) (T : Kit K) (G : Glb mg) (Er : Errs K mg e) (c_side_read : Can P w K mg base (CXE true P w) 2 "side_read" ["text"] (spSR e.text))
    (c_check_weighing : Can P w K mg base (CXE false P w) 3 "check_weighing" ["highest", "left", "right"] (spCW e.weigh)) : FnOk P w K mg base (CXE true P w) 4 f fd ["text"] (spRead K e.text) := by
  refine F.okE sc_read (fun vs H Q E h => ?_) (fun cdv A outer s H vs Q E hr h L pass => ?_)
  · obtain ⟨v, rfl, _⟩ := h; rfl
  · obtain ⟨v, rfl, h⟩ := h
    obtain ⟨t1, m_HIGHEST⟩ := G.high
    obtain ⟨t2, m_NONE⟩ := G.none
    obtain ⟨t3, m_BETWEEN_SIDES⟩ := G.betw
    have xT := Er.exc _ e.m6
    have exw : PySem.W.exmOne K (.ref e.weigh) (.ref e.weigh) = some true := by rw [Er.exs _ e.m2 _ e.m2]; simp
    refine ⟨_, (pss_cons (ps_if (pt_not (pt_val (pe_callB call_isi (by rfl) B.isi boot_isi (pa_cons (pv 0) (pa_cons (pe_bltn (v := .ty "str") (by rfl) B.str boot_strT rfl) pa_nil))))) (pss_one (ps_raise L rfl rfl (by rfl) Er.m_text xT)) pss_nil)
      (pss_cons (ps_if (pt_cmpR op_eq (pv 0) (pe_glob (v := .str "-") (by rfl) m_NONE ⟨_, rfl⟩) (nomark _)) (pss_one (ps_ret (pe_tup (pa_cons (pe_lst pa_nil) (pa_cons (pe_lst pa_nil) pa_nil))))) pss_nil)
      (pss_cons (ps_set (i := 1) sc_read.nd rfl (Or.inl rfl) (pe_bm PySem.F.plainAttrs_str PySem.F.slot_str_split PySem.F.type_str_split mt_split (pv 0) (pa_cons (pe_glob (v := .str " | ") (by rfl) m_BETWEEN_SIDES ⟨_, rfl⟩) pa_nil)))
      (pss_cons (ps_if (pt_cmpR op_ne (pe_callB call_len_seq (by rfl) B.len boot_lenB (pa_cons (pv 1) pa_nil)) pe_int (nomark _)) (pss_one (ps_raise L rfl rfl (by rfl) Er.m_text xT)) pss_nil)
      (pss_cons (ps_set (i := 2) sc_read.nd rfl (Or.inl rfl) (pe_can c_side_read (hr.mono (by decide)) pass (pa_cons (pe_ix ix_list (pv 1) pe_int (fun _ _ => rfl)) pa_nil)))
      (pss_cons (ps_set (i := 3) sc_read.nd rfl (Or.inl rfl) (pe_can c_side_read (hr.mono (by decide)) pass (pa_cons (pe_ix ix_list (pv 1) pe_int (fun _ _ => rfl)) pa_nil)))
      (pss_cons (ps_tryFrom L rfl rfl rfl (by rfl) Er.m_weigh (by rfl) Er.m_text xT (fun F pn E' hp => pss_one (ps_expr (pe_can c_check_weighing (hr.mono (by decide)) hp (pa_cons (pe_glob (v := .int 999999999) (by rfl) m_HIGHEST ⟨_, rfl⟩) (pa_cons (pv 2) (pa_cons (pv 3) pa_nil)))))))
      (pss_one (ps_ret (pe_tup (pa_cons (pv 2) (pa_cons (pv 3) pa_nil)))))))))))), ?_⟩
    rcases h with ⟨⟨t, ty, kt⟩, ke⟩ | ⟨z, rfl, hz, hbl, k, kn⟩
    · exact ⟨_, rfl, _, _, _, _, rfl, ty, kt, _, rfl, iteT ke⟩
    refine ⟨_, rfl, _, _, _, _, rfl, .str z, T.ss, _, rfl, iteF ?_⟩
    refine ⟨_, rfl, rfl, _, rfl, ?_⟩
    by_cases h0 : z = "-"
    · refine tru (decide_eq_true (by rw [h0])) ?_
      refine ⟨by show 0 ≤ sizeLine; decide, fun a ha => ⟨by show 0 ≤ sizeLine; decide, fun b hb => ⟨by show 2 ≤ sizeLine; decide, fun p hp => ?_⟩⟩⟩
      have hb0 := (Same.upd0 (o := HO.lst []) ha).none hb
      have hp1 := (Same.upd0 (o := HO.lst []) hb).none hp
      have nab : a ≠ b := fun q => by rw [← q, upd_same] at hb; cases hb
      refine k [] [] (by rw [h0]; exact rd_dash) p a b _ ⟨((Same.upd0 ha).upd hb).upd hp, (Same.upd0 (o := HO.lst []) ha).none hp1, ha, hb0, nab, upd_same, ?_, ?_⟩
      · have ea : upd (upd H a (.lst [])) b (.lst []) a = some (.lst []) := by rw [upd_ne nab, upd_same]
        rw [upd_ne (ne_of_none ea hp)]; exact ea
      · rw [upd_ne (ne_of_none upd_same hp), upd_same]; rfl
    refine fls (decide_eq_false fun q => h0 (V.str.inj q)) ?_
    have sz : 6000 < sizeLine := by decide
    refine ⟨_, rfl, rfl, z, " | ", rfl, rfl, bar_len, by omega, fun q hq => ?_⟩
    have s0 : Same H (upd H q (.lst ((Txt.split z " | ").map V.str))) := Same.upd0 hq
    have hqs : upd H q (.lst ((Txt.split z " | ").map V.str)) q = some (.lst ((Txt.split z " | ").map V.str)) := upd_same
    generalize upd H q (.lst ((Txt.split z " | ").map V.str)) = Hq at s0 hqs ⊢
    refine ⟨_, rfl, q, _, rfl, .inl (SqL.of hqs), rfl, _, rfl, ?_⟩
    by_cases h2 : (Txt.split z " | ").length = 2
    · refine iteNS (by show V.int _ = V.int _; rw [List.length_map, h2]; rfl) ?_
      obtain ⟨a, b, hab⟩ : ∃ a b, Txt.split z " | " = [a, b] := by
        match hs : Txt.split z " | ", h2 with
        | [a, b], _ => exact ⟨a, b, rfl⟩
      have ma : a ∈ Txt.split z " | " := by rw [hab]; simp
      have mb : b ∈ Txt.split z " | " := by rw [hab]; simp
      have rdz : Tx.rd z = Tx.rd2 a b := rd_split h0 hab
      rw [hab] at hqs
      have la := len_part (by decide +kernel) ma
      have lb := len_part (by decide +kernel) mb
      refine ⟨_, rfl, _, _, _, _, rfl, rfl, SqL.of hqs, atI_nat (j := 0) rfl, a, rfl, by omega, fun l sl pl H1 npl s1 el => ?_, fun sn H1 s1 => kn (by rw [rdz]; unfold Tx.rd2; rw [sn]) H1 (s0.trans s1)⟩
      refine ⟨_, rfl, _, _, _, _, rfl, rfl, SqL.of (s1 _ _ hqs), atI_nat (j := 1) rfl, b, rfl, by omega, fun r sr pr H2 npr s2 er => ?_, fun sn H2 s2 => kn (by rw [rdz]; unfold Tx.rd2; rw [sl, sn]) H2 (s0.trans (s1.trans s2))⟩
      have fl := side_few hbl ma sl
      have fr := side_few hbl mb sr
      have rf : Tx.rd z = Tx.fits l r := by rw [rdz]; unfold Tx.rd2; rw [sl, sr]
      have s02 := s0.trans (s1.trans s2)
      refine ⟨_, rfl, _, rfl, 999999999, pl, pr, l, r, rfl, s2 _ _ el, er, by omega, by omega, fun ok H3 s3 => ?_, fun nok H3 s3 => ⟨e.weigh, rfl, exw, kn ?_ H3 (s02.trans s3)⟩⟩
      · rw [cw_is fl.2 fr.2] at ok
        refine ⟨_, rfl, _, rfl, by show 2 ≤ sizeLine; decide, fun p hp => ?_⟩
        have el3 := s3 _ _ (s2 _ _ el)
        have er3 := s3 _ _ er
        refine k l r (by rw [rf]; unfold Tx.fits; rw [if_pos (of_decide_eq_true ok)]) p pl pr _ ⟨(s02.trans s3).upd hp, (s02.trans s3).none hp, s0.none npl, (s0.trans s1).none npr, fun q => ?_, upd_same, ?_, ?_⟩
        · rw [← q, el] at npr; cases npr
        · rw [upd_ne (ne_of_none el3 hp)]; exact el3
        · rw [upd_ne (ne_of_none er3 hp)]; exact er3
      · rw [cw_is fl.2 fr.2] at nok
        rw [rf]; unfold Tx.fits; rw [if_neg (of_decide_eq_false nok)]
    · refine tru ?_ (kn ?_ Hq s0)
      · show (!decide (V.int _ = V.int _)) = true
        rw [List.length_map, decide_eq_false (fun z => h2 (by injection z with z; omega))]; rfl
      · rw [rd_split h0 rfl]
        match hs : Txt.split z " | " with
        | [] => rfl
        | [_] => rfl
        | [_, _] => rw [hs] at h2; exact absurd rfl h2
        | _ :: _ :: _ :: _ => rfl
end
end Ks

end
section
namespace L2
open PySem PySem.Spec PyProof.Rows
/-- a comprehension over a list of two -/
theorem comp_two {KK : PySem.W.Frag} {a : Addr} {x0 x1 : V} {g : TG} {te : TE} {H1 : Hp} {σ0 : St} {R : Hp → Prop} {p : Addr} (A0 : V → St → Hp → Prop) (A1 : V → V → St → Hp → Prop) (hp : H1 p = none) (ha : H1 a = some (.lst [x0, x1]))
    (s0 : ∀ K : V → St → Hp → Prop, (∀ v0 σ2 H4, A0 v0 σ2 H4 → K v0 σ2 H4) → g x0 σ0 (upd H1 p (.lst [])) fun σ2 H3 => te σ2 H3 fun v H4 => K v σ2 H4)
    (k0 : ∀ v0 σ2 H4, A0 v0 σ2 H4 → H4 p = some (.lst []) ∧ H4 a = some (.lst [x0, x1]))
    (s1 : ∀ v0 σ2 H4, A0 v0 σ2 H4 → ∀ K : V → St → Hp → Prop, (∀ v1 σ3 H6, A1 v0 v1 σ3 H6 → K v1 σ3 H6) → g x1 σ2 (upd H4 p (.lst [v0])) fun σ3 H5 => te σ3 H5 fun v H6 => K v σ3 H6)
    (k1 : ∀ v0 v1 σ3 H6, A1 v0 v1 σ3 H6 → H6 p = some (.lst [v0]) ∧ H6 a = some (.lst [x0, x1]) ∧ R (upd H6 p (.lst [v0, v1]))) :
    ∃ W : Nat → Nat → St → Hp → Prop, (∃ m, W 0 m σ0 (upd H1 p (.lst []))) ∧
      ∀ i m σ' H', W i m σ' H' → ((Itl KK a).stop i H' ∧ R H') ∨ ((Itl KK a).go i H' ∧ ∀ v H2, (Itl KK a).yld i H' v H2 → g v σ' H2 fun σ2 H3 => te σ2 H3 fun v H4 => ∃ ys, H4 p = some (.lst ys) ∧ ys.length < sizeLine ∧ ∃ m', m' < m ∧ W (i + 1) m' σ2 (upd H4 p (.lst (ys ++ [v])))) := by
  have nap : a ≠ p := ne_of_none ha hp
  refine ⟨fun i m σ' H' => (i = 0 ∧ m = 2 ∧ σ' = σ0 ∧ H' = upd H1 p (.lst [])) ∨ (i = 1 ∧ m = 1 ∧ ∃ v0 H4, A0 v0 σ' H4 ∧ H' = upd H4 p (.lst [v0])) ∨ (i = 2 ∧ m = 0 ∧ ∃ v0 v1 H6, A1 v0 v1 σ' H6 ∧ H' = upd H6 p (.lst [v0, v1])), ⟨2, .inl ⟨rfl, rfl, rfl, rfl⟩⟩, ?_⟩
  rintro i m σ' H' (⟨rfl, rfl, rfl, rfl⟩ | ⟨rfl, rfl, v0, H4, a0, rfl⟩ | ⟨rfl, rfl, v0, v1, H6, a1, rfl⟩)
  · have ea : upd H1 p (.lst []) a = some (.lst [x0, x1]) := by rw [upd_ne nap]; exact ha
    refine .inr ⟨⟨_, x0, SqL.of ea, rfl⟩, fun v H2 y => ?_⟩
    obtain ⟨e, y⟩ := y
    subst e
    have hv := y _ (SqL.of ea)
    cases hv
    refine s0 _ fun v0 σ2 H4 a0 => ⟨[], (k0 v0 σ2 H4 a0).1, by decide, 1, by decide, .inr (.inl ⟨rfl, rfl, v0, H4, a0, rfl⟩)⟩
  · have ea : upd H4 p (.lst [v0]) a = some (.lst [x0, x1]) := by rw [upd_ne nap]; exact (k0 _ _ _ a0).2
    refine .inr ⟨⟨_, x1, SqL.of ea, rfl⟩, fun v H2 y => ?_⟩
    obtain ⟨e, y⟩ := y
    subst e
    have hv := y _ (SqL.of ea)
    cases hv
    refine s1 v0 σ' H4 a0 _ fun v1 σ3 H6 a1 => ⟨[v0], (k1 v0 v1 σ3 H6 a1).1, (by show 1 < sizeLine; decide), 0, by decide, .inr (.inr ⟨rfl, rfl, v0, v1, H6, a1, rfl⟩)⟩
  · obtain ⟨_, e2, e3⟩ := k1 _ _ _ _ a1
    have ea : upd H6 p (.lst [v0, v1]) a = some (.lst [x0, x1]) := by rw [upd_ne nap]; exact e2
    exact .inl ⟨⟨_, SqL.of ea, Nat.le_refl _⟩, e3⟩
theorem CompSc.noFree {N : List Str} {sc0 scope : Scope} {own : List Str} (k : scope.kind = .function) (c : ∀ y ∈ scope.names, y.2 ≠ .cell) (l : ∀ x ∈ scope.names, x.2 = .local → scope.names.lookup x.1 = some .local) (nf : ∀ y ∈ scope.names, y.2 ≠ .free) : CompSc N sc0 scope own [] [] :=
  ⟨k, c, l, fun x hx e => absurd e (nf x hx), rfl, fun p hp => by simp at hp⟩
end L2

end
section
namespace Ks
open PySem L2
theorem flat_ints (l : List Int) : (l.map V.int).all flatV = true := by
  rw [List.all_eq_true]; intro x hx
  obtain ⟨k, _, rfl⟩ := List.mem_map.mp hx; rfl
theorem inV_ints (k : Int) : ∀ (l : List Int), inV (.int k) (l.map V.int) = decide (k ∈ l)
  | [] => by simp [inV]
  | x :: l => by
    have ih := inV_ints k l
    unfold inV at ih ⊢
    simp only [List.map_cons, List.any_cons]
    rw [ih]
    show ((x == k) || _) = _
    by_cases h : k = x
    · subst h; simp
    · have : (x == k) = false := beq_eq_false_iff_ne.mpr fun z => h z.symm
      rw [this]; simp [h]
theorem boot_anyB : bootBuiltins "any" = some (.builtin "any") := by decide +kernel
/-- what a word writes -/
def numV (w : Str) : V := if Tx.okW w = true then .int (Tx.valW w) else .non
theorem num_flat (ws : List Str) : (ws.map numV).all flatV = true := by
  rw [List.all_eq_true]; intro x hx
  obtain ⟨k, _, rfl⟩ := List.mem_map.mp hx
  unfold numV; split <;> rfl
theorem num_none (ws : List Str) : inV .non (ws.map numV) = !ws.all Tx.okW := by
  induction ws with
  | nil => rfl
  | cons w ws ih =>
    unfold inV at ih ⊢
    simp only [List.map_cons, List.any_cons, List.all_cons]
    rw [ih]
    have : eqV (numV w) .non = !Tx.okW w := by
      unfold numV
      cases Tx.okW w <;> rfl
    rw [this, Bool.not_and]
theorem inV_app (x : V) (a b : List V) : inV x (a ++ b) = (inV x a || inV x b) := by unfold inV; rw [List.any_append]
theorem num_ints {ws : List Str} (h : ws.all Tx.okW = true) : ws.map numV = (ws.map Tx.valW).map V.int := by
  rw [List.map_map]
  refine List.map_congr_left fun w hw => ?_
  unfold numV
  rw [if_pos (List.all_eq_true.mp h w hw)]; rfl
section
variable {P : Program} {w : World} {K : PySem.W.Frag} {mg : Str → Option Value} {base : Heap}
/-! ### _law_number -/
def spNum : Sp := fun vs H Q _ => ∃ z : Str, vs = [.str z] ∧ z.length ≤ 5000 ∧ Q (numV z) H
theorem sc__law_number : FnScope ["_law_text"] ["_law_text"] (defScope (top 26)) := ⟨rfl, rfl, rfl, by decide +kernel, rfl, by decide +kernel, by decide +kernel⟩
theorem s_empty : ("" : Str) = ⟨#[]⟩ := by decide +kernel
theorem ok__law_number {f : Addr} {fd : FuncData} (F : Fun K "_law_number" "_law_number" (top 26) f fd) (B : Blt mg) : FnOk P w K mg base CX0 1 f fd ["_law_text"] spNum := by
  refine F.ok sc__law_number (fun vs H Q E h => ?_) (fun cdv A outer s H vs Q E hr h => ?_)
  · obtain ⟨z, rfl, _⟩ := h; rfl
  · obtain ⟨z, rfl, hz, k⟩ := h
    refine ⟨_, (pss_cons (ps_if (PW.pt (pw_or (pt_cmpR op_eq (pv 0) pe_str (nomark _)) (pw_or (pt_cmpR op_gt (pe_callB call_len_str (by rfl) B.len boot_lenB (pa_cons (pv 0) pa_nil)) pe_int (nomark _)) (pw_or (pt_cmpR op_ne (pe_bm PySem.F.plainAttrs_str PySem.F.slot_str_strip PySem.F.type_str_strip mt_strip (pv 0) (pa_cons pe_str pa_nil)) pe_str (nomark _)) (pw_or1 (PW.pt (pw_and (pt_cmpR op_eq (pe_ix ix_str (pv 0) pe_int (fun _ _ => rfl)) pe_str (nomark _)) (pw_and1 (pt_cmpR op_ne (pv 0) pe_str (nomark _)))))))))) (pss_one (ps_ret pe_non)) pss_nil)
      (pss_one (ps_ret (pe_callTy call_intS (by rfl) B.int boot_intT (pa_cons (pv 0) pa_nil))))), ?_⟩
    have sz : 6000 < sizeLine := by decide
    have ln := len_list z
    have bad : Tx.okW z = false → Q .non H := fun e => by unfold numV at k; rw [if_neg (by rw [e]; simp)] at k; exact k
    have good : Tx.okW z = true → Q (.int (Tx.valW z)) H := fun e => by unfold numV at k; rw [if_pos e] at k; exact k
    have num : Tx.okW z = true → intText? z = some (Tx.valW z) ∧ z.length ≤ 640 := fun ok => by
      obtain ⟨x1, x2, x3, _⟩ := Tx.okL_iff ok
      exact ⟨PySem.intText_digits x3 x1 (by omega), by omega⟩
    refine ⟨_, rfl, rfl, _, rfl, ?_⟩
    by_cases h0 : z.length = 0
    · have e : z = "" := by rw [str_eq_list, s_empty]; exact List.length_eq_zero_iff.mp (by rw [← ln]; exact h0)
      refine tru (decide_eq_true (by rw [e])) (tru rfl (bad ?_))
      unfold Tx.okW Tx.okL; rw [← ln, h0]; rfl
    refine fls (decide_eq_false fun q => h0 (by rw [V.str.inj q]; decide +kernel)) ?_
    refine ⟨_, rfl, z, rfl, by omega, _, _, rfl, rfl, _, rfl, ?_⟩
    by_cases h9 : (z.length : Int) > 9
    · refine tru (decide_eq_true h9) (tru rfl (bad ?_))
      unfold Tx.okW Tx.okL; rw [← ln, decide_eq_true (show 1 ≤ z.length by omega), decide_eq_false (show ¬ z.length ≤ 9 by omega)]; rfl
    refine fls (decide_eq_false h9) ?_
    refine ⟨_, rfl, rfl, z, _, rfl, rfl, by omega, rfl, _, rfl, ?_⟩
    have es : decide (V.str (Txt.stripChars z "0123456789") = V.str "") = z.cps.toList.all Tx.isFig := by
      have e1 : decide (V.str (Txt.stripChars z "0123456789") = V.str "") = decide (Txt.stripChars z "0123456789" = ⟨#[]⟩) := decide_eq_decide.mpr (by rw [s_empty]; exact ⟨V.str.inj, congrArg V.str⟩)
      rw [e1, Tx.strip_all]
      congr 1
      funext c
      rw [← fig_mem c, ← Array.contains_toList]
      simp
    cases hf : z.cps.toList.all Tx.isFig with
    | false =>
      refine tru (by rw [es, hf]; rfl) (tru rfl (bad ?_))
      unfold Tx.okW Tx.okL; rw [hf, Bool.and_false]; rfl
    | true =>
      refine fls (by rw [es, hf]; rfl) ?_
      obtain ⟨d, hd⟩ := first_at h0
      have hh := head_zero hd
      have okz : Tx.okW z = (!(decide (d = 48)) || decide (z = "0")) := by
        have e3 : decide (z.cps.toList = [48]) = decide (z = "0") := decide_eq_decide.mpr (by rw [str_eq_list, s_zero])
        unfold Tx.okW Tx.okL
        rw [← ln, decide_eq_true (show 1 ≤ z.length by omega), decide_eq_true (show z.length ≤ 9 by omega), hf, hh, e3]
        simp
      have ed : decide (V.str ⟨#[d]⟩ = V.str "0") = decide (d = 48) := decide_eq_decide.mpr ⟨fun q => by
        have q := V.str.inj q
        rw [s_zero] at q
        have := congrArg (fun x : Str => x.cps.toList) q
        simpa using this, fun q => by rw [q, s_zero]⟩
      refine ⟨_, rfl, z, 0, d, rfl, rfl, by omega, hd, rfl, _, rfl, ?_⟩
      by_cases h48 : d = 48
      · refine tru (by rw [ed, decide_eq_true h48]) ⟨_, rfl, rfl, _, rfl, ?_⟩
        by_cases hz0 : z = "0"
        · have ok : Tx.okW z = true := by rw [okz, decide_eq_true hz0]; simp
          exact iteNS (congrArg V.str hz0) ⟨_, rfl, z, _, rfl, (num ok).1, (num ok).2, good ok⟩
        · have ok : Tx.okW z = false := by rw [okz, decide_eq_false hz0, decide_eq_true h48]; rfl
          exact tru (by rw [decide_eq_false (fun q => hz0 (V.str.inj q))]; rfl) (bad ok)
      · have ok : Tx.okW z = true := by rw [okz, decide_eq_false h48]; rfl
        exact fls (by rw [ed, decide_eq_false h48]) (fls rfl ⟨_, rfl, z, _, rfl, (num ok).1, (num ok).2, good ok⟩)
end
end Ks

end
section
namespace Ks
open PySem L2
theorem rise_ext' : ∀ {a b : List Int}, a.Pairwise (· < ·) → b.Pairwise (· < ·) → (∀ y, y ∈ a ↔ y ∈ b) → a = b
  | [], [], _, _, _ => rfl
  | [], y :: b, _, _, h => by have := (h y).mpr List.mem_cons_self; simp at this
  | x :: a, [], _, _, h => by have := (h x).mp List.mem_cons_self; simp at this
  | x :: a, y :: b, ha, hb, h => by
    rw [List.pairwise_cons] at ha hb
    have hxy : x = y := by
      have h1 := (h x).mp List.mem_cons_self
      have h2 := (h y).mpr List.mem_cons_self
      rcases List.mem_cons.mp h1 with e | e
      · exact e
      · rcases List.mem_cons.mp h2 with e2 | e2
        · exact e2.symm
        · have := hb.1 x e; have := ha.1 y e2; omega
    subst hxy
    congr 1
    refine rise_ext' ha.2 hb.2 fun z => ⟨fun hz => ?_, fun hz => ?_⟩
    · rcases List.mem_cons.mp ((h z).mp (List.mem_cons_of_mem _ hz)) with e | e
      · have := ha.1 z hz; omega
      · exact e
    · rcases List.mem_cons.mp ((h z).mpr (List.mem_cons_of_mem _ hz)) with e | e
      · have := hb.1 z hz; omega
      · exact e
theorem sorted_is {l ms ks : List Int} (h1 : ∀ y, y ∈ ms ↔ y ∈ l) (h2 : ms.Nodup) (h3 : List.Perm ks ms) (h4 : ks.Pairwise (· ≤ ·)) : decide (l = ks) = decide (l.Pairwise (· < ·)) := by
  have nd : ks.Nodup := h3.nodup_iff.mpr h2
  have lt : ks.Pairwise (· < ·) := by
    rw [List.Nodup] at nd
    exact List.Pairwise.imp₂ (fun a b hab hne => by omega) h4 nd
  by_cases h : l.Pairwise (· < ·)
  · rw [decide_eq_true h]
    refine decide_eq_true (rise_ext' h lt fun y => ?_)
    rw [h3.mem_iff, h1]
  · rw [decide_eq_false h]
    exact decide_eq_false fun e => h (by rw [e]; exact lt)
section
variable {P : Program} {w : World} {K : PySem.W.Frag} {mg : Str → Option Value} {base : Heap}
/-! ### _law_in -/
def spIn : Sp := fun vs H Q _ => ∃ z : Str, vs = [.str z] ∧ z.length ≤ 5000 ∧ Tx.blanks z ≤ 63 ∧ (Tx.rd z = none → ∀ H', Same H H' → Q .non H') ∧ (∀ l r, Tx.rd z = some (l, r) → ∀ p a b H', Pair H H' p a b l r → Q (.ref p) H')
theorem sc__law_in : FnScope ["_law_text", "_law_sides", "_law_found", "_law_side"] ["_law_text"] (defScope (top 27)) := ⟨rfl, rfl, rfl, by decide +kernel, rfl, by decide +kernel, by decide +kernel⟩
theorem two_blanks {z a b : Str} (h : Txt.split z " | " = [a, b]) : Tx.blanks a + Tx.blanks b + 2 = Tx.blanks z := by
  have j := StrLaws.join_split z " | "
  rw [h] at j
  have e : Str.join " | " [a, b] = a ++ " | " ++ b := rfl
  rw [e] at j
  rw [← j, Tx.blanks_app, Tx.blanks_app]
  have : Tx.blanks " | " = 2 := by decide +kernel
  omega
/-- one side's words -/
theorem words_of {y : Str} {Hs : Hp} {K' : V → Hp → Prop} (hy : y.length ≤ 5000) (fin : ∀ p2 H', Hs p2 = none → Same Hs H' → H' p2 = some (.lst ((Txt.split y " ").map numV)) → K' (.ref p2) H') :
    (tComp (iList K (tBM K "str" rSplit (tVar 0) (tCons (tC (.str " ")) tNil))) (gName 0) (tCall spNum [] E0 (tCons (tVar 0) tNil)) 1 []) [some (.str y)] Hs K' := by
  have sz : 6000 < sizeLine := by decide
  refine ⟨_, rfl, rfl, y, " ", rfl, rfl, blank_len, by omega, fun q2 hq2 => ⟨q2, rfl, ⟨_, SqL.of upd_same⟩, fun p2 hp2 => ?_⟩⟩
  have s0 : Same Hs (upd Hs q2 (.lst ((Txt.split y " ").map V.str))) := Same.upd0 hq2
  refine comp_list hp2 upd_same (by rw [List.length_map]; have := PyProof.Rows.split_le y " "; omega) (fun v => match v with | .str w => numV w | v => v) (fun σ' => ∃ v0, σ' = [v0]) ⟨none, rfl⟩ ?_ ?_
  · rintro i x σ' H' hx ⟨v0, rfl⟩ sm KK kk
    obtain ⟨wd, hw, rfl⟩ := strs_at hx
    have := len_part (by decide +kernel) hw
    exact ⟨_, rfl, wd, rfl, by omega, kk [some (.str wd)] H' ⟨_, rfl⟩ (Same.refl _)⟩
  · intro H' sm hq'
    refine fin p2 H' (s0.none hp2) (s0.trans sm) ?_
    rw [hq', List.map_map]; rfl
theorem ok__law_in {f : Addr} {fd : FuncData} (F : Fun K "_law_in" "_law_in" (top 27) f fd) (B : Blt mg) (c__law_number : Can P w K mg base CX0 1 "_law_number" ["_law_text"] spNum) : FnOk P w K mg base CX0 2 f fd ["_law_text"] spIn := by
  refine F.ok sc__law_in (fun vs H Q E h => ?_) (fun cdv A outer s H vs Q E hr h => ?_)
  · obtain ⟨z, rfl, _⟩ := h; rfl
  · obtain ⟨z, rfl, hz, hbl, kn, k⟩ := h
    have hu : _ < cLine := Nat.lt_of_succ_lt (hu_of hr)
    refine ⟨_, (pss_cons (ps_if (pt_cmpR op_eq (pv 0) pe_str (nomark _)) (pss_one (ps_ret (pe_tup (pa_cons (pe_lst pa_nil) (pa_cons (pe_lst pa_nil) pa_nil))))) pss_nil)
      (pss_cons (ps_set (i := 1) sc__law_in.nd rfl (Or.inl rfl) (pe_bm PySem.F.plainAttrs_str PySem.F.slot_str_split PySem.F.type_str_split mt_split (pv 0) (pa_cons pe_str pa_nil)))
      (pss_cons (ps_if (pt_cmpR op_ne (pe_callB call_len_seq (by rfl) B.len boot_lenB (pa_cons (pv 1) pa_nil)) pe_int (nomark _)) (pss_one (ps_ret pe_non)) pss_nil)
      (pss_cons (ps_set (i := 2) sc__law_in.nd rfl (Or.inr rfl) (pe_comp (te := tComp (iList K (tBM K "str" rSplit (tVar 0) (tCons (tC (.str " ")) tNil))) (gName 0) (tCall spNum [] E0 (tCons (tVar 0) tNil)) 1 []) (N := ["_law_text", "_law_sides", "_law_found", "_law_side"]) (sc0 := defScope (top 27)) ["_law_side"] [] [] rfl rfl rfl ⟨rfl, by decide +kernel, by decide +kernel, by decide +kernel, rfl, by decide +kernel⟩ (pi_list (pv 1)) (fun _ _ _ _ => (pg_name (i := 0) (by decide +kernel : (["_law_side"] : List Str).Nodup) rfl (Or.inl rfl) (.inr rfl))) (fun _ _ _ _ => by exact (pe_comp (N := ["_law_side"]) ["_law_word"] [] [] rfl rfl rfl (CompSc.noFree rfl (by decide +kernel) (by decide +kernel) (by decide +kernel)) (pi_list (pe_bm PySem.F.plainAttrs_str PySem.F.slot_str_split PySem.F.type_str_split mt_split (pv 0) (pa_cons pe_str pa_nil))) (fun _ _ _ _ => (pg_name (i := 0) (by decide +kernel : (["_law_word"] : List Str).Nodup) rfl (Or.inl rfl) (.inr rfl))) (fun _ _ _ _ => (pe_can c__law_number (hr.mono (by decide)) pass0 (pa_cons (pv 0) pa_nil)))))))
      (pss_cons (ps_if (PW.pt (pw_or (pt_cmpR op_in_seq pe_non (pe_op op_cat (pe_ix ix_list (pv 2) pe_int (fun _ _ => rfl)) (pe_ix ix_list (pv 2) pe_int (fun _ _ => rfl))) rfl) (pw_or1 (pt_cmpR op_ne (pe_callB call_len_seq (by rfl) B.len boot_lenB (pa_cons (pe_ix ix_list (pv 2) pe_int (fun _ _ => rfl)) pa_nil)) (pe_callB call_len_seq (by rfl) B.len boot_lenB (pa_cons (pe_ix ix_list (pv 2) pe_int (fun _ _ => rfl)) pa_nil)) (nomark _))))) (pss_one (ps_ret pe_non)) pss_nil)
      (pss_cons (ps_for PassesOwn.never rfl (pi_list (pv 2)) (pg_name (i := 3) sc__law_in.nd rfl (Or.inl rfl)) (pss_one (ps_if (pt_cmpR (op_neL hu) (pv 3) (pe_callB (call_sortedS rfl) (by rfl) B.sorted boot_sortedB (pa_cons (pe_callTy (call_setL rfl) (by rfl) B.set boot_setT (pa_cons (pv 3) pa_nil)) pa_nil)) (nomark _)) (pss_one (ps_ret pe_non)) pss_nil)))
      (pss_one (ps_ret (pe_ifExp (pt_val (pe_callB (call_anyL rfl) (by rfl) B.any boot_anyB (pa_cons (pe_comp (N := ["_law_text", "_law_sides", "_law_found", "_law_side"]) (sc0 := defScope (top 27)) ["_law_coin"] ["_law_found"] [2] rfl rfl rfl ⟨rfl, by decide +kernel, by decide +kernel, by decide +kernel, rfl, by decide +kernel⟩ (pi_list (pe_ix ix_list (pv 2) pe_int (fun _ _ => rfl))) (fun _ _ _ _ => (pg_name (i := 0) (by decide +kernel : (["_law_coin", "_law_found"] : List Str).Nodup) rfl (Or.inl rfl) (.inr rfl))) (fun _ _ _ _ => (pe_cmpR (op_in_seqK (K := K) rfl) (pv 0) (pe_ix (ix_listK (K := K) rfl) (pv 1) pe_int (fun _ _ => rfl)) rfl))) pa_nil))) pe_non (pe_tup (pa_cons (pe_ix ix_list (pv 2) pe_int (fun _ _ => rfl)) (pa_cons (pe_ix ix_list (pv 2) pe_int (fun _ _ => rfl)) pa_nil)))))))))))), ?_⟩
    refine ⟨_, rfl, rfl, _, rfl, ?_⟩
    by_cases h0 : z = "-"
    · refine tru (decide_eq_true (by rw [h0])) ?_
      refine ⟨by show 0 ≤ sizeLine; decide, fun a ha => ⟨by show 0 ≤ sizeLine; decide, fun b hb => ⟨by show 2 ≤ sizeLine; decide, fun p hp => ?_⟩⟩⟩
      have hb0 := (Same.upd0 (o := HO.lst []) ha).none hb
      have hp1 := (Same.upd0 (o := HO.lst []) hb).none hp
      have nab : a ≠ b := fun q => by rw [← q, upd_same] at hb; cases hb
      refine k [] [] (by rw [h0]; exact rd_dash) p a b _ ⟨((Same.upd0 ha).upd hb).upd hp, (Same.upd0 (o := HO.lst []) ha).none hp1, ha, hb0, nab, upd_same, ?_, ?_⟩
      · have ea : upd (upd H a (.lst [])) b (.lst []) a = some (.lst []) := by rw [upd_ne nab, upd_same]
        rw [upd_ne (ne_of_none ea hp)]; exact ea
      · rw [upd_ne (ne_of_none upd_same hp), upd_same]; rfl
    refine fls (decide_eq_false fun q => h0 (V.str.inj q)) ?_
    have sz : 6000 < sizeLine := by decide
    refine ⟨_, rfl, rfl, z, " | ", rfl, rfl, bar_len, by omega, fun q hq => ?_⟩
    have s0 : Same H (upd H q (.lst ((Txt.split z " | ").map V.str))) := Same.upd0 hq
    have hqs : upd H q (.lst ((Txt.split z " | ").map V.str)) q = some (.lst ((Txt.split z " | ").map V.str)) := upd_same
    generalize upd H q (.lst ((Txt.split z " | ").map V.str)) = Hq at s0 hqs ⊢
    refine ⟨_, rfl, q, _, rfl, .inl (SqL.of hqs), rfl, _, rfl, ?_⟩
    by_cases h2 : (Txt.split z " | ").length = 2
    rotate_left
    · refine tru ?_ (kn ?_ Hq s0)
      · show (!decide (V.int _ = V.int _)) = true
        rw [List.length_map, decide_eq_false (fun z => h2 (by injection z with z; omega))]; rfl
      · rw [rd_split h0 rfl]
        match hs : Txt.split z " | " with
        | [] => rfl
        | [_] => rfl
        | [_, _] => rw [hs] at h2; exact absurd rfl h2
        | _ :: _ :: _ :: _ => rfl
    refine iteNS (by show V.int _ = V.int _; rw [List.length_map, h2]; rfl) ?_
    obtain ⟨a, b, hab⟩ : ∃ a b, Txt.split z " | " = [a, b] := by
      match hs : Txt.split z " | ", h2 with
      | [a, b], _ => exact ⟨a, b, rfl⟩
    have ma : a ∈ Txt.split z " | " := by rw [hab]; simp
    have mb : b ∈ Txt.split z " | " := by rw [hab]; simp
    have rdz : Tx.rd z = Tx.rd2 a b := rd_split h0 hab
    have tb := two_blanks hab
    have wa := Tx.words_le a
    have wb := Tx.words_le b
    rw [hab] at hqs
    have la := len_part (by decide +kernel) ma
    have lb := len_part (by decide +kernel) mb
    refine ⟨_, rfl, q, rfl, ⟨_, SqL.of hqs⟩, fun p hp => comp_two
      (fun v0 σ2 H4 => ∃ qa, v0 = .ref qa ∧ Hq qa = none ∧ qa ≠ p ∧ Same (upd Hq p (.lst [])) H4 ∧ H4 qa = some (.lst ((Txt.split a " ").map numV)) ∧ ∃ u, σ2 = [u])
      (fun v0 v1 σ3 H6 => ∃ qa qb, v0 = .ref qa ∧ v1 = .ref qb ∧ Hq qa = none ∧ Hq qb = none ∧ qa ≠ qb ∧ qa ≠ p ∧ qb ≠ p ∧ Same Hq H6 ∧ H6 p = some (.lst [.ref qa]) ∧ H6 qa = some (.lst ((Txt.split a " ").map numV)) ∧ H6 qb = some (.lst ((Txt.split b " ").map numV)))
      hp hqs ?_ ?_ ?_ ?_⟩
    · intro K' kk
      refine words_of (K' := fun v H4 => K' v [some (.str a)] H4) (by omega) fun p2 H' np2 sm e2 => kk _ _ _ ⟨p2, rfl, (Same.upd0 hp).none np2, fun z => ?_, sm, e2, _, rfl⟩
      rw [z, upd_same] at np2; cases np2
    · rintro v0 σ2 H4 ⟨qa, rfl, nqa, nep, sm, e2, u, rfl⟩
      exact ⟨sm _ _ upd_same, sm _ _ (by rw [upd_ne (ne_of_none hqs hp)]; exact hqs)⟩
    · rintro v0 σ2 H4 ⟨qa, rfl, nqa, nep, sm, e2, u, rfl⟩ K' kk
      refine words_of (K' := fun v H4 => K' v [some (.str b)] H4) (by omega) fun p2 H' np2 sm2 e3 => kk _ _ _ ?_
      have np : p2 ≠ p := fun z => by rw [z, upd_same] at np2; cases np2
      have n4 : H4 p2 = none := by rw [upd_ne np] at np2; exact np2
      have sH : Same Hq H4 := (Same.upd0 hp).trans sm
      refine ⟨qa, p2, rfl, rfl, nqa, sH.none n4, fun z => ?_, nep, np, (sH.put' hp).trans sm2, sm2 _ _ upd_same, sm2 _ _ (by rw [upd_ne nep]; exact e2), e3⟩
      rw [← z, e2] at n4; cases n4
    · rintro v0 v1 σ3 H6 ⟨qa, qb, rfl, rfl, nqa, nqb, nab, na, nb, sm, e6, ea6, eb6⟩
      refine ⟨e6, sm _ _ hqs, ?_⟩
      have sF : Same Hq (upd H6 p (.lst [.ref qa, .ref qb])) := sm.put' hp
      have ep : upd H6 p (.lst [.ref qa, .ref qb]) p = some (.lst [.ref qa, .ref qb]) := upd_same
      have ea : upd H6 p (.lst [.ref qa, .ref qb]) qa = some (.lst ((Txt.split a " ").map numV)) := by rw [upd_ne na]; exact ea6
      have eb : upd H6 p (.lst [.ref qa, .ref qb]) qb = some (.lst ((Txt.split b " ").map numV)) := by rw [upd_ne nb]; exact eb6
      generalize upd H6 p (.lst [.ref qa, .ref qb]) = Hf at sF ep ea eb ⊢
      have s0F := s0.trans sF
      have lw : ∀ y : Str, y.length ≤ 5000 → (Txt.split y " ").length ≤ 5002 := fun y hy => Nat.le_trans (PyProof.Rows.split_le y " ") (by omega)
      have lwa := lw a (by omega)
      have lwb := lw b (by omega)
      have big : 20000 ≤ sizeLine := by decide
      have hsum : ((Txt.split a " ").map numV).length + ((Txt.split b " ").map numV).length ≤ sizeLine := by
        rw [List.length_map, List.length_map]
        omega
      refine ⟨_, rfl, _, _, _, _, rfl, rfl, SqL.of ep, atI_nat (j := 0) rfl, _, rfl, _, _, _, _, rfl, rfl, SqL.of ep, atI_nat (j := 1) rfl, qa, qb, _, _, rfl, rfl, ea, eb, hsum, fun p3 hp3 => ⟨p3, _, rfl, .inl (SqL.of upd_same), rfl, (by rw [List.all_append, num_flat, num_flat]; rfl), _, rfl, ?_⟩⟩
      have en : inV .non ((Txt.split a " ").map numV ++ (Txt.split b " ").map numV) = !((Txt.split a " ").all Tx.okW && (Txt.split b " ").all Tx.okW) := by rw [inV_app, num_none, num_none, Bool.not_and]
      have s3 : Same Hf (upd Hf p3 (.lst ((Txt.split a " ").map numV ++ (Txt.split b " ").map numV))) := Same.upd0 hp3
      generalize upd Hf p3 (.lst ((Txt.split a " ").map numV ++ (Txt.split b " ").map numV)) = H3 at s3 ⊢
      cases hall : ((Txt.split a " ").all Tx.okW && (Txt.split b " ").all Tx.okW) with
      | false =>
        refine tru (by show inV .non _ = true; rw [en, hall]; rfl) (tru rfl (kn ?_ _ (s0F.trans s3)))
        rw [rdz]; unfold Tx.rd2 Tx.side
        cases h1 : (Txt.split a " ").all Tx.okW with
        | false => rfl
        | true =>
          rw [h1, Bool.true_and] at hall
          rw [hall]; rfl
      | true =>
        rw [Bool.and_eq_true] at hall
        obtain ⟨oka, okb⟩ := hall
        refine fls (by show inV .non _ = false; rw [en, oka, okb]; rfl) ?_
        have sa : Tx.side a = some ((Txt.split a " ").map Tx.valW) := by unfold Tx.side; rw [if_pos oka]
        have sb : Tx.side b = some ((Txt.split b " ").map Tx.valW) := by unfold Tx.side; rw [if_pos okb]
        rw [num_ints oka] at ea
        rw [num_ints okb] at eb
        have rf : Tx.rd z = Tx.fits ((Txt.split a " ").map Tx.valW) ((Txt.split b " ").map Tx.valW) := by rw [rdz]; unfold Tx.rd2; rw [sa, sb]
        have hl : ((Txt.split a " ").map Tx.valW).length < 64 := by rw [List.length_map]; omega
        have hlr : ((Txt.split b " ").map Tx.valW).length < 64 := by rw [List.length_map]; omega
        generalize (Txt.split a " ").map Tx.valW = l at ea rf hl
        generalize (Txt.split b " ").map Tx.valW = r at eb rf hlr
        have ea3 := s3 _ _ ea
        have eb3 := s3 _ _ eb
        have ep3 := s3 _ _ ep
        have s03 := s0F.trans s3
        have nf : ¬ Tx.Fit l r → Tx.rd z = none := fun nf => by rw [rf]; unfold Tx.fits; rw [if_neg nf]
        refine ⟨_, rfl, _, _, _, _, rfl, rfl, SqL.of ep3, atI_nat (j := 0) rfl, qa, _, rfl, .inl (SqL.of ea3), _, rfl, _, _, _, _, rfl, rfl, SqL.of ep3, atI_nat (j := 1) rfl, qb, _, rfl, .inl (SqL.of eb3), rfl, _, rfl, ?_⟩
        by_cases hlen : l.length = r.length
        rotate_left
        · refine tru ?_ (kn (nf fun f => hlen f.2.2.1) _ s03)
          show (!decide (V.int _ = V.int _)) = true
          rw [List.length_map, List.length_map, decide_eq_false (fun z => hlen (by injection z with z; omega))]; rfl
        refine iteNS (by show V.int _ = V.int _; rw [List.length_map, List.length_map, hlen]) ?_
        refine ⟨_, rfl, p, rfl, ⟨_, SqL.of ep3⟩, for_list (K := K) (a := p) (xs := [.ref qa, .ref qb]) (fun i σ H2 => Same H3 H2 ∧ (∃ v, σ = [some (.str z), some (.ref q), some (.ref p), v]) ∧ (1 ≤ i → l.Pairwise (· < ·)) ∧ (2 ≤ i → r.Pairwise (· < ·))) ?_ ?_ ?_ ?_⟩
        · exact ⟨Same.refl _, ⟨none, rfl⟩, fun h => by omega, fun h => by omega⟩
        · rintro i σ H2 _ ⟨sm2, _⟩
          exact SqL.of (sm2 _ _ ep3)
        · rintro i x σ H2 hx ⟨sm2, ⟨v, rfl⟩, o1, o2⟩
          obtain ⟨c, m, rfl, hc, hm, hnext, hstop⟩ : ∃ (c : Addr) (m : List Int), x = .ref c ∧ H2 c = some (.lst (m.map V.int)) ∧ m.length < 64 ∧ (m.Pairwise (· < ·) → (1 ≤ i + 1 → l.Pairwise (· < ·)) ∧ (2 ≤ i + 1 → r.Pairwise (· < ·))) ∧ (¬ m.Pairwise (· < ·) → ¬ Tx.Fit l r) := by
            match i, hx with
            | 0, hx => cases hx; exact ⟨qa, l, rfl, sm2 _ _ ea3, hl, fun h => ⟨fun _ => h, fun h => by omega⟩, fun h f => h f.1⟩
            | 1, hx => cases hx; exact ⟨qb, r, rfl, sm2 _ _ eb3, hlr, fun h => ⟨fun _ => o1 (by omega), fun _ => h⟩, fun h f => h f.2.1⟩
            | i + 2, hx => simp at hx
          refine ⟨_, rfl, _, rfl, c, m, rfl, SqL.of hc, by omega, fun p1 ms hp1 m1 nd1 => ?_⟩
          have hlen' : ms.length < 64 := by
            have := List.Nodup.length_le_of_subset nd1 (fun y hy => (m1 y).mp hy)
            omega
          refine ⟨p1, ms, rfl, upd_same, hlen', fun p2 ks hp2 perm srt => ?_⟩
          have e1 : upd H2 p1 (SetO w p1 ms) c = some (.lst (m.map V.int)) := by rw [upd_ne (ne_of_none hc hp1)]; exact hc
          have c2 : upd (upd H2 p1 (SetO w p1 ms)) p2 (.lst (ks.map V.int)) c = some (.lst (m.map V.int)) := by rw [upd_ne (ne_of_none e1 hp2)]; exact e1
          refine ⟨c, p2, _, _, rfl, rfl, SqL.of c2, SqL.of upd_same, flat_ints m, flat_ints ks, _, rfl, ?_⟩
          rw [L2.eqVs_ints, sorted_is m1 nd1 perm srt]
          have sF2 : Same H2 (upd (upd H2 p1 (SetO w p1 ms)) p2 (.lst (ks.map V.int))) := (Same.upd0 hp1).upd hp2
          by_cases hpw : m.Pairwise (· < ·)
          · rw [decide_eq_true hpw]
            refine iteF ?_
            obtain ⟨n1, n2⟩ := hnext hpw
            exact ⟨sm2.trans sF2, ⟨_, rfl⟩, n1, n2⟩
          · rw [decide_eq_false hpw]
            exact iteT (kn (nf (hstop hpw)) _ (s03.trans (sm2.trans sF2)))
        · rintro σ H2 ⟨sm2, ⟨v, rfl⟩, o1, o2⟩
          have risl := o1 (by show 1 ≤ 2; omega)
          have risr := o2 (by show 2 ≤ 2; omega)
          have ea2 := sm2 _ _ ea3
          have eb2 := sm2 _ _ eb3
          have ep2 := sm2 _ _ ep3
          refine ⟨_, rfl, _, _, _, _, rfl, rfl, SqL.of ep2, atI_nat (j := 0) rfl, qa, rfl, ⟨_, SqL.of ea2⟩, fun p5 hp5 => comp_list hp5 ea2 (by rw [List.length_map]; exact Nat.lt_trans hl (by decide)) (fun v => match v with | .int k => .bl (decide (k ∈ r)) | _ => .non) (fun σ' => ∃ v0, σ' = [v0, some (.ref p)]) ⟨none, rfl⟩ ?_ ?_⟩
          · rintro j x σ' H' hj ⟨v0, rfl⟩ sm' KK kk
            obtain ⟨ck, hk, rfl⟩ := ints_at hj
            refine ⟨_, rfl, _, rfl, _, _, _, _, rfl, rfl, SqL.of (sm' _ _ ep2), atI_nat (j := 1) rfl, qb, _, rfl, .inl (SqL.of (sm' _ _ eb2)), rfl, flat_ints r, ?_⟩
            have kk' := kk [some (.int ck), some (.ref p)] H' ⟨_, rfl⟩ (Same.refl _)
            rw [show (if false = true then !inV (V.int ck) (r.map V.int) else inV (V.int ck) (r.map V.int)) = decide (ck ∈ r) from inV_ints ck r]
            exact kk'
          · intro H5 s5 hq5
            have e5 : (l.map V.int).map (fun v => match v with | .int k => V.bl (decide (k ∈ r)) | _ => .non) = (l.map fun k => decide (k ∈ r)).map V.bl := by rw [List.map_map, List.map_map]; rfl
            rw [e5] at hq5
            refine ⟨p5, _, rfl, hq5, _, rfl, ?_⟩
            have sE := s03.trans (sm2.trans s5)
            by_cases hd : ∀ k ∈ l, k ∉ r
            · have an : (l.map fun k => decide (k ∈ r)).any id = false := by
                rw [List.any_map]
                exact List.any_eq_false.mpr fun k hk h => hd k hk (of_decide_eq_true h)
              rw [an]
              have ea5 := s5 _ _ ea2
              have eb5 := s5 _ _ eb2
              have ep5 := s5 _ _ ep2
              refine iteF ⟨_, rfl, _, _, _, _, rfl, rfl, SqL.of ep5, atI_nat (j := 0) rfl, _, rfl, _, _, _, _, rfl, rfl, SqL.of ep5, atI_nat (j := 1) rfl, by show 2 ≤ sizeLine; decide, fun p6 hp6 => ?_⟩
              refine k l r (by rw [rf]; unfold Tx.fits; rw [if_pos ⟨risl, risr, hlen, hd⟩]) p6 qa qb _ ⟨sE.upd hp6, sE.none hp6, s0.none nqa, s0.none nqb, nab, upd_same, ?_, ?_⟩
              · rw [upd_ne (ne_of_none ea5 hp6)]; exact ea5
              · rw [upd_ne (ne_of_none eb5 hp6)]; exact eb5
            · have an : (l.map fun k => decide (k ∈ r)).any id = true := by
                rw [List.any_map]
                refine List.any_eq_true.mpr ?_
                have : ∃ k ∈ l, k ∈ r := Classical.byContradiction fun z => hd fun k hk hk' => z ⟨k, hk, hk'⟩
                obtain ⟨k, hk, hk'⟩ := this
                exact ⟨k, hk, decide_eq_true hk'⟩
              rw [an]
              exact iteT (kn (nf fun f => hd f.2.2.2) _ sE)
end
end Ks

end
section
namespace Ks
open PySem L2
section
variable {P : Program} {w : World} {K : PySem.W.Frag} {mg : Str → Option Value} {base : Heap}
/-! ### _law_refused -/
def spRef (K : PySem.W.Frag) : Sp := fun vs H Q _ => ∃ v : V, vs = [v] ∧ (NotS K H v ∨ ∃ z : Str, v = .str z ∧ z.length ≤ 5000 ∧ Tx.blanks z ≤ 63 ∧ Tx.rd z = none) ∧ ∀ H', Same H H' → Q (.bl true) H'
theorem sc__law_refused : FnScope ["_law_text", "error", "_law_others"] ["_law_text"] (defScope (top 28)) := ⟨rfl, rfl, rfl, by decide +kernel, rfl, by decide +kernel, by decide +kernel⟩
theorem held_mem {X : Cx} {a : Addr} {oe : Obj} {px : List (Addr × Obj)} : ∀ p ∈ (a, oe) :: px, p ∈ (hX X a oe px).pn := fun p hp => by
  show p ∈ (a, oe) :: (px ++ X.pn)
  rcases List.mem_cons.mp hp with z | z
  · rw [z]; exact List.mem_cons_self
  · exact List.mem_cons_of_mem _ (List.mem_append_left _ z)
theorem rd_bad {c : Addr} {v : V} {H : Hp} {Q : VK} {E : XK} (hv : NotS K H v ∨ ∃ z : Str, v = .str z ∧ z.length ≤ 5000 ∧ Tx.blanks z ≤ 63 ∧ Tx.rd z = none) (k : ∀ H1, Same H H1 → E (.ref c) none H1) : spRead K c [v] H Q E := by
  rcases hv with ns | ⟨z, rfl, hz, hb, hn⟩
  · exact ⟨_, rfl, .inl ⟨ns, k H (Same.refl H)⟩⟩
  · exact ⟨_, rfl, .inr ⟨z, rfl, hz, hb, fun l r h => (by rw [hn] at h; cases h), fun _ H1 s1 => k H1 s1⟩⟩
theorem ok__law_refused {f : Addr} {fd : FuncData} {e : EA} (F : Fun K "_law_refused" "_law_refused" (top 28) f fd) (B : Blt mg) (Er : Errs K mg e) (c_read : Can P w K mg base (CXE true P w) 4 "read" ["text"] (spRead K e.text)) :
    FnOk P w K mg base CX0 5 f fd ["_law_text"] (spRef K) := by
  refine F.ok sc__law_refused (fun vs H Q E h => ?_) (fun cdv A outer s H vs Q E hr h => ?_)
  · obtain ⟨v, rfl, _⟩ := h; rfl
  · obtain ⟨v, rfl, hv, q⟩ := h
    refine ⟨_, pss_cons (ps_try (d := true) (B := e.coin) (· = e.text) (i := 1) rfl rfl (by rfl) Er.m_coin sc__law_refused.nd rfl rfl
      (fun F pn E' hp => pss_one (ps_expr (pe_can c_read (hr.mono (by decide)) hp (pa_cons (pv 0) pa_nil))))
      (fun ad oe px C hC hd => (pss_cons (ps_set (i := 2) sc__law_refused.nd rfl (Or.inl rfl) (pe_lst (pa_cons (pe_callB (call_isiH (a := ad) rfl hd (hC ▸ Er.xc _ e.m6) List.mem_cons_self) (by rfl) B.isi boot_isi (pa_cons (pv 1) (pa_cons (pe_glob (v := .ref e.bcoin) (by rfl) Er.m_bcoin rfl) pa_nil))) (pa_cons (pe_callB (call_isiH (a := ad) rfl hd (hC ▸ Er.xc _ e.m6) List.mem_cons_self) (by rfl) B.isi boot_isi (pa_cons (pv 1) (pa_cons (pe_glob (v := .ref e.marks) (by rfl) Er.m_marks rfl) pa_nil))) (pa_cons (pe_callB (call_isiH (a := ad) rfl hd (hC ▸ Er.xc _ e.m6) List.mem_cons_self) (by rfl) B.isi boot_isi (pa_cons (pv 1) (pa_cons (pe_glob (v := .ref e.out) (by rfl) Er.m_out rfl) pa_nil))) pa_nil)))))
          (pss_cons (ps_set (i := 2) sc__law_refused.nd rfl (Or.inl rfl) (pe_op op_cat (pv 2) (pe_lst (pa_cons (pe_callB (call_isiH (a := ad) rfl hd (hC ▸ Er.xc _ e.m6) List.mem_cons_self) (by rfl) B.isi boot_isi (pa_cons (pv 1) (pa_cons (pe_glob (v := .ref e.weigh) (by rfl) Er.m_weigh rfl) pa_nil))) (pa_cons (pe_callB (call_isiH (a := ad) rfl hd (hC ▸ Er.xc _ e.m6) List.mem_cons_self) (by rfl) B.isi boot_isi (pa_cons (pv 1) (pa_cons (pe_glob (v := .ref e.never) (by rfl) Er.m_never rfl) pa_nil))) (pa_cons (pe_not (pe_callB (call_isiH (a := ad) rfl hd (hC ▸ Er.xc _ e.m6) List.mem_cons_self) (by rfl) B.isi boot_isi (pa_cons (pv 1) (pa_cons (pe_bltn (v := .ty "ValueError") (by rfl) Er.val boot_valT rfl) pa_nil)))) pa_nil))))))
          (pss_one (ps_ret (pe_and (pe_callB (call_isiH (a := ad) rfl hd (hC ▸ Er.xc _ e.m6) List.mem_cons_self) (by rfl) B.isi boot_isi (pa_cons (pv 1) (pa_cons (pe_glob (v := .ref e.text) (by rfl) Er.m_text rfl) pa_nil))) (pe_one (pe_not (pe_callB (call_anyH (a := ad) hd held_mem rfl) (by rfl) B.any boot_anyB (pa_cons (pv 2) pa_nil)))))))))))
      (pss_one (ps_ret pe_bl)), ?_⟩
    have nd := Er.nd
    have kf : ∀ d ∈ e.six, d ≠ e.text → PySem.W.kitOne K (.ref e.text) (.ref d) = some false := fun d hd hne => by
      rw [Er.kit _ e.m6 d hd, decide_eq_false (fun z => hne z.symm)]
    have n1 : e.bcoin ≠ e.text := fun z => by simp [EA.six, z] at nd
    have n2 : e.marks ≠ e.text := fun z => by simp [EA.six, z] at nd
    have n3 : e.out ≠ e.text := fun z => by simp [EA.six, z] at nd
    have n4 : e.weigh ≠ e.text := fun z => by simp [EA.six, z] at nd
    have n5 : e.never ≠ e.text := fun z => by simp [EA.six, z] at nd
    have kt : PySem.W.kitOne K (.ref e.text) (.ref e.text) = some true := by rw [Er.kit _ e.m6 _ e.m6]; simp
    refine ⟨v, rfl, ?_⟩
    dsimp only [tNil, tC, tCall, tCons, List.append_nil]
    refine rd_bad hv fun H1 s1 => ?_
    refine ⟨e.text, rfl, rfl, Er.exm _ e.m6, fun ad => ?_⟩
    refine ⟨_, rfl, _, _, rfl, _, fun u h => h, kf _ e.m5 n1, _, rfl, _, _, rfl, _, fun u h => h, kf _ e.m1 n2, _, rfl, _, _, rfl, _, fun u h => h, kf _ e.m3 n3, by show 3 ≤ sizeLine; decide, fun p1 hp1 => ?_⟩
    refine ⟨_, rfl, _, rfl, _, _, rfl, _, fun u h => h, kf _ e.m2 n4, _, rfl, _, _, rfl, _, fun u h => h, kf _ e.m4 n5, _, rfl, _, _, rfl, _, fun u h => h, Er.kval _ e.m6, _, rfl, by show 3 ≤ sizeLine; decide, fun p2 hp2 => ?_⟩
    have n12 : p1 ≠ p2 := fun z => by rw [← z, upd_same] at hp2; cases hp2
    refine ⟨p1, p2, _, _, rfl, rfl, by rw [upd_ne n12]; exact upd_same, upd_same, by show 3 + 3 ≤ sizeLine; decide, fun p3 hp3 => ?_⟩
    refine ⟨_, rfl, _, _, rfl, _, fun u h => h, kt, _, rfl, iteT ?_⟩
    refine ⟨_, rfl, p3, [false, false, false, false, false, false], rfl, upd_same, _, rfl, ?_⟩
    exact q _ (((s1.upd hp1).upd hp2).upd hp3)
/-! ### _law_right -/
def spRight : Sp := fun vs H Q _ => ∃ z : Str, vs = [.str z] ∧ z.length ≤ 5000 ∧ Tx.blanks z ≤ 63 ∧ ∀ H', Same H H' → Q (.bl true) H'
theorem sc__law_right : FnScope ["_law_text", "_law_due", "_law_found"] ["_law_text"] (defScope (top 29)) := ⟨rfl, rfl, rfl, by decide +kernel, rfl, by decide +kernel, by decide +kernel⟩
theorem ok__law_right {f : Addr} {fd : FuncData} {c : Addr} (F : Fun K "_law_right" "_law_right" (top 29) f fd) (B : Blt mg) (T : Kit K) (c__law_in : Can P w K mg base CX0 2 "_law_in" ["_law_text"] spIn) (c__law_refused : Can P w K mg base CX0 5 "_law_refused" ["_law_text"] (spRef K))
    (c_read : Can P w K mg base CX0 4 "read" ["text"] (fun vs H Q _ => spRead K c vs H Q E0)) (c_written : Can P w K mg base CX0 4 "written" ["left", "right"] spWr) : FnOk P w K mg base CX0 6 f fd ["_law_text"] spRight := by
  refine F.ok sc__law_right (fun vs H Q E h => ?_) (fun cdv A outer s H vs Q E hr h => ?_)
  · obtain ⟨z, rfl, _⟩ := h; rfl
  · obtain ⟨z, rfl, hz, hbl, q⟩ := h
    have hu := hu_of hr
    refine ⟨_, (pss_cons (ps_set (i := 1) sc__law_right.nd rfl (Or.inl rfl) (pe_can c__law_in (hr.mono (by decide)) pass0 (pa_cons (pv 0) pa_nil)))
      (pss_cons (ps_if (pt_cmpR op_isN (pv 1) pe_non (nomark _)) (pss_one (ps_ret (pe_can c__law_refused (hr.mono (by decide)) pass0 (pa_cons (pv 0) pa_nil)))) pss_nil)
      (pss_cons (ps_set (i := 2) sc__law_right.nd rfl (Or.inl rfl) (pe_can c_read (hr.mono (by decide)) pass0 (pa_cons (pv 0) pa_nil)))
      (pss_cons (ps_if (PW.pt (pw_or (pt_not (pt_val (pe_callB call_isi (by rfl) B.isi boot_isi (pa_cons (pv 2) (pa_cons (pe_bltn (v := .ty "tuple") (by rfl) B.tuple boot_tupT rfl) pa_nil))))) (pw_or (pt_cmpR (op_neTT hu) (pv 2) (pv 1) (nomark _)) (pw_or1 (pt_cmpR op_ne (pe_can c_written (hr.mono (by decide)) pass0 (pa_cons (pe_ix ix_tup (pv 2) pe_int (fun _ _ => rfl)) (pa_cons (pe_ix ix_tup (pv 2) pe_int (fun _ _ => rfl)) pa_nil))) (pv 0) (nomark _)))))) (pss_one (ps_ret pe_bl)) pss_nil)
      (pss_cons (ps_expr (pe_bm PySem.F.plainAttrs_list PySem.F.slot_list_append PySem.F.type_list_append mt_append (pe_ix ix_tup (pv 2) pe_int (fun _ _ => rfl)) (pa_cons pe_int pa_nil)))
      (pss_cons (ps_expr (pe_bm0 PySem.F.plainAttrs_list PySem.F.slot_list_clear PySem.F.type_list_clear mt_clear (pe_ix ix_tup (pv 2) pe_int (fun _ _ => rfl))))
      (pss_one (ps_ret (pe_cmpR (op_eqTT hu) (pe_can c_read (hr.mono (by decide)) pass0 (pa_cons (pv 0) pa_nil)) (pv 1) (nomark _)))))))))), ?_⟩
    refine ⟨_, rfl, z, rfl, hz, hbl, fun hn H1 s1 => ?_, fun l r hs p a b H1 D => ?_⟩
    · refine ⟨_, rfl, rfl, _, rfl, iteT ⟨_, rfl, _, rfl, .inr ⟨z, rfl, hz, hbl, hn⟩, fun H2 s2 => q H2 (s1.trans s2)⟩⟩
    · refine ⟨_, rfl, rfl, _, rfl, iteF ?_⟩
      obtain ⟨fit, sl, sr⟩ := Tx.rd_fit hs
      have wz := Tx.rd_wr Tx.hs_num hs
      have few : l.length ≤ 100 ∧ r.length ≤ 100 := by have := Tx.rd_few hs; omega
      refine ⟨_, rfl, _, rfl, .inr ⟨z, rfl, hz, hbl, fun l' r' hs' p' a' b' H2 G => ?_, fun hn => by rw [hs] at hn; cases hn⟩⟩
      rw [hs] at hs'
      cases hs'
      have ea := G.same _ _ D.left
      have eb := G.same _ _ D.right
      have et := G.same _ _ D.tup
      have na : a' ≠ a := fun z => by have := G.na; rw [z, D.left] at this; cases this
      have nb : b' ≠ b := fun z => by have := G.nb; rw [z, D.right] at this; cases this
      have nab : a' ≠ b := fun z => by have := G.na; rw [z, D.right] at this; cases this
      have nba : b' ≠ a := fun z => by have := G.nb; rw [z, D.left] at this; cases this
      have np : p' ≠ p := fun z => by have := G.np; rw [z, D.tup] at this; cases this
      refine ⟨_, rfl, _, _, _, _, rfl, .tup G.tup, T.tt, _, rfl, iteF ?_⟩
      refine ⟨_, rfl, _, rfl, p', p, a', b', a, b, _, _, _, _, rfl, rfl, SqT.of G.tup, SqT.of et, ⟨na, nb, SqL.of G.left, SqL.of G.right, SqL.of ea, SqL.of eb, flat_ints l, flat_ints r, flat_ints l, flat_ints r⟩, _, rfl, ?_⟩
      refine fls (by rw [eqVs_ints, eqVs_ints]; simp) ?_
      refine ⟨_, rfl, p', _, _, _, rfl, rfl, SqT.of G.tup, atI_nat (j := 0) rfl, _, rfl, p', _, _, _, rfl, rfl, SqT.of G.tup, atI_nat (j := 1) rfl, a', b', l, r, rfl, G.left, G.right, few.1, few.2, sl, sr, fit, fun H3 s3 => ?_⟩
      refine ⟨_, rfl, rfl, _, rfl, iteNS (congrArg V.str wz) ?_⟩
      have t3 := s3 _ _ G.tup
      have l3 := s3 _ _ G.left
      have r3 := s3 _ _ G.right
      refine ⟨_, rfl, p', _, _, _, rfl, rfl, SqT.of t3, atI_nat (j := 0) rfl, .inl ⟨rfl, _, SqL.of l3⟩, a', _, _, rfl, rfl, l3, (by rw [List.length_map]; exact small1000 (by omega)), ?_⟩
      have t4 : upd H3 a' (.lst (l.map V.int ++ [.int 0])) p' = some (.tup [.ref a', .ref b']) := by
        rw [upd_ne fun z => by rw [z, l3] at t3; cases t3]; exact t3
      have r4 : upd H3 a' (.lst (l.map V.int ++ [.int 0])) b' = some (.lst (r.map V.int)) := by rw [upd_ne (Ne.symm G.ne)]; exact r3
      refine ⟨_, rfl, p', _, _, _, rfl, rfl, SqT.of t4, atI_nat (j := 1) rfl, .inl ⟨rfl, _, SqL.of r4⟩, b', _, rfl, rfl, r4, ?_⟩
      have k5 : ∀ x u, H1 x = some u → upd (upd H3 a' (.lst (l.map V.int ++ [.int 0]))) b' (.lst []) x = some u := fun x u hx => by
        have x1 : x ≠ a' := fun z => by have := G.na; rw [← z, hx] at this; cases this
        have x2 : x ≠ b' := fun z => by have := G.nb; rw [← z, hx] at this; cases this
        rw [upd_ne x2, upd_ne x1]; exact s3 _ _ (G.same _ _ hx)
      have s5 : Same H1 (upd (upd H3 a' (.lst (l.map V.int ++ [.int 0]))) b' (.lst [])) := k5
      refine ⟨_, rfl, _, rfl, .inr ⟨z, rfl, hz, hbl, fun l' r' hs' p6 a6 b6 H6 G6 => ?_, fun hn => by rw [hs] at hn; cases hn⟩⟩
      rw [hs] at hs'
      cases hs'
      have e6a := G6.same _ _ (s5 _ _ D.left)
      have e6b := G6.same _ _ (s5 _ _ D.right)
      have e6t := G6.same _ _ (s5 _ _ D.tup)
      have na6 : a6 ≠ a := fun z => by have := G6.na; rw [z, s5 _ _ D.left] at this; cases this
      have nb6 : b6 ≠ b := fun z => by have := G6.nb; rw [z, s5 _ _ D.right] at this; cases this
      refine ⟨_, rfl, p6, p, a6, b6, a, b, _, _, _, _, rfl, rfl, SqT.of G6.tup, SqT.of e6t, ⟨na6, nb6, SqL.of G6.left, SqL.of G6.right, SqL.of e6a, SqL.of e6b, flat_ints l, flat_ints r, flat_ints l, flat_ints r⟩, ?_⟩
      have := q H6 (D.same.trans (s5.trans G6.same))
      rw [eqVs_ints, eqVs_ints]
      simpa using this
end
end Ks

end
section
namespace Ks
open PySem L2
section
variable {P : Program} {w : World} {K : PySem.W.Frag} {mg : Str → Option Value} {base : Heap}
/-! ### _law_few -/
def Fine (x : Str) : Prop := x.length ≤ 5000 ∧ Tx.blanks x ≤ 63
def fineB (x : Str) : Bool := decide (x.length ≤ 5000) && decide (Tx.blanks x ≤ 63)
theorem fine_of {xs : List Str} (h : xs.all fineB = true) : ∀ x ∈ xs, Fine x := fun x hx => by
  have := List.all_eq_true.mp h x hx
  unfold fineB at this
  simp only [Bool.and_eq_true, decide_eq_true_eq] at this
  exact this
def spFew : Sp := fun vs H Q _ => vs = [] ∧ ∀ (p : Addr) (xs : List Str) (H' : Hp), H p = none → Same H H' → H' p = some (.lst (xs.map V.str)) → xs.length ≤ 1000 → (∀ x ∈ xs, Fine x) → Q (.ref p) H'
theorem sc__law_few : FnScope ["_law_some"] [] (defScope (top 30)) := ⟨rfl, rfl, rfl, by decide +kernel, rfl, by decide +kernel, by decide +kernel⟩
def few1 : List Str := ["", "-", " ", "--", "0 | 1", "1 | 0", "0 | 0", "0 1 | 2 3", "1 0 | 2 3", "0 1 | 3 2", "0 1 | 2", "0 | 1 2"]
def few2 : List Str := ["0|1", "0 |1", "0| 1", " | ", "0 | ", " | 0", "0 | 1 | 2", "00 | 1", "0 | 01", "0  1 | 2 3"]
def few3 : List Str := [" 0 | 1", "0 | 1 ", "0 | 1\n", "0\t| 1", "0 | -1", "+0 | 1", "1_0 | 2", "x | 1", "0 0 | 1 2"]
def few1E : List Expr := [.Constant (.str "") 0 ⟨120, 17, 120, 19⟩, .Constant (.str "-") 0 ⟨120, 21, 120, 24⟩, .Constant (.str " ") 0 ⟨120, 26, 120, 29⟩, .Constant (.str "--") 0 ⟨120, 31, 120, 35⟩, .Constant (.str "0 | 1") 0 ⟨120, 37, 120, 44⟩, .Constant (.str "1 | 0") 0 ⟨120, 46, 120, 53⟩, .Constant (.str "0 | 0") 0 ⟨120, 55, 120, 62⟩, .Constant (.str "0 1 | 2 3") 0 ⟨120, 64, 120, 75⟩, .Constant (.str "1 0 | 2 3") 0 ⟨120, 77, 120, 88⟩, .Constant (.str "0 1 | 3 2") 0 ⟨120, 90, 120, 101⟩, .Constant (.str "0 1 | 2") 0 ⟨120, 103, 120, 112⟩, .Constant (.str "0 | 1 2") 0 ⟨120, 114, 120, 123⟩]
theorem few1E_is : few1E.map conV = (few1.map V.str).map some := by kernel_rfl
theorem pa_few1 {X : Cx} : PA X few1E (tVs (few1.map V.str)) := @pa_vs X (few1.map V.str) few1E few1E_is
def few2E : List Expr := [.Constant (.str "0|1") 0 ⟨121, 29, 121, 34⟩, .Constant (.str "0 |1") 0 ⟨121, 36, 121, 42⟩, .Constant (.str "0| 1") 0 ⟨121, 44, 121, 50⟩, .Constant (.str " | ") 0 ⟨121, 52, 121, 57⟩, .Constant (.str "0 | ") 0 ⟨121, 59, 121, 65⟩, .Constant (.str " | 0") 0 ⟨121, 67, 121, 73⟩, .Constant (.str "0 | 1 | 2") 0 ⟨121, 75, 121, 86⟩, .Constant (.str "00 | 1") 0 ⟨121, 88, 121, 96⟩, .Constant (.str "0 | 01") 0 ⟨121, 98, 121, 106⟩, .Constant (.str "0  1 | 2 3") 0 ⟨121, 108, 121, 120⟩]
theorem few2E_is : few2E.map conV = (few2.map V.str).map some := by kernel_rfl
theorem pa_few2 {X : Cx} : PA X few2E (tVs (few2.map V.str)) := @pa_vs X (few2.map V.str) few2E few2E_is
def few3E : List Expr := [.Constant (.str " 0 | 1") 0 ⟨123, 29, 123, 37⟩, .Constant (.str "0 | 1 ") 0 ⟨123, 39, 123, 47⟩, .Constant (.str "0 | 1\n") 0 ⟨123, 49, 123, 58⟩, .Constant (.str "0\t| 1") 0 ⟨123, 60, 123, 68⟩, .Constant (.str "0 | -1") 0 ⟨123, 70, 123, 78⟩, .Constant (.str "+0 | 1") 0 ⟨123, 80, 123, 88⟩, .Constant (.str "1_0 | 2") 0 ⟨123, 90, 123, 99⟩, .Constant (.str "x | 1") 0 ⟨123, 101, 123, 108⟩, .Constant (.str "0 0 | 1 2") 0 ⟨123, 110, 123, 121⟩]
theorem few3E_is : few3E.map conV = (few3.map V.str).map some := by kernel_rfl
theorem pa_few3 {X : Cx} : PA X few3E (tVs (few3.map V.str)) := @pa_vs X (few3.map V.str) few3E few3E_is
theorem pss_lst {X : Cx} {es : List Expr} {vs : List V} {rest : List Stmt} {u : TS} {p p1 p2 : Pos} (h : PA X es (tVs vs)) (hN : X.N.Nodup) (hi : X.N[0]? = some ("_law_some" : Str)) (hx : X.env.scope.names.lookup ("_law_some" : Str) = some .local) (hr : PSs X rest u) :
    PSs X (.Assign [.Name "_law_some" p1] (.List es p) p2 :: rest) (tSeq (tAsg (tLst (tVs vs)) (gName 0)) u) := pss_cons (ps_set hN hi (.inl hx) (pe_lst h) rfl (.inr hx)) hr
theorem pss_cat {X : Cx} {es : List Expr} {vs : List V} {rest : List Stmt} {u : TS} {p p1 p2 q pb : Pos} (h : PA X es (tVs vs)) (hN : X.N.Nodup) (hi : X.N[0]? = some ("_law_some" : Str)) (hx : X.env.scope.names.lookup ("_law_some" : Str) = some .local) (hr : PSs X rest u) :
    PSs X (.Assign [.Name "_law_some" p1] (.BinOp (.Name "_law_some" q) .Add (.List es p) pb) p2 :: rest) (tSeq (tAsg (tOp rCat (tVar 0) (tLst (tVs vs))) (gName 0)) u) := pss_cons (ps_set hN hi (.inl hx) (pe_op op_cat (pv 0 hi (.inl hx)) (pe_lst h)) rfl (.inr hx)) hr
theorem mul_ok : MulOk "1" 4000 := by
  have l1 : ("1" : Str).length = 1 := by decide +kernel
  refine ⟨by decide, fun _ _ => ?_, fun _ _ => ?_⟩
  · rw [l1]; decide
  · rw [l1]; decide +kernel
theorem few_reads {H : Hp} {Q : VK} {w1 w2 w3 w4 : List V} {x y : V} {tl : TA} (l1 : w1.length ≤ 100) (l2 : w2.length ≤ 100) (l3 : w3.length ≤ 100) (l4 : w4.length ≤ 100) (htl : ∀ (σ : St) (H : Hp) (R : List V → Hp → Prop), R w4 H → tl σ H R)
    (q : ∀ p H', H p = none → Same H H' → H' p = some (.lst (w1 ++ w2 ++ [x] ++ w3 ++ [y] ++ w4)) → Q (.ref p) H') :
    tSeq (tAsg (tLst (tVs w1)) (gName 0)) (tSeq (tAsg (tOp rCat (tVar 0) (tLst (tVs w2))) (gName 0)) (tSeq (tDrop (tBM K "list" rAppend (tVar 0) (tCons (tC x) tNil))) (tSeq (tAsg (tOp rCat (tVar 0) (tLst (tVs w3))) (gName 0)) (tSeq (tDrop (tBM K "list" rAppend (tVar 0) (tCons (tC y) tNil))) (tRet (tOp rCat (tVar 0) (tLst tl))))))) { nx := fun _ H' => Q .non H', rt := Q } [none] H := by
  have sz : 2000 ≤ sizeLine := by decide
  have sz' : 2000 < sizeLine := by decide
  refine ⟨by omega, fun p1 hp1 => ?_⟩
  refine ⟨_, rfl, by omega, fun p2 hp2 => ?_⟩
  have n12 : p1 ≠ p2 := fun z => by rw [← z, upd_same] at hp2; cases hp2
  refine ⟨p1, p2, _, _, rfl, rfl, by rw [upd_ne n12]; exact upd_same, upd_same, by omega, fun p3 hp3 => ?_⟩
  have s3 : Same H (upd (upd (upd H p1 (.lst w1)) p2 (.lst w2)) p3 (.lst (w1 ++ w2))) := ((Same.upd0 hp1).upd hp2).upd hp3
  have e3 : upd (upd (upd H p1 (.lst w1)) p2 (.lst w2)) p3 (.lst (w1 ++ w2)) p3 = some (.lst (w1 ++ w2)) := upd_same
  have h3 : H p3 = none := ((Same.upd0 (o := HO.lst w1) hp1).upd (o := HO.lst w2) hp2).none hp3
  generalize upd (upd (upd H p1 (.lst w1)) p2 (.lst w2)) p3 (.lst (w1 ++ w2)) = H3 at s3 e3 ⊢
  refine ⟨_, rfl, .inl ⟨rfl, _, SqL.of e3⟩, p3, _, _, rfl, rfl, e3, by rw [List.length_append]; omega, ?_⟩
  have s4 : Same H (upd H3 p3 (.lst (w1 ++ w2 ++ [x]))) := s3.put' h3
  have e4 : upd H3 p3 (.lst (w1 ++ w2 ++ [x])) p3 = some (.lst (w1 ++ w2 ++ [x])) := upd_same
  generalize upd H3 p3 (.lst (w1 ++ w2 ++ [x])) = H4 at s4 e4 ⊢
  refine ⟨_, rfl, by omega, fun p5 hp5 => ?_⟩
  have n35 : p3 ≠ p5 := ne_of_none e4 hp5
  refine ⟨p3, p5, _, _, rfl, rfl, by rw [upd_ne n35]; exact e4, upd_same, by simp only [List.length_append, List.length_singleton]; omega, fun p6 hp6 => ?_⟩
  have s6 : Same H (upd (upd H4 p5 (.lst w3)) p6 (.lst (w1 ++ w2 ++ [x] ++ w3))) := (s4.upd hp5).upd hp6
  have e6 : upd (upd H4 p5 (.lst w3)) p6 (.lst (w1 ++ w2 ++ [x] ++ w3)) p6 = some (.lst (w1 ++ w2 ++ [x] ++ w3)) := upd_same
  have h6 : H p6 = none := (s4.upd (o := HO.lst w3) hp5).none hp6
  generalize upd (upd H4 p5 (.lst w3)) p6 (.lst (w1 ++ w2 ++ [x] ++ w3)) = H6 at s6 e6 ⊢
  refine ⟨_, rfl, .inl ⟨rfl, _, SqL.of e6⟩, p6, _, _, rfl, rfl, e6, by simp only [List.length_append, List.length_singleton]; omega, ?_⟩
  have s7 : Same H (upd H6 p6 (.lst (w1 ++ w2 ++ [x] ++ w3 ++ [y]))) := s6.put' h6
  have e7 : upd H6 p6 (.lst (w1 ++ w2 ++ [x] ++ w3 ++ [y])) p6 = some (.lst (w1 ++ w2 ++ [x] ++ w3 ++ [y])) := upd_same
  generalize upd H6 p6 (.lst (w1 ++ w2 ++ [x] ++ w3 ++ [y])) = H7 at s7 e7 ⊢
  refine ⟨_, rfl, htl _ _ _ ⟨by omega, fun p8 hp8 => ?_⟩⟩
  have n68 : p6 ≠ p8 := ne_of_none e7 hp8
  refine ⟨p6, p8, _, _, rfl, rfl, by rw [upd_ne n68]; exact e7, upd_same, by simp only [List.length_append, List.length_singleton]; omega, fun p9 hp9 => ?_⟩
  exact q p9 _ ((s7.upd hp8).none hp9) ((s7.upd hp8).upd hp9) upd_same
theorem ok__law_few {f : Addr} {fd : FuncData} (F : Fun K "_law_few" "_law_few" (top 30) f fd) : FnOk P w K mg base CX0 1 f fd [] spFew := by
  refine F.ok sc__law_few (fun vs H Q E h => ?_) (fun cdv A outer s H vs Q E hr h => ?_)
  · obtain ⟨rfl, _⟩ := h; rfl
  · obtain ⟨rfl, q⟩ := h
    refine ⟨_, @pss_lst _ few1E (few1.map V.str) _ _ _ _ _ (@pa_few1 _) sc__law_few.nd rfl rfl
      (@pss_cat _ few2E (few2.map V.str) _ _ _ _ _ _ _ (@pa_few2 _) sc__law_few.nd rfl rfl
      (pss_cons (ps_expr (pe_bm PySem.F.plainAttrs_list PySem.F.slot_list_append PySem.F.type_list_append mt_append (pv 0) (pa_cons pe_str pa_nil)))
      (@pss_cat _ few3E (few3.map V.str) _ _ _ _ _ _ _ (@pa_few3 _) sc__law_few.nd rfl rfl
      (pss_cons (ps_expr (pe_bm PySem.F.plainAttrs_list PySem.F.slot_list_append PySem.F.type_list_append mt_append (pv 0) (pa_cons pe_str pa_nil)))
      (pss_one (ps_ret (pe_op op_cat (pv 0) (pe_lst (pa_cons pe_str (pa_cons (pe_op op_add_str (pe_op op_mulS pe_str pe_int) pe_str) (pa_cons pe_str (pa_cons pe_str (pa_cons pe_str (pa_cons pe_str pa_nil)))))))))))))), ?_⟩
    obtain ⟨o1, o2⟩ := Tx.many_ones
    have b2 : Tx.blanks " | 2" = 2 := by decide +kernel
    have l2 : (" | 2" : Str).length = 4 := by decide +kernel
    have sz : 6000 ≤ sizeLine := by decide
    refine few_reads (K := K) (w4 := (["0 | 1000000000", Txt.mul "1" 4000 ++ " | 2", "- | -", "0", "0 2 | 2 3", "0 || 1"] : List Str).map V.str) (by show 12 ≤ 100; decide) (by show 10 ≤ 100; decide) (by show 9 ≤ 100; decide) (by show 6 ≤ 100; decide) (fun σ H' R hR => ⟨"1", 4000, rfl, rfl, mul_ok, _, _, rfl, rfl, by rw [o1, l2]; omega, hR⟩) fun p9 H9 np sm e9 => ?_
    refine q p9 (few1 ++ few2 ++ (["0 1 |  2 3"] : List Str) ++ few3 ++ (["0 | 999999999"] : List Str) ++ (["0 | 1000000000", Txt.mul "1" 4000 ++ " | 2", "- | -", "0", "0 2 | 2 3", "0 || 1"] : List Str)) H9 np sm ?_ ?_ ?_
    · rw [e9]; simp only [List.map_append]; rfl
    · simp only [List.length_append]; show 12 + 10 + 1 + 9 + 1 + 6 ≤ 1000; decide
    · intro x hx
      simp only [List.mem_append, List.mem_cons, List.not_mem_nil, or_false] at hx
      have f1 : few1.all fineB = true := by decide +kernel
      have f2 : few2.all fineB = true := by decide +kernel
      have f3 : few3.all fineB = true := by decide +kernel
      have f4 : (["0 1 |  2 3", "0 | 999999999", "0 | 1000000000", "- | -", "0", "0 2 | 2 3", "0 || 1"] : List Str).all fineB = true := by decide +kernel
      have g4 := fine_of f4
      rcases hx with ((((h | h) | h) | h) | h) | h | h | h | h | h | h
      · exact fine_of f1 x h
      · exact fine_of f2 x h
      · exact g4 x (by simp [h])
      · exact fine_of f3 x h
      · exact g4 x (by simp [h])
      · exact g4 x (by simp [h])
      · rw [h]
        exact ⟨by rw [Tx.len_app, o1, l2]; decide, by rw [Tx.blanks_app, o2, b2]; decide⟩
      · exact g4 x (by simp [h])
      · exact g4 x (by simp [h])
      · exact g4 x (by simp [h])
      · exact g4 x (by simp [h])
end
end Ks

end
section
namespace Ks
open PySem L2
theorem dInt (a b : Int) : decide (V.int a = V.int b) = decide (a = b) := decide_eq_decide.mpr ⟨V.int.inj, congrArg V.int⟩
theorem cut_take (l : List Int) (m : Nat) (h : m ≤ l.length) : cutV (l.map V.int) none (some (m : Int)) = (l.take m).map V.int := by
  unfold cutV
  rw [HT.sIx_none, HT.sIx_nat, List.length_map, List.drop_zero, Nat.min_eq_left h, Nat.sub_zero, List.map_take]
/-- the sides, as far as coin i -/
structure SidJ (i : Nat) (l r : List Int) : Prop where
  rl : l.Pairwise (· < ·)
  rr : r.Pairwise (· < ·)
  il : ∀ k ∈ l, ∃ j : Nat, j < i ∧ k = 7 * j
  ir : ∀ k ∈ r, ∃ j : Nat, j < i ∧ k = 7 * j + 1
  cnt : l.length + r.length ≤ i
theorem SidJ.nil : SidJ 0 [] [] := ⟨.nil, .nil, fun k hk => by simp at hk, fun k hk => by simp at hk, Nat.le_refl _⟩
theorem snoc_rise {l : List Int} {x : Int} (h : l.Pairwise (· < ·)) (hx : ∀ k ∈ l, k < x) : (l ++ [x]).Pairwise (· < ·) := by
  rw [List.pairwise_append]
  exact ⟨h, List.pairwise_singleton _ _, fun a ha b hb => by simp at hb; rw [hb]; exact hx a ha⟩
theorem SidJ.skip {i : Nat} {l r : List Int} (S : SidJ i l r) : SidJ (i + 1) l r :=
  ⟨S.rl, S.rr, fun k hk => by obtain ⟨j, h, e⟩ := S.il k hk; exact ⟨j, by omega, e⟩, fun k hk => by obtain ⟨j, h, e⟩ := S.ir k hk; exact ⟨j, by omega, e⟩, by have := S.cnt; omega⟩
theorem SidJ.left {i : Nat} {l r : List Int} (S : SidJ i l r) : SidJ (i + 1) (l ++ [(i : Int) * 7]) r := by
  refine ⟨snoc_rise S.rl fun k hk => by obtain ⟨j, h, e⟩ := S.il k hk; omega, S.rr, fun k hk => ?_, fun k hk => by obtain ⟨j, h, e⟩ := S.ir k hk; exact ⟨j, by omega, e⟩, by have := S.cnt; simp; omega⟩
  rcases List.mem_append.mp hk with z | z
  · obtain ⟨j, h, e⟩ := S.il k z; exact ⟨j, by omega, e⟩
  · simp at z; exact ⟨i, by omega, by omega⟩
theorem SidJ.right {i : Nat} {l r : List Int} (S : SidJ i l r) : SidJ (i + 1) l (r ++ [(i : Int) * 7 + 1]) := by
  refine ⟨S.rl, snoc_rise S.rr fun k hk => by obtain ⟨j, h, e⟩ := S.ir k hk; omega, fun k hk => by obtain ⟨j, h, e⟩ := S.il k hk; exact ⟨j, by omega, e⟩, fun k hk => ?_, by have := S.cnt; simp; omega⟩
  rcases List.mem_append.mp hk with z | z
  · obtain ⟨j, h, e⟩ := S.ir k z; exact ⟨j, by omega, e⟩
  · simp at z; exact ⟨i, by omega, by omega⟩
theorem SidJ.fit {i m : Nat} {l r : List Int} (S : SidJ i l r) (hi : i ≤ 63) (h1 : m ≤ l.length) (h2 : m ≤ r.length) : Tx.Fit (l.take m) (r.take m) ∧ Small (l.take m) ∧ Small (r.take m) ∧ (l.take m).length = m ∧ m ≤ 31 := by
  have il : ∀ k ∈ l.take m, ∃ j : Nat, j < i ∧ k = 7 * j := fun k hk => S.il k (List.mem_of_mem_take hk)
  have ir : ∀ k ∈ r.take m, ∃ j : Nat, j < i ∧ k = 7 * j + 1 := fun k hk => S.ir k (List.mem_of_mem_take hk)
  refine ⟨⟨S.rl.sublist (List.take_sublist _ _), S.rr.sublist (List.take_sublist _ _), by rw [List.length_take, List.length_take]; omega, fun k h3 h4 => ?_⟩, fun k hk => ?_, fun k hk => ?_, by rw [List.length_take]; omega, by have := S.cnt; omega⟩
  · obtain ⟨j, _, e⟩ := il k h3; obtain ⟨j', _, e'⟩ := ir k h4; omega
  · obtain ⟨j, _, e⟩ := il k hk; omega
  · obtain ⟨j, _, e⟩ := ir k hk; omega
section
variable {P : Program} {w : World} {K : PySem.W.Frag} {mg : Str → Option Value} {base : Heap}
def spLaw (K : PySem.W.Frag) : Sp := fun vs H Q _ => ∃ (a : Addr) (ns : List Int), vs = [.ref a] ∧ SqL K H a (ns.map V.int) ∧ ns.length ≤ 63 ∧ ∀ H', Same H H' → Q (.bl true) H'
theorem sc_law : FnScope ["_law_script", "_law_left", "_law_right_here", "_law_coin", "_law_side", "_law_many", "_law_text", "_law_handed", "_law_cell", "_law_k", "_law_at", "_law_sign"] ["_law_script"] (defScope (top 31)) := ⟨rfl, rfl, rfl, by decide +kernel, rfl, by decide +kernel, by decide +kernel⟩
theorem Same.seq' {H H' : Hp} {a : Addr} {xs : List V} (s : Same H H') (h : SqL K H a xs) : SqL K H' a xs := s.seq h
/-- the text of a side, as the law joins it -/
theorem joined {p : Addr} {l : List Int} {H : Hp} {σ : St} {R : V → Hp → Prop} {i : Nat} (hi : σ[i]? = some (some (.ref p))) (hp : H p = some (.lst (l.map V.int))) (hl : l.length ≤ 100) (hs : Small l) (k : ∀ H', Same H H' → R (.str (Str.join " " (l.map Tx.strI))) H') :
    (tBM K "str" (fun x xs H Q => ∃ (z : Str) (p : Addr) (ys : List Str), x = .str z ∧ xs = [.ref p] ∧ SqL K H p (ys.map V.str) ∧ (ys.map (·.length)).sum + ys.length * z.length ≤ 16777216 ∧ Q (.str (Txt.join z ys)) H) (tC (.str " ")) (tCons (tComp (iList K (tVar i)) (gName 0) (tCB (fun xs H Q => ∃ i, xs = [V.int i] ∧ i.natAbs.log2 < 1920 ∧ Q (.str (toString i)) H) (tCons (tVar 0) tNil)) 1 []) tNil)) σ H R := by
  refine ⟨rfl, _, hi, p, rfl, ⟨_, SqL.of hp⟩, fun q hq => comp_list hq hp (by simp; exact small1000 (by omega)) (fun v => match v with | .int i => .str (Tx.strI i) | v => v) (fun σ' => ∃ v0, σ' = [v0]) ⟨none, rfl⟩ ?_ ?_⟩
  · rintro j x σ' H' hx ⟨v0, rfl⟩ sm KK kk
    obtain ⟨z, hz, rfl⟩ := ints_at hx
    exact ⟨_, rfl, z, rfl, log_small (hs z (List.mem_of_getElem? hz)), kk [some (.int z)] H' ⟨_, rfl⟩ (Same.refl _)⟩
  · intro H' sm hq'
    have e : (l.map V.int).map (fun v => match v with | .int i => V.str (Tx.strI i) | v => v) = (l.map Tx.strI).map V.str := by rw [List.map_map, List.map_map]; rfl
    rw [e] at hq'
    refine ⟨_, q, _, rfl, rfl, SqL.of hq', ?_, ?_⟩
    · have := strI_sum l hs
      rw [List.length_map]
      have e1 : (" " : Str).length = 1 := by decide +kernel
      rw [e1]; omega
    · show R (.str (PySem.Builtin.Str.glued " " (l.map Tx.strI))) H'
      rw [StrLaws.glued_eq_join]
      exact k H' sm
end
end Ks

end
section
namespace Ks
open PySem L2
section
variable {P : Program} {w : World} {K : PySem.W.Frag} {mg : Str → Option Value} {base : Heap}
theorem wr_len {l r : List Int} (hl : l.length ≤ 31) (hr : r.length ≤ 31) (sl : Small l) (sr : Small r) : (Tx.wr l r).length ≤ 1000 := by
  have e1 : (" " : Str).length = 1 := by decide +kernel
  have jl : ∀ x : List Int, x.length ≤ 31 → Small x → (Str.join " " (x.map Tx.strI)).length ≤ 341 := fun x hx sx => by
    have h1 := join_len " " (x.map Tx.strI)
    have h2 := strI_sum x sx
    rw [List.length_map] at h1
    rw [e1] at h1; omega
  unfold Tx.wr
  split
  · have : ("-" : Str).length = 1 := by decide +kernel
    omega
  · have l3 : (" | " : Str).length = 3 := by decide +kernel
    have h1 := jl l hl sl
    have h2 := jl r hr sr
    rw [Tx.len_app, Tx.len_app, l3]; omega
/-- a sign more or none, and what lies behind it -/
theorem fine_cut {z g : Str} {i d : Int} (hz : z.length ≤ 1000) (hb : Tx.blanks z ≤ 62) (hg : g.length ≤ 1) (h0 : 0 ≤ i) (h1 : i ≤ z.length) (hd : 0 ≤ d) : Fine (Txt.slice z none (some i) ++ g ++ Txt.slice z (some (i + d)) none) := by
  have c := Tx.blanks_cut h0 h1 hd
  have l1 := Txt.slice_le z none (some i)
  have l2 := Txt.slice_le z (some (i + d)) none
  have bg : Tx.blanks g ≤ 1 := by
    unfold Tx.blanks
    have := List.count_le_length (a := 32) (l := g.cps.toList)
    rw [len_list] at hg
    omega
  refine ⟨?_, ?_⟩
  · rw [Tx.len_app, Tx.len_app]; omega
  · rw [Tx.blanks_app, Tx.blanks_app]; omega
theorem sign_at {z : Str} {i : Int} (h0 : 0 ≤ i) (h1 : i < z.length) : ∃ c, atI z.cps.toList i = some c := by
  have hl := len_list z
  obtain ⟨n, rfl⟩ := Int.eq_ofNat_of_zero_le h0
  have hn : n < z.cps.toList.length := by omega
  exact ⟨_, atI_nat (List.getElem?_eq_getElem hn)⟩
theorem text_if {rest : TS} {D : Ends} {H : Hp} {σ : St} {m : Nat} {z : Str} (h5 : σ[5]? = some (some (.int m))) (h6 : σ[6]? = some (some (.str z))) (k : rest D (σ.set 6 (some (.str (if m = 0 then "-" else z)))) H) :
    tSeq (tIfS (tTest (tOp rEq (tVar 5) (tC (.int 0)))) (tAsg (tC (.str "-")) (gName 6)) tNext) rest D σ H := by
  refine ⟨_, h5, rfl, _, rfl, ?_⟩
  by_cases h : m = 0
  · refine tru (decide_eq_true (by rw [h]; rfl)) ?_
    rw [if_pos h] at k
    exact k
  · refine fls (decide_eq_false fun q => h (by have := V.int.inj q; omega)) ?_
    rw [if_neg h] at k
    have e : σ.set 6 (some (.str z)) = σ := by
      obtain ⟨hl, e⟩ := List.getElem?_eq_some_iff.mp h6
      rw [← e]; exact List.set_getElem_self hl
    rw [e] at k
    exact k
theorem ok_law {f : Addr} {fd : FuncData} (F : Fun K "law" "law" (top 31) f fd) (B : Blt mg) (T : Kit K) (c__law_cell_at : Can P w K mg base CX0 1 "_law_cell_at" ["_law_script", "_law_k"] (spCell K)) (c__law_draw : Can P w K mg base CX0 1 "_law_draw" ["_law_cell", "_law_k", "_law_many"] spDraw)
    (c_written : Can P w K mg base CX0 4 "written" ["left", "right"] spWr) (c__law_refused : Can P w K mg base CX0 5 "_law_refused" ["_law_text"] (spRef K)) (c__law_right : Can P w K mg base CX0 6 "_law_right" ["_law_text"] spRight) (c__law_few : Can P w K mg base CX0 1 "_law_few" [] spFew) :
    FnOk P w K mg base CX0 7 f fd ["_law_script"] (spLaw K) := by
  refine F.ok sc_law (fun vs H Q E h => ?_) (fun cdv A outer s H vs Q E hr h => ?_)
  · obtain ⟨a, ns, rfl, _⟩ := h; rfl
  · obtain ⟨a, ns, rfl, ha, hns, q⟩ := h
    have hu := hu_of hr
    refine ⟨_, (pss_cons (ps_par rfl sc_law.nd (i := 1) (j := 2) rfl rfl (by decide) rfl rfl (pa_cons (pe_lst pa_nil) (pa_cons (pe_lst pa_nil) pa_nil)) rfl)
      (pss_cons (ps_for PassesOwn.never rfl (pi_range1 (by rfl) B.range (pa_cons (pe_callB call_len_seq (by rfl) B.len boot_lenB (pa_cons (pv 0) pa_nil)) pa_nil)) (pg_name (i := 3) sc_law.nd rfl (Or.inl rfl)) (pss_cons (ps_set (i := 4) sc_law.nd rfl (Or.inl rfl) (pe_can c__law_draw (hr.mono (by decide)) pass0 (pa_cons (pe_ix ix_list (pv 0) (pv 3) (fun _ _ => rfl)) (pa_cons (pe_op op_add (pe_op op_mod (pv 3) pe_int) pe_int) (pa_cons pe_int pa_nil))))) (pss_cons (ps_if (pt_cmpR op_eq (pv 4) pe_int (nomark _)) (pss_one (ps_expr (pe_bm PySem.F.plainAttrs_list PySem.F.slot_list_append PySem.F.type_list_append mt_append (pv 1) (pa_cons (pe_op op_mul (pv 3) pe_int) pa_nil)))) pss_nil) (pss_one (ps_if (pt_cmpR op_eq (pv 4) pe_int (nomark _)) (pss_one (ps_expr (pe_bm PySem.F.plainAttrs_list PySem.F.slot_list_append PySem.F.type_list_append mt_append (pv 2) (pa_cons (pe_op op_add (pe_op op_mul (pv 3) pe_int) pe_int) pa_nil)))) pss_nil)))))
      (pss_cons (ps_set (i := 5) sc_law.nd rfl (Or.inl rfl) (pe_callB (call_min2 rfl) (by rfl) B.min boot_minB (pa_cons (pe_callB call_len_seq (by rfl) B.len boot_lenB (pa_cons (pv 1) pa_nil)) (pa_cons (pe_callB call_len_seq (by rfl) B.len boot_lenB (pa_cons (pv 2) pa_nil)) pa_nil))))
      (pss_cons (ps_par rfl sc_law.nd (i := 1) (j := 2) rfl rfl (by decide) rfl rfl (pa_cons (pe_slice sl_list (pv 1) po_none (po_some (pv 5))) (pa_cons (pe_slice sl_list (pv 2) po_none (po_some (pv 5))) pa_nil)) rfl)
      (pss_cons (ps_set (i := 6) sc_law.nd rfl (Or.inl rfl) (pe_op op_add_str (pe_op op_add_str (pe_bm PySem.F.plainAttrs_str PySem.F.slot_str_join PySem.F.type_str_join mt_join pe_str (pa_cons (pe_comp (N := ["_law_script", "_law_left", "_law_right_here", "_law_coin", "_law_side", "_law_many", "_law_text", "_law_handed", "_law_cell", "_law_k", "_law_at", "_law_sign"]) (sc0 := defScope (top 31)) ["_law_coin"] [] [] rfl rfl rfl ⟨rfl, by decide +kernel, by decide +kernel, by decide +kernel, rfl, by decide +kernel⟩ (pi_list (pv 1)) (fun _ _ _ _ => (pg_name (i := 0) (by decide +kernel : (["_law_coin"] : List Str).Nodup) rfl (Or.inl rfl) (.inr rfl))) (fun _ _ _ _ => (pe_callTy call_str_int (by rfl) B.str boot_strT (pa_cons (pv 0) pa_nil)))) pa_nil)) pe_str) (pe_bm PySem.F.plainAttrs_str PySem.F.slot_str_join PySem.F.type_str_join mt_join pe_str (pa_cons (pe_comp (N := ["_law_script", "_law_left", "_law_right_here", "_law_coin", "_law_side", "_law_many", "_law_text", "_law_handed", "_law_cell", "_law_k", "_law_at", "_law_sign"]) (sc0 := defScope (top 31)) ["_law_coin"] [] [] rfl rfl rfl ⟨rfl, by decide +kernel, by decide +kernel, by decide +kernel, rfl, by decide +kernel⟩ (pi_list (pv 2)) (fun _ _ _ _ => (pg_name (i := 0) (by decide +kernel : (["_law_coin"] : List Str).Nodup) rfl (Or.inl rfl) (.inr rfl))) (fun _ _ _ _ => (pe_callTy call_str_int (by rfl) B.str boot_strT (pa_cons (pv 0) pa_nil)))) pa_nil))))
      (pss_cons (ps_if (pt_cmpR op_eq (pv 5) pe_int (nomark _)) (pss_one (ps_set (i := 6) sc_law.nd rfl (Or.inl rfl) pe_str)) pss_nil)
      (pss_cons (ps_set (i := 7) sc_law.nd rfl (Or.inl rfl) (pe_lst (pa_cons (pe_callTy call_list_of (by rfl) B.list boot_listT (pa_cons (pv 1) pa_nil)) (pa_cons (pe_callTy call_list_of (by rfl) B.list boot_listT (pa_cons (pv 2) pa_nil)) pa_nil))))
      (pss_cons (ps_if (PW.pt (pw_or (pt_cmpR op_ne (pe_can c_written (hr.mono (by decide)) pass0 (pa_cons (pe_ix ix_list (pv 7) pe_int (fun _ _ => rfl)) (pa_cons (pe_ix ix_list (pv 7) pe_int (fun _ _ => rfl)) pa_nil))) (pv 6) (nomark _)) (pw_or (pt_cmpR (op_neLL hu) (pv 7) (pe_lst (pa_cons (pv 1) (pa_cons (pv 2) pa_nil))) (nomark _)) (pw_or1 (pt_not (pt_val (pe_can c__law_right (hr.mono (by decide)) pass0 (pa_cons (pv 6) pa_nil)))))))) (pss_one (ps_ret pe_bl)) pss_nil)
      (pss_cons (ps_set (i := 8) sc_law.nd rfl (Or.inl rfl) (pe_op op_add (pe_can c__law_cell_at (hr.mono (by decide)) pass0 (pa_cons (pv 0) (pa_cons pe_int pa_nil))) (pe_op op_mul pe_int (pe_can c__law_cell_at (hr.mono (by decide)) pass0 (pa_cons (pv 0) (pa_cons pe_int pa_nil))))))
      (pss_cons (ps_for PassesOwn.never rfl (pi_range1 (by rfl) B.range (pa_cons pe_int pa_nil)) (pg_name (i := 9) sc_law.nd rfl (Or.inl rfl)) (pss_cons (ps_set (i := 10) sc_law.nd rfl (Or.inl rfl) (pe_can c__law_draw (hr.mono (by decide)) pass0 (pa_cons (pe_op op_add (pv 8) (pv 9)) (pa_cons pe_int (pa_cons (pe_op op_add (pe_callB call_len_str (by rfl) B.len boot_lenB (pa_cons (pv 6) pa_nil)) pe_int) pa_nil))))) (pss_cons (ps_set (i := 11) sc_law.nd rfl (Or.inl rfl) (pe_ix ix_tup (pe_tup (pa_cons pe_str (pa_cons (pe_ix ix_str pe_str (pe_can c__law_draw (hr.mono (by decide)) pass0 (pa_cons (pe_op op_add (pv 8) (pv 9)) (pa_cons pe_int (pa_cons pe_int pa_nil)))) (fun _ _ => rfl)) pa_nil))) (pe_can c__law_draw (hr.mono (by decide)) pass0 (pa_cons (pe_op op_add (pv 8) (pv 9)) (pa_cons pe_int (pa_cons pe_int pa_nil)))) (fun _ _ => rfl))) (pss_one (ps_if (pt_not (pt_val (pe_can c__law_right (hr.mono (by decide)) pass0 (pa_cons (pe_op op_add_str (pe_op op_add_str (pe_slice sl_str (pv 6) po_none (po_some (pv 10))) (pv 11)) (pe_slice sl_str (pv 6) (po_some (pe_op op_add (pv 10) (pe_can c__law_draw (hr.mono (by decide)) pass0 (pa_cons (pe_op op_add (pv 8) (pv 9)) (pa_cons pe_int (pa_cons pe_int pa_nil)))))) po_none)) pa_nil)))) (pss_one (ps_ret pe_bl)) pss_nil)))))
      (pss_cons (ps_if (pt_not (pt_val (pe_callB (call_allL rfl) (by rfl) B.all boot_allB (pa_cons (pe_comp (N := ["_law_script", "_law_left", "_law_right_here", "_law_coin", "_law_side", "_law_many", "_law_text", "_law_handed", "_law_cell", "_law_k", "_law_at", "_law_sign"]) (sc0 := defScope (top 31)) ["_law_other"] [] [] rfl rfl rfl ⟨rfl, by decide +kernel, by decide +kernel, by decide +kernel, rfl, by decide +kernel⟩ (pi_list (pe_can0 c__law_few (hr.mono (by decide)) pass0)) (fun _ _ _ _ => (pg_name (i := 0) (by decide +kernel : (["_law_other"] : List Str).Nodup) rfl (Or.inl rfl) (.inr rfl))) (fun _ _ _ _ => (pe_can c__law_right (hr.mono (by decide)) pass0 (pa_cons (pv 0) pa_nil)))) pa_nil)))) (pss_one (ps_ret pe_bl)) pss_nil)
      (pss_one (ps_ret (pe_callB (call_allL rfl) (by rfl) B.all boot_allB (pa_cons (pe_comp (N := ["_law_script", "_law_left", "_law_right_here", "_law_coin", "_law_side", "_law_many", "_law_text", "_law_handed", "_law_cell", "_law_k", "_law_at", "_law_sign"]) (sc0 := defScope (top 31)) ["_law_thing"] [] [] rfl rfl rfl ⟨rfl, by decide +kernel, by decide +kernel, by decide +kernel, rfl, by decide +kernel⟩ (pi_list (pe_lst (pa_cons pe_non (pa_cons pe_int (pa_cons (pe_lst (pa_cons pe_str pa_nil)) (pa_cons pe_bl pa_nil)))))) (fun _ _ _ _ => (pg_name (i := 0) (by decide +kernel : (["_law_thing"] : List Str).Nodup) rfl (Or.inl rfl) (.inr rfl))) (fun _ _ _ _ => (pe_can c__law_refused (hr.mono (by decide)) pass0 (pa_cons (pv 0) pa_nil)))) pa_nil))))))))))))))), ?_⟩
    refine ⟨by show 0 ≤ sizeLine; decide, fun p1 hp1 => ⟨by show 0 ≤ sizeLine; decide, fun p2 hp2 => ⟨_, _, rfl, ?_⟩⟩⟩
    have hp12 : p1 ≠ p2 := fun e => by rw [← e, upd_same] at hp2; cases hp2
    have hp2H : H p2 = none := by rw [upd_ne (Ne.symm hp12)] at hp2; exact hp2
    have h00 : Same H (upd (upd H p1 (.lst [])) p2 (.lst [])) := ((Same.refl H).put' hp1).put' hp2H
    refine ⟨_, rfl, a, _, rfl, .inl (h00.seq ha), (ns.length : Int), (by rw [List.length_map]), by omega, by omega, ?_⟩
    refine for_range (lo := 0) (n := ns.length) (fun i σ H2 => Same H H2 ∧ ∃ (l r : List Int) (v3 v4 : Option V), H2 p1 = some (.lst (l.map V.int)) ∧ H2 p2 = some (.lst (r.map V.int)) ∧ SidJ i l r ∧ σ = [some (.ref a), some (.ref p1), some (.ref p2), v3, v4, none, none, none, none, none, none, none]) ?_ ?_ ?_
    · exact ⟨h00, [], [], none, none, by rw [upd_ne hp12, upd_same]; rfl, by rw [upd_same]; rfl, SidJ.nil, rfl⟩
    · rintro i σ H2 hi ⟨sm, l, r, v3, v4, e1, e2, S, rfl⟩
      rw [Int.zero_add]
      have hat : atI (ns.map V.int) (i : Int) = some (.int ns[i]) := atI_nat (by simp [hi])
      refine ⟨_, rfl, _, rfl, a, _, _, _, rfl, rfl, sm.seq ha, hat, _, rfl, _, _, rfl, rfl, (by show (0 : Int) < 5; decide), _, _, rfl, rfl, _, _, _, rfl, ?_, by decide, fun H3 s3 => ?_⟩
      · have := Int.emod_nonneg (i : Int) (show (5 : Int) ≠ 0 by decide); omega
      have e13 := s3 _ _ e1
      have e23 := s3 _ _ e2
      have s03 := sm.trans s3
      have hcnt := S.cnt
      generalize drawF _ _ _ = d
      refine ⟨_, rfl, rfl, _, rfl, ?_⟩
      by_cases hd : d = 0
      · refine tru (by rw [dInt]; exact decide_eq_true hd) ?_
        refine ⟨_, rfl, .inl ⟨rfl, _, SqL.of e13⟩, _, rfl, _, _, rfl, rfl, .inr ⟨by decide, by decide⟩, p1, _, _, rfl, rfl, e13, small1000 (by simp; omega), ?_⟩
        refine ⟨_, rfl, rfl, _, rfl, fls (by rw [dInt]; exact decide_eq_false (by omega)) ?_⟩
        exact ⟨s03.put' hp1, l ++ [(i : Int) * 7], r, _, _, by rw [upd_same]; simp, by rw [upd_ne (Ne.symm hp12)]; exact e23, S.left, rfl⟩
      · refine fls (by rw [dInt]; exact decide_eq_false hd) ?_
        refine ⟨_, rfl, rfl, _, rfl, ?_⟩
        by_cases hd1 : d = 1
        · refine tru (by rw [dInt]; exact decide_eq_true hd1) ?_
          refine ⟨_, rfl, .inl ⟨rfl, _, SqL.of e23⟩, _, rfl, _, _, rfl, rfl, .inr ⟨by decide, by decide⟩, _, _, rfl, rfl, p2, _, _, rfl, rfl, e23, small1000 (by simp; omega), ?_⟩
          exact ⟨s03.put' hp2H, l, r ++ [(i : Int) * 7 + 1], _, _, by rw [upd_ne hp12]; exact e13, by rw [upd_same]; simp, S.right, rfl⟩
        · refine fls (by rw [dInt]; exact decide_eq_false hd1) ?_
          exact ⟨s03, l, r, _, _, e13, e23, S.skip, rfl⟩
    · rintro σ H2 ⟨sm, l, r, v3, v4, e1, e2, S, rfl⟩
      refine ⟨_, rfl, p1, _, rfl, .inl (SqL.of e1), _, rfl, p2, _, rfl, .inl (SqL.of e2), _, _, rfl, ?_⟩
      rw [List.length_map, List.length_map]
      have hmin : (if (r.length : Int) < (l.length : Int) then (r.length : Int) else (l.length : Int)) = ((min l.length r.length : Nat) : Int) := by
        split <;> omega
      generalize hM : min l.length r.length = m at hmin
      have m1 : m ≤ l.length := by omega
      have m2 : m ≤ r.length := by omega
      rw [hmin]
      obtain ⟨fit, sl, sr, ll, m31⟩ := S.fit hns m1 m2
      refine ⟨_, rfl, _, rfl, (m : Int), rfl, p1, _, rfl, SqL.of e1, fun q1 hq1 => ?_⟩
      have n1 : p2 ≠ q1 := ne_of_none e2 hq1
      have e2' : upd H2 q1 (.lst (cutV (l.map V.int) none (some (m : Int)))) p2 = some (.lst (r.map V.int)) := by rw [upd_ne n1]; exact e2
      refine ⟨_, rfl, _, rfl, (m : Int), rfl, p2, _, rfl, SqL.of e2', fun q2 hq2 => ⟨_, _, rfl, ?_⟩⟩
      have n2 : q1 ≠ q2 := fun z => by rw [← z, upd_same] at hq2; cases hq2
      have s4 : Same H (upd (upd H2 q1 (.lst (cutV (l.map V.int) none (some (m : Int))))) q2 (.lst (cutV (r.map V.int) none (some (m : Int))))) := (sm.upd hq1).upd hq2
      have f1 : upd (upd H2 q1 (.lst (cutV (l.map V.int) none (some (m : Int))))) q2 (.lst (cutV (r.map V.int) none (some (m : Int)))) q1 = some (.lst ((l.take m).map V.int)) := by rw [upd_ne n2, upd_same, cut_take l m m1]
      have f2 : upd (upd H2 q1 (.lst (cutV (l.map V.int) none (some (m : Int))))) q2 (.lst (cutV (r.map V.int) none (some (m : Int)))) q2 = some (.lst ((r.take m).map V.int)) := by rw [upd_same, cut_take r m m2]
      generalize upd (upd H2 q1 (.lst (cutV (l.map V.int) none (some (m : Int))))) q2 (.lst (cutV (r.map V.int) none (some (m : Int)))) = H4 at s4 f1 f2 ⊢
      have lr : (r.take m).length = m := by rw [← fit.2.2.1]; exact ll
      generalize l.take m = L at fit sl f1 ll
      generalize r.take m = R at fit sr f2 lr
      have jl : ∀ x : List Int, x.length ≤ 31 → Small x → (Str.join " " (x.map Tx.strI)).length ≤ 341 := fun x hx sx => by
        have h1 := join_len " " (x.map Tx.strI)
        have h2 := strI_sum x sx
        rw [List.length_map] at h1
        have e1 : (" " : Str).length = 1 := by decide +kernel
        rw [e1] at h1; omega
      have j1 := jl L (by omega) sl
      have j2 := jl R (by omega) sr
      have l3 : (" | " : Str).length = 3 := by decide +kernel
      have sz : 6000 ≤ sizeLine := by decide
      have emap : ∀ x : List Int, (x.map V.int).map (fun v => match v with | .int i => V.str (Tx.strI i) | v => v) = (x.map Tx.strI).map V.str := fun x => by rw [List.map_map, List.map_map]; rfl
      have ej : ∀ x : List Int, Txt.join " " (x.map Tx.strI) = Str.join " " (x.map Tx.strI) := fun x => StrLaws.glued_eq_join _ _
      have sum : ∀ x : List Int, x.length ≤ 31 → Small x → ((x.map Tx.strI).map (·.length)).sum + (x.map Tx.strI).length * (" " : Str).length ≤ 16777216 := fun x hx sx => by
        have := strI_sum x sx
        rw [List.length_map]
        have e1 : (" " : Str).length = 1 := by decide +kernel
        rw [e1]; omega
      refine ⟨rfl, _, rfl, q1, rfl, ⟨_, SqL.of f1⟩, fun c1 hc1 => comp_list hc1 f1 (by rw [List.length_map]; exact small1000 (by omega)) (fun v => match v with | .int i => .str (Tx.strI i) | v => v) (fun σ' => ∃ v0, σ' = [v0]) ⟨none, rfl⟩ ?_ ?_⟩
      · rintro j x σ' H' hx ⟨v0, rfl⟩ sm' KK kk
        obtain ⟨z, hz, rfl⟩ := ints_at hx
        exact ⟨_, rfl, z, rfl, log_small (sl z (List.mem_of_getElem? hz)), kk [some (.int z)] H' ⟨_, rfl⟩ (Same.refl _)⟩
      intro H5 s5 hq5
      rw [emap] at hq5
      refine ⟨_, c1, _, rfl, rfl, SqL.of hq5, sum L (by omega) sl, _, _, rfl, rfl, (by rw [ej, l3]; omega), ?_⟩
      refine ⟨rfl, _, rfl, q2, rfl, ⟨_, SqL.of (s5 _ _ f2)⟩, fun c2 hc2 => comp_list hc2 (s5 _ _ f2) (by rw [List.length_map]; exact small1000 (by omega)) (fun v => match v with | .int i => .str (Tx.strI i) | v => v) (fun σ' => ∃ v0, σ' = [v0]) ⟨none, rfl⟩ ?_ ?_⟩
      · rintro j x σ' H' hx ⟨v0, rfl⟩ sm' KK kk
        obtain ⟨z, hz, rfl⟩ := ints_at hx
        exact ⟨_, rfl, z, rfl, log_small (sr z (List.mem_of_getElem? hz)), kk [some (.int z)] H' ⟨_, rfl⟩ (Same.refl _)⟩
      intro H6 s6 hq6
      rw [emap] at hq6
      refine ⟨_, c2, _, rfl, rfl, SqL.of hq6, sum R (by omega) sr, _, _, rfl, rfl, (by rw [ej, ej, Tx.len_app, l3]; omega), ?_⟩
      refine text_if (m := m) (z := Txt.join " " (L.map Tx.strI) ++ " | " ++ Txt.join " " (R.map Tx.strI)) rfl rfl ?_
      have ew : (if m = 0 then ("-" : Str) else Txt.join " " (L.map Tx.strI) ++ " | " ++ Txt.join " " (R.map Tx.strI)) = Tx.wr L R := by unfold Tx.wr; rw [ll, ej, ej]
      rw [ew]
      have zl := wr_len (l := L) (r := R) (by omega) (by omega) sl sr
      have zb : Tx.blanks (Tx.wr L R) ≤ 62 := by
        have := Tx.blanks_wr (l := L) (r := R) (fun k hk => (sl k hk).1) (fun k hk => (sr k hk).1) fit.2.2.1
        omega
      have g1 := s6 _ _ (s5 _ _ f1)
      have g2 := s6 _ _ (s5 _ _ f2)
      have s06 := s4.trans (s5.trans s6)
      -- handed over
      refine ⟨_, rfl, q1, _, rfl, .inl (SqL.of g1), fun h1 hh1 => ?_⟩
      have g2' : upd H6 h1 (.lst (L.map V.int)) q2 = some (.lst (R.map V.int)) := by rw [upd_ne (ne_of_none g2 hh1)]; exact g2
      refine ⟨_, rfl, q2, _, rfl, .inl (SqL.of g2'), fun h2 hh2 => ⟨by show 2 ≤ sizeLine; decide, fun h3 hh3 => ?_⟩⟩
      have s7 : Same H6 (upd (upd (upd H6 h1 (.lst (L.map V.int))) h2 (.lst (R.map V.int))) h3 (.lst [.ref h1, .ref h2])) := ((Same.upd0 hh1).upd hh2).upd hh3
      have n12 : h1 ≠ h2 := fun z => by rw [← z, upd_same] at hh2; cases hh2
      have k1' : upd (upd H6 h1 (.lst (L.map V.int))) h2 (.lst (R.map V.int)) h1 = some (.lst (L.map V.int)) := by rw [upd_ne n12, upd_same]
      have k1 : upd (upd (upd H6 h1 (.lst (L.map V.int))) h2 (.lst (R.map V.int))) h3 (.lst [.ref h1, .ref h2]) h1 = some (.lst (L.map V.int)) := by rw [upd_ne (ne_of_none k1' hh3)]; exact k1'
      have k2 : upd (upd (upd H6 h1 (.lst (L.map V.int))) h2 (.lst (R.map V.int))) h3 (.lst [.ref h1, .ref h2]) h2 = some (.lst (R.map V.int)) := by rw [upd_ne (ne_of_none upd_same hh3), upd_same]
      have k3 : upd (upd (upd H6 h1 (.lst (L.map V.int))) h2 (.lst (R.map V.int))) h3 (.lst [.ref h1, .ref h2]) h3 = some (.lst [.ref h1, .ref h2]) := upd_same
      have nq1 : h1 ≠ q1 := fun z => by rw [z, g1] at hh1; cases hh1
      have nq2 : h2 ≠ q2 := fun z => by rw [z, g2'] at hh2; cases hh2
      generalize upd (upd (upd H6 h1 (.lst (L.map V.int))) h2 (.lst (R.map V.int))) h3 (.lst [.ref h1, .ref h2]) = H7 at s7 k1 k2 k3 ⊢
      refine ⟨_, rfl, h3, _, _, _, rfl, rfl, SqL.of k3, atI_nat (j := 0) rfl, _, rfl, h3, _, _, _, rfl, rfl, SqL.of k3, atI_nat (j := 1) rfl, h1, h2, L, R, rfl, k1, k2, by omega, by omega, sl, sr, fit, fun H8 s8 => ?_⟩
      refine ⟨_, rfl, rfl, _, rfl, fls (by simp) ?_⟩
      refine ⟨_, rfl, _, rfl, _, rfl, by show 2 ≤ sizeLine; decide, fun h4 hh4 => ?_⟩
      have b1 := s8 _ _ k1
      have b2 := s8 _ _ k2
      have b3 := s8 _ _ k3
      have c1 := s8 _ _ (s7 _ _ g1)
      have c2 := s8 _ _ (s7 _ _ g2)
      have s9 : Same H8 (upd H8 h4 (.lst [.ref q1, .ref q2])) := Same.upd0 hh4
      refine ⟨h3, h4, h1, h2, q1, q2, _, _, _, _, rfl, rfl, SqL.of (s9 _ _ b3), SqL.of upd_same, ⟨nq1, nq2, SqL.of (s9 _ _ b1), SqL.of (s9 _ _ b2), SqL.of (s9 _ _ c1), SqL.of (s9 _ _ c2), flat_ints L, flat_ints R, flat_ints L, flat_ints R⟩, _, rfl, ?_⟩
      refine fls (by rw [eqVs_ints, eqVs_ints]; simp) ?_
      refine ⟨_, rfl, Tx.wr L R, rfl, by omega, by omega, fun H10 s10 => ⟨_, rfl, iteF ?_⟩⟩
      have s010 := s06.trans (s7.trans (s8.trans (s9.trans s10)))
      -- the cell
      refine ⟨_, rfl, a, ns, 3, rfl, s010.seq ha, by decide, _, rfl, a, ns, 0, rfl, s010.seq ha, by decide, _, _, rfl, rfl, .inl ⟨by decide, by decide⟩, _, _, rfl, rfl, ?_⟩
      obtain ⟨cl, hcl⟩ : ∃ cl, cl = cellF ns 3 + 7 * cellF ns 0 := ⟨_, rfl⟩
      refine ⟨3, rfl, by decide, by decide, for_range (lo := 0) (n := 3) (fun i σ H2 => Same H H2 ∧ ∃ (v9 v10 v11 : Option V), σ = [some (.ref a), some (.ref q1), some (.ref q2), v3, v4, some (.int m), some (.str (Tx.wr L R)), some (.ref h3), some (.int cl), v9, v10, v11]) ?_ ?_ ?_⟩
      · exact ⟨s010, none, none, none, by rw [hcl]; rfl⟩
      · rintro i σ Hi hi ⟨si, v9, v10, v11, rfl⟩
        rw [Int.zero_add]
        refine ⟨_, rfl, _, rfl, _, _, rfl, rfl, _, rfl, _, rfl, by omega, _, _, rfl, rfl, _, _, _, rfl, by decide, by omega, fun Ha sa => ?_⟩
        have at0 := drawF_nonneg (c := cl + (i : Int)) (k := 1) (m := ((Tx.wr L R).length : Int) + 1) (by omega)
        have at1 := drawF_lt (c := cl + (i : Int)) (k := 1) (m := ((Tx.wr L R).length : Int) + 1) (by omega)
        generalize drawF (cl + (i : Int)) 1 (((Tx.wr L R).length : Int) + 1) = at' at at0 at1 ⊢
        have sg : ("0123456789 |-x\n" : Str).length = 15 := by decide +kernel
        have i0 := drawF_nonneg (c := cl + (i : Int)) (k := 2) (m := 15) (by decide)
        have i1 := drawF_lt (c := cl + (i : Int)) (k := 2) (m := 15) (by decide)
        obtain ⟨c, hc⟩ := sign_at (z := "0123456789 |-x\n") i0 (by rw [sg]; exact i1)
        have d0 := drawF_nonneg (c := cl + (i : Int)) (k := 3) (m := 2) (by decide)
        have d1 := drawF_lt (c := cl + (i : Int)) (k := 3) (m := 2) (by decide)
        have f0 := drawF_nonneg (c := cl + (i : Int)) (k := 4) (m := 2) (by decide)
        obtain ⟨g, hg, gl⟩ : ∃ g : Str, atI [V.str "", V.str ⟨#[c]⟩] (drawF (cl + (i : Int)) 3 2) = some (.str g) ∧ g.length ≤ 1 := by
          generalize drawF (cl + (i : Int)) 3 2 = d at d0 d1 ⊢
          have : d = 0 ∨ d = 1 := by omega
          rcases this with rfl | rfl
          · exact ⟨"", atI_nat (j := 0) rfl, by decide +kernel⟩
          · exact ⟨⟨#[c]⟩, atI_nat (j := 1) rfl, Nat.le_refl 1⟩
        have zs : (Tx.wr L R).length ≤ sizeLine := by omega
        have cs1 := Txt.slice_le (Tx.wr L R) none (some at')
        have cs2 := Txt.slice_le (Tx.wr L R) (some (at' + drawF (cl + (i : Int)) 4 2)) none
        obtain ⟨fl, fb⟩ := fine_cut (z := Tx.wr L R) (g := g) (i := at') (d := drawF (cl + (i : Int)) 4 2) zl zb gl at0 (by omega) f0
        refine ⟨_, rfl, _, rfl, _, _, rfl, rfl, _, _, _, rfl, by decide, by decide, fun Hb sb => ⟨_, _, c, rfl, rfl, by rw [sg]; decide, hc, by show 2 ≤ sizeLine; decide, fun t ht => ?_⟩⟩
        refine ⟨_, rfl, _, rfl, _, _, rfl, rfl, _, _, _, rfl, by decide, by decide, fun Hc sc => ⟨t, _, _, .str g, rfl, rfl, SqT.of (sc _ _ upd_same), hg, ?_⟩⟩
        refine ⟨_, rfl, _, rfl, at', rfl, Tx.wr L R, rfl, zs, _, rfl, _, _, rfl, rfl, by omega, _, rfl, _, rfl, _, rfl, _, rfl, _, _, rfl, rfl, _, _, _, rfl, by decide, by decide, fun Hd sd => ⟨_, _, rfl, rfl, _, rfl, Tx.wr L R, rfl, zs, _, _, rfl, rfl, (by rw [Tx.len_app]; omega), _, rfl, fl, fb, fun He se => ⟨_, rfl, iteF ?_⟩⟩⟩
        exact ⟨si.trans (sa.trans (sb.trans ((Same.upd0 ht).trans (sc.trans (sd.trans se))))), _, _, _, rfl⟩
      · rintro σ Hz ⟨sz', v9, v10, v11, rfl⟩
        refine ⟨rfl, fun pf xs Hf npf sf ef lf ff => ⟨pf, rfl, ⟨_, SqL.of ef⟩, fun c3 hc3 => comp_list hc3 ef (by rw [List.length_map]; exact small1000 lf) (fun _ => .bl true) (fun σ' => ∃ v0, σ' = [v0]) ⟨none, rfl⟩ ?_ ?_⟩⟩
        · rintro j x σ' H' hx ⟨v0, rfl⟩ sm' KK kk
          obtain ⟨z, hz, rfl⟩ := strs_at hx
          exact ⟨_, rfl, z, rfl, (ff z hz).1, (ff z hz).2, fun H4 s4 => kk [some (.str z)] H4 ⟨_, rfl⟩ s4⟩
        intro Hg sg hg
        have eb : (xs.map V.str).map (fun _ => V.bl true) = (xs.map fun _ => true).map V.bl := by rw [List.map_map, List.map_map]; rfl
        rw [eb] at hg
        refine ⟨c3, _, rfl, hg, _, rfl, ?_⟩
        have all1 : (xs.map fun _ => true).all id = true := by rw [List.all_map]; exact List.all_eq_true.mpr fun _ _ => rfl
        rw [all1]
        refine iteF ?_
        have s0g := sz'.trans (sf.trans sg)
        refine ⟨by show 1 ≤ sizeLine; decide, fun q5 hq5 => ⟨by show 4 ≤ sizeLine; decide, fun q6 hq6 => ⟨q6, rfl, ⟨_, SqL.of upd_same⟩, fun c4 hc4 => ?_⟩⟩⟩
        have s56 : Same Hg (upd (upd Hg q5 (.lst [.str "0 | 1"])) q6 (.lst [.non, .int 5, .ref q5, .bl true])) := (Same.upd0 hq5).upd hq6
        have e5 : upd (upd Hg q5 (.lst [.str "0 | 1"])) q6 (.lst [.non, .int 5, .ref q5, .bl true]) q5 = some (.lst [.str "0 | 1"]) := by rw [upd_ne (ne_of_none upd_same hq6)]; exact upd_same
        refine comp_list hc4 upd_same (by show 4 < sizeLine; decide) (fun _ => .bl true) (fun σ' => ∃ v0, σ' = [v0]) ⟨none, rfl⟩ ?_ ?_
        · rintro j x σ' H' hx ⟨v0, rfl⟩ sm' KK kk
          have nots : NotS K H' x := by
            match j, hx with
            | 0, hx => cases hx; exact ⟨_, .non, T.ns⟩
            | 1, hx => cases hx; exact ⟨_, .int 5, T.is⟩
            | 2, hx => cases hx; exact ⟨_, .lst (sm' _ _ e5), T.ls⟩
            | 3, hx => cases hx; exact ⟨_, .bl true, T.bs⟩
            | j + 4, hx => simp at hx
          exact ⟨_, rfl, _, rfl, .inl nots, fun H4 s4 => kk [some x] H4 ⟨_, rfl⟩ s4⟩
        · intro Hh sh hh
          exact ⟨c4, [true, true, true, true], rfl, hh, q _ (s0g.trans (s56.trans sh))⟩
end
end Ks

end
section
namespace PySem.W
theorem findObj_dataN {K : Frag} {C : Addr} {name : Str} {a g : Value} (hc : (clsIn K C).isSome = true) (ha : findIn K (.ref C) name = some (some a)) (hg : specialIn K a "__get__" = some (some g)) (ht : takesIn K a = some true) : findObj K C none name = some (.bind g a) := by
  obtain ⟨cd, hc⟩ := Option.isSome_iff_exists.mp hc
  unfold findObj; rw [hc, Option.bind_some, ha, Option.bind_some]; simp [hg, ht]
end PySem.W
namespace Ks
open PySem L2
/-! ### the head: what the top has written -/
def DefIn (K : PySem.W.Frag) (x : Str) (st : Stmt) : Prop := ∃ f fd, PySem.W.nsIn K mainGlobals x = some (some (.ref f)) ∧ Fun K x x st f fd
theorem def_mk {K : PySem.W.Frag} {x : Str} {st : Stmt} {f : Addr} {oc : Value} {od an : Option Addr} {osl : Array (Option Value)} {kV doc pm cdv ct : Value} (a : PySem.W.nsIn K mainGlobals x = some (some (.ref f)))
    (l : K.lookup f = some ⟨oc, od, .func (PySem.W.fnOf x x (defArgs st) (defBody st) (defScope st) .none kV doc pm an cdv ct), osl⟩) (c : PySem.W.codeIn K cdv x = true) (k : PySem.W.keepIn K (.ref f) = true) : DefIn K x st := ⟨f, _, a, fun_mk l c k⟩
theorem can_of {P : Program} {w : World} {K : PySem.W.Frag} {mg : Str → Option Value} {base h : Heap} {CX : CXT} {k : Nat} {x : Str} {st : Stmt} {ps : List Str} {sp : Sp} (X : K.In h) (G : h.Ns mainGlobals mg) (D : DefIn K x st)
    (hb : ∀ (kV doc pm : Value) (an : Option Addr) (cdv ct : Value) (us : List Value), us.length = ps.length → bindArgs (PySem.W.fnOf x x (defArgs st) (defBody st) (defScope st) .none kV doc pm an cdv ct) ⟨us, []⟩ = pure (ps.zip us))
    (ok : ∀ f fd, Fun K x x st f fd → FnOk P w K mg base CX k f fd ps sp) : Can P w K mg base CX k x ps sp := by
  obtain ⟨f, fd, a, F⟩ := D
  exact ⟨f, fd, PySem.W.mg_of X G a, F.kp, F.binds hb, ok f fd F⟩
/-- what the classes of the refusals are, as the fragment tells it -/
def errB (K : PySem.W.Frag) (c0 : Addr) (six : List Addr) : Bool := six.all fun c => PySem.W.excIn K c vMro "ValueError.__new__" && (PySem.W.exmOne K (.ref c) (.ref c0) == some true) && (PySem.W.kitOne K (.ref c) (.type "ValueError") == some true) &&
  (six.all fun d => (PySem.W.exmOne K (.ref c) (.ref d) == some (decide (c = d))) && (PySem.W.kitOne K (.ref c) (.ref d) == some (decide (c = d)))) &&
  (PySem.W.findIn K (.ref c) "__getattribute__" == some (some (.builtin "BaseException.__getattribute__"))) && (PySem.W.findIn K (.ref c) "__getattr__" == some none) && (PySem.W.findIn K (.ref c) "__class__" == some (some (.builtin "object.__class__"))) &&
  (PySem.W.mroIn K c (.type "BaseException") == some true) && (PySem.W.mroIn K c (.type "object") == some true) && (PySem.W.clsIn K c).isSome
theorem errs_mk {K : PySem.W.Frag} {h : Heap} {mg : Str → Option Value} (X : K.In h) (G : h.Ns mainGlobals mg) {c0 c1 c2 c3 c4 c5 c6 : Addr} (n0 : PySem.W.nsIn K mainGlobals "CoinError" = some (some (.ref c0))) (n1 : PySem.W.nsIn K mainGlobals "BadMarks" = some (some (.ref c1)))
    (n2 : PySem.W.nsIn K mainGlobals "BadWeighing" = some (some (.ref c2))) (n3 : PySem.W.nsIn K mainGlobals "BadOutcome" = some (some (.ref c3))) (n4 : PySem.W.nsIn K mainGlobals "Never" = some (some (.ref c4))) (n5 : PySem.W.nsIn K mainGlobals "BadCoin" = some (some (.ref c5))) (n6 : PySem.W.nsIn K mainGlobals "BadText" = some (some (.ref c6)))
    (nv : PySem.W.nsIn K mainGlobals "ValueError" = some none) (sp : PySem.W.specialIn K (.builtin "object.__class__") "__get__" = some (some (.builtin "getset_descriptor.__get__"))) (tk : PySem.W.takesIn K (.builtin "object.__class__") = some true)
    (nd : [c1, c2, c3, c4, c5, c6].Nodup) (al : errB K c0 [c1, c2, c3, c4, c5, c6] = true) : ∃ e, Errs K mg e := by
  have A : ∀ c ∈ [c1, c2, c3, c4, c5, c6], _ := List.all_eq_true.mp al
  simp only [Bool.and_eq_true, beq_iff_eq, List.all_eq_true] at A
  refine ⟨⟨c0, c1, c2, c3, c4, c5, c6⟩, ⟨PySem.W.mg_of X G n0, PySem.W.mg_of X G n1, PySem.W.mg_of X G n2, PySem.W.mg_of X G n3, PySem.W.mg_of X G n4, PySem.W.mg_of X G n5, PySem.W.mg_of X G n6, PySem.W.mg_none_of X G nv, nd, fun c hc => ?_, fun c hc => ?_, fun c hc => ?_, fun c hc d hd => ?_, fun c hc d hd => ?_, fun c hc => ?_⟩⟩
  all_goals obtain ⟨⟨⟨⟨⟨⟨⟨⟨⟨a1, a2⟩, a3⟩, a4⟩, a5⟩, a6⟩, a7⟩, a8⟩, a9⟩, a10⟩ := A c hc
  · exact a1
  · exact ⟨a5, a6, PySem.W.findObj_dataN a10 a7 sp tk, a8, a9, a10⟩
  · exact a2
  · exact (a4 d hd).1
  · exact (a4 d hd).2
  · exact a3

theorem glb_mk {K : PySem.W.Frag} {h : Heap} {mg : Str → Option Value} (X : K.In h) (G : h.Ns mainGlobals mg) {t1 t2 t3 t4 t5 : Tok} (n1 : PySem.W.nsIn K mainGlobals "HIGHEST" = some (some (.int 999999999 t1))) (n2 : PySem.W.nsIn K mainGlobals "MOST_FIGURES" = some (some (.int 9 t2)))
    (n3 : PySem.W.nsIn K mainGlobals "FIGURES" = some (some (.str "0123456789" t3))) (n4 : PySem.W.nsIn K mainGlobals "BETWEEN_SIDES" = some (some (.str " | " t4))) (n5 : PySem.W.nsIn K mainGlobals "NONE" = some (some (.str "-" t5))) : Glb mg :=
  ⟨⟨_, PySem.W.mg_of X G n1⟩, ⟨_, PySem.W.mg_of X G n2⟩, ⟨_, PySem.W.mg_of X G n3⟩, ⟨_, PySem.W.mg_of X G n4⟩, ⟨_, PySem.W.mg_of X G n5⟩⟩
theorem all_mk {P : Program} {w : World} {K : PySem.W.Frag} {h : Heap} {mg : Str → Option Value} {fa : Addr} (X : K.In h) (G : h.Ns mainGlobals mg) (hfa : mg "law" = some (.ref fa)) (B : Blt mg) (T : Kit K) (Gl : Glb mg) (Er : ∃ e, Errs K mg e)
    (Dis_whole : DefIn K "is_whole" (top 9))
    (Dcheck_side : DefIn K "check_side" (top 10))
    (Dcheck_weighing : DefIn K "check_weighing" (top 11))
    (Dside_written : DefIn K "side_written" (top 18))
    (Dwritten : DefIn K "written" (top 19))
    (Dcount_read : DefIn K "count_read" (top 20))
    (Dside_read : DefIn K "side_read" (top 21))
    (Dread : DefIn K "read" (top 22))
    (D_law_cell_at : DefIn K "_law_cell_at" (top 24))
    (D_law_draw : DefIn K "_law_draw" (top 25))
    (D_law_number : DefIn K "_law_number" (top 26))
    (D_law_in : DefIn K "_law_in" (top 27))
    (D_law_refused : DefIn K "_law_refused" (top 28))
    (D_law_right : DefIn K "_law_right" (top 29))
    (D_law_few : DefIn K "_law_few" (top 30))
    (Dlaw : DefIn K "law" (top 31))
    : ∃ fd : FuncData, (∀ (s : Shared) (v : Value), BindsTo s fd ⟨[v], []⟩ [("_law_script", v)]) ∧ ∀ base : Heap, K.In base → base.Ns mainGlobals mg → FnOk P w K mg base CX0 7 fa fd ["_law_script"] (spLaw K) := by
  obtain ⟨e, Er⟩ := Er
  obtain ⟨f, fd, a, F0⟩ := Dlaw
  have e0 := hfa.symm.trans (PySem.W.mg_of X G a)
  cases e0
  obtain ⟨oc, od, kV, doc, pm, an, cdv, ct, osl, rfl, lk, hcd⟩ := id F0.ex
  refine ⟨PySem.W.fnOf "law" "law" (defArgs (top 31)) (defBody (top 31)) (defScope (top 31)) .none kV doc pm an cdv ct, fun s v => .of_eq rfl, fun base _ _ => ?_⟩
  have c_is_whole : Can P w K mg base CX0 1 "is_whole" ["value"] spWhole := can_of X G Dis_whole (fun _ _ _ _ _ _ us hl => match us, hl with | [_], _ => rfl) fun f fd F => ok_is_whole F B T
  have c_check_side : Can P w K mg base (CXE false P w) 2 "check_side" ["highest", "side"] (spSide e.weigh) := can_of X G Dcheck_side (fun _ _ _ _ _ _ us hl => match us, hl with | [_, _], _ => rfl) fun f fd F => ok_check_side F B T Er.m_weigh (Er.exc _ e.m2) c_is_whole
  have c_check_weighing : Can P w K mg base (CXE false P w) 3 "check_weighing" ["highest", "left", "right"] (spCW e.weigh) := can_of X G Dcheck_weighing (fun _ _ _ _ _ _ us hl => match us, hl with | [_, _, _], _ => rfl) fun f fd F => ok_check_weighing F B Er.m_weigh (Er.exc _ e.m2) c_check_side
  have c_side_written : Can P w K mg base CX0 1 "side_written" ["side"] spSW := can_of X G Dside_written (fun _ _ _ _ _ _ us hl => match us, hl with | [_], _ => rfl) fun f fd F => ok_side_written F B
  have c_written : Can P w K mg base CX0 4 "written" ["left", "right"] spWr := can_of X G Dwritten (fun _ _ _ _ _ _ us hl => match us, hl with | [_, _], _ => rfl) fun f fd F => ok_written F B Gl c_check_weighing.never c_side_written
  have c_count_read : Can P w K mg base (CXE true P w) 1 "count_read" ["figures"] (spCR e.text) := can_of X G Dcount_read (fun _ _ _ _ _ _ us hl => match us, hl with | [_], _ => rfl) fun f fd F => ok_count_read F B Gl Er.m_text (Er.exc _ e.m6)
  have c_side_read : Can P w K mg base (CXE true P w) 2 "side_read" ["text"] (spSR e.text) := can_of X G Dside_read (fun _ _ _ _ _ _ us hl => match us, hl with | [_], _ => rfl) fun f fd F => ok_side_read F c_count_read
  have c_read : Can P w K mg base (CXE true P w) 4 "read" ["text"] (spRead K e.text) := can_of X G Dread (fun _ _ _ _ _ _ us hl => match us, hl with | [_], _ => rfl) fun f fd F => ok_read F B T Gl Er c_side_read c_check_weighing
  have c__law_cell_at : Can P w K mg base CX0 1 "_law_cell_at" ["_law_script", "_law_k"] (spCell K) := can_of X G D_law_cell_at (fun _ _ _ _ _ _ us hl => match us, hl with | [_, _], _ => rfl) fun f fd F => ok_cell F B
  have c__law_draw : Can P w K mg base CX0 1 "_law_draw" ["_law_cell", "_law_k", "_law_many"] spDraw := can_of X G D_law_draw (fun _ _ _ _ _ _ us hl => match us, hl with | [_, _, _], _ => rfl) fun f fd F => ok_draw F
  have c__law_number : Can P w K mg base CX0 1 "_law_number" ["_law_text"] spNum := can_of X G D_law_number (fun _ _ _ _ _ _ us hl => match us, hl with | [_], _ => rfl) fun f fd F => ok__law_number F B
  have c__law_in : Can P w K mg base CX0 2 "_law_in" ["_law_text"] spIn := can_of X G D_law_in (fun _ _ _ _ _ _ us hl => match us, hl with | [_], _ => rfl) fun f fd F => ok__law_in F B c__law_number
  have c__law_refused : Can P w K mg base CX0 5 "_law_refused" ["_law_text"] (spRef K) := can_of X G D_law_refused (fun _ _ _ _ _ _ us hl => match us, hl with | [_], _ => rfl) fun f fd F => ok__law_refused F B Er c_read
  have c__law_right : Can P w K mg base CX0 6 "_law_right" ["_law_text"] spRight := can_of X G D_law_right (fun _ _ _ _ _ _ us hl => match us, hl with | [_], _ => rfl) fun f fd F => ok__law_right F B T c__law_in c__law_refused c_read.never c_written
  have c__law_few : Can P w K mg base CX0 1 "_law_few" [] spFew := can_of X G D_law_few (fun _ _ _ _ _ _ us hl => match us, hl with | [], _ => rfl) fun f fd F => ok__law_few F
  exact ok_law F0 B T c__law_cell_at c__law_draw c_written c__law_refused c__law_right c__law_few
end Ks

end
section
namespace Ks
open PySem L2
theorem walk {l : PySem.W.OpenLaw} {q : Program} {loose : List Str} {XP : (Str → Option Value) → Heap → Prop} {YP : World → Heap → Prop} {d : DefRec} {K : Params → PySem.W.Frag} (hn : l.most = some 63) (hdf : d.params.defaults = [])
    (hY : ∀ (w : World) (h : Heap), YP w h → (K w.params).In h)
    (F : ∀ (w : World) (mg : Str → Option Value) (fa : Addr) (h : Heap), (K w.params).In h → h.Ns mainGlobals mg → mg d.name = some (.ref fa) →
      ∃ fd : FuncData, (∀ (s : Shared) (u : Value), BindsTo s fd ⟨[u], []⟩ [("_law_script", u)]) ∧ ∀ base : Heap, (K w.params).In base → base.Ns mainGlobals mg → FnOk l.prog w (K w.params) mg base CX0 7 fa fd ["_law_script"] (spLaw (K w.params))) :
    PySem.W.WalkO q loose XP YP l.row.toRowW d [] (fun f vs => PySem.call f vs) :=
  L2.walk_of (n := 63) (k := 7) (x := "_law_script") (CX := fun _ => CX0) (sp := fun w => spLaw (K w.params)) hn (by decide) hdf ⟨rfl, by decide, by decide⟩ hY F (fun _ _ a ns hl _ hS => ⟨a, ns, rfl, hS, hl, fun _ _ => rfl⟩) fun _ _ _ _ _ z => z
end Ks
namespace Ks
open PySem L2
def kd (P : Params) (x : Str) (n : Nat) (v : Value) : DictEntry := { hash := PyData.keyHash P x, key := .str x n, val := v }
def KK : Params → PySem.W.Frag := fun P =>
  (nat_lit 2, { cls := Value.none, data := Data.dict #[] }) ::
  (nat_lit 3, { cls := Value.type "dict", data := Data.dict #[kd P "__name__" 165 (Value.str "law_oddcoin_k05_written" 379), kd P "__doc__" 166 Value.none, kd P "__package__" 167 Value.none, kd P "__loader__" 168 (Value.builtin "__main__.__loader__#opaque"), kd P "__spec__" 169 Value.none, kd P "__annotations__" 170 (Value.ref 6), kd P "__builtins__" 171 (Value.ref 4), kd P "__file__" 173 (Value.str "/claim/cut.py" 172), kd P "__cached__" 174 Value.none, kd P "CoinError" 206 (Value.ref 24), kd P "BadMarks" 222 (Value.ref 37), kd P "BadWeighing" 238 (Value.ref 49), kd P "BadOutcome" 254 (Value.ref 61), kd P "Never" 270 (Value.ref 73), kd P "BadCoin" 286 (Value.ref 85), kd P "BadText" 302 (Value.ref 97), kd P "is_whole" 311 (Value.ref 106), kd P "check_side" 321 (Value.ref 113), kd P "check_weighing" 330 (Value.ref 120), kd P "HIGHEST" 334 (Value.int 999999999 333), kd P "MOST_FIGURES" 336 (Value.int 9 335), kd P "FIGURES" 338 (Value.str "0123456789" 337), kd P "BETWEEN_SIDES" 340 (Value.str " | " 339), kd P "NONE" 342 (Value.str "-" 341), kd P "side_written" 348 (Value.ref 125), kd P "written" 356 (Value.ref 132), kd P "count_read" 362 (Value.ref 137), kd P "side_read" 368 (Value.ref 142), kd P "read" 378 (Value.ref 149), kd P "_law_cell_at" 388 (Value.ref 156), kd P "_law_draw" 398 (Value.ref 163), kd P "_law_number" 405 (Value.ref 170), kd P "_law_in" 411 (Value.ref 175), kd P "_law_refused" 420 (Value.ref 182), kd P "_law_right" 429 (Value.ref 189), kd P "_law_few" 436 (Value.ref 196), kd P "law" 442 (Value.ref 201)] 37 }) ::
  (nat_lit 15, { cls := Value.type "tuple", data := Data.seq #[Value.type "ValueError"] }) ::
  (nat_lit 22, { cls := Value.type "tuple", data := Data.seq #[] }) ::
  (nat_lit 23, { cls := Value.type "dict", data := Data.dict #[kd P "__module__" 196 (Value.str "oddcoin.errors" 187), kd P "__firstlineno__" 200 (Value.int 2 199), kd P "__static_attributes__" 201 (Value.ref 22), kd P "__weakref__" 203 (Value.ref 25), kd P "__doc__" 204 Value.none] 3 }) ::
  (nat_lit 24, { cls := Value.type "type", data := Data.cls { name := "CoinError", bases := [Value.type "ValueError"], mro := [Value.ref 24, Value.type "ValueError", Value.type "Exception", Value.type "BaseException", Value.type "object"], ns := 23, qualname := "CoinError", subclasses := [Value.ref 37, Value.ref 49, Value.ref 61, Value.ref 73, Value.ref 85, Value.ref 97] }, slots := #[some (Value.ref 15), none, some (Value.str "CoinError" 189), some (Value.str "CoinError" 197), some (Value.builtin "ValueError.__new__"), some (Value.bool true)] }) ::
  (nat_lit 25, { cls := Value.type "getset_descriptor", data := Data.fields #[Value.str "__weakref__" 202, Value.ref 24, Value.builtin "ExceptionGroup.__weakref__", Value.none] }) ::
  (nat_lit 28, { cls := Value.type "tuple", data := Data.seq #[Value.ref 24] }) ::
  (nat_lit 35, { cls := Value.type "tuple", data := Data.seq #[] }) ::
  (nat_lit 36, { cls := Value.type "dict", data := Data.dict #[kd P "__module__" 214 (Value.str "oddcoin.errors" 187), kd P "__firstlineno__" 218 (Value.int 4 217), kd P "__static_attributes__" 219 (Value.ref 35), kd P "__doc__" 220 Value.none] 2 }) ::
  (nat_lit 37, { cls := Value.type "type", data := Data.cls { name := "BadMarks", bases := [Value.ref 24], mro := [Value.ref 37, Value.ref 24, Value.type "ValueError", Value.type "Exception", Value.type "BaseException", Value.type "object"], ns := 36, qualname := "BadMarks" }, slots := #[some (Value.ref 28), none, some (Value.str "BadMarks" 207), some (Value.str "BadMarks" 215), some (Value.builtin "ValueError.__new__"), some (Value.bool true)] }) ::
  (nat_lit 40, { cls := Value.type "tuple", data := Data.seq #[Value.ref 24] }) ::
  (nat_lit 47, { cls := Value.type "tuple", data := Data.seq #[] }) ::
  (nat_lit 48, { cls := Value.type "dict", data := Data.dict #[kd P "__module__" 230 (Value.str "oddcoin.errors" 187), kd P "__firstlineno__" 234 (Value.int 6 233), kd P "__static_attributes__" 235 (Value.ref 47), kd P "__doc__" 236 Value.none] 2 }) ::
  (nat_lit 49, { cls := Value.type "type", data := Data.cls { name := "BadWeighing", bases := [Value.ref 24], mro := [Value.ref 49, Value.ref 24, Value.type "ValueError", Value.type "Exception", Value.type "BaseException", Value.type "object"], ns := 48, qualname := "BadWeighing" }, slots := #[some (Value.ref 40), none, some (Value.str "BadWeighing" 223), some (Value.str "BadWeighing" 231), some (Value.builtin "ValueError.__new__"), some (Value.bool true)] }) ::
  (nat_lit 52, { cls := Value.type "tuple", data := Data.seq #[Value.ref 24] }) ::
  (nat_lit 59, { cls := Value.type "tuple", data := Data.seq #[] }) ::
  (nat_lit 60, { cls := Value.type "dict", data := Data.dict #[kd P "__module__" 246 (Value.str "oddcoin.errors" 187), kd P "__firstlineno__" 250 (Value.int 8 249), kd P "__static_attributes__" 251 (Value.ref 59), kd P "__doc__" 252 Value.none] 2 }) ::
  (nat_lit 61, { cls := Value.type "type", data := Data.cls { name := "BadOutcome", bases := [Value.ref 24], mro := [Value.ref 61, Value.ref 24, Value.type "ValueError", Value.type "Exception", Value.type "BaseException", Value.type "object"], ns := 60, qualname := "BadOutcome" }, slots := #[some (Value.ref 52), none, some (Value.str "BadOutcome" 239), some (Value.str "BadOutcome" 247), some (Value.builtin "ValueError.__new__"), some (Value.bool true)] }) ::
  (nat_lit 64, { cls := Value.type "tuple", data := Data.seq #[Value.ref 24] }) ::
  (nat_lit 71, { cls := Value.type "tuple", data := Data.seq #[] }) ::
  (nat_lit 72, { cls := Value.type "dict", data := Data.dict #[kd P "__module__" 262 (Value.str "oddcoin.errors" 187), kd P "__firstlineno__" 266 (Value.int 10 265), kd P "__static_attributes__" 267 (Value.ref 71), kd P "__doc__" 268 Value.none] 2 }) ::
  (nat_lit 73, { cls := Value.type "type", data := Data.cls { name := "Never", bases := [Value.ref 24], mro := [Value.ref 73, Value.ref 24, Value.type "ValueError", Value.type "Exception", Value.type "BaseException", Value.type "object"], ns := 72, qualname := "Never" }, slots := #[some (Value.ref 64), none, some (Value.str "Never" 255), some (Value.str "Never" 263), some (Value.builtin "ValueError.__new__"), some (Value.bool true)] }) ::
  (nat_lit 76, { cls := Value.type "tuple", data := Data.seq #[Value.ref 24] }) ::
  (nat_lit 83, { cls := Value.type "tuple", data := Data.seq #[] }) ::
  (nat_lit 84, { cls := Value.type "dict", data := Data.dict #[kd P "__module__" 278 (Value.str "oddcoin.errors" 187), kd P "__firstlineno__" 282 (Value.int 12 281), kd P "__static_attributes__" 283 (Value.ref 83), kd P "__doc__" 284 Value.none] 2 }) ::
  (nat_lit 85, { cls := Value.type "type", data := Data.cls { name := "BadCoin", bases := [Value.ref 24], mro := [Value.ref 85, Value.ref 24, Value.type "ValueError", Value.type "Exception", Value.type "BaseException", Value.type "object"], ns := 84, qualname := "BadCoin" }, slots := #[some (Value.ref 76), none, some (Value.str "BadCoin" 271), some (Value.str "BadCoin" 279), some (Value.builtin "ValueError.__new__"), some (Value.bool true)] }) ::
  (nat_lit 88, { cls := Value.type "tuple", data := Data.seq #[Value.ref 24] }) ::
  (nat_lit 95, { cls := Value.type "tuple", data := Data.seq #[] }) ::
  (nat_lit 96, { cls := Value.type "dict", data := Data.dict #[kd P "__module__" 294 (Value.str "oddcoin.errors" 187), kd P "__firstlineno__" 298 (Value.int 14 297), kd P "__static_attributes__" 299 (Value.ref 95), kd P "__doc__" 300 Value.none] 2 }) ::
  (nat_lit 97, { cls := Value.type "type", data := Data.cls { name := "BadText", bases := [Value.ref 24], mro := [Value.ref 97, Value.ref 24, Value.type "ValueError", Value.type "Exception", Value.type "BaseException", Value.type "object"], ns := 96, qualname := "BadText" }, slots := #[some (Value.ref 88), none, some (Value.str "BadText" 287), some (Value.str "BadText" 295), some (Value.builtin "ValueError.__new__"), some (Value.bool true)] }) ::
  (nat_lit 100, { cls := Value.type "tuple", data := Data.seq #[] }) ::
  (nat_lit 102, { cls := Value.type "tuple", data := Data.seq #[Value.str "value" 308] }) ::
  (nat_lit 103, { cls := Value.type "tuple", data := Data.seq #[] }) ::
  (nat_lit 105, { cls := Value.type "code", data := Data.fields #[Value.str "is_whole" 305, Value.str "is_whole" 306, Value.str "/claim/cut.py" 307, Value.int 17 0, Value.int 1 0, Value.int 0 0, Value.int 0 0, Value.int 3 0, Value.ref 100, Value.bool true, Value.int 181 0, Value.ref 101, Value.none, Value.ref 102, Value.ref 103, Value.ref 104, Value.int 309 0, Value.int 17 0, Value.str "/claim/cut.py" 310] }) ::
  (nat_lit 106, { cls := Value.type "function", data := Data.func { name := "is_whole", qualname := "is_whole", params := defArgs (top 9), body := .stmts (defBody (top 9)), scope := defScope (top 9), globals := 3, closure := [], defaults := Value.none, kwdefaults := Value.none, pyModule := Value.str "oddcoin.checks" 303, code := Value.ref 105 } }) ::
  (nat_lit 107, { cls := Value.type "tuple", data := Data.seq #[] }) ::
  (nat_lit 109, { cls := Value.type "tuple", data := Data.seq #[Value.str "highest" 315, Value.str "side" 316, Value.str "last" 317, Value.str "coin" 318] }) ::
  (nat_lit 110, { cls := Value.type "tuple", data := Data.seq #[] }) ::
  (nat_lit 112, { cls := Value.type "code", data := Data.fields #[Value.str "check_side" 312, Value.str "check_side" 313, Value.str "/claim/cut.py" 314, Value.int 19 0, Value.int 2 0, Value.int 0 0, Value.int 0 0, Value.int 3 0, Value.ref 107, Value.bool true, Value.int 181 0, Value.ref 108, Value.none, Value.ref 109, Value.ref 110, Value.ref 111, Value.int 319 0, Value.int 19 0, Value.str "/claim/cut.py" 320] }) ::
  (nat_lit 113, { cls := Value.type "function", data := Data.func { name := "check_side", qualname := "check_side", params := defArgs (top 10), body := .stmts (defBody (top 10)), scope := defScope (top 10), globals := 3, closure := [], defaults := Value.none, kwdefaults := Value.none, pyModule := Value.str "oddcoin.checks" 303, code := Value.ref 112 } }) ::
  (nat_lit 114, { cls := Value.type "tuple", data := Data.seq #[] }) ::
  (nat_lit 116, { cls := Value.type "tuple", data := Data.seq #[Value.str "highest" 325, Value.str "left" 326, Value.str "right" 327] }) ::
  (nat_lit 117, { cls := Value.type "tuple", data := Data.seq #[] }) ::
  (nat_lit 119, { cls := Value.type "code", data := Data.fields #[Value.str "check_weighing" 322, Value.str "check_weighing" 323, Value.str "/claim/cut.py" 324, Value.int 31 0, Value.int 3 0, Value.int 0 0, Value.int 0 0, Value.int 3 0, Value.ref 114, Value.bool true, Value.int 181 0, Value.ref 115, Value.none, Value.ref 116, Value.ref 117, Value.ref 118, Value.int 328 0, Value.int 31 0, Value.str "/claim/cut.py" 329] }) ::
  (nat_lit 120, { cls := Value.type "function", data := Data.func { name := "check_weighing", qualname := "check_weighing", params := defArgs (top 11), body := .stmts (defBody (top 11)), scope := defScope (top 11), globals := 3, closure := [], defaults := Value.none, kwdefaults := Value.none, pyModule := Value.str "oddcoin.checks" 303, code := Value.ref 119 } }) ::
  (nat_lit 121, { cls := Value.type "tuple", data := Data.seq #[] }) ::
  (nat_lit 124, { cls := Value.type "code", data := Data.fields #[Value.str "side_written" 343, Value.str "side_written" 344, Value.str "/claim/cut.py" 345, Value.int 44 0, Value.int 1 0, Value.int 0 0, Value.int 0 0, Value.int 3 0, Value.ref 121, Value.bool true, Value.int 181 0, Value.ref 122, Value.none, Value.none, Value.none, Value.ref 123, Value.int 346 0, Value.int 44 0, Value.str "/claim/cut.py" 347] }) ::
  (nat_lit 125, { cls := Value.type "function", data := Data.func { name := "side_written", qualname := "side_written", params := defArgs (top 18), body := .stmts (defBody (top 18)), scope := defScope (top 18), globals := 3, closure := [], defaults := Value.none, kwdefaults := Value.none, pyModule := Value.str "oddcoin.texts" 331, code := Value.ref 124 } }) ::
  (nat_lit 126, { cls := Value.type "tuple", data := Data.seq #[] }) ::
  (nat_lit 128, { cls := Value.type "tuple", data := Data.seq #[Value.str "left" 352, Value.str "right" 353] }) ::
  (nat_lit 129, { cls := Value.type "tuple", data := Data.seq #[] }) ::
  (nat_lit 131, { cls := Value.type "code", data := Data.fields #[Value.str "written" 349, Value.str "written" 350, Value.str "/claim/cut.py" 351, Value.int 46 0, Value.int 2 0, Value.int 0 0, Value.int 0 0, Value.int 3 0, Value.ref 126, Value.bool true, Value.int 181 0, Value.ref 127, Value.none, Value.ref 128, Value.ref 129, Value.ref 130, Value.int 354 0, Value.int 46 0, Value.str "/claim/cut.py" 355] }) ::
  (nat_lit 132, { cls := Value.type "function", data := Data.func { name := "written", qualname := "written", params := defArgs (top 19), body := .stmts (defBody (top 19)), scope := defScope (top 19), globals := 3, closure := [], defaults := Value.none, kwdefaults := Value.none, pyModule := Value.str "oddcoin.texts" 331, code := Value.ref 131 } }) ::
  (nat_lit 133, { cls := Value.type "tuple", data := Data.seq #[] }) ::
  (nat_lit 136, { cls := Value.type "code", data := Data.fields #[Value.str "count_read" 357, Value.str "count_read" 358, Value.str "/claim/cut.py" 359, Value.int 51 0, Value.int 1 0, Value.int 0 0, Value.int 0 0, Value.int 3 0, Value.ref 133, Value.bool true, Value.int 181 0, Value.ref 134, Value.none, Value.none, Value.none, Value.ref 135, Value.int 360 0, Value.int 51 0, Value.str "/claim/cut.py" 361] }) ::
  (nat_lit 137, { cls := Value.type "function", data := Data.func { name := "count_read", qualname := "count_read", params := defArgs (top 20), body := .stmts (defBody (top 20)), scope := defScope (top 20), globals := 3, closure := [], defaults := Value.none, kwdefaults := Value.none, pyModule := Value.str "oddcoin.texts" 331, code := Value.ref 136 } }) ::
  (nat_lit 138, { cls := Value.type "tuple", data := Data.seq #[] }) ::
  (nat_lit 141, { cls := Value.type "code", data := Data.fields #[Value.str "side_read" 363, Value.str "side_read" 364, Value.str "/claim/cut.py" 365, Value.int 59 0, Value.int 1 0, Value.int 0 0, Value.int 0 0, Value.int 3 0, Value.ref 138, Value.bool true, Value.int 181 0, Value.ref 139, Value.none, Value.none, Value.none, Value.ref 140, Value.int 366 0, Value.int 59 0, Value.str "/claim/cut.py" 367] }) ::
  (nat_lit 142, { cls := Value.type "function", data := Data.func { name := "side_read", qualname := "side_read", params := defArgs (top 21), body := .stmts (defBody (top 21)), scope := defScope (top 21), globals := 3, closure := [], defaults := Value.none, kwdefaults := Value.none, pyModule := Value.str "oddcoin.texts" 331, code := Value.ref 141 } }) ::
  (nat_lit 143, { cls := Value.type "tuple", data := Data.seq #[] }) ::
  (nat_lit 145, { cls := Value.type "tuple", data := Data.seq #[Value.str "text" 372, Value.str "sides" 373, Value.str "left" 374, Value.str "right" 375] }) ::
  (nat_lit 146, { cls := Value.type "tuple", data := Data.seq #[] }) ::
  (nat_lit 148, { cls := Value.type "code", data := Data.fields #[Value.str "read" 369, Value.str "read" 370, Value.str "/claim/cut.py" 371, Value.int 61 0, Value.int 1 0, Value.int 0 0, Value.int 0 0, Value.int 3 0, Value.ref 143, Value.bool true, Value.int 181 0, Value.ref 144, Value.none, Value.ref 145, Value.ref 146, Value.ref 147, Value.int 376 0, Value.int 61 0, Value.str "/claim/cut.py" 377] }) ::
  (nat_lit 149, { cls := Value.type "function", data := Data.func { name := "read", qualname := "read", params := defArgs (top 22), body := .stmts (defBody (top 22)), scope := defScope (top 22), globals := 3, closure := [], defaults := Value.none, kwdefaults := Value.none, pyModule := Value.str "oddcoin.texts" 331, code := Value.ref 148 } }) ::
  (nat_lit 150, { cls := Value.type "tuple", data := Data.seq #[] }) ::
  (nat_lit 152, { cls := Value.type "tuple", data := Data.seq #[Value.str "_law_script" 384, Value.str "_law_k" 385] }) ::
  (nat_lit 153, { cls := Value.type "tuple", data := Data.seq #[] }) ::
  (nat_lit 155, { cls := Value.type "code", data := Data.fields #[Value.str "_law_cell_at" 381, Value.str "_law_cell_at" 382, Value.str "/claim/cut.py" 383, Value.int 77 0, Value.int 2 0, Value.int 0 0, Value.int 0 0, Value.int 3 0, Value.ref 150, Value.bool true, Value.int 181 0, Value.ref 151, Value.none, Value.ref 152, Value.ref 153, Value.ref 154, Value.int 386 0, Value.int 77 0, Value.str "/claim/cut.py" 387] }) ::
  (nat_lit 156, { cls := Value.type "function", data := Data.func { name := "_law_cell_at", qualname := "_law_cell_at", params := defArgs (top 24), body := .stmts (defBody (top 24)), scope := defScope (top 24), globals := 3, closure := [], defaults := Value.none, kwdefaults := Value.none, pyModule := Value.str "law_oddcoin_k05_written" 379, code := Value.ref 155 } }) ::
  (nat_lit 157, { cls := Value.type "tuple", data := Data.seq #[] }) ::
  (nat_lit 159, { cls := Value.type "tuple", data := Data.seq #[Value.str "_law_cell" 392, Value.str "_law_k" 393, Value.str "_law_many" 394, Value.str "_law_primes" 395] }) ::
  (nat_lit 160, { cls := Value.type "tuple", data := Data.seq #[] }) ::
  (nat_lit 162, { cls := Value.type "code", data := Data.fields #[Value.str "_law_draw" 389, Value.str "_law_draw" 390, Value.str "/claim/cut.py" 391, Value.int 81 0, Value.int 3 0, Value.int 0 0, Value.int 0 0, Value.int 3 0, Value.ref 157, Value.bool true, Value.int 181 0, Value.ref 158, Value.none, Value.ref 159, Value.ref 160, Value.ref 161, Value.int 396 0, Value.int 81 0, Value.str "/claim/cut.py" 397] }) ::
  (nat_lit 163, { cls := Value.type "function", data := Data.func { name := "_law_draw", qualname := "_law_draw", params := defArgs (top 25), body := .stmts (defBody (top 25)), scope := defScope (top 25), globals := 3, closure := [], defaults := Value.none, kwdefaults := Value.none, pyModule := Value.str "law_oddcoin_k05_written" 379, code := Value.ref 162 } }) ::
  (nat_lit 164, { cls := Value.type "tuple", data := Data.seq #[] }) ::
  (nat_lit 166, { cls := Value.type "tuple", data := Data.seq #[Value.str "_law_text" 402] }) ::
  (nat_lit 167, { cls := Value.type "tuple", data := Data.seq #[] }) ::
  (nat_lit 169, { cls := Value.type "code", data := Data.fields #[Value.str "_law_number" 399, Value.str "_law_number" 400, Value.str "/claim/cut.py" 401, Value.int 84 0, Value.int 1 0, Value.int 0 0, Value.int 0 0, Value.int 3 0, Value.ref 164, Value.bool true, Value.int 181 0, Value.ref 165, Value.none, Value.ref 166, Value.ref 167, Value.ref 168, Value.int 403 0, Value.int 84 0, Value.str "/claim/cut.py" 404] }) ::
  (nat_lit 170, { cls := Value.type "function", data := Data.func { name := "_law_number", qualname := "_law_number", params := defArgs (top 26), body := .stmts (defBody (top 26)), scope := defScope (top 26), globals := 3, closure := [], defaults := Value.none, kwdefaults := Value.none, pyModule := Value.str "law_oddcoin_k05_written" 379, code := Value.ref 169 } }) ::
  (nat_lit 171, { cls := Value.type "tuple", data := Data.seq #[] }) ::
  (nat_lit 174, { cls := Value.type "code", data := Data.fields #[Value.str "_law_in" 406, Value.str "_law_in" 407, Value.str "/claim/cut.py" 408, Value.int 88 0, Value.int 1 0, Value.int 0 0, Value.int 0 0, Value.int 3 0, Value.ref 171, Value.bool true, Value.int 181 0, Value.ref 172, Value.none, Value.none, Value.none, Value.ref 173, Value.int 409 0, Value.int 88 0, Value.str "/claim/cut.py" 410] }) ::
  (nat_lit 175, { cls := Value.type "function", data := Data.func { name := "_law_in", qualname := "_law_in", params := defArgs (top 27), body := .stmts (defBody (top 27)), scope := defScope (top 27), globals := 3, closure := [], defaults := Value.none, kwdefaults := Value.none, pyModule := Value.str "law_oddcoin_k05_written" 379, code := Value.ref 174 } }) ::
  (nat_lit 176, { cls := Value.type "tuple", data := Data.seq #[] }) ::
  (nat_lit 178, { cls := Value.type "tuple", data := Data.seq #[Value.str "_law_text" 415, Value.str "error" 416, Value.str "_law_others" 417] }) ::
  (nat_lit 179, { cls := Value.type "tuple", data := Data.seq #[] }) ::
  (nat_lit 181, { cls := Value.type "code", data := Data.fields #[Value.str "_law_refused" 412, Value.str "_law_refused" 413, Value.str "/claim/cut.py" 414, Value.int 101 0, Value.int 1 0, Value.int 0 0, Value.int 0 0, Value.int 3 0, Value.ref 176, Value.bool true, Value.int 181 0, Value.ref 177, Value.none, Value.ref 178, Value.ref 179, Value.ref 180, Value.int 418 0, Value.int 101 0, Value.str "/claim/cut.py" 419] }) ::
  (nat_lit 182, { cls := Value.type "function", data := Data.func { name := "_law_refused", qualname := "_law_refused", params := defArgs (top 28), body := .stmts (defBody (top 28)), scope := defScope (top 28), globals := 3, closure := [], defaults := Value.none, kwdefaults := Value.none, pyModule := Value.str "law_oddcoin_k05_written" 379, code := Value.ref 181 } }) ::
  (nat_lit 183, { cls := Value.type "tuple", data := Data.seq #[] }) ::
  (nat_lit 185, { cls := Value.type "tuple", data := Data.seq #[Value.str "_law_text" 424, Value.str "_law_due" 425, Value.str "_law_found" 426] }) ::
  (nat_lit 186, { cls := Value.type "tuple", data := Data.seq #[] }) ::
  (nat_lit 188, { cls := Value.type "code", data := Data.fields #[Value.str "_law_right" 421, Value.str "_law_right" 422, Value.str "/claim/cut.py" 423, Value.int 109 0, Value.int 1 0, Value.int 0 0, Value.int 0 0, Value.int 3 0, Value.ref 183, Value.bool true, Value.int 181 0, Value.ref 184, Value.none, Value.ref 185, Value.ref 186, Value.ref 187, Value.int 427 0, Value.int 109 0, Value.str "/claim/cut.py" 428] }) ::
  (nat_lit 189, { cls := Value.type "function", data := Data.func { name := "_law_right", qualname := "_law_right", params := defArgs (top 29), body := .stmts (defBody (top 29)), scope := defScope (top 29), globals := 3, closure := [], defaults := Value.none, kwdefaults := Value.none, pyModule := Value.str "law_oddcoin_k05_written" 379, code := Value.ref 188 } }) ::
  (nat_lit 190, { cls := Value.type "tuple", data := Data.seq #[] }) ::
  (nat_lit 192, { cls := Value.type "tuple", data := Data.seq #[Value.str "_law_some" 433] }) ::
  (nat_lit 193, { cls := Value.type "tuple", data := Data.seq #[] }) ::
  (nat_lit 195, { cls := Value.type "code", data := Data.fields #[Value.str "_law_few" 430, Value.str "_law_few" 431, Value.str "/claim/cut.py" 432, Value.int 119 0, Value.int 0 0, Value.int 0 0, Value.int 0 0, Value.int 3 0, Value.ref 190, Value.bool true, Value.int 181 0, Value.ref 191, Value.none, Value.ref 192, Value.ref 193, Value.ref 194, Value.int 434 0, Value.int 119 0, Value.str "/claim/cut.py" 435] }) ::
  (nat_lit 196, { cls := Value.type "function", data := Data.func { name := "_law_few", qualname := "_law_few", params := defArgs (top 30), body := .stmts (defBody (top 30)), scope := defScope (top 30), globals := 3, closure := [], defaults := Value.none, kwdefaults := Value.none, pyModule := Value.str "law_oddcoin_k05_written" 379, code := Value.ref 195 } }) ::
  (nat_lit 197, { cls := Value.type "tuple", data := Data.seq #[] }) ::
  (nat_lit 200, { cls := Value.type "code", data := Data.fields #[Value.str "law" 437, Value.str "law" 438, Value.str "/claim/cut.py" 439, Value.int 126 0, Value.int 1 0, Value.int 0 0, Value.int 0 0, Value.int 3 0, Value.ref 197, Value.bool true, Value.int 181 0, Value.ref 198, Value.none, Value.none, Value.none, Value.ref 199, Value.int 440 0, Value.int 126 0, Value.str "/claim/cut.py" 441] }) ::
  (nat_lit 201, { cls := Value.type "function", data := Data.func { name := "law", qualname := "law", params := defArgs (top 31), body := .stmts (defBody (top 31)), scope := defScope (top 31), globals := 3, closure := [], defaults := Value.none, kwdefaults := Value.none, pyModule := Value.str "law_oddcoin_k05_written" 379, code := Value.ref 200 } }) :: []
def keysK : List Addr := [2, 3, 15, 22, 23, 24, 25, 28, 35, 36, 37, 40, 47, 48, 49, 52, 59, 60, 61, 64, 71, 72, 73, 76, 83, 84, 85, 88, 95, 96, 97, 100, 102, 103, 105, 106, 107, 109, 110, 112, 113, 114, 116, 117, 119, 120, 121, 124, 125, 126, 128, 129, 131, 132, 133, 136, 137, 138, 141, 142, 143, 145, 146, 148, 149, 150, 152, 153, 155, 156, 157, 159, 160, 162, 163, 164, 166, 167, 169, 170, 171, 174, 175, 176, 178, 179, 181, 182, 183, 185, 186, 188, 189, 190, 192, 193, 195, 196, 197, 200, 201]
def view : Program := { PySem.Challenge.pw_oddcoin_k05_written with main := { PySem.Challenge.pw_oddcoin_k05_written.main with body := [top 1, top 2, top 3, top 4, top 5, top 6, top 7, top 9, top 10, top 11, top 13, top 14, top 15, top 16, top 17, top 18, top 19, top 20, top 21, top 22, top 24, top 25, top 26, top 27, top 28, top 29, top 30, top 31] } }
theorem keysK_is : ∀ P, keysK = (KK P).map (·.1) := fun _ => by kernel_rfl
end Ks
open PySem PySem.W PyProof.Rows
set_option maxRecDepth 100000 in
set_option maxHeartbeats 0 in
theorem PySem.Challenge.cw_oddcoin_k05_written_holds : PySem.Challenge.rw_oddcoin_k05_written.Holds := by
  w_on
  refine holds_law (by decide +kernel) fun said => ?_
  refine holds_open (q := Ks.view) (loose := []) (Xt := fun s => xlAt Ks.view [] s && recOk (RowW.records (OpenRow.toRowW (PySem.Challenge.rw_oddcoin_k05_written).row)) s) (XP := XL Ks.view []) (Yf := Hook.obs (kHook Ks.KK Ks.keysK Ks.keysK_is)) (Ya := Hook.val (kHook Ks.KK Ks.keysK Ks.keysK_is)) (YP := Hook.says (kHook Ks.KK Ks.keysK Ks.keysK_is)) (N := 4148) ?hl (Hook.of (kHook Ks.KK Ks.keysK Ks.keysK_is)) (Hook.keeps (kHook Ks.KK Ks.keysK Ks.keysK_is)) (fun s e => xl_of s (Bool.and_eq_true_iff.mp e).1) XL.keeps (by rfl) (by rfl) (by rfl) (fun s e => recFacts_of (Bool.and_eq_true_iff.mp e).2) (by rfl) (by first | assumption | decide +kernel) (by decide +kernel) ⟨rfl, rfl, rfl, rfl, rfl, by decide +kernel⟩ ?hw ?hc
  case hl => exact fun w => by kernel_rfl
  case hw => w_witness2
  k_fill
  refine Ks.walk (l := PySem.Challenge.rw_oddcoin_k05_written) rfl rfl (fun w h Y => PySem.W.kIn_of Y) ?F
  case F =>
    intro w mg fa h KX G hmg
    refine' Ks.all_mk KX G hmg ?B ?T ?Gl ?Er ?Dis_whole ?Dcheck_side ?Dcheck_weighing ?Dside_written ?Dwritten ?Dcount_read ?Dside_read ?Dread ?D_law_cell_at ?D_law_draw ?D_law_number ?D_law_in ?D_law_refused ?D_law_right ?D_law_few ?Dlaw
    case B =>
      refine' ⟨PySem.W.mg_none_of KX G ?b0, PySem.W.mg_none_of KX G ?b1, PySem.W.mg_none_of KX G ?b2, PySem.W.mg_none_of KX G ?b3, PySem.W.mg_none_of KX G ?b4, PySem.W.mg_none_of KX G ?b5, PySem.W.mg_none_of KX G ?b6, PySem.W.mg_none_of KX G ?b7, PySem.W.mg_none_of KX G ?b8, PySem.W.mg_none_of KX G ?b9, PySem.W.mg_none_of KX G ?b10, PySem.W.mg_none_of KX G ?b11, PySem.W.mg_none_of KX G ?b12, PySem.W.mg_none_of KX G ?b13, PySem.W.mg_none_of KX G ?b14⟩
      (case b0 => k_is)
      (case b1 => k_is)
      (case b2 => k_is)
      (case b3 => k_is)
      (case b4 => k_is)
      (case b5 => k_is)
      (case b6 => k_is)
      (case b7 => k_is)
      (case b8 => k_is)
      (case b9 => k_is)
      (case b10 => k_is)
      (case b11 => k_is)
      (case b12 => k_is)
      (case b13 => k_is)
      (case b14 => k_is)
    case T => refine' ⟨?t1, ?t2, ?t3, ?t4, ?t5, ?t6, ?t7, ?t8, ?t9, ?t10⟩ <;> kernel_rfl
    case Gl =>
      refine' Ks.glb_mk KX G ?n1 ?n2 ?n3 ?n4 ?n5
      (case n1 => k_is); (case n2 => k_is); (case n3 => k_is); (case n4 => k_is); (case n5 => k_is)
    case Er =>
      refine' Ks.errs_mk KX G ?n0 ?n1 ?n2 ?n3 ?n4 ?n5 ?n6 ?nv ?sp ?tk ?nd ?al
      (case n0 => k_is); (case n1 => k_is); (case n2 => k_is); (case n3 => k_is); (case n4 => k_is); (case n5 => k_is); (case n6 => k_is); (case nv => k_is); (case sp => k_is); (case tk => k_is)
      (case nd => decide)
      (case al => kernel_rfl)
    case Dis_whole => refine' Ks.def_mk ?a ?l ?c ?k; (case a => k_is); (case l => k_is); (case c => k_is); (case k => k_is)
    case Dcheck_side => refine' Ks.def_mk ?a ?l ?c ?k; (case a => k_is); (case l => k_is); (case c => k_is); (case k => k_is)
    case Dcheck_weighing => refine' Ks.def_mk ?a ?l ?c ?k; (case a => k_is); (case l => k_is); (case c => k_is); (case k => k_is)
    case Dside_written => refine' Ks.def_mk ?a ?l ?c ?k; (case a => k_is); (case l => k_is); (case c => k_is); (case k => k_is)
    case Dwritten => refine' Ks.def_mk ?a ?l ?c ?k; (case a => k_is); (case l => k_is); (case c => k_is); (case k => k_is)
    case Dcount_read => refine' Ks.def_mk ?a ?l ?c ?k; (case a => k_is); (case l => k_is); (case c => k_is); (case k => k_is)
    case Dside_read => refine' Ks.def_mk ?a ?l ?c ?k; (case a => k_is); (case l => k_is); (case c => k_is); (case k => k_is)
    case Dread => refine' Ks.def_mk ?a ?l ?c ?k; (case a => k_is); (case l => k_is); (case c => k_is); (case k => k_is)
    case D_law_cell_at => refine' Ks.def_mk ?a ?l ?c ?k; (case a => k_is); (case l => k_is); (case c => k_is); (case k => k_is)
    case D_law_draw => refine' Ks.def_mk ?a ?l ?c ?k; (case a => k_is); (case l => k_is); (case c => k_is); (case k => k_is)
    case D_law_number => refine' Ks.def_mk ?a ?l ?c ?k; (case a => k_is); (case l => k_is); (case c => k_is); (case k => k_is)
    case D_law_in => refine' Ks.def_mk ?a ?l ?c ?k; (case a => k_is); (case l => k_is); (case c => k_is); (case k => k_is)
    case D_law_refused => refine' Ks.def_mk ?a ?l ?c ?k; (case a => k_is); (case l => k_is); (case c => k_is); (case k => k_is)
    case D_law_right => refine' Ks.def_mk ?a ?l ?c ?k; (case a => k_is); (case l => k_is); (case c => k_is); (case k => k_is)
    case D_law_few => refine' Ks.def_mk ?a ?l ?c ?k; (case a => k_is); (case l => k_is); (case c => k_is); (case k => k_is)
    case Dlaw => refine' Ks.def_mk ?a ?l ?c ?k; (case a => k_is); (case l => k_is); (case c => k_is); (case k => k_is)

end
