import PyProof.Rows.All
import Wide.All
import OpenK.KLine
import OpenK.KWalk
import OpenK.KMore
import KE.KTryMore
import KE.KItem
import KE.KxBytes
import KE.KDictOf
import Wide.FinOn
import PyProof.EqAt
import PyProof.EqKinds
import PyProof.TupleCall
import PyProof.Rows.SetFrom
import PyProof.CollectIter
import PyProof.DictWalks
import PyProof.Rows.SortShell
import PySem.Challenge.RW_oddcoin_k02_whole_found
set_option Elab.async false
set_option linter.all false
set_option maxRecDepth 100000
set_option maxHeartbeats 4000000
section
namespace L2
open PySem PySem.Spec PyProof.Rows
abbrev Key := Sum Int Str
def keyIs : Key → Value → Bool
  | .inl k, v => Value.isInt k v
  | .inr x, v => Value.isStrOf x v
def keyH (w : World) : Key → Int
  | .inl k => hashInt k
  | .inr x => hashStr w x
theorem keyIs_shape : ∀ {k : Key} {v : Value}, keyIs k v = true → (∃ i t, k = Sum.inl i ∧ v = Value.int i t) ∨ (∃ x t, k = Sum.inr x ∧ v = Value.str x t)
  | .inl i, v, h => by
    obtain ⟨t, e⟩ := Value.isInt_shape (k := i) (v := v) h
    exact .inl ⟨i, t, rfl, e⟩
  | .inr x, v, h => by
    obtain ⟨t, e⟩ := Value.isStrOf_shape (x := x) (v := v) h
    exact .inr ⟨x, t, rfl, e⟩
theorem keyIs_int (i : Int) (t : Tok) : keyIs (.inl i) (.int i t) = true := by simp [keyIs, Value.isInt]
theorem keyIs_str (x : Str) (t : Tok) : keyIs (.inr x) (.str x t) = true := by simp [keyIs, Value.isStrOf]
theorem key_ll (a b : Int) : decide ((Sum.inl a : Key) = Sum.inl b) = (a == b) := by
  by_cases e : a = b
  · subst e; simp
  · have h : ¬ (Sum.inl a : Key) = Sum.inl b := fun q => e (Sum.inl.inj q)
    rw [decide_eq_false h]
    exact (beq_eq_false_iff_ne.mpr e).symm
theorem key_rr (a b : Str) : decide ((Sum.inr a : Key) = Sum.inr b) = decide (a = b) := by
  by_cases e : a = b
  · subst e; simp
  · have h : ¬ (Sum.inr a : Key) = Sum.inr b := fun q => e (Sum.inr.inj q)
    rw [decide_eq_false h, decide_eq_false e]
theorem key_lr (a : Int) (b : Str) : decide ((Sum.inl a : Key) = Sum.inr b) = false := decide_eq_false (fun q => nomatch q)
theorem key_rl (a : Str) (b : Int) : decide ((Sum.inr a : Key) = Sum.inl b) = false := decide_eq_false (fun q => nomatch q)
def mixKind (prog : Program) (w : World) : PySem.KeyKind prog w Key where
  is := keyIs
  hash := keyH w
  inj := fun v a b ha hb => by
    rcases keyIs_shape ha with ⟨i, t, rfl, rfl⟩ | ⟨x, t, rfl, rfl⟩
    · rcases keyIs_shape hb with ⟨j, u, rfl, e⟩ | ⟨y, u, rfl, e⟩
      · injection e with e1 _; rw [e1]
      · exact nomatch e
    · rcases keyIs_shape hb with ⟨j, u, rfl, e⟩ | ⟨y, u, rfl, e⟩
      · exact nomatch e
      · injection e with e1 _; rw [e1]
  byValue := fun k v h => by
    rcases keyIs_shape h with ⟨i, t, rfl, rfl⟩ | ⟨x, t, rfl, rfl⟩ <;> rfl
  pyHash := fun hv h => by
    rcases keyIs_shape hv with ⟨i, t, rfl, rfl⟩ | ⟨x, t, rfl, rfl⟩
    · exact wpAny_pyHash_int h
    · exact wpAny_pyHash_str h
  eqBool := fun hu hv h => by
    rcases keyIs_shape hu with ⟨i, t, rfl, rfl⟩ | ⟨x, t, rfl, rfl⟩
    · rcases keyIs_shape hv with ⟨j, u, rfl, rfl⟩ | ⟨y, u, rfl, rfl⟩
      · rw [key_ll] at h; exact wpAny_eqBool_int h
      · rw [key_lr] at h; exact SeqAt.EqAt.int_str i t y u _ _ _ _ h
    · rcases keyIs_shape hv with ⟨j, u, rfl, rfl⟩ | ⟨y, u, rfl, rfl⟩
      · rw [key_rl] at h; exact SeqAt.EqAt.str_int x t j u _ _ _ _ h
      · rw [key_rr] at h; exact wpAny_eqBool_str h
  «strs» := fun k x t v h => by
    rcases keyIs_shape h with ⟨i, u, rfl, e⟩ | ⟨y, u, rfl, e⟩
    · exact nomatch e
    · injection e with e1 _
      subst e1
      cases v <;> rfl
theorem mixKind_is (prog : Program) (w : World) (k : Key) (v : Value) : (mixKind prog w).is k v = keyIs k v := rfl
theorem mixKind_int (prog : Program) (w : World) (i : Int) (t : Tok) : (mixKind prog w).is (.inl i) (.int i t) = true := keyIs_int i t
theorem mixKind_str (prog : Program) (w : World) (x : Str) (t : Tok) : (mixKind prog w).is (.inr x) (.str x t) = true := keyIs_str x t
end L2
namespace L2
open PySem PySem.Spec PyProof.Rows
inductive V where
  | non | bl (b : Bool) | int (i : Int) | str (x : Str) | byt (b : Array UInt8) | flt (b : UInt64) | ref (a : Addr) | ty (n : String)
  deriving DecidableEq
def RelV : V → Value → Prop
  | .non, u => u = Value.none
  | .bl b, u => u = Value.bool b
  | .int i, u => ∃ t, u = Value.int i t
  | .str x, u => ∃ t, u = Value.str x t
  | .byt b, u => ∃ t, u = Value.bytes b t
  | .flt b, u => ∃ t, u = Value.float b t
  | .ref a, u => u = Value.ref a
  | .ty n, u => u = Value.type n
abbrev Vals : List V → List Value → Prop := Paired RelV
theorem Vals.length {xs : List V} {us : List Value} (r : Vals xs us) : xs.length = us.length := Paired.length r
theorem Vals.get : ∀ {xs : List V} {us : List Value} {i : Nat} {x : V}, Vals xs us → xs[i]? = some x → ∃ u, us[i]? = some u ∧ RelV x u
  | _, _, _, _, .nil, e => by simp at e
  | _, _, 0, _, .cons r _, e => by simp at e; subst e; exact ⟨_, rfl, r⟩
  | _, _, i + 1, x, .cons _ t, e => by
    obtain ⟨u, h1, h2⟩ := Vals.get (i := i) (x := x) t (by simpa using e)
    exact ⟨u, by simpa using h1, h2⟩
theorem Vals.set {x : V} {u : Value} (r : RelV x u) : ∀ {xs : List V} {us : List Value} (i : Nat), Vals xs us → Vals (xs.set i x) (us.set i u)
  | _, _, _, .nil => .nil
  | _, _, 0, .cons _ t => .cons r t
  | _, _, i + 1, .cons q t => .cons q (Vals.set r i t)
theorem Vals.append : ∀ {xs ys : List V} {us ws : List Value}, Vals xs us → Vals ys ws → Vals (xs ++ ys) (us ++ ws)
  | _, _, _, _, .nil, s => s
  | _, _, _, _, .cons r t, s => .cons r (Vals.append t s)
theorem Vals.take : ∀ {xs : List V} {us : List Value} (n : Nat), Vals xs us → Vals (xs.take n) (us.take n)
  | _, _, 0, _ => .nil
  | _, _, _ + 1, .nil => .nil
  | _, _, n + 1, .cons r t => .cons r (Vals.take n t)
theorem Vals.drop : ∀ {xs : List V} {us : List Value} (n : Nat), Vals xs us → Vals (xs.drop n) (us.drop n)
  | _, _, 0, r => r
  | _, _, _ + 1, .nil => .nil
  | _, _, n + 1, .cons _ t => Vals.drop n t
theorem Vals.none_of : ∀ {xs : List V} {us : List Value} {i : Nat}, Vals xs us → xs[i]? = none → us[i]? = none := fun {xs us i} r e => by
  have h1 := r.length
  have h2 : xs.length ≤ i := List.getElem?_eq_none_iff.mp e
  exact List.getElem?_eq_none_iff.mpr (by omega)
def RelO : Option V → Option Value → Prop
  | some v, some u => RelV v u
  | none, none => True
  | _, _ => False
def KV {κ : Type} : List (κ × V) → List (κ × Value) → Prop := Paired fun (p : κ × V) (q : κ × Value) => p.1 = q.1 ∧ RelV p.2 q.2
def kV : Key → V
  | .inl i => .int i
  | .inr x => .str x
inductive HO where
    | lst (xs : List V)
    | tup (xs : List V)
    | dK (kvs : List (Key × V)) | dT (kvs : List (List Key × V))
    | set (S : Int → Bool) (n : Nat)
    | ins (C dx : Addr) (fs : List (Str × V))
    | own (x : Addr)
    | xd (fs : List (Str × V))
    | met (f x : Addr)
    | rng (lo hi : Int)
    | frz (o : Obj) (u : HO)
    | tbl (ps : Array Value)
    | ext (φ : Heap → Prop)
abbrev Hp := Addr → Option HO
def upd (H : Hp) (a : Addr) (o : HO) : Hp := fun b => if b = a then some o else H b
theorem upd_same {H : Hp} {a : Addr} {o : HO} : upd H a o a = some o := by unfold upd; rw [if_pos rfl]
theorem upd_ne {H : Hp} {a b : Addr} {o : HO} (h : b ≠ a) : upd H a o b = H b := by unfold upd; rw [if_neg h]
theorem upd_upd {H : Hp} {a : Addr} {o u : HO} : upd (upd H a o) a u = upd H a u := by
  funext b; unfold upd; split <;> rfl
theorem ne_of {H : Hp} {a b : Addr} {o u : HO} (h : H a = some o) (h' : H b = some u) (d : o ≠ u) : a ≠ b := by
  intro e; subst e; rw [h] at h'; exact d (Option.some.inj h')
theorem ne_of_none {H : Hp} {a b : Addr} {o : HO} (h : H a = some o) (h' : H b = none) : a ≠ b := by
  intro e; subst e; rw [h] at h'; cases h'
section
variable (P : Program) (w : World)
def ObjOk (H : Hp) (h : Heap) (a : Addr) : HO → Prop
  | .lst xs => xs.length ≤ sizeLine ∧ ∃ (its : List Value) (n : Nat), Vals xs its ∧ h.get? a = some { cls := .type "list", data := .seq its.toArray n }
  | .tup xs => xs.length ≤ sizeLine ∧ ∃ its : List Value, Vals xs its ∧ IsTup h a its.toArray
  | .dK kvs => kvs.length ≤ sizeLine ∧ (a == sysModules) = false ∧ ∃ vs, KV kvs vs ∧ h.DictOf (mixKind P w) a vs
  | .dT kvs => kvs.length ≤ sizeLine ∧ (a == sysModules) = false ∧ ∃ xs : List (List Key × Addr × Value),
      Paired (fun (p : List Key × V) (q : List Key × Addr × Value) => p.1 = q.1 ∧ H q.2.1 = some (.tup (p.1.map kV)) ∧ RelV p.2 q.2.2) kvs xs ∧
      ∃ o es ep, h.get? a = some o ∧ o.ExactDict ∧ o.data = .dict es ep ∧ es.toList = xs.map (entryOfKey (tupleKind (mixKind P w))) ∧ (xs.map (·.1)).Nodup
  | .set S n => h.SetOf (intKind P w) a S n
  | .ins C dx fs => H dx = some (.own a) ∧ fs.length ≤ 1000 ∧ dx ≠ a ∧ h.get? a = some (PySem.W.instObj C dx) ∧
      ∃ mA, h.Ns1 dx mA ∧ (∀ f, RelO (fs.lookup f) (mA f)) ∧ PySem.Within mA (fs.map (·.1))
  | .own _ => ∃ o, h.get? a = some o
  | .xd fs => ∃ mA, h.Ns1 a mA ∧ ∀ f, RelO (fs.lookup f) (mA f)
  | .rng lo hi => ∃ t u v, h.get? a = some { cls := .type "range", data := .fields #[.int lo t, .int hi u, .int 1 v] }
  | .frz o u => h.get? a = some o ∧ ObjOk H h a u
  | .tbl ps => h.get? a = some { cls := .none, data := .fields ps }
  | .met f x => h.get? a = some (PySem.W.methodObj (.ref f) (.ref x))
  | .ext φ => φ h ∧ (∃ o, h.get? a = some o) ∧ ∀ h1 h2 : Heap, φ h1 → (∀ o, h1.get? a = some o → h2.get? a = some o) → φ h2
def HOk (H : Hp) (h : Heap) : Prop := ∀ a o, H a = some o → ObjOk P w H h a o
end
section
variable {P : Program} {w : World} {H H' : Hp} {h h' : Heap} {a : Addr} {o : HO}
theorem ObjOk.lt (x : ObjOk P w H h a o) : a < h.objs.size := by
  cases o with
  | lst xs => obtain ⟨_, _, _, _, e⟩ := x; exact Heap.lt_size e
  | tup xs => obtain ⟨_, _, _, p⟩ := x; exact p.lt
  | dK kvs => obtain ⟨_, _, _, _, o, _, _, e, _⟩ := x; exact Heap.lt_size e
  | dT kvs => obtain ⟨_, _, _, _, o, _, _, e, _⟩ := x; exact Heap.lt_size e
  | set S n => obtain ⟨o, _, _, _, e, _⟩ := x; exact Heap.lt_size e
  | ins C dx fs => obtain ⟨_, _, _, e, _⟩ := x; exact Heap.lt_size e
  | own y => obtain ⟨_, e⟩ := x; exact Heap.lt_size e
  | xd fs => obtain ⟨_, ⟨_, _, _, e, _⟩, _⟩ := x; exact Heap.lt_size e
  | rng lo hi => obtain ⟨_, _, _, e⟩ := x; exact Heap.lt_size e
  | frz ob u => obtain ⟨e, _⟩ := x; exact Heap.lt_size e
  | tbl ps => exact Heap.lt_size (show h.get? a = some _ from x)
  | met f y => exact Heap.lt_size (show h.get? a = some _ from x)
  | ext φ => obtain ⟨_, ⟨_, e⟩, _⟩ := x; exact Heap.lt_size e
theorem Paired.mapP {α β : Type} {F G : α → β → Prop} : ∀ {l₁ : List α} {l₂ : List β}, Paired F l₁ l₂ → (∀ a b, F a b → G a b) → Paired G l₁ l₂
  | _, _, .nil, _ => .nil
  | _, _, .cons r t, f => .cons (f _ _ r) (Paired.mapP t f)
theorem Paired.imp' {α β : Type} {F G : α → β → Prop} (f : ∀ a b, F a b → G a b) {l₁ : List α} {l₂ : List β} (r : Paired F l₁ l₂) : Paired G l₁ l₂ := Paired.mapP r f
theorem ObjOk.stay (x : ObjOk P w H h a o) (k : ∀ b u, (b = a ∨ H b = some (.own a)) → h.get? b = some u → h'.get? b = some u)
    (ho : ∀ b, H b = some (.own a) → H' b = some (.own a)) (ht : ∀ b xs, H b = some (.tup xs) → H' b = some (.tup xs)) : ObjOk P w H' h' a o := by
  induction o with
  | lst xs => obtain ⟨z, its, n, r, e⟩ := x; exact ⟨z, its, n, r, k _ _ (.inl rfl) e⟩
  | tup xs => obtain ⟨z, its, r, ob, e, c⟩ := x; exact ⟨z, its, r, ob, k _ _ (.inl rfl) e, c⟩
  | dK kvs => obtain ⟨z, y, vs, r, ob, es, ep, e, c⟩ := x; exact ⟨z, y, vs, r, ob, es, ep, k _ _ (.inl rfl) e, c⟩
  | dT kvs =>
    obtain ⟨z, y, xs, r, ob, es, ep, e, c⟩ := x
    exact ⟨z, y, xs, Paired.mapP r fun p q z => ⟨z.1, ht _ _ z.2.1, z.2.2⟩, ob, es, ep, k _ _ (.inl rfl) e, c⟩
  | set S n => obtain ⟨ob, es, ep, t, e, c⟩ := x; exact ⟨ob, es, ep, t, k _ _ (.inl rfl) e, c⟩
  | ins C dx fs =>
    obtain ⟨d, z, ne, e, mA, ⟨od, es, ep, e2, c⟩, r⟩ := x
    exact ⟨ho _ d, z, ne, k _ _ (.inl rfl) e, mA, ⟨od, es, ep, k _ _ (.inr d) e2, c⟩, r⟩
  | own y => obtain ⟨ob, e⟩ := x; exact ⟨ob, k _ _ (.inl rfl) e⟩
  | xd fs => obtain ⟨mA, ⟨od, es, ep, e, c⟩, r⟩ := x; exact ⟨mA, ⟨od, es, ep, k _ _ (.inl rfl) e, c⟩, r⟩
  | rng lo hi => obtain ⟨t, u, v, e⟩ := x; exact ⟨t, u, v, k _ _ (.inl rfl) e⟩
  | frz ob u ih => obtain ⟨e, q⟩ := x; exact ⟨k _ _ (.inl rfl) e, ih q⟩
  | tbl ps =>
    have e : h.get? a = some { cls := .none, data := .fields ps } := x
    show h'.get? a = some { cls := .none, data := .fields ps }
    exact k a _ (.inl rfl) e
  | met f y =>
    have e : h.get? a = some (PySem.W.methodObj (.ref f) (.ref y)) := x
    show h'.get? a = some (PySem.W.methodObj (.ref f) (.ref y))
    exact k a _ (.inl rfl) e
  | ext φ => obtain ⟨p, ⟨o, e⟩, st⟩ := x; exact ⟨st _ _ p fun o q => k _ _ (.inl rfl) q, ⟨o, k _ _ (.inl rfl) e⟩, st⟩
theorem HOk.lt (x : HOk P w H h) (e : H a = some o) : a < h.objs.size := (x a o e).lt
theorem HOk.fresh (x : HOk P w H h) (e : h.objs.size ≤ a) : H a = none := by
  cases q : H a with
  | none => rfl
  | some u => exact absurd (Nat.lt_of_lt_of_le (x.lt q) e) (Nat.lt_irrefl _)
theorem HOk.kept (x : HOk P w H h) (k : ∀ b u, h.get? b = some u → h'.get? b = some u) : HOk P w H h' := fun a o e =>
  (x a o e).stay (fun b u _ q => k b u q) (fun _ q => q) fun _ _ q => q
theorem HOk.laid (x : HOk P w H h) (k : ∀ b u, h.get? b = some u → h'.get? b = some u) (hp : h.objs.size ≤ a) (new : ObjOk P w (upd H a o) h' a o) : HOk P w (upd H a o) h' := fun b u e => by
  have hn := x.fresh hp
  by_cases hb : b = a
  · subst hb; rw [upd_same] at e; cases e; exact new
  · rw [upd_ne hb] at e
    exact (x b u e).stay (fun c v _ q => k c v q) (fun c q => by rw [upd_ne (ne_of_none q hn)]; exact q) fun c xs q => by rw [upd_ne (ne_of_none q hn)]; exact q
end
def Rd (H : Hp) (a : Addr) (u : HO) : Prop := H a = some u ∨ ∃ o, H a = some (.frz o u)
theorem Rd.of {H : Hp} {a : Addr} {u : HO} (h : H a = some u) : Rd H a u := .inl h
theorem Rd.ok {P : Program} {w : World} {H : Hp} {h : Heap} {a : Addr} {u : HO} (r : Rd H a u) (x : HOk P w H h) : ObjOk P w H h a u := by
  rcases r with r | ⟨o, r⟩
  · exact x a u r
  · obtain ⟨_, q⟩ := x a _ r
    exact q
def Mut : Option HO → Prop
  | some (.lst _) => True
  | some (.dK _) => True
  | some (.dT _) => True
  | some (.set _ _) => True
  | some (.ins _ _ _) => True
  | some (.ext _) => True
  | _ => False
section
variable {P : Program} {w : World} {H : Hp} {h h' : Heap} {x e : Addr} {o' : HO}
theorem HOk.write (ok : HOk P w H h) (mu : Mut (H x)) (he : e = x ∨ H e = some (.own x)) (k : ∀ b u, b ≠ e → h.get? b = some u → h'.get? b = some u) (heo : ∃ u, h'.get? e = some u)
    (new : ObjOk P w (upd H x o') h' x o') : HOk P w (upd H x o') h' := fun b u q => by
  have nown : ∀ c y, H c = some (.own y) → c ≠ x := fun c y r z => by subst z; rw [r] at mu; exact mu
  have ntup : ∀ c xs, H c = some (.tup xs) → c ≠ x := fun c xs r z => by subst z; rw [r] at mu; exact mu
  by_cases hb : b = x
  · subst hb; rw [upd_same] at q; cases q; exact new
  · rw [upd_ne hb] at q
    by_cases hbe : b = e
    · have q' : H b = some (.own x) := by
        rcases he with z | z
        · exact absurd (hbe.trans z) hb
        · rw [hbe]; exact z
      rw [q] at q'; cases q'
      obtain ⟨v, hv⟩ := heo
      exact ⟨v, by rw [hbe]; exact hv⟩
    · refine (ok b u q).stay (fun c v hc r => k c v ?_ r) (fun c r => by rw [upd_ne (nown c b r)]; exact r) fun c xs r => by rw [upd_ne (ntup c xs r)]; exact r
      rcases hc with rfl | hc
      · exact hbe
      · rintro rfl
        rcases he with z | z
        · exact nown c b hc z
        · rw [hc] at z; cases z; exact hb rfl
end
structure Un (fs ex : List Addr) (H H' : Hp) (h h' : Heap) : Prop where
  keep : ∀ b o, h.get? b = some o → H b = none → b ∉ fs → b ∉ ex → h'.get? b = some o
  slot : ∀ b o, h.get? b = some o → H b = none → b ∈ fs → b ∉ ex → ∃ sl, h'.get? b = some { o with slots := sl }
  free : ∀ b o, h.get? b = some o → H b = none → b ∉ ex → H' b = none
  there : ∀ b o, h.get? b = some o → b ∉ ex → ∃ o', h'.get? b = some o'
  tups : ∀ b xs, H b = some (.tup xs) → H' b = some (.tup xs)
  frzs : ∀ b o u, H b = some (.frz o u) → H' b = some (.frz o u)
  tbls : ∀ b ps, H b = some (.tbl ps) → ∃ more, H' b = some (.tbl (ps ++ more))
section
variable {fs fs' ex ex' : List Addr} {H H1 H2 : Hp} {h h1 h2 h' : Heap} {a x e : Addr} {o : HO}
theorem Un.any (u : Un fs ex H H1 h h1) {b : Addr} {ob : Obj} (q : h.get? b = some ob) (n : H b = none) (hx : b ∉ ex) : ∃ sl, h1.get? b = some { ob with slots := sl } := by
  by_cases hb : b ∈ fs
  · exact u.slot b ob q n hb hx
  · exact ⟨ob.slots, u.keep b ob q n hb hx⟩
theorem Un.trans (a : Un fs ex H H1 h h1) (b : Un fs ex H1 H2 h1 h2) : Un fs ex H H2 h h2 where
  keep := fun c ob q n hc hx => b.keep c ob (a.keep c ob q n hc hx) (a.free c ob q n hx) hc hx
  slot := fun c ob q n hc hx => by
    obtain ⟨sl, e1⟩ := a.slot c ob q n hc hx
    obtain ⟨sl', e2⟩ := b.slot c _ e1 (a.free c ob q n hx) hc hx
    exact ⟨sl', e2⟩
  free := fun c ob q n hx => by
    obtain ⟨o', e1⟩ := a.there c ob q hx
    exact b.free c o' e1 (a.free c ob q n hx) hx
  there := fun c ob q hx => by
    obtain ⟨o', e1⟩ := a.there c ob q hx
    exact b.there c o' e1 hx
  tups := fun c xs q => b.tups c xs (a.tups c xs q)
  frzs := fun c ob xs q => b.frzs c ob xs (a.frzs c ob xs q)
  tbls := fun c ps q => by
    obtain ⟨m1, e1⟩ := a.tbls c ps q
    obtain ⟨m2, e2⟩ := b.tbls c _ e1
    exact ⟨m1 ++ m2, by rw [e2, Array.append_assoc]⟩
theorem Un.kept (k : ∀ b u, h.get? b = some u → h'.get? b = some u) : Un fs ex H H h h' :=
  ⟨fun b ob q _ _ _ => k b ob q, fun b ob q _ _ _ => ⟨ob.slots, k b ob q⟩, fun _ _ _ n _ => n, fun b ob q _ => ⟨ob, k b ob q⟩, fun _ _ q => q, fun _ _ _ q => q, fun _ ps q => ⟨#[], by rw [q]; simp⟩⟩
theorem Un.refl : Un fs ex H H h h := Un.kept fun _ _ q => q
theorem Un.laid (k : ∀ b u, h.get? b = some u → h'.get? b = some u) (hp : h.objs.size ≤ a) (hn : H a = none) : Un fs ex H (upd H a o) h h' where
  keep := fun b u q _ _ _ => k b u q
  slot := fun b u q _ _ _ => ⟨u.slots, k b u q⟩
  free := fun b u q n _ => by rw [upd_ne (Nat.ne_of_lt (Nat.lt_of_lt_of_le (Heap.lt_size q) hp))]; exact n
  there := fun b u q _ => ⟨u, k b u q⟩
  tups := fun b xs q => by rw [upd_ne (ne_of_none q hn)]; exact q
  frzs := fun b u xs q => by rw [upd_ne (ne_of_none q hn)]; exact q
  tbls := fun b ps q => ⟨#[], by rw [upd_ne (ne_of_none q hn), q]; simp⟩
theorem Un.write (mu : Mut (H x)) (he : e = x ∨ H e = some (.own x)) (k : ∀ b u, b ≠ e → h.get? b = some u → h'.get? b = some u) (heo : ∃ u, h'.get? e = some u) : Un fs ex H (upd H x o) h h' := by
  have hx : ∀ b, H b = none → b ≠ x := fun b n z => by subst z; rw [n] at mu; exact mu
  have hb : ∀ b, H b = none → b ≠ e := fun b n z => by
    subst z
    rcases he with r | r
    · exact hx b n r
    · rw [n] at r; cases r
  have hm : ∀ b u, H b = some u → ¬ Mut (some u) → b ≠ x := fun b u q nm z => by subst z; rw [q] at mu; exact nm mu
  refine ⟨fun b u q n _ _ => k b u (hb b n) q, fun b u q n _ _ => ⟨u.slots, k b u (hb b n) q⟩, fun b u q n _ => by rw [upd_ne (hx b n)]; exact n, fun b u q _ => ?_,
    fun b xs q => by rw [upd_ne (hm b _ q fun z => z)]; exact q, fun b u xs q => by rw [upd_ne (hm b _ q fun z => z)]; exact q, fun b ps q => ⟨#[], by rw [upd_ne (hm b _ q fun z => z), q]; simp⟩⟩
  by_cases hbe : b = e
  · subst hbe; exact heo
  · exact ⟨u, k b u hbe q⟩
theorem Un.mono (u : Un fs ex H H1 h h1) (hs : ∀ b ∈ fs, b ∈ fs') (hx : ∀ b ∈ ex, b ∈ ex') : Un fs' ex' H H1 h h1 :=
  ⟨fun b ob q n hb he => u.keep b ob q n (fun z => hb (hs b z)) fun z => he (hx b z), fun _ _ q n _ he => u.any q n fun z => he (hx _ z), fun b ob q n he => u.free b ob q n fun z => he (hx b z), fun b ob q he => u.there b ob q fun z => he (hx b z), u.tups, u.frzs, u.tbls⟩
end
def trk (h : Heap) (H : Hp) : List Addr := (List.range h.objs.size).filter fun a => (H a).isSome
def hidT (h : Heap) (H : Hp) : Heap := PySem.W.hideAll h (trk h H)
theorem hidT_size (h : Heap) (H : Hp) : (hidT h H).objs.size = h.objs.size := PySem.W.hideAll_size _ _
theorem hidT_get {h : Heap} {H : Hp} {b : Addr} {o : Obj} (e : h.get? b = some o) (n : H b = none) : (hidT h H).get? b = some o :=
  PySem.W.hideAll_get _ e fun hm => by
    have q : (H b).isSome = true := (List.mem_filter.mp hm).2
    rw [n] at q; simp at q
theorem of_hidT {h : Heap} {H : Hp} {b : Addr} {o : Obj} (e : (hidT h H).get? b = some o) : h.get? b = some o ∧ H b = none := by
  have e' : h.get? b = some o := PySem.W.of_hideAll (trk h H) e
  refine ⟨e', ?_⟩
  cases q : H b with
  | none => rfl
  | some x =>
    have hm : b ∈ trk h H := List.mem_filter.mpr ⟨List.mem_range.mpr (Heap.lt_size e'), by simp [q]⟩
    have z : (hidT h H).get? b = none := PySem.W.hideAll_none (trk h H) hm
    rw [z] at e; cases e
def allNews (g h : Heap) (L : Addr) : List (Addr × Obj) := (List.range h.objs.size).filterMap fun a => if a = L ∨ (g.get? a).isSome = true then none else (h.get? a).map fun o => (a, o)
theorem mem_allNews {g h : Heap} {L a : Addr} {o : Obj} (h1 : a ≠ L) (h2 : g.get? a = none) (h3 : h.get? a = some o) : (a, o) ∈ allNews g h L :=
  List.mem_filterMap.mpr ⟨a, List.mem_range.mpr (Heap.lt_size h3), by simp [h1, h2, h3]⟩
theorem of_mem_allNews {g h : Heap} {L : Addr} {p : Addr × Obj} (hp : p ∈ allNews g h L) : p.1 ≠ L ∧ g.get? p.1 = none ∧ h.get? p.1 = some p.2 := by
  obtain ⟨b, _, e⟩ := List.mem_filterMap.mp hp
  split at e
  · cases e
  · rename_i hn
    cases q : h.get? b with
    | none => rw [q] at e; simp at e
    | some u =>
      rw [q] at e
      simp only [Option.map_some, Option.some.injEq] at e
      subst e
      refine ⟨fun z => hn (.inl z), ?_, q⟩
      show g.get? b = none
      cases r : g.get? b with
      | none => rfl
      | some v => exact (hn (.inr (by simp [r]))).elim
def rest (g h : Heap) (L d : Addr) : List (Addr × Obj) := (allNews g h L).filter fun p => decide (p.1 ≠ d)
theorem rest_ne {g h : Heap} {L d : Addr} : ∀ p ∈ rest g h L d, p.1 ≠ d := fun p hp => of_decide_eq_true (List.mem_filter.mp hp).2
theorem mem_rest {g h : Heap} {L d a : Addr} {o : Obj} (h1 : a ≠ L) (h2 : g.get? a = none) (h3 : h.get? a = some o) (h4 : a ≠ d) : (a, o) ∈ rest g h L d :=
  List.mem_filter.mpr ⟨mem_allNews h1 h2 h3, decide_eq_true h4⟩
theorem news_all {g h : Heap} {L : Addr} : News g L h (allNews g h L) := fun p hp => let ⟨a, b, c⟩ := of_mem_allNews hp; ⟨c, a, b⟩
theorem news_at {g h : Heap} {L d : Addr} {o : Obj} (h1 : d ≠ L) (h2 : g.get? d = none) (h3 : h.get? d = some o) : News g L h ((d, o) :: rest g h L d) := fun p hp => by
  rcases List.mem_cons.mp hp with rfl | hp
  · exact ⟨h3, h1, h2⟩
  · exact news_all p (List.mem_filter.mp hp).1
theorem kept_of_news {g h h' : Heap} {L d : Addr} {m : Str → Option Value} (k : ∀ b o, g.get? b = some o → h.get? b = some o) (F : Fr g L h' m) (N : News g L h' (rest g h L d)) :
    ∀ b o, b ≠ L → b ≠ d → h.get? b = some o → h'.get? b = some o := fun b o h1 h2 e => by
  cases q : g.get? b with
  | some u =>
    have := k b u q
    rw [e] at this; cases this
    exact F.keep b _ q
  | none => exact (N (b, o) (mem_rest h1 q e h2)).1
end L2
namespace L2
open PySem PySem.Spec PyProof.Rows
structure Mod (K : PySem.W.Frag) (mg : Str → Option Value) (base : Heap) : Prop where
  kin : K.In base
  glob : base.Ns mainGlobals mg
  blt : ∃ mb, base.Ns builtinsNs mb ∧ ∀ x : Str, x ≠ "__name__" → mb x = bootBuiltins x
  nolimit : base.NoLimit
structure Cx where
  prog : Program
  w : World
  K : PySem.W.Frag
  mg : Str → Option Value
  base : Heap
  A : Around
  N : List Str
  s₀ : Shared
  H₀ : Hp
  env : Env
  outer : List Env
  stack : List Env
  ex : List Addr
  fn : Str → Bool
  calm : Bool
  pn : List (Addr × Obj)
  xe : Value → Shared → Prop
def frs (l : List Env) : List Addr := l.filterMap (·.frame)
abbrev Cx.fs (X : Cx) : List Addr := frs X.outer
def Vis (sc : Scope) (x : Str) : Prop := sc.names.lookup x = some .local ∨ sc.names.lookup x = some .cell ∨ sc.names.lookup x = some .free
def Loc (sc : Scope) (x : Str) : Prop := sc.names.lookup x = some .local ∨ sc.names.lookup x = some .cell
def Look (env : Env) (h : Heap) (m : Str → Option Value) (x : Str) (u : Value) : Prop :=
  (env.kindOf x = some .local ∧ m x = some u) ∨ ((env.kindOf x = some .cell ∨ env.kindOf x = some .free) ∧ ∃ c, env.cells.lookup x = some c ∧ h.IsCell c (some u))
structure Cx.Ok (X : Cx) : Prop where
  mod : Mod X.K X.mg X.base
  kind : X.env.scope.kind = .function
  glob : X.env.globals = mainGlobals
  blt : X.env.builtins = builtinsNs
  above : X.s₀.heap.objs.size ≤ X.env.locals
  inj : ∀ x y c, X.env.cells.lookup x = some c → X.env.cells.lookup y = some c → x = y
  has : ∀ x, (X.env.kindOf x = some .cell ∨ X.env.kindOf x = some .free) → ∃ c, X.env.cells.lookup x = some c
  cab : ∀ x c, X.fn x = true → X.env.cells.lookup x = some c → X.s₀.heap.objs.size ≤ c
  hd : X.calm = true → X.A.handled = none
  frames : X.A.frames = some X.stack
  stk : X.stack = X.outer ∨ (X.stack = X.env :: X.outer ∧ X.env.frame = some X.env.locals)
  exf : ∀ b ∈ X.ex, b ≠ X.env.locals ∧ ∀ x c, X.env.cells.lookup x = some c → c ≠ b
  bs : ∀ b o, X.base.get? b = some o → X.s₀.heap.get? b = some o ∧ X.H₀ b = none
  bsz : X.base.objs.size ≤ X.s₀.heap.objs.size
  noex : ∀ b o, X.base.get? b = some o → b ∉ X.ex
  exfs : ∀ b ∈ X.ex, b ∉ X.fs
  funs : X.s₀.heap.FunFrames X.base X.outer
  frf : ∀ b ∈ X.fs, X.H₀ b = none
structure Inv (X : Cx) (pins : List (Addr × Obj)) (σ : List (Option V)) (H : Hp) (s : Shared) : Prop where
  ok : X.Ok
  os : s.os = X.s₀.os
  bare : AllBare s.gens
  base : Un X.fs X.ex X.H₀ H X.s₀.heap s.heap
  loc : ∃ m, s.heap.Ns X.env.locals m ∧ ∀ (i : Nat) (x : Str) (v : V), X.N[i]? = some x → σ[i]? = some (some v) → Vis X.env.scope x → ∃ u, RelV v u ∧ Look X.env s.heap m x u
  cell : ∀ x c, X.env.cells.lookup x = some c → ∃ v, s.heap.IsCell c v
  free : H X.env.locals = none
  freeC : ∀ x c, X.env.cells.lookup x = some c → H c = none
  pin : ∀ p ∈ X.pn ++ pins, s.heap.get? p.1 = some p.2 ∧ H p.1 = none ∧ p.1 ≠ X.env.locals ∧ p.1 ∉ X.fs ∧ ∀ v, p.2.data ≠ .cell v
  hok : HOk X.prog X.w H s.heap
  len : σ.length = X.N.length
section
variable {X : Cx} {pins : List (Addr × Obj)} {σ : List (Option V)} {H H' : Hp} {s : Shared} {h' : Heap}
theorem Cx.Ok.nofr (ok : X.Ok) {b : Addr} {o : Obj} (e : X.base.get? b = some o) : b ∉ X.fs := fun hb => by
  have := (ok.funs.mem hb).1
  rw [e] at this; cases this
theorem Inv.bs (I : Inv X pins σ H s) : ∀ b o, X.base.get? b = some o → s.heap.get? b = some o ∧ H b = none := fun b o e =>
  ⟨I.base.keep b o (I.ok.bs b o e).1 (I.ok.bs b o e).2 (I.ok.nofr e) (I.ok.noex b o e), I.base.free b o (I.ok.bs b o e).1 (I.ok.bs b o e).2 (I.ok.noex b o e)⟩
theorem Inv.bk (I : Inv X pins σ H s) : ∀ b o, X.base.get? b = some o → s.heap.get? b = some o := fun b o e => (I.bs b o e).1
theorem Inv.mod (I : Inv X pins σ H s) : Mod X.K X.mg X.base := I.ok.mod
theorem Inv.kIn (I : Inv X pins σ H s) : X.K.In s.heap := I.ok.mod.kin.keeps I.bk
theorem Inv.nolimit (I : Inv X pins σ H s) : s.heap.NoLimit := I.ok.mod.nolimit.keeps I.bk
theorem Inv.fr (I : Inv X pins σ H s) : ∃ m, Fr X.base X.env.locals s.heap m :=
  let ⟨m, hn, _⟩ := I.loc
  ⟨m, hn, I.bk, Nat.le_trans I.ok.bsz I.ok.above⟩
theorem Inv.lt (I : Inv X pins σ H s) : X.env.locals < s.heap.objs.size := let ⟨_, hn, _⟩ := I.loc; hn.lt
theorem Inv.sz (I : Inv X pins σ H s) : X.s₀.heap.objs.size ≤ s.heap.objs.size := Nat.le_trans I.ok.above (Nat.le_of_lt I.lt)
theorem Inv.nofs (I : Inv X pins σ H s) {a : Addr} (h : s.heap.objs.size ≤ a) : a ∉ X.fs := fun hb => by
  obtain ⟨_, o, ho, _⟩ := I.ok.funs.mem hb
  exact absurd (Nat.lt_of_lt_of_le (Heap.lt_size ho) (Nat.le_trans I.sz h)) (Nat.lt_irrefl _)
theorem Inv.cne (I : Inv X pins σ H s) : ∀ x c, X.env.cells.lookup x = some c → c ≠ X.env.locals := fun x c e z => by
  obtain ⟨v, o, ho, hd⟩ := I.cell x c e
  obtain ⟨m, ⟨o', es, ep, ho', hd', _⟩, _⟩ := I.loc
  rw [z, ho'] at ho; cases ho; rw [hd'] at hd; cases hd
theorem Inv.funs (I : Inv X pins σ H s) : s.heap.FunFrames X.base X.outer := by
  have all : ∀ (l : List Env), (∀ b ∈ frs l, b ∈ X.fs) → X.s₀.heap.FunFrames X.base l → s.heap.FunFrames X.base l := by
    intro l
    induction l with
    | nil => intro _ _; trivial
    | cons env r ih =>
      intro hs hl
      obtain ⟨hk, ⟨L, o, hf, hn, ho, hd⟩, hr⟩ := hl
      have hL : L ∈ X.fs := hs L (by unfold frs; rw [List.filterMap_cons, hf]; exact List.mem_cons_self)
      obtain ⟨sl, e⟩ := I.base.slot L o ho (I.ok.frf L hL) hL fun z => I.ok.exfs L z hL
      exact ⟨hk, ⟨L, _, hf, hn, e, hd⟩, ih (fun b hb => hs b (by unfold frs; rw [List.filterMap_cons, hf]; exact List.mem_cons_of_mem _ hb)) hr⟩
  exact all X.outer (fun _ hb => hb) I.ok.funs
theorem Inv.stack (I : Inv X pins σ H s) : s.heap.FunFrames X.base X.stack := by
  rcases I.ok.stk with e | ⟨e, hf⟩
  · rw [e]; exact I.funs
  · rw [e]
    obtain ⟨m, hn, _⟩ := I.loc
    refine .cons (by rw [I.ok.kind]; decide) hf hn ?_ I.funs
    exact Heap.get?_none_of_le (Nat.le_trans I.ok.bsz I.ok.above)
theorem Inv.stkSub (I : Inv X pins σ H s) : ∀ b ∈ frs X.stack, b ∈ X.env.locals :: X.fs := fun b hb => by
  rcases I.ok.stk with e | ⟨e, hf⟩
  · rw [e] at hb; exact List.mem_cons_of_mem _ hb
  · rw [e] at hb
    unfold frs at hb
    rw [List.filterMap_cons, hf] at hb
    exact hb
theorem Inv.stkFree (I : Inv X pins σ H s) : ∀ b ∈ frs X.stack, H b = none := fun b hb => by
  rcases List.mem_cons.mp (I.stkSub b hb) with e | hb
  · rw [e]; exact I.free
  · obtain ⟨_, o, ho, _⟩ := I.ok.funs.mem hb
    exact I.base.free b o ho (I.ok.frf b hb) fun z => I.ok.exfs b z hb
theorem Inv.step {g' : Array GenState} {t' : Nat} {d' : Drawn} {ch : List Addr} (I : Inv X pins σ H s)
    (hch : ∀ b ∈ ch, (b ∈ X.ex ∨ X.s₀.heap.objs.size ≤ b) ∧ b ≠ X.env.locals ∧ (∀ x c, X.env.cells.lookup x = some c → c ≠ b) ∧ ∀ p ∈ X.pn ++ pins, p.1 ≠ b)
    (keep : ∀ b o, b ≠ X.env.locals → b ∉ X.fs → b ∉ ch → s.heap.get? b = some o → H b = none → h'.get? b = some o)
    (slot : ∀ b o, b ≠ X.env.locals → b ∈ X.fs → b ∉ ch → s.heap.get? b = some o → H b = none → ∃ sl, h'.get? b = some { o with slots := sl }) (free : ∀ b o, b ∉ ch → s.heap.get? b = some o → H b = none → H' b = none)
    (there : ∀ b o, b ∉ ch → s.heap.get? b = some o → ∃ o', h'.get? b = some o')
    (tups : ∀ b xs, H b = some (.tup xs) → H' b = some (.tup xs)) (frzs : ∀ b o u, H b = some (.frz o u) → H' b = some (.frz o u)) (tbls : ∀ b ps, H b = some (.tbl ps) → ∃ more, H' b = some (.tbl (ps ++ more)))
    (ns : ∀ m, s.heap.Ns X.env.locals m → h'.Ns X.env.locals m) (hok : HOk X.prog X.w H' h') (hg : AllBare g') :
    Inv X pins σ H' { s with heap := h', gens := g', drawn := d', toks := t' } := by
  have neL : ∀ b o, X.s₀.heap.get? b = some o → b ≠ X.env.locals := fun b o e => Nat.ne_of_lt (Nat.lt_of_lt_of_le (Heap.lt_size e) I.ok.above)
  have neC : ∀ b o, X.s₀.heap.get? b = some o → b ∉ X.ex → b ∉ ch := fun b o e hx hb => by
    rcases (hch b hb).1 with z | z
    · exact hx z
    · exact absurd (Nat.lt_of_lt_of_le (Heap.lt_size e) z) (Nat.lt_irrefl _)
  have cellK : ∀ x c, X.env.cells.lookup x = some c → ∀ v, s.heap.IsCell c v → h'.IsCell c v := fun x c e v ⟨o, ho, hd⟩ => by
    have nch : c ∉ ch := fun z => (hch c z).2.2.1 x c e rfl
    by_cases hc : c ∈ X.fs
    · obtain ⟨sl, q⟩ := slot c o (I.cne x c e) hc nch ho (I.freeC x c e)
      exact ⟨_, q, hd⟩
    · exact ⟨o, keep c o (I.cne x c e) hc nch ho (I.freeC x c e), hd⟩
  refine ⟨I.ok, I.os, hg, ⟨fun b o e n hb hx => ?_, fun b o e n hb hx => ?_, fun b o e n hx => ?_, fun b o e hx => ?_, fun b xs e => tups b xs (I.base.tups b xs e), fun b o xs e => frzs b o xs (I.base.frzs b o xs e), fun b ps e => ?_⟩, ?_, fun x c e => ?_, ?_, fun x c e => ?_, fun p hp => ?_, hok, I.len⟩
  · exact keep b o (neL b o e) hb (neC b o e hx) (I.base.keep b o e n hb hx) (I.base.free b o e n hx)
  · obtain ⟨sl, e1⟩ := I.base.slot b o e n hb hx
    obtain ⟨sl', e2⟩ := slot b _ (neL b o e) hb (neC b o e hx) e1 (I.base.free b o e n hx)
    exact ⟨sl', e2⟩
  · obtain ⟨o', e1⟩ := I.base.there b o e hx
    exact free b o' (neC b o e hx) e1 (I.base.free b o e n hx)
  · obtain ⟨o', e1⟩ := I.base.there b o e hx
    exact there b o' (neC b o e hx) e1
  · obtain ⟨m1, e1⟩ := I.base.tbls b ps e
    obtain ⟨m2, e2⟩ := tbls b _ e1
    exact ⟨m1 ++ m2, by rw [e2, Array.append_assoc]⟩
  · obtain ⟨m, hn, hl⟩ := I.loc
    refine ⟨m, ns m hn, fun i x v e1 e2 e3 => ?_⟩
    obtain ⟨u, r, l⟩ := hl i x v e1 e2 e3
    refine ⟨u, r, ?_⟩
    rcases l with l | ⟨k, c, e, z⟩
    · exact .inl l
    · exact .inr ⟨k, c, e, cellK x c e _ z⟩
  · obtain ⟨v, z⟩ := I.cell x c e
    exact ⟨v, cellK x c e v z⟩
  · obtain ⟨m, ⟨o, _, _, ho, _⟩, _⟩ := I.loc
    exact free _ o (fun z => (hch _ z).2.1 rfl) ho I.free
  · obtain ⟨v, o, ho, hd⟩ := I.cell x c e
    exact free c o (fun z => (hch c z).2.2.1 x c e rfl) ho (I.freeC x c e)
  · obtain ⟨e, n, ne, nf, d⟩ := I.pin p hp
    have nch : p.1 ∉ ch := fun z => (hch p.1 z).2.2.2 p hp rfl
    exact ⟨keep p.1 p.2 ne nf nch e n, free p.1 p.2 nch e n, ne, nf, d⟩
theorem Inv.un {t' : Nat} (I : Inv X pins σ H s) (u : Un X.fs [] H H' s.heap h') (hok : HOk X.prog X.w H' h') : Inv X pins σ H' { s with heap := h', toks := t' } := by
  obtain ⟨m, ⟨o, es, ep, ho, r⟩, _⟩ := id I.loc
  obtain ⟨sl, hL⟩ := u.any ho I.free (by simp)
  exact I.step (g' := s.gens) (d' := s.drawn) (ch := []) (fun _ z => nomatch z) (fun b o _ hb _ e n => u.keep b o e n hb (by simp)) (fun b o _ hb _ e n => u.slot b o e n hb (by simp)) (fun b o _ e n => u.free b o e n (by simp)) (fun b o _ e => u.there b o e (by simp)) u.tups u.frzs u.tbls (fun m' hm => by
    obtain ⟨o', es', ep', ho', r'⟩ := hm
    rw [ho] at ho'; cases ho'
    exact ⟨_, es', ep', hL, r'⟩) hok I.bare
theorem Inv.call {g' : Array GenState} {t' : Nat} {d' : Drawn} {ch : List Addr} (I : Inv X pins σ H s) (u : Un (frs X.stack) ch H H' s.heap h') (hok : HOk X.prog X.w H' h') (hg : AllBare g')
    (hch : ∀ b ∈ ch, (b ∈ X.ex ∨ X.s₀.heap.objs.size ≤ b) ∧ b ≠ X.env.locals ∧ (∀ x c, X.env.cells.lookup x = some c → c ≠ b) ∧ ∀ p ∈ X.pn ++ pins, p.1 ≠ b) :
    Inv X pins σ H' { s with heap := h', gens := g', drawn := d', toks := t' } := by
  obtain ⟨m, ⟨o, es, ep, ho, r⟩, _⟩ := id I.loc
  obtain ⟨sl, hL⟩ := u.any ho I.free fun z => (hch _ z).2.1 rfl
  exact I.step (ch := ch) hch (fun b o hL hb hc e n => u.keep b o e n (fun z => (List.mem_cons.mp (I.stkSub b z)).elim hL hb) hc) (fun b o _ _ hc e n => u.any e n hc) (fun b o hc e n => u.free b o e n hc) (fun b o hc e => u.there b o e hc) u.tups u.frzs u.tbls (fun m' hm => by
    obtain ⟨o', es', ep', ho', r'⟩ := hm
    rw [ho] at ho'; cases ho'
    exact ⟨_, es', ep', hL, r'⟩) hok hg
theorem Inv.turned {t' : Nat} {it : Addr} (I : Inv X pins σ H s) (k : ∀ b o, b ≠ it → s.heap.get? b = some o → h'.get? b = some o) (hn : H it = none) (hL : it ≠ X.env.locals)
    (h1 : it ∈ X.ex ∨ X.s₀.heap.objs.size ≤ it) (h2 : ∀ x c, X.env.cells.lookup x = some c → c ≠ it) (h3 : ∀ p ∈ X.pn ++ pins, p.1 ≠ it) : Inv X pins σ H { s with heap := h', toks := t' } := by
  have nit : ∀ b u, H b = some u → b ≠ it := fun b u e z => by rw [z, hn] at e; cases e
  refine I.step (g' := s.gens) (d' := s.drawn) (ch := [it]) (fun b hb => ?_) (fun b o _ _ hc e _ => k b o (fun z => hc (by simp [z])) e) (fun b o _ _ hc e _ => ⟨o.slots, k b o (fun z => hc (by simp [z])) e⟩) (fun _ _ _ _ n => n)
    (fun b o hc e => ⟨o, k b o (fun z => hc (by simp [z])) e⟩) (fun _ _ e => e) (fun _ _ _ e => e) (fun b ps e => ⟨#[], by rw [e]; simp⟩) (fun m hm => ?_) (fun b u e => ?_) I.bare
  · have e : b = it := by simpa using hb
    subst e
    exact ⟨h1, hL, h2, h3⟩
  · obtain ⟨o, es, ep, ho, r⟩ := hm
    exact ⟨o, es, ep, k _ o (Ne.symm hL) ho, r⟩
  · refine (I.hok b u e).stay (fun c v hc q => k c v ?_ q) (fun _ q => q) fun _ _ q => q
    rcases hc with z | z
    · rw [z]; exact nit b u e
    · exact nit c _ z
theorem Inv.tok (I : Inv X pins σ H s) (t : Nat) : Inv X pins σ H { s with toks := t } := I.un (h' := s.heap) (t' := t) Un.refl I.hok
theorem Inv.kept {t' : Nat} (I : Inv X pins σ H s) (k : ∀ b u, s.heap.get? b = some u → h'.get? b = some u) : Inv X pins σ H { s with heap := h', toks := t' } := I.un (Un.kept k) (I.hok.kept k)
theorem Inv.laid {a : Addr} {o : HO} {t' : Nat} (I : Inv X pins σ H s) (k : ∀ b u, s.heap.get? b = some u → h'.get? b = some u) (hp : s.heap.objs.size ≤ a) (new : ObjOk X.prog X.w (upd H a o) h' a o) :
    Inv X pins σ (upd H a o) { s with heap := h', toks := t' } := I.un (Un.laid k hp (I.hok.fresh hp)) (I.hok.laid k hp new)
theorem Inv.write {x e : Addr} {o : HO} {t' : Nat} (I : Inv X pins σ H s) (mu : Mut (H x)) (he : e = x ∨ H e = some (.own x)) (k : ∀ b u, b ≠ e → s.heap.get? b = some u → h'.get? b = some u) (heo : ∃ u, h'.get? e = some u)
    (new : ObjOk X.prog X.w (upd H x o) h' x o) : Inv X pins σ (upd H x o) { s with heap := h', toks := t' } := I.un (Un.write mu he k heo) (I.hok.write mu he k heo new)
theorem Inv.weak {σ' : List (Option V)} (I : Inv X pins σ H s) (hl : σ'.length = σ.length) (w : ∀ (i : Nat) v, σ'[i]? = some (some v) → σ[i]? = some (some v)) : Inv X pins σ' H s :=
  ⟨I.ok, I.os, I.bare, I.base, let ⟨m, hn, hl'⟩ := I.loc; ⟨m, hn, fun i x v e1 e2 e3 => hl' i x v e1 (w i v e2) e3⟩, I.cell, I.free, I.freeC, I.pin, I.hok, hl.trans I.len⟩
theorem Inv.pins_of {pins' : List (Addr × Obj)} (I : Inv X pins σ H s) (h : ∀ p ∈ pins', s.heap.get? p.1 = some p.2 ∧ H p.1 = none ∧ p.1 ≠ X.env.locals ∧ p.1 ∉ X.fs ∧ ∀ v, p.2.data ≠ .cell v) : Inv X pins' σ H s :=
  ⟨I.ok, I.os, I.bare, I.base, I.loc, I.cell, I.free, I.freeC, fun p hp => (List.mem_append.mp hp).elim (fun z => I.pin p (List.mem_append_left _ z)) (h p), I.hok, I.len⟩
theorem nodup_ix {N : List Str} (hN : N.Nodup) {i j : Nat} {x : Str} (a : N[i]? = some x) (b : N[j]? = some x) : i = j := by
  obtain ⟨h1, e1⟩ := List.getElem?_eq_some_iff.mp a
  obtain ⟨h2, e2⟩ := List.getElem?_eq_some_iff.mp b
  exact (List.getElem_inj hN).mp (e1.trans e2.symm)
theorem store_ok2 {M : Model} {A : Around} {E : Value → Shared → Prop} {i : Nat} {x : Str} {v : V} {u : Value} {Q : Unit → Shared → Prop} (I : Inv X pins σ H s) (hN : X.N.Nodup) (hi : X.N[i]? = some x) (hx : Loc X.env.scope x) (r : RelV v u)
    (h : ∀ s', Inv X pins (σ.set i (some v)) H s' → (∃ a, Heap.SameBut a s.heap s'.heap ∧ (a = X.env.locals ∨ X.env.cells.lookup x = some a)) → Q () s') (hf : X.fn x = true ∨ X.env.scope.names.lookup x = some .local := by first | exact .inl rfl | exact .inr rfl | assumption) : wpAny M A (storeName X.env x u) Q E s := by
  obtain ⟨m, hn, hl⟩ := id I.loc
  have hcls : (X.env.scope.kind == .class || (X.env.scope.kind == .module && X.env.locals != X.env.globals)) = false := by rw [I.ok.kind]; rfl
  have hiσ : i < σ.length := by rw [I.len]; exact (List.getElem?_eq_some_iff.mp hi).1
  have cne := I.cne
  have tracked : ∀ {a : Addr} {h' : Heap}, (∃ o, s.heap.get? a = some o ∧ H a = none) → Heap.SameBut a s.heap h' → HOk X.prog X.w H h' := fun {a h'} ha hs b ob e => by
    obtain ⟨_, _, hfree⟩ := ha
    refine (I.hok b ob e).stay (fun c w' hc q => (hs.2 c ?_).trans q) (fun _ q => q) fun _ _ q => q
    rintro rfl
    rcases hc with rfl | hc
    · rw [hfree] at e; cases e
    · rw [hfree] at hc; cases hc
  rcases hx with hk | hk
  · refine wpAny_storeName_local hk hn (fun h' hn' hs => ?_) hcls
    obtain ⟨oL, _, _, hoL, _⟩ := id hn
    refine h _ ⟨I.ok, I.os, I.bare, ⟨fun b o e n hb hx => ?_, fun b o e n hb hx => ?_, I.base.free, fun b o e hx => ?_, I.base.tups, I.base.frzs, I.base.tbls⟩, ⟨_, hn', fun j y v' e1 e2 e3 => ?_⟩, fun y c e => ?_, I.free, I.freeC, fun p hp => ?_, tracked ⟨oL, hoL, I.free⟩ hs, by simpa using I.len⟩ ⟨_, hs, .inl rfl⟩
    · exact (hs.2 b (Nat.ne_of_lt (Nat.lt_of_lt_of_le (Heap.lt_size e) I.ok.above))).trans (I.base.keep b o e n hb hx)
    · obtain ⟨sl, e1⟩ := I.base.slot b o e n hb hx
      exact ⟨sl, (hs.2 b (Nat.ne_of_lt (Nat.lt_of_lt_of_le (Heap.lt_size e) I.ok.above))).trans e1⟩
    · obtain ⟨o', e1⟩ := I.base.there b o e hx
      exact ⟨o', (hs.2 b (Nat.ne_of_lt (Nat.lt_of_lt_of_le (Heap.lt_size e) I.ok.above))).trans e1⟩
    · by_cases hj : j = i
      · subst hj
        rw [hi] at e1; cases e1
        rw [List.getElem?_set_self hiσ] at e2
        cases e2
        exact ⟨u, r, .inl ⟨hk, by simp⟩⟩
      · rw [List.getElem?_set_ne (Ne.symm hj)] at e2
        obtain ⟨u', r', q⟩ := hl j y v' e1 e2 e3
        refine ⟨u', r', ?_⟩
        rcases q with ⟨k, e⟩ | ⟨k, c, e, z⟩
        · refine .inl ⟨k, ?_⟩
          have : y ≠ x := fun e => hj (nodup_ix hN e1 (e ▸ hi))
          simp [this, e]
        · exact .inr ⟨k, c, e, z.sameBut hs (cne y c e)⟩
    · obtain ⟨w', z⟩ := I.cell y c e
      exact ⟨w', z.sameBut hs (cne y c e)⟩
    · obtain ⟨e, n, ne, nf, d⟩ := I.pin p hp
      exact ⟨(hs.2 p.1 ne).trans e, n, ne, nf, d⟩
  · have hfn : X.fn x = true := by
      rcases hf with z | z
      · exact z
      · rw [z] at hk; cases hk
    obtain ⟨c, hc⟩ := I.ok.has x (.inl hk)
    obtain ⟨w', z⟩ := I.cell x c hc
    refine wpAny_storeName_cell I.ok.kind hk hc z (fun h' hc' hs => ?_)
    obtain ⟨oc, hoc, hocd⟩ := id z
    refine h { s with heap := h' } ⟨I.ok, I.os, I.bare, ⟨fun b o e n hb hx => ?_, fun b o e n hb hx => ?_, I.base.free, fun b o e hx => ?_, I.base.tups, I.base.frzs, I.base.tbls⟩, ⟨m, hn.sameBut hs (Ne.symm (cne x c hc)), fun j y v' e1 e2 e3 => ?_⟩, fun y c' e => ?_, I.free, I.freeC, fun p hp => ?_, tracked ⟨oc, hoc, I.freeC x c hc⟩ hs, by simpa using I.len⟩ ⟨c, hs, .inr hc⟩
    · exact (hs.2 b (Nat.ne_of_lt (Nat.lt_of_lt_of_le (Heap.lt_size e) (I.ok.cab x c hfn hc)))).trans (I.base.keep b o e n hb hx)
    · obtain ⟨sl, e1⟩ := I.base.slot b o e n hb hx
      exact ⟨sl, (hs.2 b (Nat.ne_of_lt (Nat.lt_of_lt_of_le (Heap.lt_size e) (I.ok.cab x c hfn hc)))).trans e1⟩
    · obtain ⟨o', e1⟩ := I.base.there b o e hx
      exact ⟨o', (hs.2 b (Nat.ne_of_lt (Nat.lt_of_lt_of_le (Heap.lt_size e) (I.ok.cab x c hfn hc)))).trans e1⟩
    · by_cases hj : j = i
      · subst hj
        rw [hi] at e1; cases e1
        rw [List.getElem?_set_self hiσ] at e2
        cases e2
        exact ⟨u, r, .inr ⟨.inl hk, c, hc, hc'⟩⟩
      · rw [List.getElem?_set_ne (Ne.symm hj)] at e2
        obtain ⟨u', r', q⟩ := hl j y v' e1 e2 e3
        refine ⟨u', r', ?_⟩
        rcases q with q | ⟨k, c', e, z'⟩
        · exact .inl q
        · refine .inr ⟨k, c', e, z'.sameBut hs ?_⟩
          rintro rfl
          exact hj (nodup_ix hN e1 (I.ok.inj _ _ _ e hc ▸ hi))
    · by_cases hcc : c' = c
      · subst hcc; exact ⟨_, hc'⟩
      · obtain ⟨w2, z2⟩ := I.cell y c' e
        exact ⟨w2, z2.sameBut hs hcc⟩
    · obtain ⟨e, n, ne, nf, d⟩ := I.pin p hp
      refine ⟨(hs.2 p.1 ?_).trans e, n, ne, nf, d⟩
      intro q
      rw [q, hoc] at e
      have q' : oc = p.2 := Option.some.inj e
      exact d w' (by rw [← q']; exact hocd)
theorem store_ok {M : Model} {A : Around} {E : Value → Shared → Prop} {i : Nat} {x : Str} {v : V} {u : Value} {Q : Unit → Shared → Prop} (I : Inv X pins σ H s) (hN : X.N.Nodup) (hi : X.N[i]? = some x) (hx : Loc X.env.scope x) (r : RelV v u)
    (h : ∀ s', Inv X pins (σ.set i (some v)) H s' → Q () s') (hf : X.fn x = true ∨ X.env.scope.names.lookup x = some .local := by first | exact .inl rfl | exact .inr rfl | assumption) : wpAny M A (storeName X.env x u) Q E s :=
  store_ok2 I hN hi hx r (fun s' I' _ => h s' I') hf
theorem Inv.call' {s' : Shared} {ch : List Addr} (I : Inv X pins σ H s) (ho : s'.os = s.os) (u : Un (frs X.stack) ch H H' s.heap s'.heap) (hok : HOk X.prog X.w H' s'.heap) (hg : AllBare s'.gens)
    (hch : ∀ b ∈ ch, (b ∈ X.ex ∨ X.s₀.heap.objs.size ≤ b) ∧ b ≠ X.env.locals ∧ (∀ x c, X.env.cells.lookup x = some c → c ≠ b) ∧ ∀ p ∈ X.pn ++ pins, p.1 ≠ b) : Inv X pins σ H' s' := by
  obtain ⟨h', g', d', t', o'⟩ := s'
  have e : o' = s.os := ho
  subst e
  exact I.call (g' := g') (t' := t') (d' := d') u hok hg hch
end
abbrev XK := Value → Option Addr → Hp → Prop
abbrev St := List (Option V)
abbrev VK := V → Hp → Prop
abbrev TE := St → Hp → VK → Prop
abbrev TT := St → Hp → (Bool → Hp → Prop) → Prop
abbrev TA := St → Hp → (List V → Hp → Prop) → Prop
structure Ends where
  nx : St → Hp → Prop
  rt : VK
  bk : St → Hp → Prop := fun _ _ => False
  ct : St → Hp → Prop := fun _ _ => False
abbrev TS := Ends → St → Hp → Prop
def EP (X : Cx) (pins : List (Addr × Obj)) (σ : St) (Q : VK) (u : Value) (s' : Shared) : Prop := ∃ v H', Inv X pins σ H' s' ∧ RelV v u ∧ Q v H'
def TP (X : Cx) (pins : List (Addr × Obj)) (σ : St) (Q : Bool → Hp → Prop) (b : Bool) (s' : Shared) : Prop := ∃ H', Inv X pins σ H' s' ∧ Q b H'
def AP (X : Cx) (pins : List (Addr × Obj)) (σ : St) (Q : List V → Hp → Prop) (us : List Value) (s' : Shared) : Prop := ∃ vs H', Inv X pins σ H' s' ∧ Vals vs us ∧ Q vs H'
def SP (X : Cx) (pins : List (Addr × Obj)) (D : Ends) (f : Flow) (s' : Shared) : Prop :=
  match f with
  | .next => ∃ σ' H', Inv X pins σ' H' s' ∧ D.nx σ' H'
  | .brk => ∃ σ' H', Inv X pins σ' H' s' ∧ D.bk σ' H'
  | .cont => ∃ σ' H', Inv X pins σ' H' s' ∧ D.ct σ' H'
  | .ret u => ∃ v σ' H', Inv X pins σ' H' s' ∧ RelV v u ∧ D.rt v H'
def PE (X : Cx) (e : Expr) (t : TE) : Prop :=
  ∀ (pins : List (Addr × Obj)) (s : Shared) (σ : St) (H : Hp) (Q : VK), Inv X pins σ H s → t σ H Q → wpAny (model X.prog X.w) X.A (eval e X.env) (EP X pins σ Q) X.xe s
def PT (X : Cx) (e : Expr) (t : TT) : Prop :=
  ∀ (pins : List (Addr × Obj)) (s : Shared) (σ : St) (H : Hp) (Q : Bool → Hp → Prop), Inv X pins σ H s → t σ H Q → wpAny (model X.prog X.w) X.A (isTrue e X.env (eval e X.env)) (TP X pins σ Q) X.xe s
def PW (X : Cx) (e : Expr) (t : TT) : Prop :=
  ∀ (whole : Sem Value) (pins : List (Addr × Obj)) (s : Shared) (σ : St) (H : Hp) (Q : Bool → Hp → Prop), Inv X pins σ H s → t σ H Q → wpAny (model X.prog X.w) X.A (isTrue e X.env whole) (TP X pins σ Q) X.xe s
theorem PW.pt {X : Cx} {e : Expr} {t : TT} (h : PW X e t) : PT X e t := h _
def PA (X : Cx) (es : List Expr) (t : TA) : Prop :=
  ∀ (pos : Pos) (pins : List (Addr × Obj)) (s : Shared) (σ : St) (H : Hp) (Q : List V → Hp → Prop), Inv X pins σ H s → t σ H Q → wpAny (model X.prog X.w) X.A (spliced (backTo pos (starEach es X.env))) (AP X pins σ Q) X.xe s
def PS (X : Cx) (st : Stmt) (t : TS) : Prop :=
  ∀ (pins : List (Addr × Obj)) (s : Shared) (σ : St) (H : Hp) (D : Ends), Inv X pins σ H s → t D σ H → wpAny (model X.prog X.w) X.A (exec st X.env) (SP X pins D) X.xe s
def PSs (X : Cx) (st : List Stmt) (t : TS) : Prop :=
  ∀ (pins : List (Addr × Obj)) (s : Shared) (σ : St) (H : Hp) (D : Ends), Inv X pins σ H s → t D σ H → wpAny (model X.prog X.w) X.A (execs st X.env) (SP X pins D) X.xe s
theorem thn {α : Type} {t : Sem α} {Q Q' : α → Shared → Prop} {M : Model} {A : Around} {E : Value → Shared → Prop} {s : Shared} (h : wpAny M A t Q E s) (hQ : ∀ a s, Q a s → Q' a s) : wpAny M A t Q' E s := wpAny_mono h hQ fun _ _ x => x
end L2
namespace L2
open PySem PySem.Spec PyProof.Rows
section
variable {X : Cx}
theorem bin {a b : Expr} {ta tb : TE} (ha : PE X a ta) (hb : PE X b tb) {pins : List (Addr × Obj)} {s : Shared} {σ : St} {H : Hp} {R : V → V → Hp → Prop} (I : Inv X pins σ H s) (h : ta σ H fun x H1 => tb σ H1 fun y H2 => R x y H2)
    {α : Type} {Q : α → Shared → Prop} {f : Value → Value → Sem α}
    (hf : ∀ v u s2 x y H2, Inv X pins σ H2 s2 → RelV x v → RelV y u → R x y H2 → wpAny (model X.prog X.w) X.A (f v u) Q X.xe s2) :
    wpAny (model X.prog X.w) X.A (eval a X.env) (fun v s₁ => wpAny (model X.prog X.w) X.A (eval b X.env) (fun u s₂ => wpAny (model X.prog X.w) X.A (f v u) Q X.xe s₂) X.xe s₁) X.xe s := by
  refine thn (ha pins s σ H _ I h) fun v s1 ⟨x, H1, I1, r1, q1⟩ => ?_
  refine thn (hb pins s1 σ H1 _ I1 q1) fun u s2 ⟨y, H2, I2, r2, q2⟩ => ?_
  exact hf v u s2 x y H2 I2 r1 r2 q2
def tVar (i : Nat) : TE := fun σ H Q => ∃ v, σ[i]? = some (some v) ∧ Q v H
def tC (v : V) : TE := fun _ H Q => Q v H
theorem pe_var {i : Nat} {x : Str} {pos : Pos} (hN : X.N[i]? = some x) (hv : Vis X.env.scope x) (hd : (x == ("__debug__" : Str)) = false := by decide) (hcd : (x == ("__classdict__" : Str)) = false := by decide) : PE X (.Name x pos) (tVar i) := by
  intro pins s σ H Q I h
  obtain ⟨v, e, h⟩ := h
  obtain ⟨m, hn, hl⟩ := I.loc
  obtain ⟨u, r, l⟩ := hl i x v hN e hv
  have fin : EP X pins σ Q u s := ⟨v, H, I, r, h⟩
  rcases l with ⟨hk, hm⟩ | ⟨hk, c, hc, hcell⟩
  · exact wpAny_Name (wpAny_loadName_local I.ok.kind hk hn hm fin) hd
  · rcases hk with hk | hk
    · exact wpAny_Name (wpAny_loadName_cell I.ok.kind hk hc hcell fin) hd
    · exact wpAny_Name (wpAny_loadName_free I.ok.kind hk hc hcell fin hcd) hd
theorem pe_int {i j pos} : PE X (.Constant (.int i) j pos) (tC (.int i)) := fun _ _ _ H _ I h => wpAny_Constant_int ⟨.int i, H, I.tok _, ⟨_, rfl⟩, h⟩
theorem pe_bl {b j pos} : PE X (.Constant (.bool b) j pos) (tC (.bl b)) := fun _ _ _ H _ I h => Constant_bool ⟨.bl b, H, I, rfl, h⟩
theorem pe_non {j pos} : PE X (.Constant .none j pos) (tC .non) := fun _ _ _ H _ I h => Constant_none ⟨.non, H, I, rfl, h⟩
theorem pe_str {x j pos} : PE X (.Constant (.str x) j pos) (tC (.str x)) := fun _ _ _ H _ I h => Calls.Constant_str ⟨.str x, H, I.tok _, ⟨_, rfl⟩, h⟩
def Gl (X : Cx) (x : Str) : Prop := X.env.kindOf x = some .globalImplicit
theorem ld_glob {E : Value → Shared → Prop} {pins : List (Addr × Obj)} {s : Shared} {σ : St} {H : Hp} {x : Str} {u : Value} {pos : Pos} {Q : Value → Shared → Prop} (I : Inv X pins σ H s) (hg : Gl X x) (hm : X.mg x = some u) (h : Q u s)
    (hd : (x == ("__debug__" : Str)) = false := by decide) : wpAny (model X.prog X.w) X.A (eval (.Name x pos) X.env) Q E s :=
  Calls.Name_function_global I.ok.kind hg (Calls.loadGlobal_global (by rw [I.ok.glob]; exact I.mod.glob.keeps I.bk) hm h) hd
theorem ld_blt {E : Value → Shared → Prop} {pins : List (Addr × Obj)} {s : Shared} {σ : St} {H : Hp} {x : Str} {u : Value} {pos : Pos} {Q : Value → Shared → Prop} (I : Inv X pins σ H s) (hg : Gl X x) (hm : X.mg x = none) (hv : bootBuiltins x = some u) (h : Q u s)
    (hn : x ≠ "__name__" := by decide) (hd : (x == ("__debug__" : Str)) = false := by decide) : wpAny (model X.prog X.w) X.A (eval (.Name x pos) X.env) Q E s := by
  obtain ⟨mb, h1, h2⟩ := I.mod.blt
  exact Calls.Name_function_global I.ok.kind hg (Calls.loadGlobal_builtin (by rw [I.ok.glob]; exact I.mod.glob.keeps I.bk) hm (by rw [I.ok.blt]; exact h1.keeps I.bk) ((h2 x hn).trans hv) h) hd
theorem pe_glob {x : Str} {v : V} {u : Value} {pos : Pos} (hg : Gl X x) (hm : X.mg x = some u) (r : RelV v u) (hd : (x == ("__debug__" : Str)) = false := by decide) : PE X (.Name x pos) (tC v) :=
  fun _ _ _ H _ I h => ld_glob I hg hm ⟨v, H, I, r, h⟩ hd
theorem pe_bltn {x : Str} {v : V} {u : Value} {pos : Pos} (hg : Gl X x) (hm : X.mg x = none) (hv : bootBuiltins x = some u) (r : RelV v u) (hn : x ≠ "__name__" := by decide) (hd : (x == ("__debug__" : Str)) = false := by decide) : PE X (.Name x pos) (tC v) :=
  fun _ _ _ H _ I h => ld_blt I hg hm hv ⟨v, H, I, r, h⟩ hn hd
def t2I (ta tb : TE) (k : Int → Int → Hp → Prop) : St → Hp → Prop := fun σ H => ta σ H fun x H1 => tb σ H1 fun y H2 => ∃ i j, x = .int i ∧ y = .int j ∧ k i j H2
def tAdd (ta tb : TE) : TE := fun σ H Q => t2I ta tb (fun i j H2 => Q (.int (i + j)) H2) σ H
def tSub (ta tb : TE) : TE := fun σ H Q => t2I ta tb (fun i j H2 => Q (.int (i - j)) H2) σ H
def tMul (ta tb : TE) : TE := fun σ H Q => t2I ta tb (fun i j H2 => (-(2 ^ 64) < i ∧ i < 2 ^ 64) ∧ Q (.int (i * j)) H2) σ H
variable {a b : Expr} {ta tb : TE} {pos : Pos}
theorem pe_add (ha : PE X a ta) (hb : PE X b tb) : PE X (.BinOp a .Add b pos) (tAdd ta tb) := by
  intro pins s σ H Q I h
  refine wpAny_BinOp (bin ha hb I h fun v u s2 x y H2 I2 rx ry q => ?_)
  obtain ⟨i, j, rfl, rfl, q⟩ := q
  obtain ⟨t, rfl⟩ := rx
  obtain ⟨t', rfl⟩ := ry
  exact add_int ⟨.int _, H2, I2.tok _, ⟨_, rfl⟩, q⟩
theorem pe_sub (ha : PE X a ta) (hb : PE X b tb) : PE X (.BinOp a .Sub b pos) (tSub ta tb) := by
  intro pins s σ H Q I h
  refine wpAny_BinOp (bin ha hb I h fun v u s2 x y H2 I2 rx ry q => ?_)
  obtain ⟨i, j, rfl, rfl, q⟩ := q
  obtain ⟨t, rfl⟩ := rx
  obtain ⟨t', rfl⟩ := ry
  exact sub_int ⟨.int _, H2, I2.tok _, ⟨_, rfl⟩, q⟩
theorem pe_mul (ha : PE X a ta) (hb : PE X b tb) : PE X (.BinOp a .Mult b pos) (tMul ta tb) := by
  intro pins s σ H Q I h
  refine wpAny_BinOp (bin ha hb I h fun v u s2 x y H2 I2 rx ry q => ?_)
  obtain ⟨i, j, rfl, rfl, ⟨q1, q2⟩, q⟩ := q
  obtain ⟨t, rfl⟩ := rx
  obtain ⟨t', rfl⟩ := ry
  exact mul_int ⟨.int _, H2, I2.tok _, ⟨_, rfl⟩, q⟩ (.of_left (intBits_le_64 q1 q2))
def PC (X : Cx) (op : CmpOp) (a b : Expr) (t : TE) : Prop :=
  ∀ (pins : List (Addr × Obj)) (s : Shared) (σ : St) (H : Hp) (Q : VK), Inv X pins σ H s → t σ H Q →
    wpAny (model X.prog X.w) X.A (eval a X.env) (fun v s₁ => wpAny (model X.prog X.w) X.A (eval b X.env) (fun u s₂ => wpAny (model X.prog X.w) X.A (compareOp op v u) (EP X pins σ Q) X.xe s₂) X.xe s₁) X.xe s
theorem nobehind (b : Expr) {op : CmpOp} (h : op ≠ .In) (h2 : op ≠ .NotIn) : behindInMarks op b = false := by
  have e1 : (op == CmpOp.In) = false := by cases op <;> first | rfl | exact absurd rfl h
  have e2 : (op == CmpOp.NotIn) = false := by cases op <;> first | rfl | exact absurd rfl h2
  cases b <;> simp [behindInMarks, e1, e2]
def tCmp (p : Int → Int → Bool) (ta tb : TE) : TE := fun σ H Q => t2I ta tb (fun i j H2 => Q (.bl (p i j)) H2) σ H
abbrev tLt : TE → TE → TE := tCmp fun i j => decide (i < j)
abbrev tLe : TE → TE → TE := tCmp fun i j => decide (i ≤ j)
abbrev tGt : TE → TE → TE := tCmp fun i j => decide (j < i)
abbrev tGe : TE → TE → TE := tCmp fun i j => decide (j ≤ i)
abbrev tEqI : TE → TE → TE := tCmp fun i j => decide (i = j)
abbrev tNeI : TE → TE → TE := tCmp fun i j => !decide (i = j)
theorem pc_int {op : CmpOp} {p : Int → Int → Bool} (ha : PE X a ta) (hb : PE X b tb)
    (rule : ∀ (i j : Int) (t u : Tok) (Q : Value → Shared → Prop) (s : Shared), Q (.bool (p i j)) s → wpAny (model X.prog X.w) X.A (compareOp op (.int i t) (.int j u)) Q X.xe s) : PC X op a b (tCmp p ta tb) := by
  intro pins s σ H Q I h
  refine bin ha hb I h fun v u s2 x y H2 I2 rx ry q => ?_
  obtain ⟨i, j, rfl, rfl, q⟩ := q
  obtain ⟨t, rfl⟩ := rx
  obtain ⟨t', rfl⟩ := ry
  exact rule i j t t' _ s2 ⟨.bl _, H2, I2, rfl, q⟩
theorem pc_lt (ha : PE X a ta) (hb : PE X b tb) : PC X .Lt a b (tLt ta tb) := pc_int ha hb fun _ _ _ _ _ _ h => lt_int h
theorem pc_le (ha : PE X a ta) (hb : PE X b tb) : PC X .LtE a b (tLe ta tb) := pc_int ha hb fun _ _ _ _ _ _ h => le_int h
theorem pc_gt (ha : PE X a ta) (hb : PE X b tb) : PC X .Gt a b (tGt ta tb) := pc_int ha hb fun _ _ _ _ _ _ h => gt_int h
theorem pc_ge (ha : PE X a ta) (hb : PE X b tb) : PC X .GtE a b (tGe ta tb) := pc_int ha hb fun _ _ _ _ _ _ h => ge_int h
theorem pc_eqI (ha : PE X a ta) (hb : PE X b tb) : PC X .Eq a b (tEqI ta tb) := pc_int ha hb fun _ _ _ _ _ _ h => eq_int (by rw [Bool.beq_eq_decide_eq]; exact h)
theorem pc_neI (ha : PE X a ta) (hb : PE X b tb) : PC X .NotEq a b (tNeI ta tb) := pc_int ha hb fun _ _ _ _ _ _ h => ne_int (by rw [bne, Bool.beq_eq_decide_eq]; exact h)
def tIsN (ta : TE) : TE := fun σ H Q => ta σ H fun x H1 => Q (.bl (decide (x = .non))) H1
def tNotN (ta : TE) : TE := fun σ H Q => ta σ H fun x H1 => Q (.bl (!decide (x = .non))) H1
theorem RelV.none_iff {x : V} {v : Value} (r : RelV x v) : (v == Value.none) = decide (x = .non) := by
  cases x with
  | non => cases r; rfl
  | bl _ => cases r; rfl
  | int _ => obtain ⟨t, rfl⟩ := r; rfl
  | str _ => obtain ⟨t, rfl⟩ := r; rfl
  | byt _ => obtain ⟨t, rfl⟩ := r; rfl
  | flt _ => obtain ⟨t, rfl⟩ := r; rfl
  | ref _ => cases r; rfl
  | ty _ => cases r; rfl
theorem pc_isN {j pos'} (ha : PE X a ta) : PC X .Is a (.Constant .none j pos') (tIsN ta) := by
  intro pins s σ H Q I h
  refine thn (ha pins s σ H _ I h) fun v s1 ⟨x, H1, I1, r1, q1⟩ => ?_
  exact Constant_none (is_none_gen ⟨.bl _, H1, I1, by rw [r1.none_iff]; rfl, q1⟩)
theorem pc_notN {j pos'} (ha : PE X a ta) : PC X .IsNot a (.Constant .none j pos') (tNotN ta) := by
  intro pins s σ H Q I h
  refine thn (ha pins s σ H _ I h) fun v s1 ⟨x, H1, I1, r1, q1⟩ => ?_
  exact Constant_none (isnot_none_gen ⟨.bl _, H1, I1, by rw [r1.none_iff]; rfl, q1⟩)
def tB (t : TE) : TT := fun σ H Q => t σ H fun x H1 => ∃ c, x = .bl c ∧ Q c H1
theorem pe_cmp {op : CmpOp} {t : TE} (h : PC X op a b t) (h1 : behindInMarks op b = false := by first | exact nobehind _ (by decide) (by decide) | rfl) : PE X (.Compare a [op] [b] pos) t := fun pins s σ H Q I hw => wpAny_Compare1 (h pins s σ H Q I hw) h1
theorem pt_cmp {op : CmpOp} {t : TE} (h : PC X op a b t) (h1 : behindInMarks op b = false := by first | exact nobehind _ (by decide) (by decide) | rfl) : PT X (.Compare a [op] [b] pos) (tB t) := by
  intro pins s σ H Q I hw
  refine wpAny_isTrue_Compare1 (thn (h pins s σ H _ I hw) fun v s1 h1 => thn h1 fun u s2 h2 => thn h2 fun c s3 ⟨x, H1, I1, r1, q1⟩ => ?_) h1
  obtain ⟨d, rfl, q⟩ := q1
  cases r1
  exact wpAny_truthy_bool ⟨H1, I1, q⟩
theorem pt_val {e : Expr} {t : TE} (h : PE X e t) (he : ∀ whole, isTrue e X.env whole = (do let v ← whole; standAt e.pos; holding [v] (truthy v)) := by intro _; rfl) : PT X e (tB t) := by
  intro pins s σ H Q I hw
  refine isTrue_plain (thn (h pins s σ H _ I hw) fun v s1 ⟨x, H1, I1, r1, q1⟩ => ?_) (he _)
  obtain ⟨d, rfl, q⟩ := q1
  cases r1
  exact wpAny_truthy_bool ⟨H1, I1, q⟩
variable {tA tB' : TT} {rest : List Expr}
def tAnd (t u : TT) : TT := fun σ H Q => t σ H fun c H1 => if c = true then u σ H1 Q else Q false H1
def tOr (t u : TT) : TT := fun σ H Q => t σ H fun c H1 => if c = true then Q true H1 else u σ H1 Q
def tNot (t : TT) : TT := fun σ H Q => t σ H fun c H1 => Q (!c) H1
theorem pw_and1 (ha : PT X a tA) : PW X (.BoolOp .And [a] pos) tA := by
  intro wh pins s σ H Q I h
  refine isTrue_and (thn (ha pins s σ H Q I h) fun c s1 e => ?_)
  cases c with
  | true => exact isTrue_and_nil e
  | false => exact e
theorem pw_or1 (ha : PT X a tA) : PW X (.BoolOp .Or [a] pos) tA := by
  intro wh pins s σ H Q I h
  refine isTrue_or (thn (ha pins s σ H Q I h) fun c s1 e => ?_)
  cases c with
  | false => exact isTrue_or_nil e
  | true => exact e
theorem pw_and (ha : PT X a tA) (hb : PW X (.BoolOp .And (b :: rest) pos) tB') : PW X (.BoolOp .And (a :: b :: rest) pos) (tAnd tA tB') := by
  intro wh pins s σ H Q I h
  refine isTrue_and (thn (ha pins s σ H _ I h) fun c s1 ⟨H1, I1, q1⟩ => ?_)
  cases c with
  | true => exact hb wh pins s1 σ H1 Q I1 q1
  | false => exact ⟨H1, I1, q1⟩
theorem pw_or (ha : PT X a tA) (hb : PW X (.BoolOp .Or (b :: rest) pos) tB') : PW X (.BoolOp .Or (a :: b :: rest) pos) (tOr tA tB') := by
  intro wh pins s σ H Q I h
  refine isTrue_or (thn (ha pins s σ H _ I h) fun c s1 ⟨H1, I1, q1⟩ => ?_)
  cases c with
  | true => exact ⟨H1, I1, q1⟩
  | false => exact hb wh pins s1 σ H1 Q I1 q1
theorem pt_not (ha : PT X a tA) : PT X (.UnaryOp .Not a pos) (tNot tA) := by
  intro pins s σ H Q I h
  exact isTrue_not (ha pins s σ H (fun c H1 => Q (!c) H1) I h)
def tAndV (ta tb : TE) : TE := fun σ H Q => ta σ H fun x H1 => ∃ c, x = .bl c ∧ if c = true then tb σ H1 Q else Q (.bl false) H1
def tOrV (ta tb : TE) : TE := fun σ H Q => ta σ H fun x H1 => ∃ c, x = .bl c ∧ if c = true then Q (.bl true) H1 else tb σ H1 Q
def tNotV (ta : TE) : TE := fun σ H Q => ta σ H fun x H1 => ∃ c, x = .bl c ∧ Q (.bl (!c)) H1
theorem pe_one {op} {t : TE} (h : PE X a t) : PE X (.BoolOp op [a] pos) t := fun pins s σ H Q I hw => BoolOp_one (h pins s σ H Q I hw)
theorem pe_and (ha : PE X a ta) (hb : PE X (.BoolOp .And (b :: rest) pos) tb) : PE X (.BoolOp .And (a :: b :: rest) pos) (tAndV ta tb) := by
  intro pins s σ H Q I h
  refine BoolOp_and (thn (ha pins s σ H _ I h) fun v s1 ⟨x, H1, I1, r1, q1⟩ => ?_)
  obtain ⟨c, rfl, q1⟩ := q1
  cases r1
  refine wpAny_truthy_bool ?_
  cases c with
  | true => exact hb pins s1 σ H1 Q I1 q1
  | false => exact ⟨.bl false, H1, I1, rfl, q1⟩
theorem pe_or (ha : PE X a ta) (hb : PE X (.BoolOp .Or (b :: rest) pos) tb) : PE X (.BoolOp .Or (a :: b :: rest) pos) (tOrV ta tb) := by
  intro pins s σ H Q I h
  refine BoolOp_or (thn (ha pins s σ H _ I h) fun v s1 ⟨x, H1, I1, r1, q1⟩ => ?_)
  obtain ⟨c, rfl, q1⟩ := q1
  cases r1
  refine wpAny_truthy_bool ?_
  cases c with
  | false => exact hb pins s1 σ H1 Q I1 q1
  | true => exact ⟨.bl true, H1, I1, rfl, q1⟩
theorem pe_not (ha : PE X a ta) : PE X (.UnaryOp .Not a pos) (tNotV ta) := by
  intro pins s σ H Q I h
  refine UnaryOp_ (thn (ha pins s σ H _ I h) fun v s1 ⟨x, H1, I1, r1, q1⟩ => ?_)
  obtain ⟨c, rfl, q1⟩ := q1
  cases r1
  exact not_of (wpAny_truthy_bool ⟨.bl (!c), H1, I1, rfl, q1⟩)
def tIf (t : TT) (ta tb : TE) : TE := fun σ H Q => t σ H fun c H1 => if c = true then ta σ H1 Q else tb σ H1 Q
theorem pe_ifExp {c : Expr} (hc : PT X c tA) (ha : PE X a ta) (hb : PE X b tb) : PE X (.IfExp c a b pos) (tIf tA ta tb) := by
  intro pins s σ H Q I h
  refine wpAny_IfExp (thn (hc pins s σ H _ I h) fun d s1 ⟨H1, I1, q1⟩ => ?_)
  cases d with
  | true => exact ha pins s1 σ H1 Q I1 q1
  | false => exact hb pins s1 σ H1 Q I1 q1
end
end L2
namespace L2
open PySem PySem.Spec PyProof.Rows
def SqL (K : PySem.W.Frag) (H : Hp) (a : Addr) (xs : List V) : Prop :=
  Rd H a (.lst xs) ∨
    ∃ (o : Obj) (its : Array Value) (n : Nat), K.lookup a = some o ∧ o.cls = .type "list" ∧ o.dict = none ∧ o.data = .seq its n ∧ its.size ≤ sizeLine ∧ Vals xs its.toList
def SqT (K : PySem.W.Frag) (H : Hp) (a : Addr) (xs : List V) : Prop :=
  Rd H a (.tup xs) ∨
    ∃ (o : Obj) (its : Array Value) (n : Nat), K.lookup a = some o ∧ o.cls = .type "tuple" ∧ o.data = .seq its n ∧ its.size ≤ sizeLine ∧ Vals xs its.toList
def absV : Value → Option V
  | .none => some .non
  | .bool b => some (.bl b)
  | .int i _ => some (.int i)
  | .str x _ => some (.str x)
  | .bytes b _ => some (.byt b)
  | .float b _ => some (.flt b)
  | .ref a => some (.ref a)
  | .type n => some (.ty n)
  | _ => none
theorem RelV.abs {x : V} {u : Value} (r : RelV x u) : absV u = some x := by
  cases x with
  | non => cases r; rfl
  | bl _ => cases r; rfl
  | int _ => obtain ⟨t, rfl⟩ := r; rfl
  | str _ => obtain ⟨t, rfl⟩ := r; rfl
  | byt _ => obtain ⟨t, rfl⟩ := r; rfl
  | flt _ => obtain ⟨t, rfl⟩ := r; rfl
  | ref _ => cases r; rfl
  | ty _ => cases r; rfl
theorem RelV.inj {x y : V} {u : Value} (r : RelV x u) (q : RelV y u) : x = y := Option.some.inj (r.abs.symm.trans q.abs)
theorem Vals.inj : ∀ {xs ys : List V} {us : List Value}, Vals xs us → Vals ys us → xs = ys
  | _, _, _, .nil, .nil => rfl
  | _, _, _, .cons r t, .cons r' t' => by rw [r.inj r', Vals.inj t t']
section
variable {X : Cx} {pins : List (Addr × Obj)} {σ : St} {H : Hp} {s : Shared} {a : Addr} {xs ys : List V}
theorem SqL.of {K : PySem.W.Frag} (h : H a = some (.lst xs)) : SqL K H a xs := .inl (.inl h)
theorem SqT.of {K : PySem.W.Frag} (h : H a = some (.tup xs)) : SqT K H a xs := .inl (.inl h)
theorem Inv.list (I : Inv X pins σ H s) (h : SqL X.K H a xs) : ∃ its : List Value, Vals xs its ∧ PlainL s.heap a its.toArray ∧ xs.length ≤ sizeLine := by
  rcases h with h | ⟨o, its, n, hk, hc, hd, hs, hz, r⟩
  · obtain ⟨z, its, n, r, e⟩ := h.ok I.hok
    exact ⟨its, r, ⟨_, n, e, rfl, rfl, rfl⟩, z⟩
  · refine ⟨its.toList, r, ⟨o, n, I.kIn a o hk, hc, hd, by simpa using hs⟩, ?_⟩
    have e := r.length
    simp only [Array.length_toList] at e
    omega
theorem Inv.tuple (I : Inv X pins σ H s) (h : SqT X.K H a xs) : ∃ its : List Value, Vals xs its ∧ IsTup s.heap a its.toArray ∧ xs.length ≤ sizeLine := by
  rcases h with h | ⟨o, its, n, hk, hc, hs, hz, r⟩
  · obtain ⟨z, its, r, p⟩ := h.ok I.hok
    exact ⟨its, r, p, z⟩
  · refine ⟨its.toList, r, ⟨o, I.kIn a o hk, hc, n, by simpa using hs⟩, ?_⟩
    have e := r.length
    simp only [Array.length_toList] at e
    omega
theorem Inv.list_inj (I : Inv X pins σ H s) (h : SqL X.K H a xs) (h' : SqL X.K H a ys) : xs = ys := by
  obtain ⟨its, r, ⟨o, n, e, _, _, d⟩, _⟩ := I.list h
  obtain ⟨its', r', ⟨o', n', e', _, _, d'⟩, _⟩ := I.list h'
  rw [e] at e'; cases e'
  rw [d] at d'
  injection d' with d1 _
  have : its = its' := by simpa using congrArg Array.toList d1
  subst this
  exact r.inj r'
theorem Inv.tuple_inj (I : Inv X pins σ H s) (h : SqT X.K H a xs) (h' : SqT X.K H a ys) : xs = ys := by
  obtain ⟨its, r, ⟨o, e, _, n, d⟩, _⟩ := I.tuple h
  obtain ⟨its', r', ⟨o', e', _, n', d'⟩, _⟩ := I.tuple h'
  rw [e] at e'; cases e'
  rw [d] at d'
  injection d' with d1 _
  have : its = its' := by simpa using congrArg Array.toList d1
  subst this
  exact r.inj r'
end
abbrev Cx.wish (X : Cx) (E : Value → Shared → Prop) : Cx := { X with xe := E }
abbrev Cx.nox (X : Cx) : Cx := X.wish fun _ _ => False
theorem Cx.Ok.wish {X : Cx} (ok : X.Ok) (E : Value → Shared → Prop) : (X.wish E).Ok :=
  ⟨ok.mod, ok.kind, ok.glob, ok.blt, ok.above, ok.inj, ok.has, ok.cab, ok.hd, ok.frames, ok.stk, ok.exf, ok.bs, ok.bsz, ok.noex, ok.exfs, ok.funs, ok.frf⟩
theorem Cx.Ok.unwish {X : Cx} {E : Value → Shared → Prop} (ok : (X.wish E).Ok) : X.Ok :=
  ⟨ok.mod, ok.kind, ok.glob, ok.blt, ok.above, ok.inj, ok.has, ok.cab, ok.hd, ok.frames, ok.stk, ok.exf, ok.bs, ok.bsz, ok.noex, ok.exfs, ok.funs, ok.frf⟩
section
variable {X : Cx} {pins : List (Addr × Obj)} {σ : St} {H : Hp} {s : Shared} {E : Value → Shared → Prop}
theorem Inv.wish (I : Inv X pins σ H s) (E : Value → Shared → Prop) : Inv (X.wish E) pins σ H s := ⟨I.ok.wish E, I.os, I.bare, I.base, I.loc, I.cell, I.free, I.freeC, I.pin, I.hok, I.len⟩
theorem Inv.unwish (I : Inv (X.wish E) pins σ H s) : Inv X pins σ H s := ⟨I.ok.unwish, I.os, I.bare, I.base, I.loc, I.cell, I.free, I.freeC, I.pin, I.hok, I.len⟩
theorem SP.unwish {D : Ends} {f : Flow} {s' : Shared} (h : SP (X.wish E) pins D f s') : SP X pins D f s' := by
  cases f with
  | next => obtain ⟨σ', H', I, q⟩ := h; exact ⟨σ', H', I.unwish, q⟩
  | brk => obtain ⟨σ', H', I, q⟩ := h; exact ⟨σ', H', I.unwish, q⟩
  | cont => obtain ⟨σ', H', I, q⟩ := h; exact ⟨σ', H', I.unwish, q⟩
  | ret u => obtain ⟨v, σ', H', I, r, q⟩ := h; exact ⟨v, σ', H', I.unwish, r, q⟩
theorem PE.nox {e : Expr} {t : TE} (h : PE X.nox e t) : PE X e t := fun pins s σ H Q I hw =>
  wpAny_mono (h pins s σ H Q (I.wish _) hw) (fun _ _ ⟨v, H', I', r, q⟩ => ⟨v, H', I'.unwish, r, q⟩) fun _ _ z => False.elim z
theorem PT.nox {e : Expr} {t : TT} (h : PT X.nox e t) : PT X e t := fun pins s σ H Q I hw =>
  wpAny_mono (h pins s σ H Q (I.wish _) hw) (fun _ _ ⟨H', I', q⟩ => ⟨H', I'.unwish, q⟩) fun _ _ z => False.elim z
theorem PSs.nox {st : List Stmt} {t : TS} (h : PSs X.nox st t) : PSs X st t := fun pins s σ H D I hw =>
  wpAny_mono (h pins s σ H D (I.wish _) hw) (fun _ _ q => q.unwish) fun _ _ z => False.elim z
end
section
variable {X : Cx} {st : Stmt} {rest : List Stmt} {t u : TS} {e : Expr} {te : TE} {pos : Pos}
def tNext : TS := fun D σ H => D.nx σ H
def tSeq (t u : TS) : TS := fun D σ H => t { D with nx := u D } σ H
theorem pss_nil : PSs X [] tNext := fun _ _ σ H _ I h => wpAny_execs_nil ⟨σ, H, I, h⟩
theorem pss_cons (h1 : PS X st t) (h2 : PSs X rest u) : PSs X (st :: rest) (tSeq t u) := by
  intro pins s σ H D I h
  refine wpAny_execs_cons (thn (h1 pins s σ H { D with nx := u D } I h) fun f s1 q => ?_)
  cases f with
  | next =>
    obtain ⟨σ', H', I', q⟩ := q
    exact h2 pins s1 σ' H' D I' q
  | ret v => exact q
  | brk => exact q
  | cont => exact q
theorem pss_one (h1 : PS X st t) : PSs X [st] t := by
  intro pins s σ H D I h
  refine wpAny_execs_cons (thn (h1 pins s σ H D I h) fun f s1 q => ?_)
  cases f with
  | next => exact wpAny_execs_nil q
  | ret v => exact q
  | brk => exact q
  | cont => exact q
def tBreak : TS := fun D σ H => D.bk σ H
def tCont : TS := fun D σ H => D.ct σ H
theorem ps_pass : PS X (.Pass pos) tNext := fun _ _ σ H _ I h => wpAny_Pass ⟨σ, H, I, h⟩
theorem ps_break : PS X (.Break pos) tBreak := fun _ _ σ H _ I h => wpAny_Break ⟨σ, H, I, h⟩
theorem ps_continue : PS X (.Continue pos) tCont := fun _ _ σ H _ I h => wpAny_Continue ⟨σ, H, I, h⟩
theorem Inv.quiet {pins : List (Addr × Obj)} {σ : St} {H : Hp} {s : Shared} (I : Inv X pins σ H s) : interactive X.env = false := by simp [interactive, I.ok.kind]
theorem ps_doc {x j pos pos'} : PS X (.Expr (.Constant (.str x) j pos) pos') tNext := fun _ s σ H _ I h => wpAny_Expr (Calls.Constant_str (show SP X _ _ .next { s with toks := s.toks + 1 } from ⟨σ, H, I.tok _, h⟩)) I.quiet
def tDrop (te : TE) : TS := fun D σ H => te σ H fun _ H1 => D.nx σ H1
theorem ps_expr (he : PE X e te) (hs : swapsWith e none pos.line X.env = pure false := by rfl) : PS X (.Expr e pos) (tDrop te) := by
  intro pins s σ H D I h
  exact wpAny_Expr_any (thn (he pins s σ H _ I h) fun v s1 ⟨x, H1, I1, r1, q1⟩ => ⟨σ, H1, I1, q1⟩) I.quiet hs
def tRet (te : TE) : TS := fun D σ H => te σ H D.rt
theorem ps_ret (he : PE X e te) : PS X (.Return (some e) pos) (tRet te) := by
  intro pins s σ H D I h
  exact wpAny_Return_some (thn (he pins s σ H _ I h) fun v s1 ⟨x, H1, I1, r1, q1⟩ => ⟨x, σ, H1, I1, r1, q1⟩)
def tRetN : TS := fun D _ H => D.rt .non H
theorem ps_retN : PS X (.Return none pos) tRetN := fun _ _ σ H _ I h => wpAny_Return_none ⟨.non, σ, H, I, rfl, h⟩
def tIfS (c : TT) (t u : TS) : TS := fun D σ H => c σ H fun b H1 => if b = true then t D σ H1 else u D σ H1
theorem ps_if {c : Expr} {a b : List Stmt} {tc : TT} (hc : PT X c tc) (ha : PSs X a t) (hb : PSs X b u) : PS X (.If c a b pos) (tIfS tc t u) := by
  intro pins s σ H D I h
  refine wpAny_If (thn (hc pins s σ H _ I h) fun d s1 ⟨H1, I1, q1⟩ => ?_)
  cases d with
  | true => exact ha pins s1 σ H1 D I1 q1
  | false => exact hb pins s1 σ H1 D I1 q1
def tNever : TS := fun _ _ _ => False
theorem ps_never : PS X st tNever := fun _ _ _ _ _ _ h => h.elim
theorem pss_never {sts : List Stmt} : PSs X sts tNever := fun _ _ _ _ _ _ h => h.elim
end
abbrev TG := V → St → Hp → (St → Hp → Prop) → Prop
abbrev TGs := List V → St → Hp → (St → Hp → Prop) → Prop
def PG (X : Cx) (target : Expr) (t : TG) : Prop :=
  ∀ (pins : List (Addr × Obj)) (s : Shared) (σ : St) (H : Hp) (v : V) (u : Value) (Q : St → Hp → Prop), Inv X pins σ H s → RelV v u → t v σ H Q →
    wpAny (model X.prog X.w) X.A (assign target X.env u) (fun _ s' => ∃ σ' H', Inv X pins σ' H' s' ∧ Q σ' H') X.xe s
def PGs (X : Cx) (ts : List Expr) (t : TGs) : Prop :=
  ∀ (pins : List (Addr × Obj)) (s : Shared) (σ : St) (H : Hp) (vs : List V) (us : List Value) (Q : St → Hp → Prop), Inv X pins σ H s → Vals vs us → t vs σ H Q →
    wpAny (model X.prog X.w) X.A (assignInOrder ((assignEach ts X.env).map (·.2)) us) (fun _ s' => ∃ σ' H', Inv X pins σ' H' s' ∧ Q σ' H') X.xe s
abbrev TSet := V → V → V → Hp → (Hp → Prop) → Prop
def PSet (X : Cx) (t : TSet) : Prop :=
  ∀ (pins : List (Addr × Obj)) (s : Shared) (σ : St) (H : Hp) (o i v : V) (ov iv u : Value) (Q : Hp → Prop), Inv X pins σ H s → RelV o ov → RelV i iv → RelV v u → t o i v H Q →
    wpAny (model X.prog X.w) X.A (setItem ov iv u) (fun _ s' => ∃ H', Inv X pins σ H' s' ∧ Q H') X.xe s
abbrev TIp := V → V → Hp → VK → Prop
def PIp (X : Cx) (op : Operator) (t : TIp) : Prop :=
  ∀ (pins : List (Addr × Obj)) (s : Shared) (σ : St) (H : Hp) (x y : V) (v u : Value) (Q : VK), Inv X pins σ H s → RelV x v → RelV y u → t x y H Q →
    wpAny (model X.prog X.w) X.A (inplaceOp op v u) (EP X pins σ Q) X.xe s
section
variable {X : Cx} {pos : Pos}
def gName (i : Nat) : TG := fun v σ H Q => Q (σ.set i (some v)) H
theorem pg_name {i : Nat} {x : Str} (hN : X.N.Nodup) (hi : X.N[i]? = some x) (hx : Loc X.env.scope x) (hf : X.fn x = true ∨ X.env.scope.names.lookup x = some .local := by first | exact .inl rfl | exact .inr rfl | assumption) : PG X (.Name x pos) (gName i) := by
  intro pins s σ H v u Q I r h
  exact wpAny_assign_Name (store_ok I hN hi hx r (fun s' I' => ⟨_, H, I', h⟩) hf)
def gNil : TGs := fun vs σ H Q => vs = [] ∧ Q σ H
def gCons (t : TG) (u : TGs) : TGs := fun vs σ H Q => ∃ v r, vs = v :: r ∧ t v σ H fun σ' H' => u r σ' H' Q
theorem pgs_nil : PGs X [] gNil := by
  intro pins s σ H vs us Q I r h
  obtain ⟨e, h⟩ := h
  subst e
  cases r
  exact assignInOrder_nil ⟨σ, H, I, h⟩
theorem pgs_cons {e : Expr} {es : List Expr} {t : TG} {u : TGs} (h1 : PG X e t) (h2 : PGs X es u)
    (hs : (assignEach (e :: es) X.env).map (·.2) = assign e X.env :: (assignEach es X.env).map (·.2) := by rfl) : PGs X (e :: es) (gCons t u) := by
  intro pins s σ H vs us Q I r h
  obtain ⟨v, vr, e1, h⟩ := h
  subst e1
  cases r with
  | cons r rr =>
    rw [hs]
    refine assignInOrder_cons (thn (h1 pins s σ H _ _ _ I r h) fun _ s1 ⟨σ1, H1, I1, q1⟩ => ?_)
    exact h2 pins s1 σ1 H1 _ _ Q I1 rr q1
def gTup (K : PySem.W.Frag) (n : Nat) (t : TGs) : TG := fun v σ H Q => ∃ a xs, v = .ref a ∧ SqT K H a xs ∧ xs.length = n ∧ t xs σ H Q
theorem pg_tup {es : List Expr} {k : Nat} {t : TGs} {n : Nat} (hc : X.calm = true) (h : PGs X es t)
    (hn : (assignEach es X.env).length = n := by rfl) (hst : (assignEach es X.env).findIdx? (·.1) = none := by rfl) : PG X (.Tuple es k pos) (gTup X.K n t) := by
  intro pins s σ H v u Q I r hw
  obtain ⟨a, xs, e1, hq, hl, hw⟩ := hw
  subst e1
  cases r
  obtain ⟨its, rv, ht, hz⟩ := I.tuple hq
  refine assign_Tuple_tuple (I.ok.hd hc) ht (by simp [hn, ← hl, rv.length]) hst fun h' hx => ?_
  have I1 : Inv X pins σ H { s with heap := h' } := I.kept (t' := s.toks) fun b o e => hx b o (Nat.ne_of_lt (Heap.lt_size e)) e
  exact h pins _ σ H xs _ Q I1 (by simpa using rv) hw
def gSub (to ti : TE) (t : TSet) : TG := fun v σ H Q => to σ H fun o H1 => ti σ H1 fun i H2 => t o i v H2 fun H3 => Q σ H3
theorem pg_sub {o i : Expr} {to ti : TE} {t : TSet} (ho : PE X o to) (hi : PE X i ti) (hs : PSet X t)
    (ha : ∀ v, assign (.Subscript o i pos) X.env v = (do
      let ov ← holding [v] (eval o X.env)
      let iv ← holding [v, ov] (eval i X.env)
      standAt pos
      holding [v, ov, iv] (setItem ov iv v)
      release [v, ov, iv] []) := by intro _; rfl) : PG X (.Subscript o i pos) (gSub to ti t) := by
  intro pins s σ H v u Q I r h
  rw [ha]
  refine wpAny_bind (wpAny_holding (thn (ho pins s σ H _ I h) fun ov s1 ⟨x, H1, I1, r1, q1⟩ => ?_))
  refine wpAny_bind (wpAny_holding (thn (hi pins s1 σ H1 _ I1 q1) fun iv s2 ⟨y, H2, I2, r2, q2⟩ => ?_))
  refine wpAny_bind (wpAny_standAt (wpAny_bind (wpAny_holding (thn (hs pins s2 σ H2 x y v ov iv u _ I2 r1 r2 r q2) fun _ s3 ⟨H3, I3, q3⟩ => ?_))))
  exact wpAny_release ⟨σ, H3, I3, q3⟩
def tAsg (te : TE) (g : TG) : TS := fun D σ H => te σ H fun x H1 => g x σ H1 D.nx
theorem ps_asg {tg e : Expr} {te : TE} {g : TG} (he : PE X e te) (hg : PG X tg g) (hs : swapsWithSole [tg] e pos.line X.env = pure false := by rfl) (hw : swappedStores [tg] e X.env = pure none := by rfl)
    (h1 : (assignEach [tg] X.env).map (·.2) = [assign tg X.env] := by rfl) : PS X (.Assign [tg] e pos) (tAsg te g) := by
  intro pins s σ H D I h
  refine wpAny_Assign_stores (thn (he pins s σ H _ I h) fun v s1 ⟨x, H1, I1, r1, q1⟩ => ?_) hs hw
  rw [h1]
  exact thn (hg pins s1 σ H1 x v _ I1 r1 q1) fun _ s2 q => q
theorem ps_set {i : Nat} {x : Str} {e : Expr} {te : TE} {pos' : Pos} (hN : X.N.Nodup) (hi : X.N[i]? = some x) (hx : Loc X.env.scope x) (he : PE X e te) (hs : swapsWith e (some (.Name x pos')) pos.line X.env = pure false := by rfl) (hf : X.fn x = true ∨ X.env.scope.names.lookup x = some .local := by first | exact .inl rfl | exact .inr rfl | assumption) :
    PS X (.Assign [.Name x pos'] e pos) (tAsg te (gName i)) := by
  intro pins s σ H D I h
  refine wpAny_Assign_Name (thn (he pins s σ H _ I h) fun v s1 ⟨y, H1, I1, r1, q1⟩ => ?_) hs
  exact store_ok I1 hN hi hx r1 (fun s2 I2 => ⟨_, H1, I2, q1⟩) hf
def tPar (i j : Nat) (ta : TA) : TS := fun D σ H => ta σ H fun vs H1 => ∃ v w, vs = [v, w] ∧ D.nx ((σ.set i (some v)).set j (some w)) H1
theorem ps_par {i j : Nat} {x y : Str} {a b : Expr} {ta : TA} {px py pt : Pos} {kt k2 pt2} (hc : X.calm = true) (hN : X.N.Nodup) (hi : X.N[i]? = some x) (hj : X.N[j]? = some y) (hij : i ≠ j)
    (hx : X.env.scope.names.lookup x = some .local) (hy : X.env.scope.names.lookup y = some .local) (ha : PA X [a, b] ta)
    (hw : swappedStores [.Tuple [.Name x px, .Name y py] kt pt] (.Tuple [a, b] k2 pt2) X.env = pure (some [x, y]))
    (hs : swapsWithSole [.Tuple [.Name x px, .Name y py] kt pt] (.Tuple [a, b] k2 pt2) pos.line X.env = pure false := by rfl) :
    PS X (.Assign [.Tuple [.Name x px, .Name y py] kt pt] (.Tuple [a, b] k2 pt2) pos) (tPar i j ta) := by
  intro pins s σ H D I h
  rw [exec_Assign_arm]
  refine wpAny_bind (wpAny_standAt ?_)
  rw [hs]
  refine wpAny_bind (wpAny_pure ?_)
  rw [if_neg (by decide)]
  refine wpAny_bind (Tuple_ (thn (ha _ pins s σ H _ I h) fun us s1 ⟨vs, H1, I1, r1, q1⟩ => ?_))
  obtain ⟨v, w, e1, q1⟩ := q1
  subst e1
  obtain ⟨u1, u2, rfl, rv, rw'⟩ : ∃ u1 u2, us = [u1, u2] ∧ RelV v u1 ∧ RelV w u2 := by
    cases r1 with
    | cons p q =>
      cases q with
      | cons p' q' =>
        cases q'
        exact ⟨_, _, rfl, p, p'⟩
  refine wpAny_newObj_type ?_ (by show 2 ≤ sizeLine; decide)
  have I2 : Inv X pins σ H1 { s1 with heap := s1.heap.push { cls := .type "tuple", data := .seq [u1, u2].toArray } } := I1.kept (t' := s1.toks) fun b o e => Heap.get?_push_of_some _ e
  rw [hw]
  refine wpAny_bind (wpAny_pure ?_)
  show wpAny (model X.prog X.w) X.A (do rule "assign.swapped-stores"; let items ← unpackItems (.ref s1.heap.objs.size) 2 none; assignInOrder [fun v => bindName X.env y v, fun v => bindName X.env x v] items.reverse; pure Flow.next) _ _ _
  refine wpAny_bind (wpAny_rule (wpAny_bind (unpackItems_tuple (items := #[u1, u2]) (I.ok.hd hc) (IsTup.new s1.heap _) fun h' hx' => ?_)))
  have I3 := I2.kept (h' := h') (t' := s1.toks) fun b o e => hx' b o (Nat.ne_of_lt (Heap.lt_size e)) e
  show wpAny _ _ (assignInOrder [fun v => bindName X.env y v, fun v => bindName X.env x v] [u2, u1] >>= fun _ => pure Flow.next) _ _ _
  refine wpAny_bind (assignInOrder_cons (wpAny_bindName (store_ok I3 hN hj (.inl hy) rw' (fun s2 I4 => ?_) (.inr hy))))
  refine assignInOrder_cons (wpAny_bindName (store_ok I4 hN hi (.inl hx) rv (fun s3 I5 => assignInOrder_nil (wpAny_pure ?_)) (.inr hx)))
  rw [List.set_comm _ _ (Ne.symm hij)] at I5
  exact ⟨_, H1, I5, q1⟩
def tAug (i : Nat) (te : TE) (ti : TIp) : TS := fun D σ H => ∃ x, σ[i]? = some (some x) ∧ te σ H fun y H1 => ti x y H1 fun z H2 => D.nx (σ.set i (some z)) H2
theorem ps_aug {i : Nat} {x : Str} {e : Expr} {te : TE} {op : Operator} {ti : TIp} {pos' : Pos} (hN : X.N.Nodup) (hi : X.N[i]? = some x) (hx : Loc X.env.scope x) (he : PE X e te) (ho : PIp X op ti) (hf : X.fn x = true ∨ X.env.scope.names.lookup x = some .local := by first | exact .inl rfl | exact .inr rfl | assumption) :
    PS X (.AugAssign (.Name x pos') op e pos) (tAug i te ti) := by
  intro pins s σ H D I h
  obtain ⟨v, e1, h⟩ := h
  obtain ⟨m, hn, hl⟩ := I.loc
  have vis : Vis X.env.scope x := by rcases hx with k | k; exact .inl k; exact .inr (.inl k)
  obtain ⟨u, r, l⟩ := hl i x v hi e1 vis
  refine wpAny_AugAssign_Name ?_
  have go : wpAny (model X.prog X.w) X.A (eval e X.env) (fun w s₂ => wpAny (model X.prog X.w) X.A (inplaceOp op u w) (fun r s₃ => wpAny (model X.prog X.w) X.A (storeName X.env x r) (fun _ => SP X pins D .next) X.xe s₃) X.xe s₂) X.xe s := by
    refine thn (he pins s σ H _ I h) fun w s1 ⟨y, H1, I1, r1, q1⟩ => ?_
    refine thn (ho pins s1 σ H1 v y u w _ I1 r r1 q1) fun z s2 ⟨zv, H2, I2, r2, q2⟩ => ?_
    exact store_ok I2 hN hi hx r2 (fun s3 I3 => ⟨_, H2, I3, q2⟩) hf
  rcases l with ⟨hk, hm⟩ | ⟨hk, c, hc, hcell⟩
  · exact wpAny_loadName_local I.ok.kind hk hn hm go
  · rcases hk with hk | hk
    · exact wpAny_loadName_cell I.ok.kind hk hc hcell go
    · rcases hx with k | k
      · have : X.env.scope.names.lookup x = some .free := hk
        rw [k] at this; cases this
      · have : X.env.scope.names.lookup x = some .free := hk
        rw [k] at this; cases this
def tAugS (to ti te : TE) (tget : V → V → Hp → VK → Prop) (tip : TIp) (tset : TSet) : TS := fun D σ H => to σ H fun o H1 => ti σ H1 fun i H2 => tget o i H2 fun x H3 => te σ H3 fun y H4 => tip x y H4 fun z H5 => tset o i z H5 fun H6 => D.nx σ H6
def PGet (X : Cx) (t : V → V → Hp → VK → Prop) : Prop :=
  ∀ (pins : List (Addr × Obj)) (s : Shared) (σ : St) (H : Hp) (o i : V) (ov iv : Value) (Q : VK), Inv X pins σ H s → RelV o ov → RelV i iv → t o i H Q →
    wpAny (model X.prog X.w) X.A (getItem ov iv) (EP X pins σ Q) X.xe s
theorem ps_augS {o i e : Expr} {to ti te : TE} {tget : V → V → Hp → VK → Prop} {tip : TIp} {tset : TSet} {op : Operator} {tpos : Pos} (ho : PE X o to) (hi : PE X i ti) (hg : PGet X tget) (he : PE X e te) (hp : PIp X op tip) (hs : PSet X tset)
    (ha : ∀ ov iv new, augStore i ov iv new = (do holding [new, ov, iv] (setItem ov iv new); release [new, ov, iv] []; pure .next) := by intros; rfl) : PS X (.AugAssign (.Subscript o i tpos) op e pos) (tAugS to ti te tget tip tset) := by
  intro pins s σ H D I h
  refine wpAny_AugAssign_SubscriptAny (thn (ho pins s σ H _ I h) fun ov s1 ⟨x1, H1, I1, r1, q1⟩ => ?_) ha
  refine thn (hi pins s1 σ H1 _ I1 q1) fun iv s2 ⟨x2, H2, I2, r2, q2⟩ => ?_
  refine thn (hg pins s2 σ H2 x1 x2 ov iv _ I2 r1 r2 q2) fun old s3 ⟨x3, H3, I3, r3, q3⟩ => ?_
  refine thn (he pins s3 σ H3 _ I3 q3) fun v s4 ⟨x4, H4, I4, r4, q4⟩ => ?_
  refine thn (hp pins s4 σ H4 x3 x4 old v _ I4 r3 r4 q4) fun new s5 ⟨x5, H5, I5, r5, q5⟩ => ?_
  exact thn (hs pins s5 σ H5 x1 x2 x5 ov iv new _ I5 r1 r2 r5 q5) fun _ s6 ⟨H6, I6, q6⟩ => ⟨σ, H6, I6, q6⟩
def ipI (f : Int → Int → Int) : TIp := fun x y H Q => ∃ i j, x = .int i ∧ y = .int j ∧ Q (.int (f i j)) H
theorem ip_add : PIp X .Add (ipI fun i j => i + j) := by
  intro pins s σ H x y v u Q I r1 r2 h
  obtain ⟨i, j, e1, e2, q⟩ := h
  subst e1; subst e2
  obtain ⟨t, rfl⟩ := r1
  obtain ⟨t', rfl⟩ := r2
  exact iadd_int ⟨.int _, H, I.tok _, ⟨_, rfl⟩, q⟩
theorem ip_sub : PIp X .Sub (ipI fun i j => i - j) := by
  intro pins s σ H x y v u Q I r1 r2 h
  obtain ⟨i, j, e1, e2, q⟩ := h
  subst e1; subst e2
  obtain ⟨t, rfl⟩ := r1
  obtain ⟨t', rfl⟩ := r2
  exact isub_int ⟨.int _, H, I.tok _, ⟨_, rfl⟩, q⟩
end
section
variable {X : Cx} {pos : Pos}
def tWhile (c : TT) (tb : TS) : TS := fun D σ H => ∃ W : Nat → St → Hp → Prop, (∃ m, W m σ H) ∧ ∀ m σ H, W m σ H →
  c σ H fun b H1 => if b = true then ∃ N : St → Hp → Prop, (∀ σ' H', N σ' H' → ∃ m', m' < m ∧ W m' σ' H') ∧ tb { D with nx := N, ct := N, bk := D.nx } σ H1 else D.nx σ H1
theorem ps_while {c : Expr} {body : List Stmt} {tc : TT} {tb : TS} (hp : PassesOwn (model X.prog X.w) X.A X.env X.xe) (hc : PT X c tc) (hb : PSs X body tb) : PS X (.While c body [] pos) (tWhile tc tb) := by
  intro pins s σ H D I h
  obtain ⟨W, ⟨m0, w0⟩, turn⟩ := h
  refine wpAny_While (codeAny_whileLoop (fun n s' => ∃ σ' H', Inv X pins σ' H' s' ∧ W n σ' H') ?_ m0 ⟨σ, H, I, w0⟩)
  rintro n s1 ⟨σ1, H1, I1, w1⟩
  refine wpAny_passesOwn hp (thn (hc pins s1 σ1 H1 _ I1 (turn n σ1 H1 w1)) fun b s2 ⟨H2, I2, q2⟩ => ?_)
  cases b with
  | true =>
    obtain ⟨N, hN, q2⟩ := q2
    rw [if_pos rfl]
    refine wpAny_passesOwn hp (thn (hb pins s2 σ1 H2 _ I2 q2) fun f s3 q3 => ?_)
    cases f with
    | next =>
      obtain ⟨σ3, H3, I3, n3⟩ := q3
      obtain ⟨m', hm, w3⟩ := hN σ3 H3 n3
      exact ⟨m', hm, σ3, H3, I3, w3⟩
    | cont =>
      obtain ⟨σ3, H3, I3, n3⟩ := q3
      obtain ⟨m', hm, w3⟩ := hN σ3 H3 n3
      exact ⟨m', hm, σ3, H3, I3, w3⟩
    | brk => exact q3
    | ret v => exact q3
  | false =>
    rw [if_neg Bool.false_ne_true]
    exact wpAny_execs_nil ⟨σ1, H2, I2, q2⟩
end
structure It where
  go : Nat → Hp → Prop
  yld : Nat → Hp → V → Hp → Prop
  stop : Nat → Hp → Prop
def FpOk (X : Cx) (pins : List (Addr × Obj)) (H : Hp) (b : Addr) : Prop :=
  H b = none ∧ b ≠ X.env.locals ∧ b ∉ X.fs ∧ (b ∈ X.ex ∨ X.s₀.heap.objs.size ≤ b) ∧ (∀ x c, X.env.cells.lookup x = some c → c ≠ b) ∧ ∀ p ∈ X.pn ++ pins, p.1 ≠ b
theorem Inv.fpOk {X : Cx} {pins : List (Addr × Obj)} {σ : St} {H H' : Hp} {s : Shared} {b : Addr} (I : Inv X pins σ H s) (hb : s.heap.objs.size ≤ b) (hn : H' b = none) : FpOk X pins H' b := by
  refine ⟨hn, Nat.ne_of_gt (Nat.lt_of_lt_of_le I.lt hb), I.nofs hb, .inr (Nat.le_trans I.sz hb), fun x c e z => ?_, fun p hp z => ?_⟩
  · obtain ⟨v, q⟩ := I.cell x c e
    exact absurd (Nat.lt_of_lt_of_le q.lt (by rw [z]; exact hb)) (Nat.lt_irrefl _)
  · exact absurd (Nat.lt_of_lt_of_le (Heap.lt_size (I.pin p hp).1) (by rw [z]; exact hb)) (Nat.lt_irrefl _)
structure Turn (P : Program) (w : World) (K : PySem.W.Frag) (tg : Expr) (J : It) (fp : List Addr) (it : Addr) (tn : Nat → Heap → Prop) : Prop where
  mem : it ∈ fp
  obj : ∀ i h, tn i h → ∀ b ∈ fp, ∃ o, h.get? b = some o ∧ ∀ v, o.data ≠ .cell v
  keep : ∀ i h h', tn i h → (∀ b ∈ fp, ∀ o, h.get? b = some o → h'.get? b = some o) → tn i h'
  item : ∀ (X : Cx), X.prog = P → X.w = w → X.K = K → X.calm = true → ∀ (i : Nat) (pins : List (Addr × Obj)) (s : Shared) (σ : St) (H : Hp) (E : Value → Shared → Prop), Inv X pins σ H s → (∀ b ∈ fp, FpOk X pins H b) → tn i s.heap → J.go i H →
    wpAny (model P w) X.A (pyNext (.ref it)) (fun r s1 => ∃ u, r = some u ∧
      wpAny (model P w) X.A (letOwnedTupleGo tg (.ref it) u) (fun _ s2 => ∃ x H', Inv X pins σ H' s2 ∧ RelV x u ∧ J.yld i H x H' ∧ tn (i + 1) s2.heap ∧ ∀ b ∈ fp, H' b = none) E s1) E s
  done : ∀ (X : Cx), X.prog = P → X.w = w → X.K = K → X.calm = true → ∀ (i : Nat) (pins : List (Addr × Obj)) (s : Shared) (σ : St) (H : Hp) (E : Value → Shared → Prop), Inv X pins σ H s → (∀ b ∈ fp, FpOk X pins H b) → tn i s.heap → J.stop i H →
    wpAny (model P w) X.A (pyNext (.ref it)) (fun r s1 => r = none ∧ Inv X pins σ H s1) E s
  self : ∀ (A : Around) (i : Nat) (s : Shared) (Q : Value → Shared → Prop) (E : Value → Shared → Prop), tn i s.heap → Q (.ref it) s → wpAny (model P w) A (pyIter (.ref it)) Q E s
abbrev TI := St → Hp → (It → Hp → Prop) → Prop
def PIE (X : Cx) (pins : List (Addr × Obj)) (σ : St) (tg : Expr) (R : It → Hp → Prop) (itv : Value) (s2 : Shared) : Prop :=
  ∃ (it : Addr) (fp : List Addr) (tn : Nat → Heap → Prop) (J : It) (H' : Hp), itv = .ref it ∧ Inv X pins σ H' s2 ∧ Turn X.prog X.w X.K tg J fp it tn ∧ tn 0 s2.heap ∧ (∀ b ∈ fp, FpOk X pins H' b) ∧ R J H'
def PI (X : Cx) (tg iter : Expr) (wi : TI) : Prop :=
  ∀ (pins : List (Addr × Obj)) (s : Shared) (σ : St) (H : Hp) (R : It → Hp → Prop), Inv X pins σ H s → wi σ H R →
    wpAny (model X.prog X.w) X.A (eval iter X.env) (fun v s1 => wpAny (model X.prog X.w) X.A (pyIter v) (PIE X pins σ tg R) X.xe s1) X.xe s
theorem go_of {M : Model} {A : Around} {E : Value → Shared → Prop} {s : Shared} {tg : Expr} {it : Addr} {u : Value} {o : Obj} {n : String} {vs : Array Value} {Q : Unit → Shared → Prop} (ho : s.heap.get? it = some o) (hc : o.cls = .type n) (hd : o.data = .fields vs)
    (hn : ["enumerate", "zip", "dict_itemiterator", "dict_reverseitemiterator", "odict_iterator", "itertools.zip_longest", "itertools.pairwise"].contains n = false) (hQ : Q () s) : wpAny M A (letOwnedTupleGo tg (.ref it) u) Q E s := by
  unfold letOwnedTupleGo
  cases tg <;> first
    | exact wpAny_pure hQ
    | (cases u <;> first
        | exact wpAny_pure hQ
        | (refine wpAny_bind (wpAny_load ho ?_)
           rw [hc, hd]
           show wpAny M A (if (["enumerate", "zip", "dict_itemiterator", "dict_reverseitemiterator", "odict_iterator", "itertools.zip_longest", "itertools.pairwise"].contains n && vs[0]? == some (rawInt _)) = true then _ else _) Q E s
           rw [if_neg (by intro h; rw [hn, Bool.false_and] at h; cases h)]
           exact wpAny_pure hQ))
def Itl (K : PySem.W.Frag) (a : Addr) : It :=
  ⟨fun i H => ∃ xs x, SqL K H a xs ∧ xs[i]? = some x, fun i H x H' => H' = H ∧ ∀ xs, SqL K H a xs → xs[i]? = some x, fun i H => ∃ xs, SqL K H a xs ∧ xs.length ≤ i⟩
def Itt (K : PySem.W.Frag) (a : Addr) : It :=
  ⟨fun i H => ∃ xs x, SqT K H a xs ∧ xs[i]? = some x, fun i H x H' => H' = H ∧ ∀ xs, SqT K H a xs → xs[i]? = some x, fun i H => ∃ xs, SqT K H a xs ∧ xs.length ≤ i⟩
def Itr (lo : Int) (n : Nat) : It := ⟨fun i _ => i < n, fun i H x H' => H' = H ∧ x = .int (lo + i), fun i _ => n ≤ i⟩
theorem turn_list {P : Program} {w : World} {K : PySem.W.Frag} {tg : Expr} (a it : Addr) : Turn P w K tg (Itl K a) [it] it (fun i h => h.IsListIter it a i) where
  mem := by simp
  obj := fun i h st b hb => by
    have e : b = it := by simpa using hb
    subst e
    obtain ⟨o, e, c, d⟩ := st
    exact ⟨o, e, fun v z => by rw [d] at z; cases z⟩
  keep := fun i h h' st k => st.at fun o e => k it (by simp) o e
  item := by
    intro X hP hw hK hc i pins s σ H E I hf st hg
    subst hP hw hK
    obtain ⟨xs, x, hq, hx⟩ := hg
    obtain ⟨its, rv, p, hz⟩ := I.list hq
    obtain ⟨u, hu, ru⟩ := rv.get hx
    obtain ⟨f0, f1, f2, f3, f4, f5⟩ := hf it (by simp)
    refine wpAny_pyNext_list_item st p.isList (x := u) (by simpa using hu) fun h' st' sb => ?_
    have I1 : Inv X pins σ H { s with heap := h' } := I.turned (t' := s.toks) (fun b o hb e => (sb.2 b hb).trans e) f0 f1 f3 f4 f5
    obtain ⟨o, e, c, d⟩ := id st'
    exact ⟨u, rfl, go_of (s := { s with heap := h' }) e c d (by decide) ⟨x, H, I1, ru, ⟨rfl, fun ys hy => by rw [I.list_inj hy hq]; exact hx⟩, st', fun b hb => (hf b hb).1⟩⟩
  done := by
    intro X hP hw hK hc i pins s σ H E I hf st hg
    subst hP hw hK
    obtain ⟨xs, hq, hx⟩ := hg
    obtain ⟨its, rv, p, hz⟩ := I.list hq
    obtain ⟨f0, f1, f2, f3, f4, f5⟩ := hf it (by simp)
    have hl := rv.length
    exact wpAny_pyNext_list_end (I.ok.hd hc) st p.isList (by simp; omega) fun h' eb => ⟨rfl, I.turned (t' := s.toks) (fun b o hb e => eb b o hb e) f0 f1 f3 f4 f5⟩
  self := fun _ _ _ _ _ st h => wpAny_pyIter_listiter st h
theorem turn_tuple {P : Program} {w : World} {K : PySem.W.Frag} {tg : Expr} (a it : Addr) : Turn P w K tg (Itt K a) [it] it (fun i h => h.IsTupleIter it a i) where
  mem := by simp
  obj := fun i h st b hb => by
    have e : b = it := by simpa using hb
    subst e
    obtain ⟨o, e, c, d⟩ := st
    exact ⟨o, e, fun v z => by rw [d] at z; cases z⟩
  keep := fun i h h' st k => st.at fun o e => k it (by simp) o e
  item := by
    intro X hP hw hK hc i pins s σ H E I hf st hg
    subst hP hw hK
    obtain ⟨xs, x, hq, hx⟩ := hg
    obtain ⟨its, rv, p, hz⟩ := I.tuple hq
    obtain ⟨u, hu, ru⟩ := rv.get hx
    obtain ⟨f0, f1, f2, f3, f4, f5⟩ := hf it (by simp)
    refine wpAny_pyNext_tuple_item st (show s.heap.IsTuple a its.toArray from p) (x := u) (by simpa using hu) fun h' st' sb => ?_
    have I1 : Inv X pins σ H { s with heap := h' } := I.turned (t' := s.toks) (fun b o hb e => (sb.2 b hb).trans e) f0 f1 f3 f4 f5
    obtain ⟨o, e, c, d⟩ := id st'
    exact ⟨u, rfl, go_of (s := { s with heap := h' }) e c d (by decide) ⟨x, H, I1, ru, ⟨rfl, fun ys hy => by rw [I.tuple_inj hy hq]; exact hx⟩, st', fun b hb => (hf b hb).1⟩⟩
  done := by
    intro X hP hw hK hc i pins s σ H E I hf st hg
    subst hP hw hK
    obtain ⟨xs, hq, hx⟩ := hg
    obtain ⟨its, rv, p, hz⟩ := I.tuple hq
    obtain ⟨f0, f1, f2, f3, f4, f5⟩ := hf it (by simp)
    have hl := rv.length
    exact wpAny_pyNext_tuple_end (I.ok.hd hc) st (show s.heap.IsTuple a its.toArray from p) (by simp; omega) fun h' eb => ⟨rfl, I.turned (t' := s.toks) (fun b o hb e => eb b o hb e) f0 f1 f3 f4 f5⟩
  self := fun _ _ _ _ _ st h => wpAny_pyIter_tupleiter st h
theorem turn_range {P : Program} {w : World} {K : PySem.W.Frag} {tg : Expr} (it : Addr) (lo : Int) (n : Nat) : Turn P w K tg (Itr lo n) [it] it (fun i h => IsRangeIter h it (lo + (i : Nat) * 1) ((n : Int) - (i : Nat)) 1) where
  mem := by simp
  obj := fun i h st b hb => by
    have e : b = it := by simpa using hb
    subst e
    exact ⟨_, st, fun v z => by
      have z' : Data.fields _ = Data.cell v := z
      cases z'⟩
  keep := fun i h h' st k => k it (by simp) _ st
  item := by
    intro X hP hw hK hc i pins s σ H E I hf st hg
    subst hP hw hK
    obtain ⟨f0, f1, f2, f3, f4, f5⟩ := hf it (by simp)
    have W := Walks.range (prog := X.prog) (w := X.w) (I.ok.hd hc) it lo 1 n
    refine W.item i s _ _ hg st fun v h' tk hv st' kk => ?_
    obtain ⟨t, rfl⟩ := hv
    have I1 : Inv X pins σ H { s with heap := h', toks := tk } := I.turned (fun b o hb e => kk b o (by simpa using hb) e) f0 f1 f3 f4 f5
    refine ⟨_, rfl, go_of (s := { s with heap := h', toks := tk }) (n := "range_iterator") st' rfl rfl (by decide) ⟨.int (lo + i), H, I1, ⟨t, ?_⟩, ⟨rfl, rfl⟩, st', fun b hb => (hf b hb).1⟩⟩
    rw [Int.mul_one]
  done := by
    intro X hP hw hK hc i pins s σ H E I hf st hg
    subst hP hw hK
    obtain ⟨f0, f1, f2, f3, f4, f5⟩ := hf it (by simp)
    exact wpAny_pyNext_range_end (I.ok.hd hc) st (by have : n ≤ i := hg; omega) fun h' eb => ⟨rfl, I.turned (t' := s.toks) (fun b o hb e => eb b o hb e) f0 f1 f3 f4 f5⟩
  self := fun _ _ _ _ _ st h => wpAny_pyIter_rangeiter st h
end L2
namespace L2
open PySem PySem.Spec PyProof.Rows
section
variable {X : Cx} {tg : Expr}
def iList (K : PySem.W.Frag) (tl : TE) : TI := fun σ H R => tl σ H fun x H1 => ∃ a, x = .ref a ∧ (∃ xs, SqL K H1 a xs) ∧ R (Itl K a) H1
def iTup (K : PySem.W.Frag) (tl : TE) : TI := fun σ H R => tl σ H fun x H1 => ∃ a, x = .ref a ∧ (∃ xs, SqT K H1 a xs) ∧ R (Itt K a) H1
theorem pi_list {l : Expr} {tl : TE} (hl : PE X l tl) : PI X tg l (iList X.K tl) := by
  intro pins s σ H R I h
  refine thn (hl pins s σ H _ I h) fun v s1 ⟨x, H1, I1, r1, q1⟩ => ?_
  obtain ⟨a, e, ⟨xs, hq⟩, q⟩ := q1
  subst e
  cases r1
  obtain ⟨its, rv, p, hz⟩ := I1.list hq
  refine wpAny_pyIter_list p.isList ?_
  refine ⟨s1.heap.objs.size, [s1.heap.objs.size], _, _, H1, rfl, I1.kept (t' := s1.toks) fun b o e => Heap.get?_push_of_some _ e, turn_list a _, ⟨_, Heap.get?_push_size _ rfl, rfl, rfl⟩, fun b hb => ?_, q⟩
  have e : b = s1.heap.objs.size := by simpa using hb
  subst e
  exact I1.fpOk (Nat.le_refl _) (I1.hok.fresh (Nat.le_refl _))
theorem pi_tup {l : Expr} {tl : TE} (hl : PE X l tl) : PI X tg l (iTup X.K tl) := by
  intro pins s σ H R I h
  refine thn (hl pins s σ H _ I h) fun v s1 ⟨x, H1, I1, r1, q1⟩ => ?_
  obtain ⟨a, e, ⟨xs, hq⟩, q⟩ := q1
  subst e
  cases r1
  obtain ⟨its, rv, p, hz⟩ := I1.tuple hq
  refine wpAny_pyIter_tuple (show s1.heap.IsTuple a its.toArray from p) ?_
  refine ⟨s1.heap.objs.size, [s1.heap.objs.size], _, _, H1, rfl, I1.kept (t' := s1.toks) fun b o e => Heap.get?_push_of_some _ e, turn_tuple a _, ⟨_, Heap.get?_push_size _ rfl, rfl, rfl⟩, fun b hb => ?_, q⟩
  have e : b = s1.heap.objs.size := by simpa using hb
  subst e
  exact I1.fpOk (Nat.le_refl _) (I1.hok.fresh (Nat.le_refl _))
theorem range_it {pins : List (Addr × Obj)} {σ : St} {H : Hp} {s : Shared} {R : It → Hp → Prop} {E : Value → Shared → Prop} {lo hi : Int} {t u v : Tok} {tk : Nat} (I : Inv X pins σ H s) (h1 : -(2 ^ 62) ≤ lo) (h2 : lo < 2 ^ 62) (h3 : -(2 ^ 62) ≤ hi) (h4 : hi < 2 ^ 62)
    (q : R (Itr lo (hi - lo).toNat) H) : wpAny (model X.prog X.w) X.A (pyIter (.ref s.heap.objs.size)) (PIE X pins σ tg R) E { s with heap := s.heap.push { cls := .type "range", data := .fields #[.int lo t, .int hi u, .int 1 v] }, toks := tk } := by
  refine wpAny_pyIter_range (IsRange.new ..) (small_one h1 h2 h3 h4) ?_
  have I1 : Inv X pins σ H { s with heap := s.heap.push { cls := .type "range", data := .fields #[.int lo t, .int hi u, .int 1 v] }, toks := tk } := I.kept fun b o e => Heap.get?_push_of_some _ e
  refine ⟨(s.heap.push { cls := .type "range", data := .fields #[.int lo t, .int hi u, .int 1 v] }).objs.size, [(s.heap.push { cls := .type "range", data := .fields #[.int lo t, .int hi u, .int 1 v] }).objs.size], _, _, H, rfl,
    I1.kept (t' := tk) fun b o e => Heap.get?_push_of_some _ e, turn_range _ lo (hi - lo).toNat, ?_, fun b hb => ?_, q⟩
  · have e1 : lo + ((0 : Nat) : Int) * 1 = lo := by simp
    have e2 : (((hi - lo).toNat : Nat) : Int) - ((0 : Nat) : Int) = Builtin.Range.rangeSize lo hi 1 := by rw [rangeSize_one]; split <;> omega
    show IsRangeIter _ _ (lo + ((0 : Nat) : Int) * 1) ((((hi - lo).toNat : Nat) : Int) - ((0 : Nat) : Int)) 1
    rw [e1, e2]
    exact Heap.get?_push_size _ rfl
  · have e : b = (s.heap.push { cls := .type "range", data := .fields #[.int lo t, .int hi u, .int 1 v] }).objs.size := by simpa using hb
    subst e
    exact I1.fpOk (Nat.le_refl _) (I1.hok.fresh (Nat.le_refl _))
def iRng1 (ta : TA) : TI := fun σ H R => ta σ H fun vs H1 => ∃ j : Int, vs = [.int j] ∧ -(2 ^ 62) ≤ j ∧ j < 2 ^ 62 ∧ R (Itr 0 j.toNat) H1
def iRng2 (ta : TA) : TI := fun σ H R => ta σ H fun vs H1 => ∃ i j : Int, vs = [.int i, .int j] ∧ (-(2 ^ 62) ≤ i ∧ i < 2 ^ 62 ∧ -(2 ^ 62) ≤ j ∧ j < 2 ^ 62) ∧ R (Itr i (j - i).toNat) H1
theorem pi_range1 {a : Expr} {ta : TA} {p pos : Pos} (hg : Gl X "range") (hm : X.mg "range" = none) (ha : PA X [a] ta) (hs : starEach [a] X.env = [(false, eval a X.env)] := by rfl) : PI X tg (.Call (.Name "range" p) [a] [] pos) (iRng1 ta) := by
  intro pins s σ H R I h
  refine Call_ (ld_blt I hg hm boot_range (PyProof.Rows.callWith_type1 (thn (ha pos pins s σ H _ I h) fun us s1 ⟨vs, H1, I1, r1, q1⟩ => ?_) hs rfl))
  obtain ⟨j, e, q1, q2, q⟩ := q1
  subst e
  cases r1 with
  | cons r rr =>
    cases rr
    obtain ⟨t, rfl⟩ := r
    exact call_range_1 (range_it I1 (by omega) (by omega) q1 q2 (by simpa using q))
theorem pi_range2 {a b : Expr} {ta : TA} {p pos : Pos} (hg : Gl X "range") (hm : X.mg "range" = none) (ha : PA X [a, b] ta) (hs : starEach [a, b] X.env = [(false, eval a X.env), (false, eval b X.env)] := by rfl) (hs2 : starEach [b] X.env = [(false, eval b X.env)] := by rfl) :
    PI X tg (.Call (.Name "range" p) [a, b] [] pos) (iRng2 ta) := by
  intro pins s σ H R I h
  refine Call_ (ld_blt I hg hm boot_range (PyProof.Rows.callWith_type1 (thn (ha pos pins s σ H _ I h) fun us s1 ⟨vs, H1, I1, r1, q1⟩ => ?_) (by rw [hs, hs2]) (by rw [hs2]; rfl)))
  obtain ⟨i, j, e, ⟨q1, q2, q3, q4⟩, q⟩ := q1
  subst e
  cases r1 with
  | cons r rr =>
    cases rr with
    | cons r' rr =>
      cases rr
      obtain ⟨t, rfl⟩ := r
      obtain ⟨t', rfl⟩ := r'
      exact call_range_2 (range_it I1 q1 q2 q3 q4 q)
def tFor (wi : TI) (g : TG) (tb : TS) : TS := fun D σ H => wi σ H fun J H1 => ∃ W : Nat → Nat → St → Hp → Prop, (∃ m, W 0 m σ H1) ∧ ∀ i m σ H, W i m σ H →
  (J.stop i H ∧ D.nx σ H) ∨ (J.go i H ∧ ∃ N : St → Hp → Prop, (∀ σ' H', N σ' H' → ∃ m', m' < m ∧ W (i + 1) m' σ' H') ∧ ∀ x H', J.yld i H x H' → g x σ H' fun σ2 H2 => tb { D with nx := N, ct := N, bk := D.nx } σ2 H2)
def pinsAt (fp : List Addr) (h : Heap) : List (Addr × Obj) := fp.filterMap fun b => (h.get? b).map fun o => (b, o)
theorem mem_pinsAt {fp : List Addr} {h : Heap} {b : Addr} {o : Obj} (hb : b ∈ fp) (e : h.get? b = some o) : (b, o) ∈ pinsAt fp h := List.mem_filterMap.mpr ⟨b, hb, by rw [e]; rfl⟩
theorem of_pinsAt {fp : List Addr} {h : Heap} {p : Addr × Obj} (hp : p ∈ pinsAt fp h) : p.1 ∈ fp ∧ h.get? p.1 = some p.2 := by
  obtain ⟨b, hb, e⟩ := List.mem_filterMap.mp hp
  cases q : h.get? b with
  | none => rw [q] at e; cases e
  | some o =>
    rw [q] at e
    have e' : (b, o) = p := Option.some.inj e
    subst e'
    exact ⟨hb, q⟩
theorem Inv.pinned {pins : List (Addr × Obj)} {σ : St} {H : Hp} {s : Shared} {fp : List Addr} (I : Inv X pins σ H s) (hf : ∀ b ∈ fp, FpOk X pins H b) (ho : ∀ b ∈ fp, ∃ o, s.heap.get? b = some o ∧ ∀ v, o.data ≠ .cell v) : Inv X (pins ++ pinsAt fp s.heap) σ H s :=
  I.pins_of fun p hp => (List.mem_append.mp hp).elim (fun z => I.pin p (List.mem_append_right _ z)) fun z => by
    obtain ⟨hb, e⟩ := of_pinsAt z
    obtain ⟨f0, f1, f2, _⟩ := hf p.1 hb
    obtain ⟨o, e', d⟩ := ho p.1 hb
    rw [e] at e'; cases e'
    exact ⟨e, f0, f1, f2, d⟩
theorem Inv.unpinned {pins pl : List (Addr × Obj)} {σ : St} {H : Hp} {s : Shared} (I : Inv X (pins ++ pl) σ H s) : Inv X pins σ H s := I.pins_of fun p hp => I.pin p (List.mem_append_right _ (List.mem_append_left _ hp))
theorem ps_for {iter : Expr} {body : List Stmt} {wi : TI} {g : TG} {tb : TS} {pos : Pos} (hp : PassesOwn (model X.prog X.w) X.A X.env X.xe) (hc : X.calm = true) (hi : PI X tg iter wi) (hg : PG X tg g) (hb : PSs X body tb)
    (hs : ∀ x, foldedSetIterable iter X.env x = pure x := by intro _; rfl) : PS X (.For tg iter body [] pos) (tFor wi g tb) := by
  intro pins s σ H D I h
  refine wpAny_For (thn (hi pins s σ H _ I h) fun v s1 h1 => thn h1 fun itv s2 h2 => ?_) hs
  obtain ⟨it, fp, tn, J, H2, e, I2, T, st2, f2, W, ⟨m0, w0⟩, turn⟩ := h2
  subst e
  have stat : ∀ {H' : Hp}, (∀ b ∈ fp, H' b = none) → ∀ b ∈ fp, FpOk X pins H' b := fun hn b hb => ⟨hn b hb, (f2 b hb).2⟩
  refine codeAny_forLoop_any (fun n s' => ∃ i σ' H', Inv X pins σ' H' s' ∧ tn i s'.heap ∧ (∀ b ∈ fp, H' b = none) ∧ W i n σ' H') ?_ m0 ⟨0, σ, H2, I2, st2, fun b hb => (f2 b hb).1, w0⟩
  rintro n s3 ⟨i, σ3, H3, I3, st3, fr3, w3⟩
  rcases turn i n σ3 H3 w3 with ⟨stop, qn⟩ | ⟨go, N, hN, step⟩
  · refine wpAny_passesOwn hp (thn (T.done X rfl rfl rfl hc i pins s3 σ3 H3 X.xe I3 (stat fr3) st3 stop) fun r s4 ⟨hr, I4⟩ => ?_)
    subst hr
    exact wpAny_execs_nil ⟨σ3, H3, I4, qn⟩
  · refine wpAny_passesOwn hp (thn (T.item X rfl rfl rfl hc i pins s3 σ3 H3 X.xe I3 (stat fr3) st3 go) fun r s4 ⟨u, hr, h4⟩ => ?_)
    subst hr
    refine wpAny_passesOwn hp (thn h4 fun _ s5 ⟨x, H5, I5, r5, y5, st5, fr5⟩ => ?_)
    have I5' := I5.pinned (stat fr5) (T.obj _ _ st5)
    refine wpAny_passesOwn hp (thn (hg _ s5 σ3 H5 x u _ I5' r5 (step x H5 y5)) fun _ s6 ⟨σ6, H6, I6, q6⟩ => ?_)
    refine wpAny_passesOwn hp (thn (hb _ s6 σ6 H6 _ I6 q6) fun f s7 q7 => ?_)
    have again : ∀ {σ7 : St} {H7 : Hp}, Inv X (pins ++ pinsAt fp s5.heap) σ7 H7 s7 → N σ7 H7 → ∃ m, m < n ∧ ∃ i σ' H', Inv X pins σ' H' s7 ∧ tn i s7.heap ∧ (∀ b ∈ fp, H' b = none) ∧ W i m σ' H' := fun {σ7 H7} I7 n7 => by
      obtain ⟨m', hm, w7⟩ := hN σ7 H7 n7
      refine ⟨m', hm, i + 1, σ7, H7, I7.unpinned, T.keep _ _ _ st5 fun b hb o e => (I7.pin (b, o) (List.mem_append_right _ (List.mem_append_right _ (mem_pinsAt hb e)))).1, fun b hb => ?_, w7⟩
      obtain ⟨o, e, d⟩ := T.obj _ _ st5 b hb
      exact (I7.pin (b, o) (List.mem_append_right _ (List.mem_append_right _ (mem_pinsAt hb e)))).2.1
    cases f with
    | next => obtain ⟨σ7, H7, I7, n7⟩ := q7; exact again I7 n7
    | cont => obtain ⟨σ7, H7, I7, n7⟩ := q7; exact again I7 n7
    | brk => obtain ⟨σ7, H7, I7, q7⟩ := q7; exact ⟨σ7, H7, I7.unpinned, q7⟩
    | ret v => obtain ⟨x7, σ7, H7, I7, r7, q7⟩ := q7; exact ⟨x7, σ7, H7, I7.unpinned, r7, q7⟩
end
theorem for_list {K : PySem.W.Frag} {a : Addr} {xs : List V} {g : TG} {tb : TS} {D : Ends} {σ : St} {H : Hp} (Pv : Nat → St → Hp → Prop) (h0 : Pv 0 σ H) (hl : ∀ i σ H, i ≤ xs.length → Pv i σ H → SqL K H a xs)
    (hs : ∀ i x σ H, xs[i]? = some x → Pv i σ H → g x σ H fun σ2 H2 => tb { D with nx := Pv (i + 1), ct := Pv (i + 1), bk := D.nx } σ2 H2) (hd : ∀ σ H, Pv xs.length σ H → D.nx σ H) :
    ∃ W : Nat → Nat → St → Hp → Prop, (∃ m, W 0 m σ H) ∧ ∀ i m σ H, W i m σ H →
      ((Itl K a).stop i H ∧ D.nx σ H) ∨ ((Itl K a).go i H ∧ ∃ N : St → Hp → Prop, (∀ σ' H', N σ' H' → ∃ m', m' < m ∧ W (i + 1) m' σ' H') ∧ ∀ x H', (Itl K a).yld i H x H' → g x σ H' fun σ2 H2 => tb { D with nx := N, ct := N, bk := D.nx } σ2 H2) := by
  refine ⟨fun i m σ H => m = xs.length - i ∧ i ≤ xs.length ∧ Pv i σ H, ⟨xs.length, by simp, Nat.zero_le _, h0⟩, ?_⟩
  rintro i m σ H ⟨rfl, hi, p⟩
  have q := hl i σ H hi p
  by_cases hlt : i < xs.length
  · refine .inr ⟨⟨xs, xs[i], q, by simp [hlt]⟩, Pv (i + 1), fun σ' H' p' => ⟨xs.length - (i + 1), by omega, rfl, hlt, p'⟩, fun x H' y => ?_⟩
    obtain ⟨e, y⟩ := y
    subst e
    exact hs i x σ _ (y xs q) p
  · have e : i = xs.length := by omega
    subst e
    exact .inl ⟨⟨xs, q, Nat.le_refl _⟩, hd σ H p⟩
theorem for_tup {K : PySem.W.Frag} {a : Addr} {xs : List V} {g : TG} {tb : TS} {D : Ends} {σ : St} {H : Hp} (Pv : Nat → St → Hp → Prop) (h0 : Pv 0 σ H) (hl : ∀ i σ H, i ≤ xs.length → Pv i σ H → SqT K H a xs)
    (hs : ∀ i x σ H, xs[i]? = some x → Pv i σ H → g x σ H fun σ2 H2 => tb { D with nx := Pv (i + 1), ct := Pv (i + 1), bk := D.nx } σ2 H2) (hd : ∀ σ H, Pv xs.length σ H → D.nx σ H) :
    ∃ W : Nat → Nat → St → Hp → Prop, (∃ m, W 0 m σ H) ∧ ∀ i m σ H, W i m σ H →
      ((Itt K a).stop i H ∧ D.nx σ H) ∨ ((Itt K a).go i H ∧ ∃ N : St → Hp → Prop, (∀ σ' H', N σ' H' → ∃ m', m' < m ∧ W (i + 1) m' σ' H') ∧ ∀ x H', (Itt K a).yld i H x H' → g x σ H' fun σ2 H2 => tb { D with nx := N, ct := N, bk := D.nx } σ2 H2) := by
  refine ⟨fun i m σ H => m = xs.length - i ∧ i ≤ xs.length ∧ Pv i σ H, ⟨xs.length, by simp, Nat.zero_le _, h0⟩, ?_⟩
  rintro i m σ H ⟨rfl, hi, p⟩
  have q := hl i σ H hi p
  by_cases hlt : i < xs.length
  · refine .inr ⟨⟨xs, xs[i], q, by simp [hlt]⟩, Pv (i + 1), fun σ' H' p' => ⟨xs.length - (i + 1), by omega, rfl, hlt, p'⟩, fun x H' y => ?_⟩
    obtain ⟨e, y⟩ := y
    subst e
    exact hs i x σ _ (y xs q) p
  · have e : i = xs.length := by omega
    subst e
    exact .inl ⟨⟨xs, q, Nat.le_refl _⟩, hd σ H p⟩
theorem for_range {lo : Int} {n : Nat} {g : TG} {tb : TS} {D : Ends} {σ : St} {H : Hp} (Pv : Nat → St → Hp → Prop) (h0 : Pv 0 σ H)
    (hs : ∀ i σ H, i < n → Pv i σ H → g (.int (lo + i)) σ H fun σ2 H2 => tb { D with nx := Pv (i + 1), ct := Pv (i + 1), bk := D.nx } σ2 H2) (hd : ∀ σ H, Pv n σ H → D.nx σ H) :
    ∃ W : Nat → Nat → St → Hp → Prop, (∃ m, W 0 m σ H) ∧ ∀ i m σ H, W i m σ H →
      ((Itr lo n).stop i H ∧ D.nx σ H) ∨ ((Itr lo n).go i H ∧ ∃ N : St → Hp → Prop, (∀ σ' H', N σ' H' → ∃ m', m' < m ∧ W (i + 1) m' σ' H') ∧ ∀ x H', (Itr lo n).yld i H x H' → g x σ H' fun σ2 H2 => tb { D with nx := N, ct := N, bk := D.nx } σ2 H2) := by
  refine ⟨fun i m σ H => m = n - i ∧ i ≤ n ∧ Pv i σ H, ⟨n, by simp, Nat.zero_le _, h0⟩, ?_⟩
  rintro i m σ H ⟨rfl, hi, p⟩
  by_cases hlt : i < n
  · refine .inr ⟨hlt, Pv (i + 1), fun σ' H' p' => ⟨n - (i + 1), by omega, rfl, hlt, p'⟩, fun x H' y => ?_⟩
    obtain ⟨e, y⟩ := y
    subst e y
    exact hs i σ _ hlt p
  · have e : i = n := by omega
    subst e
    exact .inl ⟨Nat.le_refl _, hd σ H p⟩
theorem while_by {c : TT} {tb : TS} {D : Ends} {σ : St} {H : Hp} (Pv : St → Hp → Prop) (μ : St → Hp → Nat) (h0 : Pv σ H)
    (hs : ∀ σ H, Pv σ H → c σ H fun b H1 => if b = true then tb { D with nx := fun σ' H' => Pv σ' H' ∧ μ σ' H' < μ σ H, ct := fun σ' H' => Pv σ' H' ∧ μ σ' H' < μ σ H, bk := D.nx } σ H1 else D.nx σ H1)
    (mono : ∀ σ H Q Q', (∀ b H1, Q b H1 → Q' b H1) → c σ H Q → c σ H Q') : tWhile c tb D σ H := by
  refine ⟨fun m σ H => m = μ σ H ∧ Pv σ H, ⟨_, rfl, h0⟩, ?_⟩
  rintro m σ H ⟨rfl, p⟩
  refine mono σ H _ _ (fun b H1 q => ?_) (hs σ H p)
  cases b with
  | true => exact ⟨_, fun σ' H' ⟨p', l⟩ => ⟨_, l, rfl, p'⟩, q⟩
  | false => exact q
end L2
namespace L2
open PySem PySem.Spec PyProof.Rows
abbrev R2 := V → V → Hp → VK → Prop
def OpR (X : Cx) (f : Value → Value → Sem Value) (r : R2) : Prop :=
  ∀ (pins : List (Addr × Obj)) (s : Shared) (σ : St) (H : Hp) (x y : V) (v u : Value) (Q : VK), Inv X pins σ H s → RelV x v → RelV y u → r x y H Q →
    wpAny (model X.prog X.w) X.A (f v u) (EP X pins σ Q) X.xe s
def UnR (X : Cx) (f : Value → Sem Value) (r : V → Hp → VK → Prop) : Prop :=
  ∀ (pins : List (Addr × Obj)) (s : Shared) (σ : St) (H : Hp) (x : V) (v : Value) (Q : VK), Inv X pins σ H s → RelV x v → r x H Q →
    wpAny (model X.prog X.w) X.A (f v) (EP X pins σ Q) X.xe s
def CallR (X : Cx) (f : Value) (r : List V → Hp → VK → Prop) : Prop :=
  ∀ (pins : List (Addr × Obj)) (s : Shared) (σ : St) (H : Hp) (xs : List V) (us : List Value) (Q : VK), Inv X pins σ H s → Vals xs us → r xs H Q →
    wpAny (model X.prog X.w) X.A (call f us) (EP X pins σ Q) X.xe s
def TruR (X : Cx) (r : V → Hp → (Bool → Hp → Prop) → Prop) : Prop :=
  ∀ (pins : List (Addr × Obj)) (s : Shared) (σ : St) (H : Hp) (x : V) (v : Value) (Q : Bool → Hp → Prop), Inv X pins σ H s → RelV x v → r x H Q →
    wpAny (model X.prog X.w) X.A (truthy v) (TP X pins σ Q) X.xe s
def tOp (r : R2) (ta tb : TE) : TE := fun σ H Q => ta σ H fun x H1 => tb σ H1 fun y H2 => r x y H2 Q
def tUn (r : V → Hp → VK → Prop) (ta : TE) : TE := fun σ H Q => ta σ H fun x H1 => r x H1 Q
def rI (C : Int → Int → Prop) (g : Int → Int → V) : R2 := fun x y H Q => ∃ i j, x = .int i ∧ y = .int j ∧ C i j ∧ Q (g i j) H
def rI0 (g : Int → Int → V) : R2 := fun x y H Q => ∃ i j, x = .int i ∧ y = .int j ∧ Q (g i j) H
def rU (g : Int → V) : V → Hp → VK → Prop := fun x H Q => ∃ i, x = .int i ∧ Q (g i) H
section
variable {X : Cx} {a b c : Expr} {ta tb tc : TE} {pos : Pos}
theorem binT (ha : PE X a ta) (hb : PE X b tb) {pins : List (Addr × Obj)} {s : Shared} {σ : St} {H : Hp} {R : V → V → Hp → Prop} (I : Inv X pins σ H s)
    (h : ta σ H fun x H1 => tb σ H1 fun y H2 => R x y H2) {Q : Value → Shared → Prop} {f : Value → Value → Sem Value}
    (hf : ∀ v u s2 x y H2, Inv X pins σ H2 s2 → RelV x v → RelV y u → R x y H2 → wpAny (model X.prog X.w) X.A (f v u) Q X.xe s2) :
    wpAny (model X.prog X.w) X.A (eval a X.env) (fun v s₁ => wpAny (model X.prog X.w) X.A (eval b X.env) (fun u s₂ => wpAny (model X.prog X.w) X.A (f v u) Q X.xe s₂) X.xe s₁) X.xe s := by
  refine thn (ha pins s σ H _ I h) fun v s1 ⟨x, H1, I1, r1, q1⟩ => ?_
  refine thn (hb pins s1 σ H1 _ I1 q1) fun u s2 ⟨y, H2, I2, r2, q2⟩ => ?_
  exact hf v u s2 x y H2 I2 r1 r2 q2
theorem pe_op {op : Operator} {r : R2} (ho : OpR X (binaryOp op) r) (ha : PE X a ta) (hb : PE X b tb) : PE X (.BinOp a op b pos) (tOp r ta tb) := by
  intro pins s σ H Q I h
  exact wpAny_BinOp (binT ha hb I h fun v u s2 x y H2 I2 rx ry q => ho pins s2 σ H2 x y v u Q I2 rx ry q)
theorem pe_un {op : UnaryOp} {r : V → Hp → VK → Prop} (ho : UnR X (unaryOp op) r) (ha : PE X a ta) : PE X (.UnaryOp op a pos) (tUn r ta) := by
  intro pins s σ H Q I h
  exact UnaryOp_ (thn (ha pins s σ H _ I h) fun v s1 ⟨x, H1, I1, r1, q1⟩ => ho pins s1 σ H1 x v Q I1 r1 q1)
theorem augR {op : Operator} {r : R2} (ho : OpR X (inplaceOp op) r) {pins : List (Addr × Obj)} {s : Shared} {σ : St} {H : Hp} {x y : V} {v u : Value} {Q : VK} (I : Inv X pins σ H s)
    (rx : RelV x v) (ry : RelV y u) (q : r x y H Q) : wpAny (model X.prog X.w) X.A (inplaceOp op v u) (EP X pins σ Q) X.xe s := ho pins s σ H x y v u Q I rx ry q
theorem opI {f : Value → Value → Sem Value} {C : Int → Int → Prop} {g : Int → Int → Int}
    (rule : ∀ (i j : Int) (t u : Tok) (s : Shared) (Q : Value → Shared → Prop) (E : Value → Shared → Prop), C i j → Q (.int (g i j) s.toks) { s with toks := s.toks + 1 } → wpAny (model X.prog X.w) X.A (f (.int i t) (.int j u)) Q E s) :
    OpR X f (rI C fun i j => .int (g i j)) := by
  intro pins s σ H x y v u Q I rx ry h
  obtain ⟨i, j, rfl, rfl, hc, q⟩ := h
  obtain ⟨t, rfl⟩ := rx
  obtain ⟨t', rfl⟩ := ry
  exact rule i j t t' s _ _ hc ⟨.int (g i j), H, I.tok _, ⟨_, rfl⟩, q⟩
theorem opI0 {f : Value → Value → Sem Value} {g : Int → Int → Int}
    (rule : ∀ (i j : Int) (t u : Tok) (s : Shared) (Q : Value → Shared → Prop) (E : Value → Shared → Prop), Q (.int (g i j) s.toks) { s with toks := s.toks + 1 } → wpAny (model X.prog X.w) X.A (f (.int i t) (.int j u)) Q E s) :
    OpR X f (rI0 fun i j => .int (g i j)) := by
  intro pins s σ H x y v u Q I rx ry h
  obtain ⟨i, j, rfl, rfl, q⟩ := h
  obtain ⟨t, rfl⟩ := rx
  obtain ⟨t', rfl⟩ := ry
  exact rule i j t t' s _ _ ⟨.int (g i j), H, I.tok _, ⟨_, rfl⟩, q⟩
theorem opB0 {f : Value → Value → Sem Value} {g : Int → Int → Bool}
    (rule : ∀ (i j : Int) (t u : Tok) (s : Shared) (Q : Value → Shared → Prop) (E : Value → Shared → Prop), Q (.bool (g i j)) s → wpAny (model X.prog X.w) X.A (f (.int i t) (.int j u)) Q E s) :
    OpR X f (rI0 fun i j => .bl (g i j)) := by
  intro pins s σ H x y v u Q I rx ry h
  obtain ⟨i, j, rfl, rfl, q⟩ := h
  obtain ⟨t, rfl⟩ := rx
  obtain ⟨t', rfl⟩ := ry
  exact rule i j t t' s _ _ ⟨.bl (g i j), H, I, rfl, q⟩
def CDiv (i j : Int) : Prop := 0 < j ∧ j < 1073741824
def CDivN (i j : Int) : Prop := j ≠ 0 ∧ j.natAbs < 1073741824
def CPow (i j : Int) : Prop := 0 ≤ j ∧ j ≤ 1000000 ∧ i.natAbs < 2 ^ 64
def CMul (i j : Int) : Prop := (-(2 ^ 64) < i ∧ i < 2 ^ 64) ∨ (-(2 ^ 64) < j ∧ j < 2 ^ 64)
theorem CMul.ok {i j : Int} (h : CMul i j) : IntMulOk i j := by
  rcases h with ⟨h1, h2⟩ | ⟨h1, h2⟩
  · exact .of_left (intBits_le_64 h1 h2)
  · exact .of_right (intBits_le_64 h1 h2)
theorem two_pow_nn (k : Nat) : (0 : Int) ≤ 2 ^ k := by
  rw [two_pow_cast]
  exact Int.natCast_nonneg _
theorem op_add : OpR X (binaryOp .Add) (rI0 fun i j => .int (i + j)) := opI0 fun _ _ _ _ _ _ _ q => add_int q
theorem op_sub : OpR X (binaryOp .Sub) (rI0 fun i j => .int (i - j)) := opI0 fun _ _ _ _ _ _ _ q => sub_int q
theorem op_mul : OpR X (binaryOp .Mult) (rI CMul fun i j => .int (i * j)) := opI fun _ _ _ _ _ _ _ hc q => mul_int q hc.ok
theorem op_fdiv : OpR X (binaryOp .FloorDiv) (rI CDiv fun i j => .int (i / j)) := opI fun i j _ _ _ _ _ hc q => by
  have h1 : (0 : Int) < j := hc.1
  have h2 : j < 1073741824 := hc.2
  exact floordiv_int (by omega) (by rw [Int.fdiv_eq_ediv_of_nonneg i (by omega)]; exact q) (.inl (PyProof.noPylong_small (by omega)))
theorem op_fdivN : OpR X (binaryOp .FloorDiv) (rI CDivN fun i j => .int (i.fdiv j)) := opI fun _ _ _ _ _ _ _ hc q => floordiv_int hc.1 q (.inl (PyProof.noPylong_small hc.2))
theorem op_mod : OpR X (binaryOp .Mod) (rI (fun _ j => 0 < j) fun i j => .int (i % j)) := opI fun i j _ _ _ _ _ hc q => by
  have h1 : (0 : Int) < j := hc
  exact mod_int' (by omega) (by rw [Int.fmod_eq_emod_of_nonneg i (by omega)]; exact q)
theorem op_modN : OpR X (binaryOp .Mod) (rI (fun _ j => j ≠ 0) fun i j => .int (i.fmod j)) := opI fun _ _ _ _ _ _ _ hc q => mod_int' hc q
theorem op_pow : OpR X (binaryOp .Pow) (rI CPow fun i j => .int (i ^ j.toNat)) := opI fun _ _ _ _ _ _ _ hc q => pow_int_small hc.1 hc.2.1 hc.2.2 q
theorem op_shl : OpR X (binaryOp .LShift) (rI CPow fun i j => .int (i * 2 ^ j.toNat)) := opI fun _ _ _ _ _ _ _ hc q => lshift_int_small hc.1 hc.2.1 hc.2.2 q
theorem op_shr : OpR X (binaryOp .RShift) (rI (fun _ j => 0 ≤ j) fun i j => .int (i / 2 ^ j.toNat)) := opI fun i j _ _ _ _ _ hc q =>
  rshift_int hc (by rw [Int.fdiv_eq_ediv_of_nonneg i (two_pow_nn _)]; exact q)
theorem op_and : OpR X (binaryOp .BitAnd) (rI0 fun i j => .int (Builtin.bitAnd i j)) := opI0 fun _ _ _ _ _ _ _ q => and_int q
theorem op_or : OpR X (binaryOp .BitOr) (rI0 fun i j => .int (Builtin.bitOr i j)) := opI0 fun _ _ _ _ _ _ _ q => or_int q
theorem op_xor : OpR X (binaryOp .BitXor) (rI0 fun i j => .int (Builtin.bitXor i j)) := opI0 fun _ _ _ _ _ _ _ q => xor_int q
theorem iop_add : OpR X (inplaceOp .Add) (rI0 fun i j => .int (i + j)) := opI0 fun _ _ _ _ _ _ _ q => iadd_int q
theorem iop_sub : OpR X (inplaceOp .Sub) (rI0 fun i j => .int (i - j)) := opI0 fun _ _ _ _ _ _ _ q => isub_int q
theorem iop_mul : OpR X (inplaceOp .Mult) (rI CMul fun i j => .int (i * j)) := opI fun _ _ _ _ _ _ _ hc q => imul_int q hc.ok
theorem iop_fdiv : OpR X (inplaceOp .FloorDiv) (rI CDiv fun i j => .int (i / j)) := opI fun i j _ _ _ _ _ hc q => by
  have h1 : (0 : Int) < j := hc.1
  have h2 : j < 1073741824 := hc.2
  exact ifloordiv_int (by omega) (by rw [Int.fdiv_eq_ediv_of_nonneg i (by omega)]; exact q) (.inl (PyProof.noPylong_small (by omega)))
theorem iop_mod : OpR X (inplaceOp .Mod) (rI (fun _ j => 0 < j) fun i j => .int (i % j)) := opI fun i j _ _ _ _ _ hc q => by
  have h1 : (0 : Int) < j := hc
  exact imod_int (by omega) (by rw [Int.fmod_eq_emod_of_nonneg i (by omega)]; exact q)
theorem iop_shl : OpR X (inplaceOp .LShift) (rI CPow fun i j => .int (i * 2 ^ j.toNat)) := opI fun _ _ _ _ _ _ _ hc q => ilshift_int_small hc.1 hc.2.1 hc.2.2 q
theorem iop_shr : OpR X (inplaceOp .RShift) (rI (fun _ j => 0 ≤ j) fun i j => .int (i / 2 ^ j.toNat)) := opI fun i j _ _ _ _ _ hc q =>
  irshift_int hc (by rw [Int.fdiv_eq_ediv_of_nonneg i (two_pow_nn _)]; exact q)
theorem iop_and : OpR X (inplaceOp .BitAnd) (rI0 fun i j => .int (Builtin.bitAnd i j)) := opI0 fun _ _ _ _ _ _ _ q => iand_int q
theorem iop_or : OpR X (inplaceOp .BitOr) (rI0 fun i j => .int (Builtin.bitOr i j)) := opI0 fun _ _ _ _ _ _ _ q => ior_int q
theorem iop_xor : OpR X (inplaceOp .BitXor) (rI0 fun i j => .int (Builtin.bitXor i j)) := opI0 fun _ _ _ _ _ _ _ q => ixor_int q
theorem unI {f : Value → Sem Value} {g : Int → Int}
    (rule : ∀ (i : Int) (t : Tok) (s : Shared) (Q : Value → Shared → Prop) (E : Value → Shared → Prop), Q (.int (g i) s.toks) { s with toks := s.toks + 1 } → wpAny (model X.prog X.w) X.A (f (.int i t)) Q E s) :
    UnR X f (rU fun i => .int (g i)) := by
  intro pins s σ H x v Q I rx h
  obtain ⟨i, rfl, q⟩ := h
  obtain ⟨t, rfl⟩ := rx
  exact rule i t s _ _ ⟨.int (g i), H, I.tok _, ⟨_, rfl⟩, q⟩
theorem un_neg : UnR X (unaryOp .USub) (rU fun i => .int (-i)) := unI fun _ _ _ _ _ q => neg_int q
theorem un_inv : UnR X (unaryOp .Invert) (rU fun i => .int (Builtin.bitNot i)) := unI fun _ _ _ _ _ q => invert_int q
theorem op_add_ib : OpR X (binaryOp .Add) (fun x y H Q => ∃ i k, x = .int i ∧ y = .bl k ∧ Q (.int (i + b2i k)) H) := by
  intro pins s σ H x y v u Q I rx ry h
  obtain ⟨i, k, rfl, rfl, q⟩ := h
  obtain ⟨t, rfl⟩ := rx
  cases ry
  exact add_int_bool ⟨.int (i + b2i k), H, I.tok _, ⟨_, rfl⟩, q⟩
end
def scal : V → V → Bool
  | .non, .non => true | .non, .int _ => true | .int _, .non => true | .non, .bl _ => true | .bl _, .non => true | .non, .str _ => true | .str _, .non => true
  | .int _, .int _ => true | .bl _, .bl _ => true | .str _, .str _ => true | .byt _, .byt _ => true
  | .int _, .str _ => true | .str _, .int _ => true | .bl _, .str _ => true | .str _, .bl _ => true
  | _, _ => false
def rEq : R2 := fun x y H Q => scal x y = true ∧ Q (.bl (decide (x = y))) H
def rNe : R2 := fun x y H Q => scal x y = true ∧ Q (.bl (!decide (x = y))) H
theorem dec_int {i j : Int} : decide (V.int i = V.int j) = (i == j) := by
  rw [Bool.eq_iff_iff]
  simp
theorem dec_bl {i j : Bool} : decide (V.bl i = V.bl j) = (i == j) := by
  rw [Bool.eq_iff_iff]
  simp
theorem dec_str {i j : Str} : decide (V.str i = V.str j) = (i == j) := by
  rw [Bool.eq_iff_iff]
  simp
theorem dec_byt {i j : Array UInt8} : decide (V.byt i = V.byt j) = (i.toList == j.toList) := by
  rw [Bool.eq_iff_iff]
  cases i
  cases j
  simp
section
variable {X : Cx} {a b c : Expr} {ta tb tc : TE} {pos : Pos}
theorem fin_bl {pins : List (Addr × Obj)} {σ : St} {H : Hp} {s : Shared} {Q : VK} {k k' : Bool} (I : Inv X pins σ H s) (q : Q (.bl k) H) (e : k = k') : EP X pins σ Q (.bool k') s := by
  subst e
  exact ⟨.bl k, H, I, rfl, q⟩
theorem op_eq : OpR X (compareOp .Eq) rEq := by
  intro pins s σ H x y v u Q I rx ry h
  obtain ⟨hs, q⟩ := h
  cases x with
  | non =>
    cases rx
    cases y with
    | non => cases ry; exact PySem.EqNone.eq_none_none (fin_bl I q (by simp))
    | bl j => cases ry; exact PySem.EqNone.eq_none_bool (fin_bl I q (by simp))
    | int j => obtain ⟨t', rfl⟩ := ry; exact PySem.EqNone.eq_none_int (fin_bl I q (by simp))
    | str j => obtain ⟨t', rfl⟩ := ry; exact PySem.EqNone.eq_none_str (fin_bl I q (by simp))
    | _ => exact absurd (show false = true from hs) Bool.false_ne_true
  | bl i =>
    cases rx
    cases y with
    | non => cases ry; exact PySem.EqNone.eq_bool_none (fin_bl I q (by simp))
    | bl j => cases ry; exact eq_bool (fin_bl I q dec_bl)
    | str j => obtain ⟨t', rfl⟩ := ry; exact PySem.EqMixed.eq_bool_str (fin_bl I q (by simp))
    | _ => exact absurd (show false = true from hs) Bool.false_ne_true
  | int i =>
    obtain ⟨t, rfl⟩ := rx
    cases y with
    | non => cases ry; exact PySem.EqNone.eq_int_none (fin_bl I q (by simp))
    | int j => obtain ⟨t', rfl⟩ := ry; exact eq_int (fin_bl I q dec_int)
    | str j => obtain ⟨t', rfl⟩ := ry; exact PySem.EqMixed.eq_int_str (fin_bl I q (by simp))
    | _ => exact absurd (show false = true from hs) Bool.false_ne_true
  | str i =>
    obtain ⟨t, rfl⟩ := rx
    cases y with
    | non => cases ry; exact PySem.EqNone.eq_str_none (fin_bl I q (by simp))
    | bl j => cases ry; exact PySem.EqMixed.eq_str_bool (fin_bl I q (by simp))
    | int j => obtain ⟨t', rfl⟩ := ry; exact PySem.EqMixed.eq_str_int (fin_bl I q (by simp))
    | str j => obtain ⟨t', rfl⟩ := ry; exact eq_str (fin_bl I q dec_str)
    | _ => exact absurd (show false = true from hs) Bool.false_ne_true
  | byt i =>
    obtain ⟨t, rfl⟩ := rx
    cases y with
    | byt j => obtain ⟨t', rfl⟩ := ry; exact PySem.W.eq_bytes (fin_bl I q dec_byt)
    | _ => exact absurd (show false = true from hs) Bool.false_ne_true
  | _ => cases y <;> exact absurd (show false = true from hs) Bool.false_ne_true
theorem op_ne : OpR X (compareOp .NotEq) rNe := by
  intro pins s σ H x y v u Q I rx ry h
  obtain ⟨hs, q⟩ := h
  cases x with
  | non =>
    cases rx
    cases y with
    | non => cases ry; exact PySem.EqNone.ne_none_none (fin_bl I q (by simp))
    | bl j => cases ry; exact PySem.EqNone.ne_none_bool (fin_bl I q (by simp))
    | int j => obtain ⟨t', rfl⟩ := ry; exact PySem.EqNone.ne_none_int (fin_bl I q (by simp))
    | str j => obtain ⟨t', rfl⟩ := ry; exact PySem.EqNone.ne_none_str (fin_bl I q (by simp))
    | _ => exact absurd (show false = true from hs) Bool.false_ne_true
  | bl i =>
    cases rx
    cases y with
    | non => cases ry; exact PySem.EqNone.ne_bool_none (fin_bl I q (by simp))
    | bl j => cases ry; exact ne_bool (fin_bl I q (congrArg not dec_bl))
    | str j => obtain ⟨t', rfl⟩ := ry; exact PySem.EqMixed.ne_bool_str (fin_bl I q (by simp))
    | _ => exact absurd (show false = true from hs) Bool.false_ne_true
  | int i =>
    obtain ⟨t, rfl⟩ := rx
    cases y with
    | non => cases ry; exact PySem.EqNone.ne_int_none (fin_bl I q (by simp))
    | int j => obtain ⟨t', rfl⟩ := ry; exact ne_int (fin_bl I q (congrArg not dec_int))
    | str j => obtain ⟨t', rfl⟩ := ry; exact PySem.EqMixed.ne_int_str (fin_bl I q (by simp))
    | _ => exact absurd (show false = true from hs) Bool.false_ne_true
  | str i =>
    obtain ⟨t, rfl⟩ := rx
    cases y with
    | non => cases ry; exact PySem.EqNone.ne_str_none (fin_bl I q (by simp))
    | bl j => cases ry; exact PySem.EqMixed.ne_str_bool (fin_bl I q (by simp))
    | int j => obtain ⟨t', rfl⟩ := ry; exact PySem.EqMixed.ne_str_int (fin_bl I q (by simp))
    | str j => obtain ⟨t', rfl⟩ := ry; exact ne_str (fin_bl I q (congrArg not dec_str))
    | _ => exact absurd (show false = true from hs) Bool.false_ne_true
  | byt i =>
    obtain ⟨t, rfl⟩ := rx
    cases y with
    | byt j => obtain ⟨t', rfl⟩ := ry; exact PySem.W.ne_bytes (fin_bl I q (congrArg not dec_byt))
    | _ => exact absurd (show false = true from hs) Bool.false_ne_true
  | _ => cases y <;> exact absurd (show false = true from hs) Bool.false_ne_true
theorem op_lt : OpR X (compareOp .Lt) (rI0 fun i j => .bl (decide (i < j))) := opB0 fun _ _ _ _ _ _ _ q => lt_int q
theorem op_le : OpR X (compareOp .LtE) (rI0 fun i j => .bl (decide (i ≤ j))) := opB0 fun _ _ _ _ _ _ _ q => le_int q
theorem op_gt : OpR X (compareOp .Gt) (rI0 fun i j => .bl (decide (j < i))) := opB0 fun _ _ _ _ _ _ _ q => gt_int q
theorem op_ge : OpR X (compareOp .GtE) (rI0 fun i j => .bl (decide (j ≤ i))) := opB0 fun _ _ _ _ _ _ _ q => ge_int q
theorem op_lt_str : OpR X (compareOp .Lt) (fun x y H Q => ∃ i j, x = .str i ∧ y = .str j ∧ Q (.bl (decide (i.cps.toList < j.cps.toList))) H) := by
  intro pins s σ H x y v u Q I rx ry h
  obtain ⟨i, j, rfl, rfl, q⟩ := h
  obtain ⟨t, rfl⟩ := rx
  obtain ⟨t', rfl⟩ := ry
  exact lt_str (fin_bl I q rfl)
theorem op_in_str : OpR X (compareOp .In) (fun x y H Q => ∃ i j, x = .str i ∧ y = .str j ∧ Q (.bl (!(Builtin.Str.occurrences j i 0 j.length 1).isEmpty)) H) := by
  intro pins s σ H x y v u Q I rx ry h
  obtain ⟨i, j, rfl, rfl, q⟩ := h
  obtain ⟨t, rfl⟩ := rx
  obtain ⟨t', rfl⟩ := ry
  exact in_str (fin_bl I q rfl)
theorem op_isN : OpR X (compareOp .Is) (fun x y H Q => y = .non ∧ Q (.bl (decide (x = .non))) H) := by
  intro pins s σ H x y v u Q I rx ry h
  obtain ⟨rfl, q⟩ := h
  cases ry
  refine is_none_gen (fin_bl I q ?_)
  cases x <;> first
    | (cases rx; rfl)
    | (obtain ⟨t, rfl⟩ := rx; rfl)
theorem op_notN : OpR X (compareOp .IsNot) (fun x y H Q => y = .non ∧ Q (.bl (!decide (x = .non))) H) := by
  intro pins s σ H x y v u Q I rx ry h
  obtain ⟨rfl, q⟩ := h
  cases ry
  refine isnot_none_gen (fin_bl I q ?_)
  cases x <;> first
    | (cases rx; rfl)
    | (obtain ⟨t, rfl⟩ := rx; rfl)
theorem op_notin_str : OpR X (compareOp .NotIn) (fun x y H Q => ∃ i j, x = .str i ∧ y = .str j ∧ Q (.bl (!(!(Builtin.Str.occurrences j i 0 j.length 1).isEmpty))) H) := by
  intro pins s σ H x y v u Q I rx ry h
  obtain ⟨i, j, rfl, rfl, q⟩ := h
  obtain ⟨t, rfl⟩ := rx
  obtain ⟨t', rfl⟩ := ry
  exact notIn_str (fin_bl I q rfl)
def isObj : HO → Bool
  | .lst _ => true
  | .ins _ _ _ => true
  | _ => false
theorem obj_there {pins : List (Addr × Obj)} {s : Shared} {σ : St} {H : Hp} {a : Addr} {o : HO} (I : Inv X pins σ H s) (h : H a = some o) (p : isObj o = true) : ∃ ob, s.heap.get? a = some ob ∧ ob.cls ≠ .type "tuple" := by
  cases o with
  | lst xs =>
    obtain ⟨_, its, n, _, e⟩ : xs.length ≤ sizeLine ∧ ∃ (its : List Value) (n : Nat), Vals xs its ∧ s.heap.get? a = some { cls := .type "list", data := .seq its.toArray n } := I.hok a _ h
    exact ⟨_, e, (by show Value.type "list" ≠ .type "tuple"; decide +kernel)⟩
  | ins C dx fs =>
    have x := I.hok a _ h
    obtain ⟨_, _, _, e, _⟩ := x
    exact ⟨_, e, (by show Value.ref C ≠ .type "tuple"; exact fun z => by cases z)⟩
  | _ => exact absurd (show false = true from p) Bool.false_ne_true
theorem op_is_ref : OpR X (compareOp .Is) (fun x y H Q => ∃ a b oa ob, x = .ref a ∧ y = .ref b ∧ H a = some oa ∧ isObj oa = true ∧ H b = some ob ∧ isObj ob = true ∧ Q (.bl (decide (a = b))) H) := by
  intro pins s σ H x y v u Q I rx ry h
  obtain ⟨a, b, oa, ob, rfl, rfl, ha, pa, hb, pb, q⟩ := h
  cases rx
  cases ry
  obtain ⟨o1, e1, n1⟩ := obj_there I ha pa
  obtain ⟨o2, e2, _⟩ := obj_there I hb pb
  by_cases z : a = b
  · subst z
    exact wpAny_is_ref_self (fin_bl I q (by simp))
  · exact wpAny_is_ref_other z e1 e2 n1 (fin_bl I q (by simp [z]))
theorem op_isnot_ref : OpR X (compareOp .IsNot) (fun x y H Q => ∃ a b oa ob, x = .ref a ∧ y = .ref b ∧ H a = some oa ∧ isObj oa = true ∧ H b = some ob ∧ isObj ob = true ∧ Q (.bl (!decide (a = b))) H) := by
  intro pins s σ H x y v u Q I rx ry h
  obtain ⟨a, b, oa, ob, rfl, rfl, ha, pa, hb, pb, q⟩ := h
  cases rx
  cases ry
  obtain ⟨o1, e1, n1⟩ := obj_there I ha pa
  obtain ⟨o2, e2, _⟩ := obj_there I hb pb
  by_cases z : a = b
  · subst z
    exact wpAny_isNot_ref_self (fin_bl I q (by simp))
  · exact wpAny_isNot_ref_other z e1 e2 n1 (fin_bl I q (by simp [z]))
theorem OpR.or {f : Value → Value → Sem Value} {r r' : R2} (h : OpR X f r) (h' : OpR X f r') : OpR X f (fun x y H Q => r x y H Q ∨ r' x y H Q) := by
  intro pins s σ H x y v u Q I rx ry q
  rcases q with q | q
  · exact h pins s σ H x y v u Q I rx ry q
  · exact h' pins s σ H x y v u Q I rx ry q
theorem nomark (b : Expr) {op : CmpOp} (h : op ≠ .In := by decide) (h2 : op ≠ .NotIn := by decide) : behindInMarks op b = false := by
  have e1 : (op == CmpOp.In) = false := by cases op <;> first | rfl | exact absurd rfl h
  have e2 : (op == CmpOp.NotIn) = false := by cases op <;> first | rfl | exact absurd rfl h2
  cases b <;> simp [behindInMarks, e1, e2]
theorem pe_cmpR {op : CmpOp} {r : R2} (ho : OpR X (compareOp op) r) (ha : PE X a ta) (hb : PE X b tb) (hm : behindInMarks op b = false) : PE X (.Compare a [op] [b] pos) (tOp r ta tb) := by
  intro pins s σ H Q I h
  exact wpAny_Compare1 (binT ha hb I h fun v u s2 x y H2 I2 rx ry q => ho pins s2 σ H2 x y v u Q I2 rx ry q) hm
def tTest (t : TE) : TT := fun σ H Q => t σ H fun x H' => ∃ k, x = .bl k ∧ Q k H'
theorem pt_cmpR {op : CmpOp} {r : R2} (ho : OpR X (compareOp op) r) (ha : PE X a ta) (hb : PE X b tb) (hm : behindInMarks op b = false) : PT X (.Compare a [op] [b] pos) (tTest (tOp r ta tb)) := by
  intro pins s σ H Q I h
  refine wpAny_isTrue_Compare1 (thn (ha pins s σ H _ I h) fun v s1 ⟨x, H1, I1, r1, q1⟩ => thn (hb pins s1 σ H1 _ I1 q1) fun u s2 ⟨y, H2, I2, r2, q2⟩ =>
    thn (ho pins s2 σ H2 x y v u _ I2 r1 r2 q2) fun c s3 ⟨z, H3, I3, r3, k, e, q3⟩ => ?_) hm
  subst e
  cases r3
  exact wpAny_truthy_bool ⟨H3, I3, q3⟩
def tChain (r r' : R2) (ta tb tc : TE) : TE := fun σ H Q => ta σ H fun x H1 => tb σ H1 fun y H2 => r x y H2 fun z H3 => ∃ k, z = .bl k ∧
  (if k = true then tc σ H3 fun w' H4 => r' y w' H4 Q else Q (.bl false) H3)
theorem pe_chain {op op' : CmpOp} {r r' : R2} (ho : OpR X (compareOp op) r) (ho' : OpR X (compareOp op') r') (ha : PE X a ta) (hb : PE X b tb) (hc : PE X c tc)
    (hm : lastMarks [op, op'] [b, c] = false := by with_unfolding_all rfl) : PE X (.Compare a [op, op'] [b, c] pos) (tChain r r' ta tb tc) := by
  intro pins s σ H Q I h
  refine Compare_chain (thn (ha pins s σ H _ I h) fun v s1 ⟨x, H1, I1, r1, q1⟩ => chain_link (thn (hb pins s1 σ H1 _ I1 q1) fun u s2 ⟨y, H2, I2, r2, q2⟩ =>
    thn (ho pins s2 σ H2 x y v u _ I2 r1 r2 q2) fun d s3 ⟨z, H3, I3, r3, k, e, q3⟩ => ?_)) hm
  subst e
  cases r3
  refine wpAny_truthy_bool ?_
  cases k with
  | false => exact ite_ff ⟨.bl false, H3, I3, rfl, q3⟩
  | true => exact ite_tt (chain_last (thn (hc pins s3 σ H3 _ I3 q3) fun w' s4 ⟨z', H4, I4, r4, q4⟩ => ho' pins s4 σ H4 y z' u w' Q I4 r2 r4 q4))
theorem pt_chain {op op' : CmpOp} {r r' : R2} (ho : OpR X (compareOp op) r) (ho' : OpR X (compareOp op') r') (ha : PE X a ta) (hb : PE X b tb) (hc : PE X c tc)
    (hm : lastMarks [op, op'] [b, c] = false := by with_unfolding_all rfl) : PT X (.Compare a [op, op'] [b, c] pos) (tTest (tChain r r' ta tb tc)) := by
  intro pins s σ H Q I h
  refine isTrue_chain (thn (ha pins s σ H _ I h) fun v s1 ⟨x, H1, I1, r1, q1⟩ => test_link (thn (hb pins s1 σ H1 _ I1 q1) fun u s2 ⟨y, H2, I2, r2, q2⟩ =>
    thn (ho pins s2 σ H2 x y v u _ I2 r1 r2 q2) fun d s3 ⟨z, H3, I3, r3, k, e, q3⟩ => ?_)) hm
  subst e
  cases r3
  refine wpAny_truthy_bool ?_
  cases k with
  | false =>
    obtain ⟨k', e', q'⟩ := q3
    cases e'
    exact ite_ff ⟨H3, I3, q'⟩
  | true =>
    refine ite_tt (test_last (thn (hc pins s3 σ H3 _ I3 q3) fun w' s4 ⟨z', H4, I4, r4, q4⟩ => thn (ho' pins s4 σ H4 y z' u w' _ I4 r2 r4 q4) fun d' s5 ⟨z2, H5, I5, r5, k2, e2, q5⟩ => ?_))
    subst e2
    cases r5
    exact wpAny_truthy_bool ⟨H5, I5, q5⟩
def TruV (K : PySem.W.Frag) (x : V) (H : Hp) (k : Bool) : Prop :=
  match x with
  | .non => k = false
  | .bl b => k = b
  | .int i => k = (i != 0)
  | .str y => y.length ≤ sizeLine ∧ k = ((y.length : Int) != 0)
  | .byt y => y.size ≤ sizeLine ∧ k = ((y.size : Int) != 0)
  | .ref p => (∃ xs, SqL K H p xs ∧ k = !xs.isEmpty) ∨ (∃ xs, SqT K H p xs ∧ k = !xs.isEmpty) ∨ ∃ kvs, H p = some (.dK kvs) ∧ k = !kvs.isEmpty
  | _ => False
theorem isEmpty_kv {κ : Type} {kvs : List (κ × V)} {vs : List (κ × Value)} (r : KV kvs vs) : (!vs.isEmpty) = !kvs.isEmpty := by
  cases r <;> rfl
theorem isEmpty_of {xs : List V} {its : List Value} (r : Vals xs its) : (!its.toArray.isEmpty) = !xs.isEmpty := by
  cases r <;> simp
theorem line63 : (sizeLine : Nat) < 2 ^ 63 := by rw [sizeLine_eq]; decide
theorem tru_ok : TruR X (fun x H Q => ∃ k, TruV X.K x H k ∧ Q k H) := by
  intro pins s σ H x v Q I rx h
  obtain ⟨k, e, q⟩ := h
  have hl := line63
  have hs : sizeLine = 16777216 := sizeLine_eq
  cases x with
  | non =>
    cases rx
    have e' : k = false := e
    subst e'
    exact truthy_none ⟨H, I, q⟩
  | bl b =>
    cases rx
    have e' : k = b := e
    subst e'
    exact wpAny_truthy_bool ⟨H, I, q⟩
  | int i =>
    obtain ⟨t, rfl⟩ := rx
    have e' : k = (i != 0) := e
    subst e'
    exact PySem.P.truthy_int ⟨H, I, q⟩
  | str y =>
    obtain ⟨t, rfl⟩ := rx
    obtain ⟨hy, e'⟩ : y.length ≤ sizeLine ∧ k = ((y.length : Int) != 0) := e
    subst e'
    exact PySem.P.truthy_str (by omega) ⟨H, I.tok _, q⟩
  | byt y =>
    obtain ⟨t, rfl⟩ := rx
    obtain ⟨hy, e'⟩ : y.size ≤ sizeLine ∧ k = ((y.size : Int) != 0) := e
    subst e'
    exact PySem.W.truthy_bytes (by omega) ⟨H, I.tok _, q⟩
  | ref p =>
    cases rx
    have e' : (∃ xs, SqL X.K H p xs ∧ k = !xs.isEmpty) ∨ (∃ xs, SqT X.K H p xs ∧ k = !xs.isEmpty) ∨ ∃ kvs, H p = some (.dK kvs) ∧ k = !kvs.isEmpty := e
    rcases e' with ⟨xs, hx, e'⟩ | ⟨xs, hx, e'⟩ | ⟨kvs, hx, e'⟩
    · subst e'
      obtain ⟨its, r, pl, hz⟩ := I.list hx
      have hlen := r.length
      exact wpAny_truthy_list pl.isList (by simp only [List.size_toArray]; omega) ⟨H, I.tok _, by rw [isEmpty_of r]; exact q⟩
    · subst e'
      obtain ⟨its, r, pl, hz⟩ := I.tuple hx
      have hlen := r.length
      exact truthy_tuple pl (by simp only [List.size_toArray]; omega) ⟨H, I.tok _, by rw [isEmpty_of r]; exact q⟩
    · subst e'
      obtain ⟨hz, hS, vs, r, m⟩ : kvs.length ≤ sizeLine ∧ (p == sysModules) = false ∧ ∃ vs, KV kvs vs ∧ s.heap.DictOf (mixKind X.prog X.w) p vs := I.hok p _ hx
      have hlen : kvs.length = vs.length := Paired.length r
      exact wpAny_truthy_dict hS m (by omega) ⟨H, I.tok _, by rw [isEmpty_kv r]; exact q⟩
  | _ => exact (show False from e).elim
theorem pt_truth (ha : PE X a ta) (he : ∀ whole, isTrue a X.env whole = (do let v ← whole; standAt a.pos; holding [v] (truthy v))) :
    PT X a (fun σ H Q => ta σ H fun x H' => ∃ k, TruV X.K x H' k ∧ Q k H') := by
  intro pins s σ H Q I h
  exact isTrue_plain (thn (ha pins s σ H _ I h) fun v s1 ⟨x, H1, I1, r1, q1⟩ => tru_ok pins s1 σ H1 x v Q I1 r1 q1) (he _)
theorem pe_byt {x : List UInt8} {k : Nat} : PE X (.Constant (.bytes x) k pos) (fun _ H Q => Q (.byt x.toArray) H) := fun _ _ _ H _ I h => PySem.W.Constant_bytes ⟨.byt x.toArray, H, I.tok _, ⟨_, rfl⟩, h⟩
theorem op_add_str : OpR X (binaryOp .Add) (fun x y H Q => ∃ i j, x = .str i ∧ y = .str j ∧ i.length + j.length ≤ sizeLine ∧ Q (.str (i ++ j)) H) := by
  intro pins s σ H x y v u Q I rx ry h
  obtain ⟨i, j, rfl, rfl, hz, q⟩ := h
  obtain ⟨t, rfl⟩ := rx
  obtain ⟨t', rfl⟩ := ry
  exact add_str (fun t' tk => ⟨.str (i ++ j), H, I.tok _, ⟨_, rfl⟩, q⟩) hz
theorem iop_add_str : OpR X (inplaceOp .Add) (fun x y H Q => ∃ i j, x = .str i ∧ y = .str j ∧ i.length + j.length ≤ sizeLine ∧ Q (.str (i ++ j)) H) := by
  intro pins s σ H x y v u Q I rx ry h
  obtain ⟨i, j, rfl, rfl, hz, q⟩ := h
  obtain ⟨t, rfl⟩ := rx
  obtain ⟨t', rfl⟩ := ry
  exact iadd_str (fun t' tk => ⟨.str (i ++ j), H, I.tok _, ⟨_, rfl⟩, q⟩) hz
theorem op_add_byt : OpR X (binaryOp .Add) (fun x y H Q => ∃ i j, x = .byt i ∧ y = .byt j ∧ i.size + j.size ≤ 16777216 ∧ Q (.byt (i ++ j)) H) := by
  intro pins s σ H x y v u Q I rx ry h
  obtain ⟨i, j, rfl, rfl, hz, q⟩ := h
  obtain ⟨t, rfl⟩ := rx
  obtain ⟨t', rfl⟩ := ry
  exact PySem.W.KBy.add_bytes hz (fun t' tk => ⟨.byt (i ++ j), H, I.tok _, ⟨_, rfl⟩, q⟩)
def PlainIxT (b : Expr) : Prop := ∀ o i, subscripted b false o i = operate [o, i] (getItem o i)
theorem pe_item_str (ha : PE X a ta) (hb : PE X b tb) (hs : PlainIxT b) :
    PE X (.Subscript a b pos) (tOp (fun x y H Q => ∃ z i c, x = .str z ∧ y = .int i ∧ 0 ≤ i ∧ i < 2 ^ 63 ∧ i < z.length ∧ z.cps[i.toNat]? = some c ∧ Q (.str ⟨#[c]⟩) H) ta tb) := by
  intro pins s σ H Q I h
  refine Subscript_ (binT ha hb I h fun v u s2 x y H2 I2 rx ry q => ?_)
  obtain ⟨z, i, c, rfl, rfl, h0, h63, h1, hc, q⟩ := q
  obtain ⟨t, rfl⟩ := rx
  obtain ⟨t', rfl⟩ := ry
  have e : seqIndex? i z.length = some i.toNat := PySem.StrLaws.seqIndex_nonneg h0 h1
  exact tail_any (typeIs_str s2 z t) slot_str_getitem.lookup (getItem_str (c := c) (by
    have e1 : decide (i < -(2 ^ 63 : Int)) = false := decide_eq_false (by omega)
    have e2 : decide (i ≥ 2 ^ 63) = false := decide_eq_false (by omega)
    rw [e1, e2] <;> rfl) (by rw [e]; exact hc) ⟨.str ⟨#[c]⟩, H2, I2.tok _, ⟨_, rfl⟩, q⟩) (hs _ _)
theorem pe_item_byt (ha : PE X a ta) (hb : PE X b tb) (hs : PlainIxT b) :
    PE X (.Subscript a b pos) (tOp (fun x y H Q => ∃ (z : List UInt8) (i : Int), x = .byt z.toArray ∧ y = .int i ∧ z.length ≤ sizeLine ∧ 0 ≤ i ∧ i < z.length ∧ Q (.int ((z.getD i.toNat 0).toNat : Nat)) H) ta tb) := by
  intro pins s σ H Q I h
  refine Subscript_ (binT ha hb I h fun v u s2 x y H2 I2 rx ry q => ?_)
  obtain ⟨z, i, rfl, rfl, hz, h0, h1, q⟩ := q
  obtain ⟨t, rfl⟩ := rx
  obtain ⟨t', rfl⟩ := ry
  have hl : sizeLine = 16777216 := sizeLine_eq
  exact tail_any (PySem.W.typeIs_bytes s2 z.toArray t) PySem.W.FB.slot_bytes_getitem.lookup (PySem.W.getItem_bytes (by omega) h0 h1 ⟨.int ((z.getD i.toNat 0).toNat : Nat), H2, I2.tok _, ⟨_, rfl⟩, q⟩) (hs _ _)
theorem vals1 {x : V} {us : List Value} (r : Vals [x] us) : ∃ u, us = [u] ∧ RelV x u := by
  cases r with
  | cons r1 r2 => cases r2; exact ⟨_, rfl, r1⟩
theorem vals2 {x y : V} {us : List Value} (r : Vals [x, y] us) : ∃ u w', us = [u, w'] ∧ RelV x u ∧ RelV y w' := by
  cases r with
  | cons r1 r2 =>
    cases r2 with
    | cons r3 r4 => cases r4; exact ⟨_, _, rfl, r1, r3⟩
theorem call_abs : CallR X (.builtin "abs") (fun xs H Q => ∃ i, xs = [.int i] ∧ Q (.int (if i < 0 then -i else i)) H) := by
  intro pins s σ H xs us Q I r h
  obtain ⟨i, rfl, q⟩ := h
  obtain ⟨u, rfl, t, rfl⟩ := vals1 r
  exact call_abs_int fun u tk => ⟨.int (if i < 0 then -i else i), H, I.tok _, ⟨_, rfl⟩, q⟩
theorem call_max2 (hc : X.calm = true) : CallR X (.builtin "max") (fun xs H Q => ∃ i j, xs = [.int i, .int j] ∧ Q (.int (if j > i then j else i)) H) := by
  intro pins s σ H xs us Q I r h
  obtain ⟨i, j, rfl, q⟩ := h
  obtain ⟨u, w', rfl, ⟨t, rfl⟩, ⟨t', rfl⟩⟩ := vals2 r
  refine max_two_ints (I.ok.hd hc) fun h' tk k => ⟨_, H, I.kept k, ?_, q⟩
  by_cases hj : j > i
  · rw [if_pos hj, if_pos hj]; exact ⟨_, rfl⟩
  · rw [if_neg hj, if_neg hj]; exact ⟨_, rfl⟩
theorem call_min2 (hc : X.calm = true) : CallR X (.builtin "min") (fun xs H Q => ∃ i j, xs = [.int i, .int j] ∧ Q (.int (if j < i then j else i)) H) := by
  intro pins s σ H xs us Q I r h
  obtain ⟨i, j, rfl, q⟩ := h
  obtain ⟨u, w', rfl, ⟨t, rfl⟩, ⟨t', rfl⟩⟩ := vals2 r
  refine min_two_ints (I.ok.hd hc) fun h' tk k => ⟨_, H, I.kept k, ?_, q⟩
  by_cases hj : j < i
  · rw [if_pos hj, if_pos hj]; exact ⟨_, rfl⟩
  · rw [if_neg hj, if_neg hj]; exact ⟨_, rfl⟩
theorem call_int1 : CallR X (.type "int") (fun xs H Q => (∃ i, xs = [.int i] ∧ Q (.int i) H) ∨ ∃ k, xs = [.bl k] ∧ Q (.int (if k then 1 else 0)) H) := by
  intro pins s σ H xs us Q I r h
  rcases h with ⟨i, rfl, q⟩ | ⟨k, rfl, q⟩
  · obtain ⟨u, rfl, t, rfl⟩ := vals1 r
    exact call_int_int ⟨.int i, H, I, ⟨_, rfl⟩, q⟩
  · obtain ⟨u, rfl, r1⟩ := vals1 r
    cases r1
    exact call_int_bool ⟨.int (if k then 1 else 0), H, I.tok _, ⟨_, rfl⟩, q⟩
theorem call_bool1 : CallR X (.type "bool") (fun xs H Q => (∃ i, xs = [.int i] ∧ Q (.bl (i != 0)) H) ∨ ∃ k, xs = [.bl k] ∧ Q (.bl k) H) := by
  intro pins s σ H xs us Q I r h
  rcases h with ⟨i, rfl, q⟩ | ⟨k, rfl, q⟩
  · obtain ⟨u, rfl, t, rfl⟩ := vals1 r
    exact call_bool_int ⟨.bl (i != 0), H, I, rfl, q⟩
  · obtain ⟨u, rfl, r1⟩ := vals1 r
    cases r1
    exact call_bool_bool ⟨.bl k, H, I, rfl, q⟩
theorem call_str_int : CallR X (.type "str") (fun xs H Q => ∃ i, xs = [.int i] ∧ i.natAbs.log2 < 1920 ∧ Q (.str (toString i)) H) := by
  intro pins s σ H xs us Q I r h
  obtain ⟨i, rfl, hz, q⟩ := h
  obtain ⟨u, rfl, t, rfl⟩ := vals1 r
  exact PySem.P.str_of_int hz ⟨.str _, H, I.tok _, ⟨_, rfl⟩, q⟩
theorem call_ord : CallR X (.builtin "ord") (fun xs H Q => ∃ x, xs = [.str x] ∧ x.length = 1 ∧ Q (.int (x.cps.getD 0 0 : Nat)) H) := by
  intro pins s σ H xs us Q I r h
  obtain ⟨x, rfl, hz, q⟩ := h
  obtain ⟨u, rfl, t, rfl⟩ := vals1 r
  exact ord_of_one hz ⟨.int _, H, I.tok _, ⟨_, rfl⟩, q⟩
theorem call_chr : CallR X (.builtin "chr") (fun xs H Q => ∃ i, xs = [.int i] ∧ 0 ≤ i ∧ i ≤ 1114111 ∧ Q (.str ⟨#[i.toNat]⟩) H) := by
  intro pins s σ H xs us Q I r h
  obtain ⟨i, rfl, h0, h1, q⟩ := h
  obtain ⟨u, rfl, t, rfl⟩ := vals1 r
  exact chr_of_range h0 h1 ⟨.str _, H, I.tok _, ⟨_, rfl⟩, q⟩
def LenV (K : PySem.W.Frag) (x : V) (H : Hp) (n : Nat) : Prop :=
  match x with
  | .str y => y.length ≤ sizeLine ∧ n = y.length
  | .byt y => y.size ≤ sizeLine ∧ n = y.size
  | .ref p => (∃ xs, SqL K H p xs ∧ n = xs.length) ∨ ∃ xs, SqT K H p xs ∧ n = xs.length
  | _ => False
theorem call_len : CallR X (.builtin "len") (fun xs H Q => ∃ x n, xs = [x] ∧ LenV X.K x H n ∧ Q (.int n) H) := by
  intro pins s σ H xs us Q I r h
  obtain ⟨x, n, rfl, e, q⟩ := h
  obtain ⟨u, rfl, rx⟩ := vals1 r
  have hl := line63
  have hs : sizeLine = 16777216 := sizeLine_eq
  cases x with
  | str y =>
    obtain ⟨t, rfl⟩ := rx
    obtain ⟨hy, e'⟩ : y.length ≤ sizeLine ∧ n = y.length := e
    subst e'
    exact len_str (by omega) ⟨.int _, H, I.tok _, ⟨_, rfl⟩, q⟩
  | byt y =>
    obtain ⟨t, rfl⟩ := rx
    obtain ⟨hy, e'⟩ : y.size ≤ sizeLine ∧ n = y.size := e
    subst e'
    exact PySem.W.len_bytes (by omega) ⟨.int _, H, I.tok _, ⟨_, rfl⟩, q⟩
  | ref p =>
    cases rx
    have e' : (∃ xs, SqL X.K H p xs ∧ n = xs.length) ∨ ∃ xs, SqT X.K H p xs ∧ n = xs.length := e
    rcases e' with ⟨xs, hx, e'⟩ | ⟨xs, hx, e'⟩
    · subst e'
      obtain ⟨its, r', pl, hz⟩ := I.list hx
      have hlen := r'.length
      exact Calls.call_len_list pl.isList (by simp only [List.size_toArray]; omega) ⟨.int xs.length, H, I.tok _, ⟨_, by simp only [List.size_toArray]; rw [hlen]⟩, q⟩
    · subst e'
      obtain ⟨its, r', pl, hz⟩ := I.tuple hx
      have hlen := r'.length
      exact len_tuple pl (by simp only [List.size_toArray]; omega) ⟨.int xs.length, H, I.tok _, ⟨_, by simp only [List.size_toArray]; rw [hlen]⟩, q⟩
  | _ => exact (show False from e).elim
theorem call_divmod : CallR X (.builtin "divmod") (fun xs H Q => ∃ i j, xs = [.int i, .int j] ∧ CDiv i j ∧ ∀ p, H p = none → Q (.ref p) (upd H p (.tup [.int (i / j), .int (i % j)]))) := by
  intro pins s σ H xs us Q I r h
  obtain ⟨i, j, rfl, ⟨h1, h2⟩, q⟩ := h
  obtain ⟨u, w', rfl, ⟨t, rfl⟩, ⟨t', rfl⟩⟩ := vals2 r
  refine divmod_int (by omega) ?_ (.inl (PyProof.noPylong_small (by omega)))
  rw [Int.fdiv_eq_ediv_of_nonneg i (by omega), Int.fmod_eq_emod_of_nonneg i (by omega)]
  have hn : H s.heap.objs.size = none := I.hok.fresh (Nat.le_refl _)
  refine ⟨.ref s.heap.objs.size, _, ?_, rfl, q _ hn⟩
  refine I.laid (fun b o e => Heap.get?_push_of_some _ e) (Nat.le_refl _) ⟨by simp only [List.length_cons, List.length_nil]; rw [sizeLine_eq]; decide, [.int (i / j) s.toks, .int (i % j) (s.toks + 1)], .cons ⟨_, rfl⟩ (.cons ⟨_, rfl⟩ .nil), ?_⟩
  exact ⟨_, Heap.get?_push_size s.heap rfl, rfl, 0, rfl⟩
end
end L2
namespace L2
open PySem PySem.Spec PyProof.Rows
structure ObjM (h : Heap) (x dx C : Addr) (mA : Str → Option Value) : Prop where
  obj : h.get? x = some (PySem.W.instObj C dx)
  ns : h.Ns1 dx mA
  ne : dx ≠ x
theorem lookIn_ns {h : Heap} {dx : Addr} {mA : Str → Option Value} (n : h.Ns1 dx mA) : ∃ od, h.get? dx = some od ∧ ∀ name, PySem.W.lookIn name od = some (mA name) := by
  obtain ⟨o, es, ep, ho, hd, hk, _, hm⟩ := n
  refine ⟨o, ho, fun name => ?_⟩
  have e := hm name
  unfold nsFind findBy at e
  rw [← Array.find?_toList] at e
  unfold PySem.W.lookIn
  rw [hd]
  dsimp only
  split
  · rename_i y q
    rw [q] at e
    exact congrArg some e
  · rename_i q
    rw [q] at e
    have a : es.toList.any (·.refKey) = false := by
      rw [List.any_eq_false]
      intro y hy
      obtain ⟨z, t, hkey⟩ := hk y (Array.mem_toList_iff.mp hy)
      simp [DictEntry.refKey, hkey]
    have a' : ¬ es.toList.any (·.refKey) = true := by rw [a]; exact Bool.false_ne_true
    rw [if_neg a']
    exact congrArg some e
theorem ObjM.look {h : Heap} {x dx C : Addr} {mA : Str → Option Value} (I : ObjM h x dx C mA) : ∃ od, PySem.W.InstAt h x (PySem.W.instObj C dx) C (some od) ∧ ∀ name, PySem.W.lookIn name od = some (mA name) :=
  let ⟨od, ho, hl⟩ := lookIn_ns I.ns
  ⟨od, ⟨I.obj, rfl, rfl, ho⟩, hl⟩
section
variable {prog : Program} {w : World} {A : Around} {E : Value → Shared → Prop} {s : Shared} {K : PySem.W.Frag} {x dx C f : Addr} {mA : Str → Option Value} {name : Str} {v : Value}
theorem get_map {expr : Bool} {Q : Value → Shared → Prop} (X : K.In s.heap) (I : ObjM s.heap x dx C mA) (hg : PySem.W.plainGet K C name = true) (hh : PySem.W.hasDictIn K C = true)
    (ha : PySem.W.findIn K (.ref C) name = some none) (hv : mA name = some v) (hv' : PySem.W.handedIn v = true) (h : Q v { s with toks := s.toks + 1 }) :
    wpAny (model prog w) A (getAttr (.ref x) name expr) Q E s := by
  obtain ⟨od, J, hl⟩ := I.look
  exact PySem.W.get_value X J (PySem.W.plainGet_of hg).1 (PySem.W.findObj_own hh ha rfl (by rw [hl, hv])) hv' h
theorem get_const {expr : Bool} {a : Value} {Q : Value → Shared → Prop} (X : K.In s.heap) (I : ObjM s.heap x dx C mA) (hg : PySem.W.plainGet K C name = true) (hh : PySem.W.hasDictIn K C = true)
    (ha : PySem.W.findIn K (.ref C) name = some (some a)) (hn : PySem.W.specialIn K a "__get__" = some none) (hc : PySem.W.copiedNames.contains name = false) (hv : mA name = none) (hv' : PySem.W.handedIn a = true)
    (h : Q a { s with toks := s.toks + 1 }) : wpAny (model prog w) A (getAttr (.ref x) name expr) Q E s := by
  obtain ⟨od, J, hl⟩ := I.look
  exact PySem.W.get_value X J (PySem.W.plainGet_of hg).1 (PySem.W.findObj_cls hh ha hn hv' hc (by rw [hl, hv])) hv' h
theorem get_meth {pl : Sem Bool} {Q : Value × List Value → Shared → Prop} (X : K.In s.heap) (I : ObjM s.heap x dx C mA) (hg : PySem.W.plainGet K C name = true)
    (hf : PySem.W.findIn K (.ref C) name = some (some (.ref f))) (ht : PySem.W.isFn K (.ref f) = true) (hv : mA name = none) (h : Q (.ref f, [.ref x]) s) :
    wpAny (model prog w) A (getMethod (.ref x) name pl) Q E s := by
  obtain ⟨od, J, hl⟩ := I.look
  exact PySem.W.method_fn X J (PySem.W.plainGet_of hg).1 (PySem.W.plainGet_of hg).2 hf (beq_iff_eq.mp ht) (by show (PySem.W.lookIn name od).map (·.isSome) = some false; rw [hl, hv]; rfl) h
theorem set_map {ns : List Str} {Q : Unit → Shared → Prop} (X : K.In s.heap) (I : ObjM s.heap x dx C mA)
    (hs : PySem.W.findIn K (.ref C) "__setattr__" = some (some (.builtin "object.__setattr__"))) (hp : PySem.W.plainOver K C = true) (ht : PySem.W.takerIn K C name = some none) (hh : PySem.W.hasDictIn K C = true)
    (hw : PySem.Within mA ns) (hsz : ns.length ≤ sizeLine)
    (h : ∀ h', ObjM h' x dx C (fun y => if y = name then some v else mA y) → Heap.SameBut dx s.heap h' → Q () { s with heap := h', toks := s.toks + 2 }) :
    wpAny (model prog w) A (setAttr (.ref x) name v) Q E s := by
  obtain ⟨od, J, hl⟩ := I.look
  refine PySem.W.set_plain X J hs (PySem.W.osa_open (s := { s with toks := s.toks + 1 }) (r := none) X J hp ht fun b => ?_)
  obtain ⟨cd, hc, hd'⟩ := PySem.W.any_some hh
  have hx : s.heap.get? x = some ⟨.ref C, some dx, .plain, #[]⟩ := I.obj
  refine wpAny_bind (wpAny_pure (wpAny_bind (wpAny_bind (wpAny_loadPart hx (wpAny_bind (PySem.W.Looks.here (s := { s with toks := s.toks + 1 }) (PySem.W.looks_clsIn X hc) ?_))))))
  rw [hd']
  refine wpAny_pure (a := some dx) (wpAny_bind (wpAny_pure (wpAny_bind ?_)))
  refine wpAny_nsSet1 (s := { s with toks := s.toks + 1 }) I.ns fun h' hn2 hs2 => ?_
  obtain ⟨oD, esD, epD, hoD, hdD, hcD⟩ := hn2.count (PySem.Within.cons name v hw)
  refine wpAny_bind (wpAny_lookBehind hoD (by rw [hdD]; exact pastItsLine_dict (Nat.le_trans hcD (by rw [List.length_cons]; omega))) ?_)
  exact wpAny_pure (h _ ⟨(hs2.2 _ (Ne.symm I.ne)).trans I.obj, hn2, I.ne⟩ hs2)
theorem make_map {R : Result → Shared → Prop} {vs : List Value} {kw : List (Str × Value)} (X : K.In s.heap) (hm : PySem.W.makesIn K C = true)
    (hi : PySem.W.findIn K (.ref C) "__init__" = some (some (.ref f))) (hf : PySem.W.typeIn K (.ref f) = some (.type "function"))
    (h : codeAny (model prog w) (A.under (.builtin "type.__call__" ⟨.ref C :: vs, kw⟩)) (.call (.ref f) ⟨.ref (s.heap.objs.size + 1) :: vs, kw⟩) (PySem.W.InitBack (s.heap.objs.size + 1) R)
      { s with heap := (s.heap.push PySem.W.emptyDict).push (PySem.W.instObj C s.heap.objs.size) }) :
    codeAny (model prog w) A (.call (.ref C) ⟨vs, kw⟩) R s := by
  obtain ⟨hh, g, d, t, os⟩ := s
  exact PySem.W.make_core (PySem.W.makes_of X hm) (PySem.W.looks_findIn X hi) (fun self => PySem.W.bind_fn X self hf) (.inl rfl) h
theorem make_map0 {R : Result → Shared → Prop} (X : K.In s.heap) (hm : PySem.W.makesIn K C = true)
    (hi : PySem.W.findIn K (.ref C) "__init__" = some (some (.builtin "object.__init__")))
    (hb : ∀ self, PySem.W.Looks (model prog w) s.heap (bindSpecial (.builtin "object.__init__") self) (.builtin "object.__init__", [self]))
    (h : codeAny (model prog w) (A.under (.builtin "type.__call__" ⟨[.ref C], []⟩)) (.call (.builtin "object.__init__") ⟨[.ref (s.heap.objs.size + 1)], []⟩) (PySem.W.InitBack (s.heap.objs.size + 1) R)
      { s with heap := (s.heap.push PySem.W.emptyDict).push (PySem.W.instObj C s.heap.objs.size) }) :
    codeAny (model prog w) A (.call (.ref C) ⟨[], []⟩) R s := by
  obtain ⟨hh, g, d, t, os⟩ := s
  exact PySem.W.make_core (PySem.W.makes_of X hm) (PySem.W.looks_findIn X hi) hb (.inr ⟨rfl, rfl⟩) h
end
def putF (f : Str) (v : V) : List (Str × V) → List (Str × V)
  | [] => [(f, v)]
  | (g, x) :: r => if g = f then (g, v) :: r else (g, x) :: putF f v r
theorem lookup_putF (f g : Str) (v : V) : ∀ fs : List (Str × V), (putF f v fs).lookup g = if g = f then some v else fs.lookup g
  | [] => by
    show List.lookup g [(f, v)] = _
    by_cases h : g = f
    · have hb : (g == f) = true := beq_iff_eq.mpr h
      simp only [List.lookup, hb, if_pos h]
    · have hb : (g == f) = false := beq_eq_false_iff_ne.mpr h
      simp only [List.lookup, hb, if_neg h]
  | (k, x) :: r => by
    have ih := lookup_putF f g v r
    rw [show putF f v ((k, x) :: r) = (if k = f then (k, v) :: r else (k, x) :: putF f v r) from rfl]
    by_cases hk : k = f
    · rw [if_pos hk]
      by_cases h : g = k
      · have hb : (g == k) = true := beq_iff_eq.mpr h
        simp only [List.lookup, hb, if_pos (h.trans hk)]
      · have hb : (g == k) = false := beq_eq_false_iff_ne.mpr h
        simp only [List.lookup, hb, if_neg (fun e : g = f => h (e.trans hk.symm))]
    · rw [if_neg hk]
      by_cases h : g = k
      · have hb : (g == k) = true := beq_iff_eq.mpr h
        simp only [List.lookup, hb, if_neg (fun e : g = f => hk (h.symm.trans e))]
      · have hb : (g == k) = false := beq_eq_false_iff_ne.mpr h
        simp only [List.lookup, hb]
        exact ih
theorem keys_putF (f : Str) (v : V) : ∀ fs : List (Str × V), f ∈ (putF f v fs).map (·.1) ∧ ∀ g, g ∈ fs.map (·.1) → g ∈ (putF f v fs).map (·.1)
  | [] => ⟨by simp [putF], fun g h => by simp at h⟩
  | (k, x) :: r => by
    obtain ⟨i1, i2⟩ := keys_putF f v r
    rw [show putF f v ((k, x) :: r) = (if k = f then (k, v) :: r else (k, x) :: putF f v r) from rfl]
    by_cases hk : k = f
    · rw [if_pos hk]
      subst hk
      exact ⟨by simp, fun g h => by simpa using h⟩
    · rw [if_neg hk]
      refine ⟨?_, fun g h => ?_⟩
      · rw [List.map_cons]
        exact List.mem_cons_of_mem _ i1
      · rw [List.map_cons] at h ⊢
        rcases List.mem_cons.mp h with e | e
        · exact List.mem_cons.mpr (.inl e)
        · exact List.mem_cons_of_mem _ (i2 g e)
theorem length_putF (f : Str) (v : V) : ∀ fs : List (Str × V), (putF f v fs).length ≤ fs.length + 1
  | [] => by simp [putF]
  | (k, x) :: r => by
    have ih := length_putF f v r
    rw [show putF f v ((k, x) :: r) = (if k = f then (k, v) :: r else (k, x) :: putF f v r) from rfl]
    by_cases hk : k = f
    · rw [if_pos hk, List.length_cons, List.length_cons]; omega
    · rw [if_neg hk, List.length_cons, List.length_cons]; omega
theorem RelO.some_of {v : V} {o : Option Value} (r : RelO (some v) o) : ∃ u, o = some u ∧ RelV v u := by
  cases o with
  | none => exact (show False from r).elim
  | some u => exact ⟨u, rfl, r⟩
theorem RelO.none_of {o : Option Value} (r : RelO none o) : o = none := by
  cases o with
  | none => rfl
  | some u => exact (show False from r).elim
theorem handed_of {v : V} {u : Value} (r : RelV v u) : PySem.W.handedIn u = true := by
  cases v with
  | non => cases (show u = Value.none from r); rfl
  | bl b => cases (show u = Value.bool b from r); rfl
  | int i => obtain ⟨t, e⟩ := (show ∃ t, u = Value.int i t from r); cases e; rfl
  | str x => obtain ⟨t, e⟩ := (show ∃ t, u = Value.str x t from r); cases e; rfl
  | byt b => obtain ⟨t, e⟩ := (show ∃ t, u = Value.bytes b t from r); cases e; rfl
  | flt b => obtain ⟨t, e⟩ := (show ∃ t, u = Value.float b t from r); cases e; rfl
  | ref a => cases (show u = Value.ref a from r); rfl
  | ty n => cases (show u = Value.type n from r); rfl
section
variable {P : Program} {w : World} {H H' : Hp} {h h' : Heap} {a C dx : Addr} {fs fs' : List (Str × V)}
theorem ins_get (hok : HOk P w H h) (e : H a = some (.ins C dx fs)) : ∃ mA, ObjM h a dx C mA ∧ (∀ f, RelO (fs.lookup f) (mA f)) ∧ PySem.Within mA (fs.map (·.1)) ∧ fs.length ≤ 1000 ∧ H dx = some (.own a) := by
  obtain ⟨d, z, ne, ob, mA, n, r, q⟩ := (show ObjOk P w H h a (.ins C dx fs) from hok a _ e)
  exact ⟨mA, ⟨ob, n, ne⟩, r, q, z, d⟩
end
structure Cls (K : PySem.W.Frag) (C : Addr) : Prop where
  pg : PySem.W.plainGet K C Str.empty = true
  hd : PySem.W.hasDictIn K C = true
  po : PySem.W.plainOver K C = true
  sa : PySem.W.findIn K (.ref C) "__setattr__" = some (some (.builtin "object.__setattr__"))
theorem Cls.get {K : PySem.W.Frag} {C : Addr} (c : Cls K C) (f : Str) : PySem.W.plainGet K C f = true := c.pg
def NoAttr (K : PySem.W.Frag) (C : Addr) (f : Str) : Prop := PySem.W.findIn K (.ref C) f = some none
theorem NoAttr.taker {K : PySem.W.Frag} {C : Addr} {f : Str} (n : NoAttr K C f) : PySem.W.takerIn K C f = some none := by
  unfold PySem.W.takerIn
  rw [show PySem.W.findIn K (.ref C) f = some none from n]
  rfl
structure Con (K : PySem.W.Frag) (C : Addr) (f : Str) (v : V) (u : Value) : Prop where
  at_ : PySem.W.findIn K (.ref C) f = some (some u)
  rel : RelV v u
  get : PySem.W.specialIn K u "__get__" = some none
  cp : PySem.W.copiedNames.contains f = false
structure Meth (K : PySem.W.Frag) (C : Addr) (m : Str) (f : Addr) : Prop where
  at_ : PySem.W.findIn K (.ref C) m = some (some (.ref f))
  fn : PySem.W.isFn K (.ref f) = true
  kp : PySem.W.keepIn K (.ref f) = true
section
variable {X : Cx} {pins : List (Addr × Obj)} {σ : St} {H : Hp} {s : Shared} {a C dx : Addr} {fs : List (Str × V)} {f : Str} {v : V} {A : Around} {E : Value → Shared → Prop}
theorem getattr_ok {b : Bool} {Q : Value → Shared → Prop} (I : Inv X pins σ H s) (e : H a = some (.ins C dx fs)) (c : Cls X.K C) (n : NoAttr X.K C f) (l : fs.lookup f = some v)
    (h : ∀ u s', Inv X pins σ H s' → RelV v u → Q u s') : wpAny (model X.prog X.w) A (getAttr (.ref a) f b) Q E s := by
  obtain ⟨mA, O, r, _, _, _⟩ := ins_get I.hok e
  obtain ⟨u, hu, ru⟩ := RelO.some_of (v := v) (o := mA f) (by rw [← l]; exact r f)
  exact get_map I.kIn O (c.get f) c.hd n hu (handed_of ru) (h u _ (I.tok _) ru)
theorem getcon_ok {b : Bool} {u : Value} {Q : Value → Shared → Prop} (I : Inv X pins σ H s) (e : H a = some (.ins C dx fs)) (c : Cls X.K C) (k : Con X.K C f v u) (l : fs.lookup f = none)
    (h : ∀ s', Inv X pins σ H s' → Q u s') : wpAny (model X.prog X.w) A (getAttr (.ref a) f b) Q E s := by
  obtain ⟨mA, O, r, _, _, _⟩ := ins_get I.hok e
  have hn : mA f = none := RelO.none_of (by rw [← l]; exact r f)
  exact get_const I.kIn O (c.get f) c.hd k.at_ k.get k.cp hn (handed_of k.rel) (h _ (I.tok _))
theorem getmeth_ok {m : Str} {g : Addr} {pl : Sem Bool} {Q : Value × List Value → Shared → Prop} (I : Inv X pins σ H s) (e : H a = some (.ins C dx fs)) (c : Cls X.K C) (k : Meth X.K C m g) (l : fs.lookup m = none)
    (h : Q (.ref g, [.ref a]) s) : wpAny (model X.prog X.w) A (getMethod (.ref a) m pl) Q E s := by
  obtain ⟨mA, O, r, _, _, _⟩ := ins_get I.hok e
  have hn : mA m = none := RelO.none_of (by rw [← l]; exact r m)
  exact get_meth I.kIn O (c.get m) k.at_ k.fn hn h
theorem setattr_ok {y : V} {u : Value} {Q : Unit → Shared → Prop} (I : Inv X pins σ H s) (e : H a = some (.ins C dx fs)) (c : Cls X.K C) (n : NoAttr X.K C f) (hl : fs.length < 1000) (ry : RelV y u)
    (h : ∀ s', Inv X pins σ (upd H a (.ins C dx (putF f y fs))) s' → Q () s') : wpAny (model X.prog X.w) A (setAttr (.ref a) f u) Q E s := by
  obtain ⟨mA, O, r, wi, _, ho⟩ := ins_get I.hok e
  have hz : (fs.map (·.1)).length ≤ sizeLine := by rw [List.length_map, sizeLine_eq]; omega
  refine set_map I.kIn O c.sa c.po n.taker c.hd wi hz fun h' O' sb => h _ ?_
  have hd : ∃ o, h'.get? dx = some o := let ⟨o, _, _, e', _⟩ := O'.ns; ⟨o, e'⟩
  refine I.write (x := a) (e := dx) (by rw [e]; exact True.intro) (.inr ho) (fun b q hb z => (sb.2 b hb).trans z) hd ?_
  refine ⟨by rw [upd_ne O.ne]; exact ho, ?_, O.ne, O'.obj, _, O'.ns, fun g => ?_, fun g hg => ?_⟩
  · have := length_putF f y fs; omega
  · show RelO ((putF f y fs).lookup g) (if g = f then some u else mA g)
    rw [lookup_putF]
    by_cases q : g = f
    · rw [if_pos q, if_pos q]; exact ry
    · rw [if_neg q, if_neg q]; exact r g
  · by_cases q : g = f
    · rw [q]; exact (keys_putF f y fs).1
    · refine (keys_putF f y fs).2 g (wi g fun z => hg ?_)
      show (if g = f then some u else mA g) = none
      rw [if_neg q]; exact z
theorem Inv.made (I : Inv X pins σ H s) : Inv X pins σ (upd (upd H s.heap.objs.size (.own (s.heap.objs.size + 1))) (s.heap.objs.size + 1) (.ins C s.heap.objs.size []))
    { s with heap := (s.heap.push PySem.W.emptyDict).push (PySem.W.instObj C s.heap.objs.size) } := by
  have e1 : (s.heap.push PySem.W.emptyDict).get? s.heap.objs.size = some PySem.W.emptyDict := Heap.get?_push_size s.heap rfl
  have e2 : ((s.heap.push PySem.W.emptyDict).push (PySem.W.instObj C s.heap.objs.size)).get? (s.heap.objs.size + 1) = some (PySem.W.instObj C s.heap.objs.size) := by
    have := Heap.get?_push_size (s.heap.push PySem.W.emptyDict) (o := PySem.W.instObj C s.heap.objs.size) rfl
    rwa [Heap.size_push] at this
  have e3 : (s.heap.push PySem.W.emptyDict).Ns s.heap.objs.size (fun _ => none) := ⟨PySem.W.emptyDict, #[], _, e1, rfl, (fun e he => absurd he (by simp)), fun _ => rfl⟩
  have I1 := I.laid (a := s.heap.objs.size) (o := .own (s.heap.objs.size + 1)) (h' := s.heap.push PySem.W.emptyDict) (t' := s.toks) (fun b u q => Heap.get?_push_of_some _ q) (Nat.le_refl _) ⟨_, e1⟩
  refine I1.laid (a := s.heap.objs.size + 1) (o := .ins C s.heap.objs.size []) (t' := s.toks) (fun b u q => Heap.get?_push_of_some _ q) (Nat.le_of_eq (Heap.size_push _ _)) ?_
  have ne : s.heap.objs.size ≠ s.heap.objs.size + 1 := Nat.ne_of_lt (Nat.lt_succ_self _)
  refine ⟨by rw [upd_ne ne, upd_same], Nat.zero_le _, ne, e2, fun _ => none, (Heap.Ns1.of_empty e3).at fun o q => Heap.get?_push_of_some _ q, fun _ => True.intro, fun y hy => absurd rfl hy⟩
theorem attr_of {prog : Program} {w : World} {env : Env} {e : Expr} {f : Str} {pos : Pos} {s : Shared} {Q : Value → Shared → Prop} (hb : attributeBase e f env (eval e env) = eval e env)
    (h : wpAny (model prog w) A (eval e env) (fun o s₁ => wpAny (model prog w) A (getAttr o f true) Q E s₁) E s) : wpAny (model prog w) A (eval (.Attribute e f pos) env) Q E s :=
  Attribute_any_ h (by rw [arm_eval_Attribute, hb])
end
def tFld (K : PySem.W.Frag) (ta : TE) (f : Str) : TE := fun σ H Q => ta σ H fun x H1 => ∃ a C dx fs v, x = .ref a ∧ H1 a = some (.ins C dx fs) ∧ Cls K C ∧ NoAttr K C f ∧ fs.lookup f = some v ∧ Q v H1
def tCon (K : PySem.W.Frag) (ta : TE) (f : Str) : TE := fun σ H Q => ta σ H fun x H1 => ∃ a C dx fs v u, x = .ref a ∧ H1 a = some (.ins C dx fs) ∧ Cls K C ∧ Con K C f v u ∧ fs.lookup f = none ∧ Q v H1
def sFld (K : PySem.W.Frag) (ta tv : TE) (f : Str) : TS := fun D σ H => tv σ H fun y H1 => ta σ H1 fun x H2 => ∃ a C dx fs, x = .ref a ∧ H2 a = some (.ins C dx fs) ∧ Cls K C ∧ NoAttr K C f ∧ fs.length < 1000 ∧
  D.nx σ (upd H2 a (.ins C dx (putF f y fs)))
def InOp (X : Cx) (op : Operator) (rd : V → V → Hp → VK → Prop) : Prop :=
  ∀ (pins : List (Addr × Obj)) (s : Shared) (σ : St) (H : Hp) (x y : V) (u v : Value) (Q : VK), Inv X pins σ H s → RelV x u → RelV y v → rd x y H Q → wpAny (model X.prog X.w) X.A (inplaceOp op u v) (EP X pins σ Q) X.xe s
def sFldAug (K : PySem.W.Frag) (ta tv : TE) (rd : V → V → Hp → VK → Prop) (f : Str) : TS := fun D σ H => ta σ H fun x H1 => ∃ a C dx fs v, x = .ref a ∧ H1 a = some (.ins C dx fs) ∧ Cls K C ∧ NoAttr K C f ∧ fs.lookup f = some v ∧
  tv σ H1 fun y H2 => rd v y H2 fun z H3 => ∃ dx' fs', H3 a = some (.ins C dx' fs') ∧ fs'.length < 1000 ∧ D.nx σ (upd H3 a (.ins C dx' (putF f z fs')))
section
variable {X : Cx} {o e value : Expr} {f : Str} {pos pos' tpos : Pos} {ta tv : TE}
theorem pe_fld (he : PE X e ta) (hb : attributeBase e f X.env (eval e X.env) = eval e X.env) : PE X (.Attribute e f pos) (tFld X.K ta f) := by
  intro pins s σ H Q I h
  refine attr_of hb (thn (he pins s σ H _ I h) fun u s1 ⟨x, H1, I1, rx, a, C, dx, fs, v, ex, ea, c, n, l, q⟩ => ?_)
  subst ex
  obtain rfl : u = Value.ref a := rx
  exact getattr_ok I1 ea c n l fun u' s2 I2 ru => ⟨v, H1, I2, ru, q⟩
theorem pe_con (he : PE X e ta) (hb : attributeBase e f X.env (eval e X.env) = eval e X.env) : PE X (.Attribute e f pos) (tCon X.K ta f) := by
  intro pins s σ H Q I h
  refine attr_of hb (thn (he pins s σ H _ I h) fun u s1 ⟨x, H1, I1, rx, a, C, dx, fs, v, u0, ex, ea, c, k, l, q⟩ => ?_)
  subst ex
  obtain rfl : u = Value.ref a := rx
  exact getcon_ok I1 ea c k l fun s2 I2 => ⟨v, H1, I2, k.rel, q⟩
theorem ps_fld (ha : PE X o ta) (hv : PE X value tv) (hs : swapsWith value (some (.Attribute o f pos')) pos.line X.env = pure false) : PS X (.Assign [.Attribute o f pos'] value pos) (sFld X.K ta tv f) := by
  intro pins s σ H D I h
  refine plainObj_wpAny_Assign_Attribute (thn (hv pins s σ H _ I h) fun u s1 ⟨y, H1, I1, ry, q⟩ => thn (ha pins s1 σ H1 _ I1 q) fun ov s2 ⟨x, H2, I2, rx, a, C, dx, fs, ex, ea, c, n, l, q2⟩ => ?_) hs
  subst ex
  obtain rfl : ov = Value.ref a := rx
  exact setattr_ok I2 ea c n l ry fun s3 I3 => ⟨σ, _, I3, q2⟩
theorem ps_fldaug {op : Operator} {rd : V → V → Hp → VK → Prop} (ha : PE X o ta) (hv : PE X value tv) (hop : InOp X op rd) : PS X (.AugAssign (.Attribute o f tpos) op value pos) (sFldAug X.K ta tv rd f) := by
  intro pins s σ H D I h
  refine wpAny_AugAssign_AttributeAny (thn (ha pins s σ H _ I h) fun ov s1 ⟨x, H1, I1, rx, a, C, dx, fs, v, ex, ea, c, n, l, q⟩ => ?_)
  subst ex
  obtain rfl : ov = Value.ref a := rx
  refine getattr_ok I1 ea c n l fun u s2 I2 ru => thn (hv pins s2 σ H1 _ I2 q) fun w3 s3 ⟨y, H2, I3, ry, q3⟩ => thn (hop pins s3 σ H2 v y u w3 _ I3 ru ry q3) fun w4 s4 ⟨z, H3, I4, rz, dx', fs', ea', l', q4⟩ => ?_
  exact setattr_ok I4 ea' c n l' rz fun s5 I5 => ⟨σ, _, I5, q4⟩
def rAdd : V → V → Hp → VK → Prop := fun x y H Q => ∃ i j, x = .int i ∧ y = .int j ∧ Q (.int (i + j)) H
def rSub : V → V → Hp → VK → Prop := fun x y H Q => ∃ i j, x = .int i ∧ y = .int j ∧ Q (.int (i - j)) H
theorem in_add : InOp X .Add rAdd := by
  rintro pins s σ H x y u v Q I rx ry ⟨i, j, rfl, rfl, q⟩
  obtain ⟨t, rfl⟩ := (show ∃ t, u = Value.int i t from rx)
  obtain ⟨t', rfl⟩ := (show ∃ t', v = Value.int j t' from ry)
  exact PyProof.Rows.iadd_int ⟨.int (i + j), H, I.tok _, ⟨_, rfl⟩, q⟩
theorem in_sub : InOp X .Sub rSub := by
  rintro pins s σ H x y u v Q I rx ry ⟨i, j, rfl, rfl, q⟩
  obtain ⟨t, rfl⟩ := (show ∃ t, u = Value.int i t from rx)
  obtain ⟨t', rfl⟩ := (show ∃ t', v = Value.int j t' from ry)
  exact PyProof.Rows.isub_int ⟨.int (i - j), H, I.tok _, ⟨_, rfl⟩, q⟩
theorem methcall_of {pl : Sem Bool} {m : Str} {apos : Pos} {args : List Expr} {pins : List (Addr × Obj)} {s : Shared} {σ : St} {H : Hp} {Q : Value → Shared → Prop} {te : TE} (he : PE X e te) (I : Inv X pins σ H s)
    (h : te σ H fun x H1 => ∃ a C dx fs g, x = .ref a ∧ H1 a = some (.ins C dx fs) ∧ Cls X.K C ∧ Meth X.K C m g ∧ fs.lookup m = none ∧
      ∀ s1, Inv X pins σ H1 s1 → wpAny (model X.prog X.w) X.A (callWith pos (.ref g) [.ref a] (backTo pos (starEach args X.env)) (backToKw pos (keywordEach [] X.env))) Q X.xe s1)
    (ht : eval (.Call (.Attribute e m apos) args [] pos) X.env = (do
      let ov ← eval e X.env
      standAt apos.atName
      let (f, first) ← holding [ov] (getMethod ov m pl)
      callWith pos f first (backTo pos (starEach args X.env)) (backToKw pos (keywordEach [] X.env)))) :
    wpAny (model X.prog X.w) X.A (eval (.Call (.Attribute e m apos) args [] pos) X.env) Q X.xe s := by
  refine PySem.W.methodCall_KW (pl := pl) (thn (he pins s σ H _ I h) fun u s1 ⟨x, H1, I1, rx, a, C, dx, fs, g, ex, ea, c, k, l, q⟩ => ?_) ht
  subst ex
  obtain rfl : u = Value.ref a := rx
  exact getmeth_ok I1 ea c k l (q s1 I1)
end
section
variable {X : Cx} {pins : List (Addr × Obj)} {σ : St} {H : Hp} {s : Shared} {A : Around} {E : Value → Shared → Prop} {Q : Value → Shared → Prop} {c : Value} {b : Bool}
inductive TyOf (K : PySem.W.Frag) (H : Hp) : V → Value → Prop where
  | non : TyOf K H .non (.type "NoneType")
  | bl (x : Bool) : TyOf K H (.bl x) (.type "bool")
  | int (i : Int) : TyOf K H (.int i) (.type "int")
  | str (x : Str) : TyOf K H (.str x) (.type "str")
  | flt (x : UInt64) : TyOf K H (.flt x) (.type "float")
  | lst {a : Addr} {xs : List V} (e : H a = some (.lst xs)) : TyOf K H (.ref a) (.type "list")
  | frz {a : Addr} {o : Obj} {xs : List V} (e : H a = some (.frz o (.lst xs))) : TyOf K H (.ref a) (.type "list")
  | tup {a : Addr} {xs : List V} (e : H a = some (.tup xs)) : TyOf K H (.ref a) (.type "tuple")
  | dK {a : Addr} {kvs : List (Key × V)} (e : H a = some (.dK kvs)) : TyOf K H (.ref a) (.type "dict")
  | dT {a : Addr} {kvs : List (List Key × V)} (e : H a = some (.dT kvs)) : TyOf K H (.ref a) (.type "dict")
  | ins {a C dx : Addr} {fs : List (Str × V)} (e : H a = some (.ins C dx fs)) (cl : Cls K C) (ha : PySem.W.findIn K (.ref C) "__class__" = some (some (.builtin "object.__class__")))
      (hn : PySem.W.specialIn K (.builtin "object.__class__") "__get__" = some (some (.builtin "getset_descriptor.__get__"))) (htk : PySem.W.takesIn K (.builtin "object.__class__") = some true)
      (hm : PySem.W.mroIn K C (.type "object") = some true) : TyOf K H (.ref a) (.ref C)
theorem isinst_ok {x : V} {u t : Value} (I : Inv X pins σ H s) (rx : RelV x u) (ty : TyOf X.K H x t) (e : PySem.W.kitOne X.K t c = some b) (h : ∀ tk, Q (.bool b) { s with toks := tk }) :
    wpAny (model X.prog X.w) A (call (.builtin "isinstance") [u, c]) Q E s := by
  cases ty with
  | non => cases (show u = Value.none from rx); exact PySem.W.kia_one PySem.W.kitx_none I.kIn True.intro e (fun z => nomatch z) h
  | bl y => cases (show u = Value.bool y from rx); exact PySem.W.kia_one PySem.W.kitx_bool I.kIn True.intro e (fun z => nomatch z) h
  | int i => obtain ⟨t, q⟩ := (show ∃ t, u = Value.int i t from rx); cases q; exact PySem.W.kia_one PySem.W.kitx_int I.kIn True.intro e (fun z => nomatch z) h
  | str y => obtain ⟨t, q⟩ := (show ∃ t, u = Value.str y t from rx); cases q; exact PySem.W.kia_one PySem.W.kitx_str I.kIn True.intro e (fun z => nomatch z) h
  | flt y => obtain ⟨t, q⟩ := (show ∃ t, u = Value.float y t from rx); cases q; exact PySem.W.kia_one PySem.W.kitx_float I.kIn True.intro e (fun z => nomatch z) h
  | @lst a xs ea =>
    cases (show u = Value.ref a from rx)
    obtain ⟨_, _, n, _, h1⟩ := (show ObjOk X.prog X.w H s.heap a (.lst xs) from I.hok a _ ea)
    exact PySem.W.kia_one PySem.W.kitx_list I.kIn ⟨_, h1, rfl⟩ e (fun z => nomatch z) h
  | @frz a ob xs ea =>
    cases (show u = Value.ref a from rx)
    obtain ⟨_, _, _, n, _, h1⟩ := (show ObjOk X.prog X.w H s.heap a (.frz ob (.lst xs)) from I.hok a _ ea)
    exact PySem.W.kia_one PySem.W.kitx_list I.kIn ⟨_, h1, rfl⟩ e (fun z => nomatch z) h
  | @tup a xs ea =>
    cases (show u = Value.ref a from rx)
    obtain ⟨_, _, _, p⟩ := (show ObjOk X.prog X.w H s.heap a (.tup xs) from I.hok a _ ea)
    obtain ⟨o, h1, h2, _⟩ := p
    exact PySem.W.kia_one PySem.W.kitx_tuple I.kIn ⟨o, h1, h2⟩ e (fun z => nomatch z) h
  | @dK a kvs ea =>
    cases (show u = Value.ref a from rx)
    obtain ⟨_, _, vs, _, p⟩ := (show ObjOk X.prog X.w H s.heap a (.dK kvs) from I.hok a _ ea)
    obtain ⟨o, es, ep, h1, h2, _⟩ := p
    exact PySem.W.kia_one PySem.W.kitx_dict I.kIn ⟨o, h1, h2.1⟩ e (fun z => nomatch z) h
  | @dT a kvs ea =>
    cases (show u = Value.ref a from rx)
    obtain ⟨_, _, xs, _, o, es, ep, h1, h2, _⟩ := (show ObjOk X.prog X.w H s.heap a (.dT kvs) from I.hok a _ ea)
    exact PySem.W.kia_one PySem.W.kitx_dict I.kIn ⟨o, h1, h2.1⟩ e (fun z => nomatch z) h
  | @ins a C dx fs ea cl ha hn htk hm =>
    cases (show u = Value.ref a from rx)
    obtain ⟨mA, O, _⟩ := ins_get I.hok ea
    obtain ⟨od, J, _⟩ := O.look
    exact PySem.W.kia_one (PySem.W.kitx_own (cl.get _) cl.hd ha hn htk hm) I.kIn J e (fun z => nomatch z) h
end
end L2
namespace L2
open PySem PySem.Spec PyProof.Rows
structure Room (k : Nat) (A : Around) : Prop where
  hd : A.handled = none
  dp : A.depth + 3 * k + 5 < recursionLimit
  un : A.units + 16 * k + 200 < cLine
theorem Room.mono {j k : Nat} {A : Around} (r : Room k A) (h : j ≤ k) : Room j A := ⟨r.hd, by have := r.dp; omega, by have := r.un; omega⟩
theorem Room.deeper {k : Nat} {A : Around} (r : Room (k + 1) A) (env : Env) : Room k (A.deeper env) :=
  ⟨r.hd, by have := r.dp; show A.depth + 1 + 3 * k + 5 < _; omega, by have := r.un; show A.units + 3 + 16 * k + 200 < _; omega⟩
theorem Room.in1 {k : Nat} {A : Around} (r : Room (k + 1) A) : Room k A.in1 :=
  ⟨r.hd, by have := r.dp; show A.depth + 3 * k + 5 < _; omega, by have := r.un; show A.units + 1 + 16 * k + 200 < _; omega⟩
theorem make_depth {A : Around} {C : Addr} {us : List Value} {kw : List (Str × Value)} : (A.under (.builtin "type.__call__" ⟨.ref C :: us, kw⟩)).depth = A.depth + 1 := by
  first | rfl | simp [Around.under, Code.weight, Code.isCreation, Code.isGuard, Code.isCaller, Code.frames, Code.isFrame, guardIds]
theorem make_units {A : Around} {C : Addr} {us : List Value} {kw : List (Str × Value)} : (A.under (.builtin "type.__call__" ⟨.ref C :: us, kw⟩)).units = A.units + 1 := by
  first | rfl | simp [Around.under, Code.cUnits, Code.frames, Code.isFrame]
theorem Room.make {k : Nat} {A : Around} (r : Room (k + 1) A) (C : Addr) (us : List Value) (kw : List (Str × Value)) : Room k (A.under (.builtin "type.__call__" ⟨.ref C :: us, kw⟩)) :=
  ⟨r.hd, by have := r.dp; rw [make_depth]; omega, by have := r.un; rw [make_units]; omega⟩
theorem Room.depth {k : Nat} {A : Around} (r : Room k A) : A.depth < recursionLimit := by have := r.dp; omega
theorem Room.units {k : Nat} {A : Around} (r : Room k A) : A.units + 64 < cLine := by have := r.un; omega
theorem Room.units0 {k : Nat} {A : Around} (r : Room k A) : A.units < cLine := by have := r.un; omega
def tNil : TA := fun _ H Q => Q [] H
def tCons (ta : TE) (tr : TA) : TA := fun σ H Q => ta σ H fun x H1 => tr σ H1 fun xs H2 => Q (x :: xs) H2
section
variable {X : Cx} {e : Expr} {es : List Expr} {te : TE} {t : TA} {pos : Pos}
theorem pa_nil : PA X [] tNil := fun _ _ _ _ H Q I h => Calls.spliced_nil ⟨[], H, I, .nil, h⟩
theorem pa_cons (ha : PE X e te) (hr : PA X es t) (hs : starEach (e :: es) X.env = (false, eval e X.env) :: starEach es X.env := by rfl) : PA X (e :: es) (tCons te t) := by
  intro pos pins s σ H Q I h
  rw [hs]
  show wpAny _ _ (spliced ((false, eval e X.env) :: backTo pos (starEach es X.env))) _ _ s
  refine Calls.spliced_cons (thn (ha pins s σ H _ I h) fun u s1 ⟨x, H1, I1, r1, q1⟩ => ?_)
  exact thn (hr pos pins s1 σ H1 _ I1 q1) fun us s2 ⟨xs, H2, I2, r2, q2⟩ => ⟨x :: xs, H2, I2, .cons r1 r2, q2⟩
def tTup (t : TA) : TE := fun σ H Q => t σ H fun xs H1 => xs.length ≤ sizeLine ∧ ∀ p, H1 p = none → Q (.ref p) (upd H1 p (.tup xs))
def tLst (t : TA) : TE := fun σ H Q => t σ H fun xs H1 => xs.length ≤ sizeLine ∧ ∀ p, H1 p = none → Q (.ref p) (upd H1 p (.lst xs))
theorem pe_tup {x1} (h : PA X es t) : PE X (.Tuple es x1 pos) (tTup t) := by
  intro pins s σ H Q I hq
  refine wpAny_Tuple_spliced (thn (h pos pins s σ H _ I hq) fun us s1 ⟨xs, H1, I1, r, z, q⟩ => ⟨by rw [← r.length]; exact z, ?_⟩)
  have hf : H1 s1.heap.objs.size = none := I1.hok.fresh (Nat.le_refl _)
  refine ⟨.ref s1.heap.objs.size, upd H1 s1.heap.objs.size (.tup xs), I1.laid (t' := s1.toks) (fun b u e => Heap.get?_push_of_some _ e) (Nat.le_refl _) ?_, rfl, q _ hf⟩
  exact ⟨z, us, r, ⟨_, Heap.get?_push_size _ rfl, rfl, _, rfl⟩⟩
theorem pe_lst (h : PA X es t) : PE X (.List es pos) (tLst t) := by
  intro pins s σ H Q I hq
  refine wpAny_List_spliced (thn (h pos pins s σ H _ I hq) fun us s1 ⟨xs, H1, I1, r, z, q⟩ => ⟨by rw [← r.length]; exact z, ?_⟩)
  have hf : H1 s1.heap.objs.size = none := I1.hok.fresh (Nat.le_refl _)
  refine ⟨.ref s1.heap.objs.size, upd H1 s1.heap.objs.size (.lst xs), I1.laid (t' := s1.toks) (fun b u e => Heap.get?_push_of_some _ e) (Nat.le_refl _) ?_, rfl, q _ hf⟩
  exact ⟨z, us, 0, r, Heap.get?_push_size _ rfl⟩
end
abbrev Sp := List V → Hp → VK → XK → Prop
abbrev CXT := List Env → Hp → Shared → XK → Value → Shared → Prop
structure Env0 (P : Program) (w : World) (K : PySem.W.Frag) (mg : Str → Option Value) (base : Heap) (A : Around) (outer : List Env) (s : Shared) (H : Hp) : Prop where
  frames : A.frames = some outer
  mod : Mod K mg base
  bs : ∀ b o, base.get? b = some o → s.heap.get? b = some o ∧ H b = none
  bsz : base.objs.size ≤ s.heap.objs.size
  funs : s.heap.FunFrames base outer
  frf : ∀ b ∈ frs outer, H b = none
  hok : HOk P w H s.heap
  bare : AllBare s.gens
def CE (outer : List Env) (P : Program) (w : World) (H : Hp) (s : Shared) (Q : VK) (u : Value) (s' : Shared) : Prop :=
  ∃ v H', s'.os = s.os ∧ AllBare s'.gens ∧ Un (frs outer) [] H H' s.heap s'.heap ∧ HOk P w H' s'.heap ∧ RelV v u ∧ Q v H'
def CR (CX : CXT) (outer : List Env) (P : Program) (w : World) (H : Hp) (s : Shared) (Q : VK) (E : XK) (r : Result) (s' : Shared) : Prop :=
  match r with
  | .ok (.ret u) => CE outer P w H s Q u s'
  | .ok _ => False
  | .error e => CX outer H s E e s'
structure FnOk (P : Program) (w : World) (K : PySem.W.Frag) (mg : Str → Option Value) (base : Heap) (CX : CXT) (k : Nat) (f : Addr) (fd : FuncData) (ps : List Str) (sp : Sp) : Prop where
  len : ∀ vs H Q E, sp vs H Q E → vs.length = ps.length
  run : ∀ (A : Around) (outer : List Env) (s : Shared) (H : Hp) (args : Args) (us : List Value) (vs : List V) (Q : VK) (E : XK), Room k A → Env0 P w K mg base A outer s H → BindsTo s fd args (ps.zip us) → Vals vs us → sp vs H Q E →
    codeAny (model P w) A (.call (.ref f) args) (CR CX outer P w H s Q E) s
theorem FnOk.mono {P : Program} {w : World} {K : PySem.W.Frag} {mg : Str → Option Value} {base : Heap} {CX : CXT} {j k : Nat} {f : Addr} {fd : FuncData} {ps : List Str} {sp : Sp} (F : FnOk P w K mg base CX j f fd ps sp) (h : j ≤ k) :
    FnOk P w K mg base CX k f fd ps sp := ⟨F.len, fun A outer s H args us vs Q E hr => F.run A outer s H args us vs Q E (hr.mono h)⟩
theorem FnOk.imp {P : Program} {w : World} {K : PySem.W.Frag} {mg : Str → Option Value} {base : Heap} {CX : CXT} {k : Nat} {f : Addr} {fd : FuncData} {ps : List Str} {sp sp' : Sp} (F : FnOk P w K mg base CX k f fd ps sp)
    (h : ∀ vs H Q E, sp' vs H Q E → sp vs H Q E) : FnOk P w K mg base CX k f fd ps sp' :=
  ⟨fun vs H Q E q => F.len vs H Q E (h _ _ _ _ q), fun A outer s H args us vs Q E hr he hb hv hs => F.run A outer s H args us vs Q E hr he hb hv (h _ _ _ _ hs)⟩
theorem Env0.make {P : Program} {w : World} {K : PySem.W.Frag} {mg : Str → Option Value} {base : Heap} {A : Around} {outer : List Env} {s : Shared} {H : Hp} (e : Env0 P w K mg base A outer s H) (C : Addr) (us : List Value) (kw : List (Str × Value)) :
    Env0 P w K mg base (A.under (.builtin "type.__call__" ⟨.ref C :: us, kw⟩)) outer s H := ⟨by first | exact e.frames | (simpa [Around.under, Code.envs, Code.isFrame, pushEnvs] using e.frames), e.mod, e.bs, e.bsz, e.funs, e.frf, e.hok, e.bare⟩
theorem Env0.in1 {P : Program} {w : World} {K : PySem.W.Frag} {mg : Str → Option Value} {base : Heap} {A : Around} {outer : List Env} {s : Shared} {H : Hp} (e : Env0 P w K mg base A outer s H) :
    Env0 P w K mg base A.in1 outer s H := ⟨e.frames, e.mod, e.bs, e.bsz, e.funs, e.frf, e.hok, e.bare⟩
section
variable {X : Cx} {pins : List (Addr × Obj)} {σ : St} {H : Hp} {s s' : Shared}
theorem Inv.env0 (I : Inv X pins σ H s) : Env0 X.prog X.w X.K X.mg X.base X.A X.stack s H :=
  ⟨I.ok.frames, I.ok.mod, I.bs, Nat.le_trans I.ok.bsz I.sz, I.stack, I.stkFree, I.hok, I.bare⟩
theorem Inv.after {Q : VK} {u : Value} (I : Inv X pins σ H s) (h : CE X.stack X.prog X.w H s Q u s') : EP X pins σ Q u s' := by
  obtain ⟨v, H', os, bare, un, hok, r, q⟩ := h
  obtain ⟨hh, g, d, t, os'⟩ := s'
  obtain rfl : os' = s.os := os
  exact ⟨v, H', I.call (h' := hh) (g' := g) (d' := d) (t' := t) (ch := []) un hok bare (fun b z => absurd z (by simp)), r, q⟩
end
def tCall (sp : Sp) (dvs : List V) (E : XK) (t : TA) : TE := fun σ H Q => t σ H fun vs H1 => sp (vs ++ dvs) H1 Q E
def tMeth (C : Addr) (m : Str) (sp : Sp) (dvs : List V) (E : XK) (ta : TE) (t : TA) : TE := fun σ H Q => ta σ H fun x H1 => ∃ a dx fs, x = .ref a ∧ H1 a = some (.ins C dx fs) ∧ fs.lookup m = none ∧
  t σ H1 fun vs H2 => sp (x :: (vs ++ dvs)) H2 Q E
def tMake (C : Addr) (sp : Sp) (dvs : List V) (E : XK) (t : TA) : TE := fun σ H Q => t σ H fun vs H1 => ∀ x dx, H1 x = none → H1 dx = none → dx ≠ x →
  sp (.ref x :: (vs ++ dvs)) (upd (upd H1 dx (.own x)) x (.ins C dx [])) (fun v H2 => v = .non ∧ Q (.ref x) H2) E
def Binds (K : PySem.W.Frag) (fd : FuncData) (ps : List Str) (ds : List Value) : Prop :=
  ∀ (s : Shared) (us : List Value), K.In s.heap → (us ++ ds).length = ps.length → BindsTo s fd ⟨us, []⟩ (ps.zip (us ++ ds))
theorem Binds.all {K : PySem.W.Frag} {fd : FuncData} {ps : List Str} (h : ∀ us : List Value, us.length = ps.length → bindArgs fd ⟨us, []⟩ = pure (ps.zip us)) : Binds K fd ps [] := fun s us _ hl => by
  rw [List.append_nil] at hl ⊢
  exact .of_eq (h us hl)
def Passes (CX : CXT) (X : Cx) (E : XK) : Prop := ∀ (pins : List (Addr × Obj)) (σ : St) (H : Hp) (s : Shared) (e : Value) (s' : Shared), Inv X pins σ H s → CX X.stack H s E e s' → X.xe e s'
section
variable {X : Cx} {CX : CXT} {k : Nat} {f C : Addr} {fd : FuncData} {ps : List Str} {sp : Sp} {dvs : List V} {ds : List Value} {E : XK} {x m : Str} {p pos apos : Pos} {e o : Expr} {es : List Expr} {ta : TE} {t : TA}
theorem run_fn {pins : List (Addr × Obj)} {σ : St} {H : Hp} {s : Shared} {Q : VK} {us : List Value} {vs : List V} (F : FnOk X.prog X.w X.K X.mg X.base CX k f fd ps sp) (hr : Room k X.A) (hb : Binds X.K fd ps ds) (hd : Vals dvs ds) (hx : Passes CX X E)
    (I : Inv X pins σ H s) (r : Vals vs us) (h : sp (vs ++ dvs) H Q E) : wpAny (model X.prog X.w) X.A (call (.ref f) us) (EP X pins σ Q) X.xe s := by
  have r2 : Vals (vs ++ dvs) (us ++ ds) := r.append hd
  have hl : (us ++ ds).length = ps.length := by rw [← r2.length]; exact F.len _ _ _ _ h
  refine wpAny_call (codeAny_mono (F.run X.A X.stack s H ⟨us, []⟩ (us ++ ds) (vs ++ dvs) Q E hr I.env0 (hb s us I.kIn hl) r2 h) fun r s' hq => ?_)
  cases r with
  | error e => exact hx pins σ H s e s' I hq
  | ok fl =>
    cases fl with
    | ret u => exact I.after hq
    | next => exact False.elim hq
    | brk => exact False.elim hq
    | cont => exact False.elim hq
theorem pe_call (F : FnOk X.prog X.w X.K X.mg X.base CX k f fd ps sp) (hr : Room k X.A) (hg : Gl X x) (hm : X.mg x = some (.ref f)) (hk : PySem.W.keepIn X.K (.ref f) = true) (hb : Binds X.K fd ps ds) (hd : Vals dvs ds) (hx : Passes CX X E)
    (ha : PA X (e :: es) t) (hdb : (x == ("__debug__" : Str)) = false := by decide) (he : starEach (e :: es) X.env = (false, eval e X.env) :: starEach es X.env := by rfl) (hpl : (backTo pos (starEach es X.env)).any (·.1) = false := by rfl) :
    PE X (.Call (.Name x p) (e :: es) [] pos) (tCall sp dvs E t) := by
  intro pins s σ H Q I h
  refine wpAny_Call_Name_kw (ld_glob I hg hm ?_ hdb)
  refine PySem.W.callWith_K (h₀ := X.base) I.ok.mod.kin hk (thn (ha pos pins s σ H _ I h) fun us s1 ⟨vs, H1, I1, r, q⟩ => ⟨I1.kIn, ?_⟩) he hpl
  exact run_fn F hr hb hd hx I1 r q
theorem pe_call0 (F : FnOk X.prog X.w X.K X.mg X.base CX k f fd ps sp) (hr : Room k X.A) (hg : Gl X x) (hm : X.mg x = some (.ref f)) (hk : PySem.W.keepIn X.K (.ref f) = true) (hb : Binds X.K fd ps ds) (hd : Vals dvs ds) (hx : Passes CX X E)
    (hdb : (x == ("__debug__" : Str)) = false := by decide) : PE X (.Call (.Name x p) [] [] pos) (tCall sp dvs E tNil) := by
  intro pins s σ H Q I h
  refine wpAny_Call_Name_kw (ld_glob I hg hm ?_ hdb)
  exact PySem.W.callWith_K0 I.kIn hk (run_fn (us := []) F hr hb hd hx I .nil h)
theorem pe_meth {pl : Sem Bool} (he : PE X o ta) (c : Cls X.K C) (hm : Meth X.K C m f) (F : FnOk X.prog X.w X.K X.mg X.base CX k f fd ps sp) (hr : Room k X.A) (hb : Binds X.K fd ps ds) (hd : Vals dvs ds) (hx : Passes CX X E) (ha : PA X (e :: es) t)
    (hst : starEach (e :: es) X.env = (false, eval e X.env) :: starEach es X.env := by rfl) (hpl : (backTo pos (starEach es X.env)).any (·.1) = false := by rfl)
    (ht : eval (.Call (.Attribute o m apos) (e :: es) [] pos) X.env = (do
      let ov ← eval o X.env
      standAt apos.atName
      let (f, first) ← holding [ov] (getMethod ov m pl)
      callWith pos f first (backTo pos (starEach (e :: es) X.env)) (backToKw pos (keywordEach [] X.env))) := by rfl) :
    PE X (.Call (.Attribute o m apos) (e :: es) [] pos) (tMeth C m sp dvs E ta t) := by
  intro pins s σ H Q I h
  refine PySem.W.methodCall_KW (pl := pl) (thn (he pins s σ H _ I h) fun u s1 ⟨x, H1, I1, rx, a, dx, fs, ex, ea, l, q⟩ => ?_) ht
  subst ex
  obtain rfl : u = Value.ref a := rx
  refine getmeth_ok I1 ea c hm l ?_
  refine PySem.W.callWith_K (first := [.ref a]) (h₀ := X.base) I.ok.mod.kin hm.kp (thn (ha pos pins s1 σ H1 _ I1 q) fun us s2 ⟨vs, H2, I2, r, q2⟩ => ⟨I2.kIn, ?_⟩) hst hpl
  exact run_fn (us := .ref a :: us) (vs := .ref a :: vs) F hr hb hd hx I2 (.cons rfl r) q2
theorem pe_meth0 {pl : Sem Bool} (he : PE X o ta) (c : Cls X.K C) (hm : Meth X.K C m f) (F : FnOk X.prog X.w X.K X.mg X.base CX k f fd ps sp) (hr : Room k X.A) (hb : Binds X.K fd ps ds) (hd : Vals dvs ds) (hx : Passes CX X E)
    (ht : eval (.Call (.Attribute o m apos) [] [] pos) X.env = (do
      let ov ← eval o X.env
      standAt apos.atName
      let (f, first) ← holding [ov] (getMethod ov m pl)
      callWith pos f first (backTo pos (starEach [] X.env)) (backToKw pos (keywordEach [] X.env))) := by rfl) :
    PE X (.Call (.Attribute o m apos) [] [] pos) (tMeth C m sp dvs E ta tNil) := by
  intro pins s σ H Q I h
  refine PySem.W.methodCall_KW (pl := pl) (thn (he pins s σ H _ I h) fun u s1 ⟨x, H1, I1, rx, a, dx, fs, ex, ea, l, q⟩ => ?_) ht
  subst ex
  obtain rfl : u = Value.ref a := rx
  refine getmeth_ok I1 ea c hm l ?_
  exact PySem.W.callWith_K0 (first := [.ref a]) I1.kIn hm.kp (run_fn (us := [.ref a]) (vs := [.ref a]) F hr hb hd hx I1 (.cons rfl .nil) q)
structure Mk (K : PySem.W.Frag) (C f : Addr) : Prop where
  makes : PySem.W.makesIn K C = true
  init : PySem.W.findIn K (.ref C) "__init__" = some (some (.ref f))
  fn : PySem.W.isFn K (.ref f) = true
  kp : PySem.W.keepIn K (.ref C) = true
theorem run_make {pins : List (Addr × Obj)} {σ : St} {H : Hp} {s : Shared} {Q : VK} {us : List Value} {vs : List V} (M : Mk X.K C f) (F : FnOk X.prog X.w X.K X.mg X.base CX k f fd ps sp) (hr : Room (k + 1) X.A) (hb : Binds X.K fd ps ds) (hd : Vals dvs ds)
    (hx : Passes CX X E) (I : Inv X pins σ H s) (r : Vals vs us)
    (h : ∀ x dx, H x = none → H dx = none → dx ≠ x → sp (.ref x :: (vs ++ dvs)) (upd (upd H dx (.own x)) x (.ins C dx [])) (fun v H2 => v = .non ∧ Q (.ref x) H2) E) :
    wpAny (model X.prog X.w) X.A (call (.ref C) us) (EP X pins σ Q) X.xe s := by
  have hq := h (s.heap.objs.size + 1) s.heap.objs.size (I.hok.fresh (Nat.le_succ _)) (I.hok.fresh (Nat.le_refl _)) (Nat.ne_of_lt (Nat.lt_succ_self _))
  have I2 := Inv.made (C := C) I
  have r2 : Vals (V.ref (s.heap.objs.size + 1) :: (vs ++ dvs)) (Value.ref (s.heap.objs.size + 1) :: (us ++ ds)) := .cons rfl (r.append hd)
  have hl : (Value.ref (s.heap.objs.size + 1) :: us ++ ds).length = ps.length := by
    have e := r2.length
    rw [F.len _ _ _ _ hq] at e
    exact e.symm
  refine wpAny_call (make_map (f := f) I.kIn M.makes M.init (beq_iff_eq.mp M.fn) (codeAny_mono (F.run _ X.stack _ _ ⟨Value.ref (s.heap.objs.size + 1) :: us, []⟩ (Value.ref (s.heap.objs.size + 1) :: (us ++ ds)) _ _ E (hr.make C us [])
    (I2.env0.make C us []) (hb _ (Value.ref (s.heap.objs.size + 1) :: us) I2.kIn hl) r2 hq) fun r s' hq' => ?_))
  cases r with
  | error e => exact hx pins σ _ _ e s' I2 hq'
  | ok fl =>
    cases fl with
    | ret u =>
      obtain ⟨v, H', I3, rv, ev, q3⟩ := I2.after hq'
      subst ev
      exact ⟨rv, ⟨V.ref (s.heap.objs.size + 1), H', I3, rfl, q3⟩⟩
    | next => exact False.elim hq'
    | brk => exact False.elim hq'
    | cont => exact False.elim hq'
theorem pe_make (M : Mk X.K C f) (F : FnOk X.prog X.w X.K X.mg X.base CX k f fd ps sp) (hr : Room (k + 1) X.A) (hg : Gl X x) (hm : X.mg x = some (.ref C)) (hb : Binds X.K fd ps ds) (hd : Vals dvs ds) (hx : Passes CX X E)
    (ha : PA X (e :: es) t) (hdb : (x == ("__debug__" : Str)) = false := by decide) (he : starEach (e :: es) X.env = (false, eval e X.env) :: starEach es X.env := by rfl) (hpl : (backTo pos (starEach es X.env)).any (·.1) = false := by rfl) :
    PE X (.Call (.Name x p) (e :: es) [] pos) (tMake C sp dvs E t) := by
  intro pins s σ H Q I h
  refine wpAny_Call_Name_kw (ld_glob I hg hm ?_ hdb)
  refine PySem.W.callWith_K (h₀ := X.base) I.ok.mod.kin M.kp (thn (ha pos pins s σ H _ I h) fun us s1 ⟨vs, H1, I1, r, q⟩ => ⟨I1.kIn, ?_⟩) he hpl
  exact run_make M F hr hb hd hx I1 r q
theorem pe_make0 (M : Mk X.K C f) (F : FnOk X.prog X.w X.K X.mg X.base CX k f fd ps sp) (hr : Room (k + 1) X.A) (hg : Gl X x) (hm : X.mg x = some (.ref C)) (hb : Binds X.K fd ps ds) (hd : Vals dvs ds) (hx : Passes CX X E)
    (hdb : (x == ("__debug__" : Str)) = false := by decide) : PE X (.Call (.Name x p) [] [] pos) (tMake C sp dvs E tNil) := by
  intro pins s σ H Q I h
  refine wpAny_Call_Name_kw (ld_glob I hg hm ?_ hdb)
  exact PySem.W.callWith_K0 I.kIn M.kp (run_make (us := []) M F hr hb hd hx I .nil h)
end
def PK (X : Cx) (kws : List Keyword) (t : TA) : Prop :=
  ∀ (pos : Pos) (pins : List (Addr × Obj)) (s : Shared) (σ : St) (H : Hp) (Q : List V → Hp → Prop), Inv X pins σ H s → t σ H Q → wpAny (model X.prog X.w) X.A (evalAll ((backToKw pos (keywordEach kws X.env)).map (·.2))) (AP X pins σ Q) X.xe s
section
variable {X : Cx} {CX : CXT} {k : Nat} {f C : Addr} {fd : FuncData} {ps ks : List Str} {sp : Sp} {E : XK} {x m : Str} {p pos apos kpos : Pos} {e o : Expr} {es : List Expr} {kws : List Keyword} {te ta : TE} {t tk : TA} {nm : Option Str}
theorem pk_nil : PK X [] tNil := fun _ _ _ _ H Q I h => wpAny_evalAll_nil ⟨[], H, I, .nil, h⟩
theorem pk_cons (ha : PE X e te) (hr : PK X kws t) : PK X (⟨nm, e, kpos⟩ :: kws) (tCons te t) := by
  intro pos pins s σ H Q I h
  show wpAny _ _ (evalAll ((do let v ← eval e X.env; standAt pos; pure v) :: (backToKw pos (keywordEach kws X.env)).map (·.2))) _ _ s
  refine wpAny_evalAll_cons (wpAny_bind (thn (ha pins s σ H _ I h) fun u s1 ⟨x, H1, I1, r1, q1⟩ => wpAny_bind (wpAny_standAt (wpAny_pure ?_))))
  exact thn (hr pos pins s1 σ H1 _ I1 q1) fun us s2 ⟨xs, H2, I2, r2, q2⟩ => ⟨x :: xs, H2, I2, .cons r1 r2, q2⟩
structure KBinds (K : PySem.W.Frag) (fd : FuncData) (ps ks : List Str) (g : List Value → List Value → List Value) (gV : List V → List V → List V) : Prop where
  to : ∀ (s : Shared) (us ws : List Value), K.In s.heap → (g us ws).length = ps.length → BindsTo s fd ⟨us, ks.zip ws⟩ (ps.zip (g us ws))
  rel : ∀ {vs : List V} {us : List Value} {zs : List V} {ws : List Value}, Vals vs us → Vals zs ws → Vals (gV vs zs) (g us ws)
def tCallK (sp : Sp) (gV : List V → List V → List V) (E : XK) (t tk : TA) : TE := fun σ H Q => t σ H fun vs H1 => tk σ H1 fun zs H2 => sp (gV vs zs) H2 Q E
variable {g : List Value → List Value → List Value} {gV : List V → List V → List V}
theorem run_fnk {pins : List (Addr × Obj)} {σ : St} {H : Hp} {s : Shared} {Q : VK} {us ws : List Value} {vs zs : List V} (F : FnOk X.prog X.w X.K X.mg X.base CX k f fd ps sp) (hr : Room k X.A) (hb : KBinds X.K fd ps ks g gV) (hx : Passes CX X E)
    (I : Inv X pins σ H s) (r : Vals vs us) (rz : Vals zs ws) (h : sp (gV vs zs) H Q E) : wpAny (model X.prog X.w) X.A (call (.ref f) us (ks.zip ws)) (EP X pins σ Q) X.xe s := by
  have r2 := hb.rel r rz
  have hl : (g us ws).length = ps.length := by rw [← r2.length]; exact F.len _ _ _ _ h
  refine wpAny_call (codeAny_mono (F.run X.A X.stack s H ⟨us, ks.zip ws⟩ (g us ws) (gV vs zs) Q E hr I.env0 (hb.to s us ws I.kIn hl) r2 h) fun r s' hq => ?_)
  cases r with
  | error e => exact hx pins σ H s e s' I hq
  | ok fl =>
    cases fl with
    | ret u => exact I.after hq
    | next => exact False.elim hq
    | brk => exact False.elim hq
    | cont => exact False.elim hq
theorem pe_callK (F : FnOk X.prog X.w X.K X.mg X.base CX k f fd ps sp) (hr : Room k X.A) (hg : Gl X x) (hm : X.mg x = some (.ref f)) (hk : PySem.W.keepIn X.K (.ref f) = true) (hb : KBinds X.K fd ps ks g gV) (hx : Passes CX X E)
    (ha : PA X (e :: es) t) (hkw : PK X kws tk) (hall : (backToKw pos (keywordEach kws X.env)).all (·.1.isSome) = true := by rfl) (hks : (backToKw pos (keywordEach kws X.env)).filterMap (·.1) = ks := by rfl)
    (hdb : (x == ("__debug__" : Str)) = false := by decide) (he : starEach (e :: es) X.env = (false, eval e X.env) :: starEach es X.env := by rfl)
    (hpl : ((backTo pos (starEach (e :: es) X.env)).any (·.1) || (backToKw pos (keywordEach kws X.env)).any (·.1.isNone)) = false := by rfl) :
    PE X (.Call (.Name x p) (e :: es) kws pos) (tCallK sp gV E t tk) := by
  intro pins s σ H Q I h
  refine wpAny_Call_Name_kw (ld_glob I hg hm ?_ hdb)
  refine PySem.W.callWith_KW (h₀ := X.base) I.ok.mod.kin hk hall (thn (ha pos pins s σ H _ I h) fun us s1 ⟨vs, H1, I1, r, q⟩ => ?_) hpl he
  refine thn (hkw pos pins s1 σ H1 _ I1 q) fun ws s2 ⟨zs, H2, I2, rz, q2⟩ => ⟨I2.kIn, ?_⟩
  rw [hks]
  exact run_fnk F hr hb hx I2 r rz q2
end
structure FnScope (N P : List Str) (sc : Scope) : Prop where
  kind : sc.kind = .function
  co : sc.isCoroutine = false
  gen : sc.isGenerator = false
  nd : N.Nodup
  pre : N.take P.length = P
  par : ∀ x ∈ P, sc.names.lookup x = some .local ∨ sc.names.lookup x = some .cell
  nofree : ∀ y ∈ sc.names, y.2 ≠ .free
theorem bindL_out {kindOf : Str → Option NameKind} {x : Str} : ∀ {binds : List (Str × Value)} {m : Str → Option Value}, (∀ v, (x, v) ∉ binds) → bindL kindOf binds m x = m x
  | [], _, _ => rfl
  | (n, v) :: r, m, h => by
    unfold bindL
    rw [bindL_out fun w hw => h w (List.mem_cons_of_mem _ hw)]
    split
    · have : x ≠ n := by rintro rfl; exact h v List.mem_cons_self
      simp [this]
    · rfl
theorem bindC_out {kindOf : Str → Option NameKind} {x : Str} : ∀ {binds : List (Str × Value)} {m : Str → Option Value}, (∀ v, (x, v) ∉ binds) → bindC kindOf binds m x = m x
  | [], _, _ => rfl
  | (n, v) :: r, m, h => by
    unfold bindC
    rw [bindC_out fun w hw => h w (List.mem_cons_of_mem _ hw)]
    split
    · rfl
    · have : x ≠ n := by rintro rfl; exact h v List.mem_cons_self
      simp [this]
theorem bindL_get {kindOf : Str → Option NameKind} {x : Str} {v : Value} : ∀ {P : List Str} {vs : List Value} {i : Nat} {m : Str → Option Value}, P.Nodup → P[i]? = some x → vs[i]? = some v → kindOf x = some .local →
    bindL kindOf (P.zip vs) m x = some v
  | [], _, _, _, _, h, _, _ => by simp at h
  | _ :: _, [], _, _, _, _, h, _ => by simp at h
  | p :: P, w :: vs, 0, m, nd, h1, h2, hk => by
    simp at h1 h2; subst h1; subst h2
    show bindL kindOf ((p, w) :: P.zip vs) m p = _
    unfold bindL
    rw [bindL_out fun v hv => (List.nodup_cons.mp nd).1 (List.of_mem_zip hv).1, if_pos hk]
    simp
  | p :: P, w :: vs, i + 1, m, nd, h1, h2, hk => by
    show bindL kindOf ((p, w) :: P.zip vs) m x = _
    unfold bindL
    exact bindL_get (i := i) (List.nodup_cons.mp nd).2 (by simpa using h1) (by simpa using h2) hk
theorem bindC_get {kindOf : Str → Option NameKind} {x : Str} {v : Value} : ∀ {P : List Str} {vs : List Value} {i : Nat} {m : Str → Option Value}, P.Nodup → P[i]? = some x → vs[i]? = some v → kindOf x ≠ some .local →
    bindC kindOf (P.zip vs) m x = some v
  | [], _, _, _, _, h, _, _ => by simp at h
  | _ :: _, [], _, _, _, _, h, _ => by simp at h
  | p :: P, w :: vs, 0, m, nd, h1, h2, hk => by
    simp at h1 h2; subst h1; subst h2
    show bindC kindOf ((p, w) :: P.zip vs) m p = _
    unfold bindC
    rw [bindC_out fun v hv => (List.nodup_cons.mp nd).1 (List.of_mem_zip hv).1, if_neg hk]
    simp
  | p :: P, w :: vs, i + 1, m, nd, h1, h2, hk => by
    show bindC kindOf ((p, w) :: P.zip vs) m x = _
    unfold bindC
    exact bindC_get (i := i) (List.nodup_cons.mp nd).2 (by simpa using h1) (by simpa using h2) hk
def start (N : List Str) (vs : List V) : St := vs.map some ++ List.replicate (N.length - vs.length) none
def cxOf (CX : CXT) (P : Program) (w : World) (K : PySem.W.Frag) (mg : Str → Option Value) (base : Heap) (N : List Str) (qual : Str) (scope : Scope) (f : Addr) (cd : Value) (A : Around) (outer : List Env) (s : Shared) (H : Hp) (E : XK) : Cx where
  prog := P
  w := w
  K := K
  mg := mg
  base := base
  A := A.deeper (envOfC qual scope s.heap.objs.size f cd)
  N := N
  s₀ := s
  H₀ := H
  env := envOfC qual scope s.heap.objs.size f cd
  outer := outer
  stack := envOfC qual scope s.heap.objs.size f cd :: outer
  ex := []
  calm := true
  fn := fun _ => true
  pn := []
  xe := fun e s' => wpAny (model P w) (A.deeper (envOfC qual scope s.heap.objs.size f cd)) (leaving (envOfC qual scope s.heap.objs.size f cd) e) (fun _ s'' => CX outer H s E e s'') (fun e' s'' => CX outer H s E e' s'') s'
theorem cell_has {sc : Scope} {n : Nat} {x : Str} (h : sc.names.lookup x = some .cell) : ∃ c, (cellsFrom n sc.names []).lookup x = some c := by
  have q := PySem.W.cellsFrom_some sc.names n [] (.inl h)
  exact Option.isSome_iff_exists.mp q
theorem inv_start {CX : CXT} {P : Program} {w : World} {K : PySem.W.Frag} {mg : Str → Option Value} {base : Heap} {N ps : List Str} {qual : Str} {scope : Scope} {f : Addr} {cd : Value} {A : Around} {outer : List Env} {s s1 : Shared} {H : Hp} {E : XK} {us : List Value} {vs : List V}
    (S : FnScope N ps scope) (hd : A.handled = none) (e0 : Env0 P w K mg base A outer s H) (hl : vs.length = ps.length) (r : Vals vs us)
    (x : InCallC s s.heap.objs.size (bindL (envOfC qual scope s.heap.objs.size f cd).kindOf (ps.zip us) fun _ => none) (cellsFrom (s.heap.objs.size + 1) scope.names []) (bindC (envOfC qual scope s.heap.objs.size f cd).kindOf (ps.zip us) fun _ => none) s1) :
    Inv (cxOf CX P w K mg base N qual scope f cd A outer s H E) [] (start N vs) H s1 := by
  have hpl : ps.length ≤ N.length := by have := congrArg List.length S.pre; rw [List.length_take] at this; omega
  obtain ⟨h1, tk, rfl, hk⟩ := x.done
  have noA : ∀ b : Addr, b ∉ (cxOf CX P w K mg base N qual scope f cd A outer s H E).ex := fun b z => absurd (show b ∈ ([] : List Addr) from z) (by simp)
  refine ⟨⟨e0.mod, S.kind, rfl, rfl, Nat.le_refl _, fun y z c h1 h2 => ?_, fun y hy => ?_, fun y c _ h => ?_, fun _ => hd, Around.frames_deeper e0.frames, .inr ⟨rfl, rfl⟩, fun b z => absurd z (noA b), e0.bs, e0.bsz, fun b _ _ => noA b, fun b z => absurd z (noA b), e0.funs, e0.frf⟩,
    rfl, e0.bare, Un.kept hk, ⟨_, x.toInCall.ns, fun i y v h1 h2 h3 => ?_⟩, fun y c h => ⟨_, x.cell y c h⟩, e0.hok.fresh (Nat.le_refl _), fun y c h => ?_, fun p hp => absurd (show p ∈ ([] : List (Addr × Obj)) from hp) (by simp), e0.hok.kept hk, ?_⟩
  · exact name_of_addr x.apart (PySem.mem_of_lookup h1) (PySem.mem_of_lookup h2)
  · have hy : scope.names.lookup y = some .cell ∨ scope.names.lookup y = some .free := hy
    rcases hy with hy | hy
    · exact cell_has hy
    · exact absurd rfl (S.nofree _ (PySem.mem_of_lookup hy))
  · exact Nat.le_of_lt (x.above y c (PySem.mem_of_lookup h))
  · have hi : i < vs.length := by
      unfold start at h2
      by_cases hi : i < vs.length
      · exact hi
      · rw [List.getElem?_append_right (by simpa using hi)] at h2
        rw [List.getElem?_replicate] at h2
        split at h2 <;> cases h2
    have ha : vs[i]? = some v := by
      unfold start at h2
      rw [List.getElem?_append_left (by simpa using hi), List.getElem?_map] at h2
      cases e : vs[i]? with
      | none => rw [e] at h2; cases h2
      | some a => rw [e] at h2; cases h2; rfl
    obtain ⟨u, hu, rv⟩ := r.get ha
    have hp : ps[i]? = some y := by
      rw [← S.pre, List.getElem?_take_of_lt (by omega)]; exact h1
    have ndP : ps.Nodup := by rw [← S.pre]; exact S.nd.sublist (List.take_sublist _ _)
    refine ⟨u, rv, ?_⟩
    rcases S.par y (List.mem_of_getElem? hp) with k | k
    · exact .inl ⟨k, bindL_get ndP hp hu k⟩
    · obtain ⟨c, e⟩ := cell_has (n := s.heap.objs.size + 1) k
      refine .inr ⟨.inl k, c, e, ?_⟩
      have q := x.cell y c e
      rw [bindC_get ndP hp hu (by show scope.names.lookup y ≠ _; rw [k]; decide)] at q
      exact q
  · exact e0.hok.fresh (Nat.le_of_lt (x.above y c (PySem.mem_of_lookup h)))
  · unfold start
    show _ = N.length
    rw [List.length_append, List.length_map, List.length_replicate]
    omega
theorem fn_of {CX : CXT} {P : Program} {w : World} {K : PySem.W.Frag} {mg : Str → Option Value} {base : Heap} {k : Nat} {f : Addr} {name qual : Str} {params : Arguments} {body : List Stmt} {scope : Scope} {dV kV doc pm cdv ct oc : Value} {an od : Option Addr}
    {osl : Array (Option Value)} {N ps : List Str} {sp : Sp} (lk : K.lookup f = some ⟨oc, od, .func (PySem.W.fnOf name qual params body scope dV kV doc pm an cdv ct), osl⟩) (hcd : PySem.W.codeIn K cdv qual = true) (S : FnScope N ps scope)
    (len : ∀ vs H Q E, sp vs H Q E → vs.length = ps.length)
    (hbody : ∀ (A : Around) (outer : List Env) (s : Shared) (H : Hp) (vs : List V) (Q : VK) (E : XK), Room k (A.deeper (envOfC qual scope s.heap.objs.size f cdv)) → sp vs H Q E →
      ∃ t, PSs (cxOf CX P w K mg base N qual scope f cdv A outer s H E) body t ∧ t { nx := fun _ H' => Q .non H', rt := Q } (start N vs) H) :
    FnOk P w K mg base CX (k + 1) f (PySem.W.fnOf name qual params body scope dV kV doc pm an cdv ct) ps sp := by
  refine ⟨len, fun A outer s H args us vs Q E hr e0 hb r hsp => ?_⟩
  have hl := len _ _ _ _ hsp
  have KX : K.In s.heap := e0.mod.kin.keeps fun b o e => (e0.bs b o e).1
  have lim : s.heap.NoLimit := e0.mod.nolimit.keeps fun b o e => (e0.bs b o e).1
  have hkind : ∀ y ∈ ps.zip us, scope.names.lookup y.1 = some .local ∨ (scope.names.lookup y.1 = some .cell ∧ ((cellsFrom (s.heap.objs.size + 1) scope.names []).lookup y.1).isSome = true) := fun ⟨n, v⟩ hy => by
    rcases S.par n (List.of_mem_zip hy).1 with q | q
    · exact .inl q
    · exact .inr ⟨q, PySem.W.cellsFrom_some _ _ _ (.inl q)⟩
  refine codeAny_call_function hr.depth (KX _ _ lk) rfl S.co S.gen rfl (PySem.W.codeRec_of KX hcd) (hb _ _ _ _ ?_)
  refine wpAny_newFunctionEnv_cells S.kind hkind fun env he s1 x => ?_
  subst he
  refine ⟨lim.keeps x.toInCall.keep, codeAny_func ?_⟩
  obtain ⟨t, ht, hq⟩ := hbody A outer s H vs Q E (hr.deeper _) hsp
  have I : Inv (cxOf CX P w K mg base N qual scope f cdv A outer s H E) [] (start N vs) H s1 := inv_start S hr.hd e0 hl r x
  refine wpAny_mono (ht [] s1 (start N vs) H _ I hq) (fun fl s' hs => ?_) fun e s' hs => hs
  have fin : ∀ {σ' : St} {H' : Hp} {v : V} {u : Value}, Inv (cxOf CX P w K mg base N qual scope f cdv A outer s H E) [] σ' H' s' → RelV v u → Q v H' → CE outer P w H s Q u s' :=
    fun {σ' H' v u} J rv q => ⟨v, H', J.os, J.bare, J.base, J.hok, rv, q⟩
  cases fl with
  | ret u =>
    obtain ⟨v, σ', H', J, rv, q⟩ := hs
    exact fin J rv q
  | next =>
    obtain ⟨σ', H', J, q⟩ := hs
    exact fin (v := V.non) (u := Value.none) J rfl q
  | brk =>
    obtain ⟨_, _, _, q⟩ := hs
    exact False.elim q
  | cont =>
    obtain ⟨_, _, _, q⟩ := hs
    exact False.elim q
end L2
namespace L2
open PySem PySem.Spec PyProof.Rows
section
variable {X : Cx} {x : Str} {p pos : Pos} {e : Expr} {es : List Expr} {t : TA} {id T : String} {r : List V → Hp → VK → Prop}
def tCB (r : List V → Hp → VK → Prop) (t : TA) : TE := fun σ H Q => t σ H fun vs H1 => r vs H1 Q
theorem pe_callB (hc : CallR X (.builtin id) r) (hg : Gl X x) (hm : X.mg x = none) (hv : bootBuiltins x = some (.builtin id)) (ha : PA X (e :: es) t) (hn : x ≠ "__name__" := by decide) (hdb : (x == ("__debug__" : Str)) = false := by decide)
    (he : starEach (e :: es) X.env = (false, eval e X.env) :: starEach es X.env := by rfl) (hpl : (backTo pos (starEach es X.env)).any (·.1) = false := by rfl) : PE X (.Call (.Name x p) (e :: es) [] pos) (tCB r t) := by
  intro pins s σ H Q I h
  refine wpAny_Call_Name_kw (ld_blt I hg hm hv ?_ hn hdb)
  exact PyProof.Rows.callWith_builtin1 (thn (ha pos pins s σ H _ I h) fun us s1 ⟨vs, H1, I1, r1, q1⟩ => hc pins s1 σ H1 vs us Q I1 r1 q1) he hpl
theorem pe_callTy (hc : CallR X (.type T) r) (hg : Gl X x) (hm : X.mg x = none) (hv : bootBuiltins x = some (.type T)) (ha : PA X (e :: es) t) (hn : x ≠ "__name__" := by decide) (hdb : (x == ("__debug__" : Str)) = false := by decide)
    (he : starEach (e :: es) X.env = (false, eval e X.env) :: starEach es X.env := by rfl) (hpl : (backTo pos (starEach es X.env)).any (·.1) = false := by rfl) : PE X (.Call (.Name x p) (e :: es) [] pos) (tCB r t) := by
  intro pins s σ H Q I h
  refine wpAny_Call_Name_kw (ld_blt I hg hm hv ?_ hn hdb)
  exact PyProof.Rows.callWith_type1 (thn (ha pos pins s σ H _ I h) fun us s1 ⟨vs, H1, I1, r1, q1⟩ => hc pins s1 σ H1 vs us Q I1 r1 q1) he hpl
theorem pe_callTy0 (hc : CallR X (.type T) r) (hg : Gl X x) (hm : X.mg x = none) (hv : bootBuiltins x = some (.type T)) (hn : x ≠ "__name__" := by decide) (hdb : (x == ("__debug__" : Str)) = false := by decide) :
    PE X (.Call (.Name x p) [] [] pos) (tCB r tNil) := by
  intro pins s σ H Q I h
  refine wpAny_Call_Name_kw (ld_blt I hg hm hv ?_ hn hdb)
  exact PyProof.Rows.callWith_type0 (hc pins s σ H [] [] Q I .nil h)
end
end L2
namespace HT
open PySem PyProof.Rows
def lexLt : List Int → List Int → Bool
  | [], [] => false
  | [], _ :: _ => true
  | _ :: _, [] => false
  | x :: xs, y :: ys => if x = y then lexLt xs ys else decide (x < y)
theorem lexLt_cons (x y : Int) (xs ys : List Int) : lexLt (x :: xs) (y :: ys) = if x = y then lexLt xs ys else decide (x < y) := rfl
theorem lexLt_nil_nil : lexLt [] [] = false := rfl
theorem lexLt_nil_cons (y : Int) (ys : List Int) : lexLt [] (y :: ys) = true := rfl
theorem lexLt_cons_nil (x : Int) (xs : List Int) : lexLt (x :: xs) [] = false := rfl
theorem eqAt_int (A : Around) (s : Shared) (a : Int) (t : Tok) (c : Int) (u : Tok) : ∃ e, SeqAt.EqAt A s (.int a t) (.int c u) e ∧ (e = true ↔ a = c) :=
  ⟨(a == c), SeqAt.EqAt.int_int a t c u, by simp⟩
theorem rcLt_int (A : Around) (s : Shared) (a : Int) (t : Tok) (c : Int) (u : Tok) (prog : Program) (w : World) (E : Value → Shared → Prop) (Q : Value → Shared → Prop) (h : Q (.bool (decide (a < c))) s) :
    wpAny (model prog w) A (richCompare .Lt (.int a t) (.int c u)) Q E s :=
  (PyProof.Rows.lt_int h : wpAny (model prog w) A (compareOp .Lt (.int a t) (.int c u)) Q E s)
section
open PySem.SeqAt
open PySem.AutoSeq1 (wpAny_loadPart')
open PySem.MeetsSeq PySem.MeetsSeq2 PySem.MeetsSeq3
theorem tuple_lt_ints (l b : Addr) (items items2 : Array Value) (n n2 : Nat) (dd dd2 : Option Addr) (sl sl2 : Array (Option Value)) (ns ms : List Int) (hi : IntsAre items.toList ns) (hj : IntsAre items2.toList ms) :
    Meets (Builtin.«tuple.__lt__» ⟨[.ref l, .ref b], []⟩)
      (fun _ R s => s.heap.get? l = some { cls := .type "tuple", dict := dd, data := .seq items n, slots := sl } ∧ s.heap.get? b = some { cls := .type "tuple", dict := dd2, data := .seq items2 n2, slots := sl2 } ∧
        R (.ok (.ret (.bool (lexLt ns ms)))) s) :=
  .of_wp fun prog w A R s h => by
    obtain ⟨hp, g, d, tk, os⟩ := s; obtain ⟨hl, hb, h⟩ := h
    have f2 := AutoSeq1.sub_tuple_tuple
    have z1 : items.size = ns.length := by rw [← hi.length]; simp
    have z2 : items2.size = ms.length := by rw [← hj.length]; simp
    wp_walk using wpAny_loadPart' hl, wpAny_loadPart' hb, wpAny_forIn_list _ (fun rest b s' => b.1 = none ∧ s' = ⟨hp, g, d, tk, os⟩ ∧ ∃ (vs ws : List Value) (ns' ms' : List Int), rest = vs.zip ws ∧
      IntsAre vs ns' ∧ IntsAre ws ms' ∧ ns'.length + items2.size = ms'.length + items.size ∧ R (.ok (.ret (.bool (lexLt ns' ms')))) ⟨hp, g, d, tk, os⟩) _
    case turn =>
      rintro ⟨y, x⟩ rest b s' ⟨hb', rfl, vs, ws, ns', ms', hz, hvi, hwi, hlen, hR⟩
      cases hvi with
      | nil => rw [List.zip_nil_left] at hz; cases hz
      | cons a t hvi' =>
        cases hwi with
        | nil => rw [List.zip_nil_right] at hz; cases hz
        | cons c u hwi' =>
          rw [List.zip_cons_cons] at hz
          injection hz with hyx hrest
          injection hyx with hy hx
          subst hy hx
          rw [lexLt_cons] at hR
          simp only [List.length_cons] at hlen
          obtain ⟨e, he, hiff⟩ := eqAt_int A.in1 ⟨hp, g, d, tk, os⟩ a t c u
          refine wpAny_bind (he prog w _ _ ?_)
          cases e with
          | true =>
            rw [if_pos (hiff.mp rfl)] at hR
            wp_walk
            exact ⟨rfl, rfl, _, _, _, _, hrest, hvi', hwi', by omega, hR⟩
          | false =>
            rw [if_neg (fun q => absurd (hiff.mpr q) Bool.false_ne_true)] at hR
            have hri := rcLt_int A.in1 ⟨hp, g, d, tk, os⟩ a t c u prog w
            wp_walk using hri
            exact ⟨_, rfl, by simpa using hR⟩
    case fin =>
      rintro ⟨b1, b2⟩ s' ⟨hb', rfl, vs, ws, ns', ms', hz, hvi, hwi, hlen, hR⟩
      simp only at hb'
      subst hb'
      have hv : lexLt ns' ms' = decide (items.size < items2.size) := by
        cases hvi with
        | nil =>
          cases hwi with
          | nil =>
            simp only [List.length_nil] at hlen
            rw [lexLt_nil_nil]
            exact (decide_eq_false (by omega)).symm
          | cons c u hw =>
            simp only [List.length_nil, List.length_cons] at hlen
            rw [lexLt_nil_cons]
            exact (decide_eq_true (by omega)).symm
        | cons a t hv =>
          cases hwi with
          | nil =>
            simp only [List.length_nil, List.length_cons] at hlen
            rw [lexLt_cons_nil]
            exact (decide_eq_false (by omega)).symm
          | cons c u hw =>
            rw [List.zip_cons_cons] at hz
            cases hz
      rw [hv] at hR
      wp_walk
      exact ⟨_, rfl, by simpa [Builtin.Tuple.tupleCompareSizes] using hR⟩
    case h =>
      exact ⟨rfl, rfl, items.toList, items2.toList, ns, ms, rfl, hi, hj, by omega, h⟩
end
section
variable {prog : Program} {w : World} {A : Around} {E : Value → Shared → Prop} {s : Shared}
theorem lt_tupInts {l b : Addr} {items items2 : Array Value} {ns ms : List Int} {Q : Value → Shared → Prop} (hl : IsTup s.heap l items) (hb : IsTup s.heap b items2) (hi : IntsAre items.toList ns) (hj : IntsAre items2.toList ms)
    (hu : A.units < cLine) (h : Q (.bool (lexLt ns ms)) s) : wpAny (model prog w) A (compareOp .Lt (.ref l) (.ref b)) Q E s := by
  obtain ⟨⟨cls, dd, data, sl⟩, ho, hc, n, hd⟩ := id hl
  obtain ⟨⟨cls2, dd2, data2, sl2⟩, ho2, hc2, n2, hd2⟩ := id hb
  simp only at hc hd hc2 hd2
  subst hc hd hc2 hd2
  exact richCompare_meets_room (op := .Lt) ⟨_, ho, rfl⟩ ⟨_, ho2, rfl⟩ PySem.F.slot_tuple_lt PySem.F.entry_tuple_lt (PySem.F.args_tuple_lt_2 _ _) (tuple_lt_ints l b items items2 n n2 dd dd2 sl sl2 ns ms hi hj)
    ⟨ho, ho2, show Value.bool (lexLt ns ms) ≠ Value.notImplemented ∧ Q (.bool (lexLt ns ms)) s from ⟨(fun x => nomatch x), h⟩⟩ hu
theorem cat_tup {t b : Addr} {vs ws : List Value} {Q : Value → Shared → Prop} (ht : IsTup s.heap t vs.toArray) (hb : IsTup s.heap b ws.toArray) (hv : vs ≠ [])
    (h1 : ws = [] → Q (.ref t) s) (h2 : ws ≠ [] → Q (.ref s.heap.objs.size) { s with heap := s.heap.push { cls := .type "tuple", data := .seq (vs ++ ws).toArray } })
    (hsz : vs.length + ws.length ≤ sizeLine) : wpAny (model prog w) A (binaryOp .Add (.ref t) (.ref b)) Q E s := by
  obtain ⟨⟨cls, dd, data, sl⟩, ho, hc, n, hd⟩ := id ht
  obtain ⟨⟨cls2, dd2, data2, sl2⟩, ho2, hc2, n2, hd2⟩ := id hb
  simp only at hc hd hc2 hd2
  subst hc hd hc2 hd2
  have e : vs.toArray ++ ws.toArray = (vs ++ ws).toArray := by simp
  by_cases hw : ws = []
  · exact concat_meets ⟨_, ho, rfl⟩ ⟨_, ho2, rfl⟩ noFill_tuple_add seq_tuple_add PySem.F.slot_tuple_add PySem.F.entry_tuple_add (PySem.F.args_tuple_add_2 _ _)
      (tuple_addW1 t b vs.toArray ws.toArray n n2 dd dd2 sl sl2 (by simpa using hv) (by simp [hw])) ⟨ho, ho2, h1 hw⟩
  · refine concat_meets ⟨_, ho, rfl⟩ ⟨_, ho2, rfl⟩ noFill_tuple_add seq_tuple_add PySem.F.slot_tuple_add PySem.F.entry_tuple_add (PySem.F.args_tuple_add_2 _ _)
      (tuple_addW2 t b vs.toArray ws.toArray n n2 dd dd2 sl sl2 (by simpa using hv) (by simpa using hw) (by rw [List.size_toArray, List.size_toArray]; exact hsz)) ⟨ho, ho2, ?_⟩
    rw [e]
    exact h2 hw
def sIx (n d : Nat) : Option Int → Nat
  | none => d
  | some v => if v < 0 then (v + (n : Int)).toNat else min v.toNat n
theorem sIx_none (n d : Nat) : sIx n d none = d := rfl
theorem sIx_nat (n d k : Nat) : sIx n d (some (k : Int)) = min k n := by
  show (if (k : Int) < 0 then ((k : Int) + (n : Int)).toNat else min (k : Int).toNat n) = min k n
  rw [if_neg (by omega), Int.toNat_natCast]
theorem sIx_le (n d : Nat) (hd : d ≤ n) (o : Option Int) : sIx n d o ≤ n := by
  cases o with
  | none => exact hd
  | some v =>
    show (if v < 0 then (v + (n : Int)).toNat else min v.toNat n) ≤ n
    by_cases hv : v < 0
    · rw [if_pos hv]; omega
    · rw [if_neg hv]; exact Nat.min_le_right _ _
theorem clip_eq (v : Int) (n d : Nat) : (if v < 0 then max (v + (n : Int)) 0 else min v (n : Int)) = ((sIx n d (some v) : Nat) : Int) := by
  show (if v < 0 then max (v + (n : Int)) 0 else min v (n : Int)) = (((if v < 0 then (v + (n : Int)).toNat else min v.toNat n) : Nat) : Int)
  by_cases hv : v < 0
  · simp only [if_pos hv]; omega
  · simp only [if_neg hv]; omega
theorem adjust_gen (lo hi : Option Int) (n : Nat) : Builtin.Slice.sliceAdjust lo hi 1 (n : Int) = (((sIx n 0 lo : Nat) : Int), ((sIx n n hi : Nat) : Int)) := by
  have h1 : ¬ ((1 : Int) < 0) := by omega
  unfold Builtin.Slice.sliceAdjust
  simp only [h1, if_false]
  refine Prod.ext ?_ ?_
  · cases lo with
    | none => rfl
    | some v => exact clip_eq v n 0
  · cases hi with
    | none => rfl
    | some v => exact clip_eq v n n
theorem places_gen (i j : Nat) : Builtin.Slice.slicePlaces (i : Int) (j : Int) 1 = j - i := by
  unfold Builtin.Slice.slicePlaces
  have h1 : (1 : Int) > 0 := by omega
  simp only [h1, if_true, Int.ediv_one]
  split <;> omega
theorem slicePart_ {v : Value} {o : Option Int} {Q : Option Int → Shared → Prop} (p : IsPart v o) (h : Q o s) : wpAny (model prog w) A (Builtin.Slice.slicePartIndex v) Q E s := by
  cases p with
  | none => exact slicePart_none h
  | int i t => exact slicePart_int h
theorem sliceApplied_gen {sl : Addr} {vl vu : Value} {lo hi : Option Int} {n : Nat} {Q : Int × Int × Nat → Shared → Prop} (hs : s.heap.IsSliceOf sl vl vu .none) (pl : IsPart vl lo) (pu : IsPart vu hi)
    (h : Q (((sIx n 0 lo : Nat) : Int), 1, sIx n n hi - sIx n 0 lo) s) : wpAny (model prog w) A (Builtin.Slice.sliceApplied (.ref sl) (pure (n : Int))) Q E s := by
  obtain ⟨os, hos, hcs, hds⟩ := id hs
  unfold Builtin.Slice.sliceApplied Builtin.Slice.sliceFields
  refine wpAny_bind (wpAny_bind (wpAny_field hos hds (x := vl) rfl (wpAny_bind (wpAny_field hos hds (x := vu) rfl (wpAny_bind (wpAny_field hos hds (x := .none) rfl (wpAny_pure ?_)))))))
  refine wpAny_bind (slicePart_none ?_)
  show wpAny _ _ (if ((1 : Int) == 0) = true then _ else _) _ _ s
  rw [if_neg (by decide)]
  refine wpAny_bind (slicePart_ pl (wpAny_bind (slicePart_ pu (wpAny_bind (wpAny_pure ?_)))))
  show wpAny _ _ (match Builtin.Slice.sliceAdjust lo hi 1 (n : Int) with | (lo, hi) => pure (lo, (1 : Int), Builtin.Slice.slicePlaces lo hi 1)) _ _ s
  rw [adjust_gen lo hi n]
  show wpAny _ _ (pure (((sIx n 0 lo : Nat) : Int), (1 : Int), Builtin.Slice.slicePlaces ((sIx n 0 lo : Nat) : Int) ((sIx n n hi : Nat) : Int) 1)) _ _ s
  rw [places_gen]
  exact wpAny_pure h
theorem pick_gen (xs : Array Value) (i k : Nat) : ((List.range k).filterMap fun (m : Nat) => xs[((i : Int) + (m : Int) * 1).toNat]?).toArray = ((xs.toList.drop i).take k).toArray := by
  have e : (fun (m : Nat) => xs[((i : Int) + (m : Int) * 1).toNat]?) = fun m => xs[i + m]? := by
    funext m
    have : ((i : Int) + (m : Int) * 1).toNat = i + m := by omega
    rw [this]
  rw [e]
  have := pick_run xs i k
  rw [List.filterMap_map] at this
  have e2 : ((fun x => xs[x]?) ∘ fun x => i + x) = fun m => xs[i + m]? := rfl
  rw [e2] at this
  rw [this]
theorem getItem_tuple_cut {t sl : Addr} {items : Array Value} {vl vu : Value} {lo hi : Option Int} {Q : Value → Shared → Prop} (ht : IsTup s.heap t items) (hs : s.heap.IsSliceOf sl vl vu .none) (pl : IsPart vl lo) (pu : IsPart vu hi)
    (hw : ¬ (sIx items.size 0 lo = 0 ∧ sIx items.size items.size hi = items.size))
    (h : Q (.ref s.heap.objs.size) { s with heap := s.heap.push { cls := .type "tuple", data := .seq ((items.toList.drop (sIx items.size 0 lo)).take (sIx items.size items.size hi - sIx items.size 0 lo)).toArray } })
    (hsz : items.size ≤ sizeLine) : wpAny (model prog w) A (getItem (.ref t) (.ref sl)) Q E s := by
  have htake : sizeOk (.seq ((items.toList.drop (sIx items.size 0 lo)).take (sIx items.size items.size hi - sIx items.size 0 lo)).toArray) := by
    show ((items.toList.drop (sIx items.size 0 lo)).take (sIx items.size items.size hi - sIx items.size 0 lo)).toArray.size ≤ sizeLine
    rw [List.size_toArray, List.length_take, List.length_drop, Array.length_toList]
    omega
  have hj : sIx items.size items.size hi ≤ items.size := sIx_le _ _ (Nat.le_refl _) hi
  obtain ⟨os, hos, hcs, hds⟩ := id hs
  have hTs : s.TypeIs (.ref sl) "slice" := ⟨os, hos, hcs⟩
  unfold getItem
  try with_reducible refine wpAny_holding ?_
  first | refine wpAny_bind (wpAny_pure ?_) | skip
  refine wpAny_bind (wpAny_sequenceKey ht.typeIs (by decide) ?_)
  refine wpAny_bind (wpAny_callSpecial?_slot (name := Str.ofString "__getitem__") ht.typeIs PyProof.Rows.slot_tuple_getitem
    (wpAny_call_entry PyProof.Rows.slot_tuple_getitem ht.typeIs entry_tuple_getitem ?_ (args_tuple_getitem _ _)))
  show wpAny _ _ (Builtin.Tuple.tupleItemsOf (.ref t) >>= _) _ _ s
  refine wpAny_bind (tupleItemsOf_ ht ?_)
  refine wpAny_bind (wpAny_typeOf hTs ?_)
  rw [if_pos (by decide)]
  refine wpAny_bind (sliceApplied_gen hs pl pu ?_)
  have hno : ¬ ((((sIx items.size 0 lo : Nat) : Int) == 0 && (1 : Int) == 1 && (sIx items.size items.size hi - sIx items.size 0 lo) == items.size) = true) := by
    intro q
    rw [Bool.and_eq_true, Bool.and_eq_true] at q
    have q1 : ((sIx items.size 0 lo : Nat) : Int) = 0 := eq_of_beq q.1.1
    have q2 : sIx items.size items.size hi - sIx items.size 0 lo = items.size := eq_of_beq q.2
    exact hw ⟨by omega, by omega⟩
  show wpAny _ _ (if (((sIx items.size 0 lo : Nat) : Int) == 0 && (1 : Int) == 1 && (sIx items.size items.size hi - sIx items.size 0 lo) == items.size) = true then _ else _) _ _ s
  rw [if_neg hno, pick_gen]
  first
    | exact wpAny_bind (m := Builtin.Tuple.tupleExact _) (wpAny_newObj_type (wpAny_pure ⟨_, rfl, wpAny_pure h⟩) htake)
    | exact wpAny_bind (m := Builtin.Tuple.tupleExact _) (wpAny_newObj_type (wpAny_bind (wpAny_pure (wpAny_pure ⟨_, rfl, wpAny_pure h⟩))) htake)
    | exact wpAny_bind (wpAny_bind (m := Builtin.Tuple.tupleExact _) (wpAny_newObj_type (wpAny_pure (wpAny_pure ⟨_, rfl, wpAny_pure h⟩)) htake))
    | exact wpAny_bind (wpAny_bind (m := Builtin.Tuple.tupleExact _) (wpAny_newObj_type (wpAny_pure ⟨_, rfl, wpAny_pure h⟩) htake))
end
end HT
namespace L2
open PySem PySem.Spec PyProof.Rows
abbrev TO := St → Hp → (Option Int → Hp → Prop) → Prop
def PO (X : Cx) (e : Option Expr) (t : TO) : Prop :=
  ∀ (pins : List (Addr × Obj)) (s : Shared) (σ : St) (H : Hp) (Q : Option Int → Hp → Prop), Inv X pins σ H s → t σ H Q →
    wpAny (model X.prog X.w) X.A (evalPart e X.env) (fun u s' => ∃ o H', Inv X pins σ H' s' ∧ IsPart u o ∧ Q o H') X.xe s
def tNoPart : TO := fun _ H Q => Q none H
def tPart (t : TE) : TO := fun σ H Q => t σ H fun x H1 => ∃ i, x = .int i ∧ Q (some i) H1
theorem intsAre_of {ns : List Int} : ∀ {us : List Value}, Vals (ns.map V.int) us → IntsAre us ns := by
  induction ns with
  | nil => intro us r; rw [List.map_nil] at r; cases r; exact .nil
  | cons n ns ih =>
    intro us r
    rw [List.map_cons] at r
    cases r with
    | cons r1 r2 =>
      obtain ⟨t, e⟩ := r1
      subst e
      exact .cons n t (ih r2)
section
variable {X : Cx} {e : Expr} {te : TE} {lo hi : Option Expr} {tl th : TO} {pos p2 : Pos}
theorem po_none : PO X none tNoPart := by
  intro pins s σ H Q I h
  rw [evalPart_none]
  exact wpAny_pure ⟨none, H, I, .none, h⟩
theorem po_some (h : PE X e te) : PO X (some e) (tPart te) := by
  intro pins s σ H Q I hw
  rw [evalPart_some]
  refine thn (h pins s σ H _ I hw) fun u s1 ⟨x, H1, I1, r1, q1⟩ => ?_
  obtain ⟨i, rfl, q⟩ := q1
  obtain ⟨t, rfl⟩ := r1
  exact ⟨some i, H1, I1, .int i t, q⟩
def SlR (X : Cx) (r : V → Option Int → Option Int → Hp → VK → Prop) : Prop :=
  ∀ (pins : List (Addr × Obj)) (s : Shared) (σ : St) (H : Hp) (x : V) (v vl vu : Value) (lo hi : Option Int) (sl : Addr) (Q : VK), Inv X pins σ H s → RelV x v → s.heap.IsSliceOf sl vl vu .none → IsPart vl lo → IsPart vu hi → r x lo hi H Q →
    ∃ T id, typeLookup (.type T) "__getitem__" = pure (some (.builtin id)) ∧ s.TypeIs v T ∧ wpAny (model X.prog X.w) X.A (getItem v (.ref sl)) (EP X pins σ Q) X.xe s
theorem SlR.or {r r' : V → Option Int → Option Int → Hp → VK → Prop} (h : SlR X r) (h' : SlR X r') : SlR X (fun x lo hi H Q => r x lo hi H Q ∨ r' x lo hi H Q) := by
  intro pins s σ H x v vl vu lo hi sl Q I rx hs pl pu q
  rcases q with q | q
  · exact h pins s σ H x v vl vu lo hi sl Q I rx hs pl pu q
  · exact h' pins s σ H x v vl vu lo hi sl Q I rx hs pl pu q
def tSl (r : V → Option Int → Option Int → Hp → VK → Prop) (te : TE) (tl th : TO) : TE := fun σ H Q => te σ H fun x H1 => tl σ H1 fun l H2 => th σ H2 fun u H3 => r x l u H3 Q
theorem pe_slice {r : V → Option Int → Option Int → Hp → VK → Prop} (hr : SlR X r) (he : PE X e te) (hl : PO X lo tl) (hu : PO X hi th) : PE X (.Subscript e (.Slice lo hi none p2) pos) (tSl r te tl th) := by
  intro pins s σ H Q I h
  refine Subscript_ (thn (he pins s σ H _ I h) fun v s1 ⟨x, H1, I1, r1, q1⟩ => ?_)
  refine wpAny_Slice (thn (hl pins s1 σ H1 _ I1 q1) fun vl s2 ⟨l, H2, I2, pl, q2⟩ => thn (hu pins s2 σ H2 _ I2 q2) fun vu s3 ⟨u, H3, I3, pu, q3⟩ => ?_)
  rw [evalPart_none]
  refine wpAny_pure ?_
  have I4 : Inv X pins σ H3 { s3 with heap := s3.heap.push { cls := .type "slice", data := .fields #[vl, vu, .none] } } := I3.kept (t' := s3.toks) fun b ob q => Heap.get?_push_of_some _ q
  obtain ⟨T, id, hT, ht, hg⟩ := hr pins { s3 with heap := s3.heap.push { cls := .type "slice", data := .fields #[vl, vu, .none] } } σ H3 x v vl vu l u s3.heap.objs.size Q I4 r1 (Heap.IsSliceOf.new ..) pl pu q3
  show wpAny (model X.prog X.w) X.A (subscriptTail e (.Slice lo hi none p2) v (.ref s3.heap.objs.size)) (EP X pins σ Q) X.xe { s3 with heap := s3.heap.push { cls := .type "slice", data := .fields #[vl, vu, .none] } }
  exact tail_any (ops := [.ref s3.heap.objs.size, v]) ht hT hg (by with_unfolding_all rfl)
def cutV (xs : List V) (lo hi : Option Int) : List V := (xs.drop (HT.sIx xs.length 0 lo)).take (HT.sIx xs.length xs.length hi - HT.sIx xs.length 0 lo)
theorem cutV_length (xs : List V) (lo hi : Option Int) : (cutV xs lo hi).length ≤ xs.length := by
  unfold cutV
  rw [List.length_take, List.length_drop]
  omega
def rSlT (K : PySem.W.Frag) : V → Option Int → Option Int → Hp → VK → Prop := fun x lo hi H Q => ∃ a xs, x = .ref a ∧ SqT K H a xs ∧
  ¬ (HT.sIx xs.length 0 lo = 0 ∧ HT.sIx xs.length xs.length hi = xs.length) ∧ ∀ p, H p = none → Q (.ref p) (upd H p (.tup (cutV xs lo hi)))
theorem sl_tup : SlR X (rSlT X.K) := by
  intro pins s σ H x v vl vu lo hi sl Q I rx hs pl pu h
  obtain ⟨a, xs, rfl, hx, hw, q⟩ := h
  cases rx
  obtain ⟨its, r, ht, hz⟩ := I.tuple hx
  have hlen : its.toArray.size = xs.length := by rw [List.size_toArray]; exact r.length.symm
  refine ⟨"tuple", _, PyProof.Rows.slot_tuple_getitem.lookup, ht.typeIs, ?_⟩
  refine HT.getItem_tuple_cut ht hs pl pu (by rw [hlen]; exact hw) ?_ (by rw [hlen]; exact hz)
  rw [hlen]
  refine ⟨.ref s.heap.objs.size, _, I.laid (t' := s.toks) (o := .tup (cutV xs lo hi)) (fun b ob q => Heap.get?_push_of_some _ q) (Nat.le_refl _) ?_, rfl, q _ (I.hok.fresh (Nat.le_refl _))⟩
  exact ⟨Nat.le_trans (cutV_length xs lo hi) hz, _, (r.drop (HT.sIx xs.length 0 lo)).take (HT.sIx xs.length xs.length hi - HT.sIx xs.length 0 lo), IsTup.new _ _⟩
def rLtT (K : PySem.W.Frag) : R2 := fun x y H Q => ∃ a b ns ms, x = .ref a ∧ y = .ref b ∧ SqT K H a (ns.map V.int) ∧ SqT K H b (ms.map V.int) ∧ Q (.bl (HT.lexLt ns ms)) H
theorem op_ltT (hu : X.A.units < cLine) : OpR X (compareOp .Lt) (rLtT X.K) := by
  intro pins s σ H x y v u Q I rx ry h
  obtain ⟨a, b, ns, ms, rfl, rfl, ha, hb, q⟩ := h
  cases rx
  cases ry
  obtain ⟨its, r1, p1, _⟩ := I.tuple ha
  obtain ⟨its2, r2, p2, _⟩ := I.tuple hb
  have i1 : IntsAre its.toArray.toList ns := intsAre_of r1
  have i2 : IntsAre its2.toArray.toList ms := intsAre_of r2
  exact HT.lt_tupInts p1 p2 i1 i2 hu ⟨.bl (HT.lexLt ns ms), H, I, rfl, q⟩
def rCatT (K : PySem.W.Frag) : R2 := fun x y H Q => ∃ a b xs ys, x = .ref a ∧ y = .ref b ∧ SqT K H a xs ∧ SqT K H b ys ∧ xs ≠ [] ∧ xs.length + ys.length ≤ sizeLine ∧
  (ys = [] → Q (.ref a) H) ∧ (ys ≠ [] → ∀ p, H p = none → Q (.ref p) (upd H p (.tup (xs ++ ys))))
theorem Vals.nil_iff {xs : List V} {us : List Value} (r : Vals xs us) : us = [] ↔ xs = [] := by
  cases r with
  | nil => simp
  | cons _ _ => simp
theorem op_catT : OpR X (binaryOp .Add) (rCatT X.K) := by
  intro pins s σ H x y v u Q I rx ry h
  obtain ⟨a, b, xs, ys, rfl, rfl, ha, hb, hx, hz, q1, q2⟩ := h
  cases rx
  cases ry
  obtain ⟨its, r1, p1, _⟩ := I.tuple ha
  obtain ⟨its2, r2, p2, _⟩ := I.tuple hb
  refine HT.cat_tup p1 p2 (fun z => hx (r1.nil_iff.mp z)) (fun z => ⟨.ref a, H, I, rfl, q1 (r2.nil_iff.mp z)⟩) (fun z => ?_) (by rw [← r1.length, ← r2.length]; exact hz)
  refine ⟨.ref s.heap.objs.size, _, I.laid (t' := s.toks) (o := .tup (xs ++ ys)) (fun b ob q => Heap.get?_push_of_some _ q) (Nat.le_refl _) ?_, rfl, q2 (fun w => z (r2.nil_iff.mpr w)) _ (I.hok.fresh (Nat.le_refl _))⟩
  exact ⟨by rw [List.length_append]; exact hz, _, r1.append r2, IsTup.new _ _⟩
theorem call_tupleT : CallR X (.type "tuple") (fun xs H Q => ∃ a ys, xs = [.ref a] ∧ SqT X.K H a ys ∧ Q (.ref a) H) := by
  intro pins s σ H xs us Q I r h
  obtain ⟨a, ys, rfl, ha, q⟩ := h
  obtain ⟨u, rfl, ru⟩ := vals1 r
  cases ru
  obtain ⟨its, _, p1, _⟩ := I.tuple ha
  exact call_tuple_same (items := its.toArray) p1 ⟨.ref a, H, I, rfl, q⟩
end
end L2
namespace L2
open PySem PySem.Spec PyProof.Rows
def ixN (n : Nat) (i : Int) : Option Nat := if 0 ≤ i then (if i < n then some i.toNat else none) else if -(n : Int) ≤ i then some (i + n).toNat else none
def atI {α : Type} (xs : List α) (i : Int) : Option α := (ixN xs.length i).bind fun j => xs[j]?
theorem ixN_seq {n : Nat} {i : Int} {j : Nat} (h : ixN n i = some j) : seqIndex? i n = some j ∧ j < n ∧ -(n : Int) ≤ i ∧ i < n := by
  unfold ixN at h
  by_cases h0 : 0 ≤ i
  · rw [if_pos h0] at h
    by_cases h1 : i < n
    · rw [if_pos h1] at h
      have e : i.toNat = j := Option.some.inj h
      exact ⟨by rw [seqIndex_of h0 h1, e], by omega, by omega, h1⟩
    · rw [if_neg h1] at h; cases h
  · rw [if_neg h0] at h
    by_cases h1 : -(n : Int) ≤ i
    · rw [if_pos h1] at h
      have e : (i + n).toNat = j := Option.some.inj h
      exact ⟨by rw [seqIndex_neg (by omega) h1, e], by omega, h1, by omega⟩
    · rw [if_neg h1] at h; cases h
theorem atI_get {α : Type} {xs : List α} {i : Int} {v : α} (h : atI xs i = some v) : ∃ j, seqIndex? i xs.length = some j ∧ xs[j]? = some v ∧ j < xs.length ∧ -(xs.length : Int) ≤ i ∧ i < xs.length := by
  unfold atI at h
  cases e : ixN xs.length i with
  | none => rw [e] at h; cases h
  | some j =>
    rw [e] at h
    obtain ⟨h1, h2, h3, h4⟩ := ixN_seq e
    exact ⟨j, h1, h, h2, h3, h4⟩
theorem atI_nat {α : Type} {xs : List α} {j : Nat} {v : α} (h : xs[j]? = some v) : atI xs (j : Int) = some v := by
  have hj : j < xs.length := (List.getElem?_eq_some_iff.mp h).1
  have e : ixN xs.length (j : Int) = some j := by
    unfold ixN
    rw [if_pos (by omega), if_pos (by omega)]; simp
  unfold atI; rw [e]; exact h
theorem atI_last {α : Type} (xs : List α) (v : α) : atI (xs ++ [v]) (-1) = some v := by
  have hl : (xs ++ [v]).length = xs.length + 1 := by simp
  have e : ixN (xs ++ [v]).length (-1) = some xs.length := by
    unfold ixN
    rw [hl, if_neg (by decide), if_pos (by omega)]
    congr 1
    omega
  unfold atI
  rw [e]
  show (xs ++ [v])[xs.length]? = some v
  simp
def PlainIx (b : Expr) : Prop := ∀ o i, subscripted b false o i = operate [o, i] (getItem o i)
def IxR (X : Cx) (r : R2) : Prop :=
  ∀ (value slice : Expr) (pins : List (Addr × Obj)) (s : Shared) (σ : St) (H : Hp) (x y : V) (v u : Value) (Q : VK), Inv X pins σ H s → RelV x v → RelV y u → r x y H Q →
    subscripted slice false v u = operate [v, u] (getItem v u) → wpAny (model X.prog X.w) X.A (subscriptTail value slice v u) (EP X pins σ Q) X.xe s
def MtR (X : Cx) (id : String) (r : V → List V → Hp → VK → Prop) : Prop :=
  ∀ (pins : List (Addr × Obj)) (s : Shared) (σ : St) (H : Hp) (x : V) (xs : List V) (v : Value) (us : List Value) (Q : VK), Inv X pins σ H s → RelV x v → Vals xs us → r x xs H Q →
    wpAny (model X.prog X.w) X.A (call (.builtin id) (v :: us)) (EP X pins σ Q) X.xe s
section
variable {X : Cx} {a b : Expr} {ta tb : TE} {pos : Pos}
theorem IxR.or {r r' : R2} (h : IxR X r) (h' : IxR X r') : IxR X (fun x y H Q => r x y H Q ∨ r' x y H Q) := by
  intro value slice pins s σ H x y v u Q I rx ry q hs
  rcases q with q | q
  · exact h value slice pins s σ H x y v u Q I rx ry q hs
  · exact h' value slice pins s σ H x y v u Q I rx ry q hs
theorem MtR.or {id : String} {r r' : V → List V → Hp → VK → Prop} (h : MtR X id r) (h' : MtR X id r') : MtR X id (fun x xs H Q => r x xs H Q ∨ r' x xs H Q) := by
  intro pins s σ H x xs v us Q I rx rs q
  rcases q with q | q
  · exact h pins s σ H x xs v us Q I rx rs q
  · exact h' pins s σ H x xs v us Q I rx rs q
theorem pe_ix {r : R2} (hr : IxR X r) (ha : PE X a ta) (hb : PE X b tb) (hs : PlainIx b) : PE X (.Subscript a b pos) (tOp r ta tb) := by
  intro pins s σ H Q I h
  exact Subscript_ (binT ha hb I h fun v u s2 x y H2 I2 rx ry q => hr a b pins s2 σ H2 x y v u Q I2 rx ry q (hs _ _))
def rIxL (K : PySem.W.Frag) : R2 := fun x y H Q => ∃ p xs i v, x = .ref p ∧ y = .int i ∧ SqL K H p xs ∧ atI xs i = some v ∧ Q v H
def rIxT (K : PySem.W.Frag) : R2 := fun x y H Q => ∃ p xs i v, x = .ref p ∧ y = .int i ∧ SqT K H p xs ∧ atI xs i = some v ∧ Q v H
def rIxS : R2 := fun x y H Q => ∃ z i c, x = .str z ∧ y = .int i ∧ z.length ≤ sizeLine ∧ atI z.cps.toList i = some c ∧ Q (.str ⟨#[c]⟩) H
theorem ix_list : IxR X (rIxL X.K) := by
  intro value slice pins s σ H x y v u Q I rx ry h hs
  obtain ⟨p, xs, i, z, rfl, rfl, hq, he, q⟩ := h
  cases rx
  obtain ⟨t, rfl⟩ := ry
  obtain ⟨its, r, pl, hz⟩ := I.list hq
  obtain ⟨j, h1, h2, h3, h4, h5⟩ := atI_get he
  obtain ⟨w, ew, rw'⟩ := r.get h2
  have hl := r.length
  have hn := line63
  have fin : EP X pins σ Q w s := ⟨z, H, I, rw', q⟩
  by_cases h0 : 0 ≤ i
  · have hj : i.toNat = j := by
      rw [seqIndex_of h0 h5] at h1
      exact Option.some.inj h1
    exact item_listR pl.isList h0 (by omega) (by rw [hj]; simpa using ew) fin hs
  · have hj : (i + (its.toArray.size : Int)).toNat = j := by
      rw [seqIndex_neg (by omega) h4] at h1
      rw [List.size_toArray, ← hl]
      exact Option.some.inj h1
    exact subscriptTail_builtinR (x := w) pl.isList.typeIs slot_list_getitem.lookup
      (wpAny_getItem_list_neg (Q := fun r s' => r = w ∧ EP X pins σ Q r s') pl.isList (by omega) (by rw [List.size_toArray] <;> omega) (by omega) (by rw [hj]; simpa using ew) ⟨rfl, fin⟩) hs
theorem ix_tup : IxR X (rIxT X.K) := by
  intro value slice pins s σ H x y v u Q I rx ry h hs
  obtain ⟨p, xs, i, z, rfl, rfl, hq, he, q⟩ := h
  cases rx
  obtain ⟨t, rfl⟩ := ry
  obtain ⟨its, r, pl, hz⟩ := I.tuple hq
  obtain ⟨j, h1, h2, h3, h4, h5⟩ := atI_get he
  obtain ⟨w, ew, rw'⟩ := r.get h2
  have hl := r.length
  have hn := line63
  have fin : EP X pins σ Q w s := ⟨z, H, I, rw', q⟩
  exact subscriptTail_builtinR (x := w) pl.typeIs slot_tuple_getitem.lookup
    (getItem_tuple (j := j) (Q := fun r s' => r = w ∧ EP X pins σ Q r s') pl (by omega) (by omega) (by rw [List.size_toArray, ← hl]; exact h1) (by simpa using ew) ⟨rfl, fin⟩) hs
theorem ix_str : IxR X rIxS := by
  intro value slice pins s σ H x y v u Q I rx ry h hs
  obtain ⟨z, i, c, rfl, rfl, hz, he, q⟩ := h
  obtain ⟨t, rfl⟩ := rx
  obtain ⟨t', rfl⟩ := ry
  obtain ⟨j, h1, h2, h3, h4, h5⟩ := atI_get he
  have hl : z.cps.toList.length = z.length := by simp [Str.length]
  rw [hl] at h1 h4 h5
  have hn := line63
  exact tail_any (typeIs_str s z t) slot_str_getitem.lookup (getItem_str (c := c) (by
    have e1 : decide (i < -(2 ^ 63 : Int)) = false := decide_eq_false (by omega)
    have e2 : decide (i ≥ 2 ^ 63) = false := decide_eq_false (by omega)
    rw [e1, e2, Bool.or_false]) (by rw [h1]; simpa using h2) ⟨.str ⟨#[c]⟩, H, I.tok _, ⟨_, rfl⟩, q⟩) hs
def rIx (K : PySem.W.Frag) : R2 := fun x y H Q => rIxL K x y H Q ∨ rIxT K x y H Q ∨ rIxS x y H Q
theorem ix_seq : IxR X (rIx X.K) := ix_list.or (ix_tup.or ix_str)
theorem mapSeq_set (its : List Value) (n j : Nat) (u : Value) : Obj.mapSeq (·.setIfInBounds j u) { cls := .type "list", data := .seq its.toArray n } = { cls := .type "list", data := .seq (its.set j u).toArray n } := by
  simp [Obj.mapSeq]
theorem Inv.lst {pins : List (Addr × Obj)} {σ : St} {H : Hp} {s : Shared} {p : Addr} {xs : List V} (I : Inv X pins σ H s) (h : H p = some (.lst xs)) :
    ∃ (its : List Value) (n : Nat), Vals xs its ∧ s.heap.get? p = some { cls := .type "list", data := .seq its.toArray n } ∧ xs.length ≤ sizeLine := by
  obtain ⟨z, its, n, r, e⟩ := I.hok p _ h
  exact ⟨its, n, r, e, z⟩
theorem Inv.lstUpd {pins : List (Addr × Obj)} {σ : St} {H : Hp} {s : Shared} {p : Addr} {xs ys : List V} {its its' : List Value} {n n' : Nat} {f : Obj → Obj} (I : Inv X pins σ H s) (h : H p = some (.lst xs))
    (ho : s.heap.get? p = some { cls := .type "list", data := .seq its.toArray n }) (hf : f { cls := .type "list", data := .seq its.toArray n } = { cls := .type "list", data := .seq its'.toArray n' }) (r : Vals ys its') (hz : ys.length ≤ sizeLine) (t : Nat) :
    Inv X pins σ (upd H p (.lst ys)) { s with heap := s.heap.update p f, toks := t } := by
  have e : (s.heap.update p f).get? p = some { cls := .type "list", data := .seq its'.toArray n' } := by
    rw [Heap.get?_update_self f ho (by rw [hf] <;> rfl), hf]
  refine I.write (x := p) (e := p) (by rw [h]; trivial) (.inl rfl) (fun b u hb q => (Heap.get?_update_other _ _ (Ne.symm hb)).trans q) ⟨_, e⟩ ?_
  exact ⟨hz, its', n', r, e⟩
def rSetL : V → V → V → Hp → (Hp → Prop) → Prop := fun o i v H Q => ∃ p xs k j, o = .ref p ∧ i = .int k ∧ H p = some (.lst xs) ∧ ixN xs.length k = some j ∧ Q (upd H p (.lst (xs.set j v)))
theorem set_list : PSet X rSetL := by
  intro pins s σ H o i v ov iv u Q I ro ri rv h
  obtain ⟨p, xs, k, j, rfl, rfl, hp, hj, q⟩ := h
  cases ro
  obtain ⟨t, rfl⟩ := ri
  obtain ⟨its, n, r, ho, hz⟩ := I.lst hp
  obtain ⟨h1, h2, h3, h4⟩ := ixN_seq hj
  have hl := r.length
  have hn := line63
  have I' : Inv X pins σ (upd H p (.lst (xs.set j v))) { s with heap := s.heap.update p (Obj.mapSeq (·.setIfInBounds j u)) } :=
    I.lstUpd hp ho (mapSeq_set its n j u) (r.set rv j) (by rw [List.length_set]; exact hz) s.toks
  by_cases h0 : 0 ≤ k
  · have hk : k.toNat = j := by
      rw [seqIndex_of h0 h4] at h1
      exact Option.some.inj h1
    exact PySem.W.ki_setAt ho h0 (by omega) (by rw [List.size_toArray, ← hl]; exact h4) (by rw [hk]; exact ⟨_, I', q⟩)
  · have hk : (k + (its.toArray.size : Int)).toNat = j := by
      rw [seqIndex_neg (by omega) h3] at h1
      rw [List.size_toArray, ← hl]
      exact Option.some.inj h1
    exact PySem.W.ki_setBack ho (by omega) (by rw [List.size_toArray, ← hl]; exact h3) (by omega) (by rw [hk]; exact ⟨_, I', q⟩)
theorem slice_bounds (lo hi : Option Int) (n : Nat) : (sliceBounds lo hi none n).1 = ((HT.sIx n 0 lo : Nat) : Int) ∧ (sliceBounds lo hi none n).2.1 = ((HT.sIx n n hi : Nat) : Int) ∧ (sliceBounds lo hi none n).2.2 = 1 := by
  refine ⟨?_, ?_, rfl⟩
  · cases lo with
    | none => simp [sliceBounds, HT.sIx]
    | some i =>
      simp only [sliceBounds, HT.sIx, Option.getD_none, show (1 : Int) > 0 by decide, if_true]
      by_cases h : i < 0
      · simp only [h, if_true] <;> omega
      · simp only [h, if_false] <;> omega
  · cases hi with
    | none => simp [sliceBounds, HT.sIx]
    | some i =>
      simp only [sliceBounds, HT.sIx, Option.getD_none, show (1 : Int) > 0 by decide, if_true]
      by_cases h : i < 0
      · simp only [h, if_true] <;> omega
      · simp only [h, if_false] <;> omega
theorem slicePick_cut (its : List Value) (lo hi : Option Int) : slicePick its.toArray lo hi none = ((its.drop (HT.sIx its.length 0 lo)).take (HT.sIx its.length its.length hi - HT.sIx its.length 0 lo)).toArray := by
  obtain ⟨h1, h2, h3⟩ := slice_bounds lo hi its.toArray.size
  unfold slicePick
  rw [h1, h2, h3]
  simp only [sliceRange_one, pick_run, List.size_toArray] <;> rfl
def rSlL (K : PySem.W.Frag) : V → Option Int → Option Int → Hp → VK → Prop := fun x lo hi H Q => ∃ a xs, x = .ref a ∧ SqL K H a xs ∧ ∀ p, H p = none → Q (.ref p) (upd H p (.lst (cutV xs lo hi)))
theorem sl_list : SlR X (rSlL X.K) := by
  intro pins s σ H x v vl vu lo hi sl Q I rx hs pl pu h
  obtain ⟨a, xs, rfl, hx, q⟩ := h
  cases rx
  obtain ⟨its, r, ht, hz⟩ := I.list hx
  have hlen := r.length
  refine ⟨"list", _, slot_list_getitem.lookup, ht.isList.typeIs, ?_⟩
  refine wpAny_getItem_list_slice ht.isList hs pl pu .none (by simp) ?_ (by rw [List.size_toArray] <;> omega)
  rw [slicePick_cut, ← hlen]
  refine ⟨.ref s.heap.objs.size, _, I.laid (t' := s.toks) (o := .lst (cutV xs lo hi)) (fun b ob q => Heap.get?_push_of_some _ q) (Nat.le_refl _) ?_, rfl, q _ (I.hok.fresh (Nat.le_refl _))⟩
  exact ⟨Nat.le_trans (cutV_length xs lo hi) hz, _, 0, (r.drop (HT.sIx xs.length 0 lo)).take (HT.sIx xs.length xs.length hi - HT.sIx xs.length 0 lo), Heap.get?_push_size _ rfl⟩
def flatV : V → Bool
  | .non => true
  | .bl _ => true
  | .int _ => true
  | .str _ => true
  | _ => false
def eqV : V → V → Bool
  | .non, .non => true
  | .bl a, .bl b => a == b
  | .bl a, .int b => (if a then 1 else 0) == b
  | .int a, .bl b => a == (if b then 1 else 0)
  | .int a, .int b => a == b
  | .str a, .str b => a == b
  | _, _ => false
theorem eqAt_V {A : Around} {s : Shared} {y x : V} {u v : Value} (ry : RelV y u) (rx : RelV x v) (fy : flatV y = true) (fx : flatV x = true) : SeqAt.EqAt A s u v (eqV y x) := by
  cases y with
  | non =>
    cases ry
    cases x with
    | non => cases rx; exact SeqAt.EqAt.same _
    | bl b => cases rx; exact SeqAt.EqAt.none_bool b
    | int b => obtain ⟨t, rfl⟩ := rx; exact SeqAt.EqAt.none_int b t
    | str b => obtain ⟨t, rfl⟩ := rx; exact SeqAt.EqAt.none_str b t
    | _ => exact absurd (show false = true from fx) Bool.false_ne_true
  | bl a =>
    cases ry
    cases x with
    | non => cases rx; exact SeqAt.EqAt.bool_none a
    | bl b => cases rx; exact SeqAt.EqAt.bool_bool a b
    | int b => obtain ⟨t, rfl⟩ := rx; exact SeqAt.EqAt.bool_int a b t
    | str b => obtain ⟨t, rfl⟩ := rx; exact SeqAt.EqAt.bool_str a b t
    | _ => exact absurd (show false = true from fx) Bool.false_ne_true
  | int a =>
    obtain ⟨t', rfl⟩ := ry
    cases x with
    | non => cases rx; exact SeqAt.EqAt.int_none a t'
    | bl b => cases rx; exact SeqAt.EqAt.int_bool a t' b
    | int b => obtain ⟨t, rfl⟩ := rx; exact SeqAt.EqAt.int_int a t' b t
    | str b => obtain ⟨t, rfl⟩ := rx; exact SeqAt.EqAt.int_str a t' b t
    | _ => exact absurd (show false = true from fx) Bool.false_ne_true
  | str a =>
    obtain ⟨t', rfl⟩ := ry
    cases x with
    | non => cases rx; exact SeqAt.EqAt.str_none a t'
    | bl b => cases rx; exact SeqAt.EqAt.str_bool a t' b
    | int b => obtain ⟨t, rfl⟩ := rx; exact SeqAt.EqAt.str_int a t' b t
    | str b => obtain ⟨t, rfl⟩ := rx; exact SeqAt.EqAt.str_str a t' b t
    | _ => exact absurd (show false = true from fx) Bool.false_ne_true
  | _ => exact absurd (show false = true from fy) Bool.false_ne_true
def eqU (x : V) (u : Value) : Bool := match u with
  | .none => eqV .non x
  | .bool b => eqV (.bl b) x
  | .int i _ => eqV (.int i) x
  | .str z _ => eqV (.str z) x
  | _ => false
theorem eqU_of {x y : V} {u : Value} (r : RelV y u) (f : flatV y = true) : eqU x u = eqV y x := by
  cases y with
  | non => cases r; rfl
  | bl b => cases r; rfl
  | int i => obtain ⟨t, rfl⟩ := r; rfl
  | str z => obtain ⟨t, rfl⟩ := r; rfl
  | _ => exact absurd (show false = true from f) Bool.false_ne_true
theorem any_eqU {x : V} : ∀ {xs : List V} {us : List Value}, Vals xs us → xs.all flatV = true → us.any (eqU x) = xs.any fun y => eqV y x
  | _, _, .nil, _ => rfl
  | y :: xs, u :: us, .cons r t, f => by
    rw [List.all_cons, Bool.and_eq_true] at f
    rw [List.any_cons, List.any_cons, eqU_of r f.1, any_eqU t f.2]
theorem mem_eqAt {A : Around} {s : Shared} {x : V} {v : Value} (rx : RelV x v) (fx : flatV x = true) : ∀ {xs : List V} {us : List Value}, Vals xs us → xs.all flatV = true → ∀ u ∈ us, SeqAt.EqAt A s u v (eqU x u)
  | _, _, .nil, _ => fun u hu => by cases hu
  | y :: xs, u :: us, .cons r t, f => fun u' hu => by
    rw [List.all_cons, Bool.and_eq_true] at f
    rcases List.mem_cons.mp hu with rfl | hu
    · rw [eqU_of r f.1]; exact eqAt_V r rx f.1 fx
    · exact mem_eqAt rx fx t f.2 u' hu
def inV (x : V) (xs : List V) : Bool := xs.any fun y => eqV y x
def rIn (K : PySem.W.Frag) (neg : Bool) : R2 := fun x y H Q => ∃ p xs, y = .ref p ∧ (SqL K H p xs ∨ SqT K H p xs) ∧ flatV x = true ∧ xs.all flatV = true ∧ Q (.bl (if neg then !inV x xs else inV x xs)) H
theorem op_in_seq : OpR X (compareOp .In) (rIn X.K false) := by
  intro pins s σ H x y v u Q I rx ry h
  obtain ⟨p, xs, rfl, hq, fx, fs, q⟩ := h
  cases ry
  rcases hq with hq | hq
  · obtain ⟨its, r, pl, hz⟩ := I.list hq
    refine SeqAt.in_listAt (eqU x) pl.isList (fun w hw => mem_eqAt rx fx r fs w (by simpa using hw)) ⟨.bl _, H, I, rfl, ?_⟩
    rw [show its.toArray.any (eqU x) = its.any (eqU x) by simp, any_eqU r fs]
    exact q
  · obtain ⟨its, r, pl, hz⟩ := I.tuple hq
    refine SeqAt.in_tupleAt (eqU x) pl (fun w hw => mem_eqAt rx fx r fs w (by simpa using hw)) ⟨.bl _, H, I, rfl, ?_⟩
    rw [show its.toArray.any (eqU x) = its.any (eqU x) by simp, any_eqU r fs]
    exact q
theorem op_notIn_seq : OpR X (compareOp .NotIn) (rIn X.K true) := by
  intro pins s σ H x y v u Q I rx ry h
  obtain ⟨p, xs, rfl, hq, fx, fs, q⟩ := h
  cases ry
  rcases hq with hq | hq
  · obtain ⟨its, r, pl, hz⟩ := I.list hq
    refine SeqAt.notIn_listAt (eqU x) pl.isList (fun w hw => mem_eqAt rx fx r fs w (by simpa using hw)) ⟨.bl _, H, I, rfl, ?_⟩
    rw [show its.toArray.any (eqU x) = its.any (eqU x) by simp, any_eqU r fs]
    exact q
  · obtain ⟨its, r, pl, hz⟩ := I.tuple hq
    refine SeqAt.notIn_tupleAt (eqU x) pl (fun w hw => mem_eqAt rx fx r fs w (by simpa using hw)) ⟨.bl _, H, I, rfl, ?_⟩
    rw [show its.toArray.any (eqU x) = its.any (eqU x) by simp, any_eqU r fs]
    exact q
theorem op_notIn_str : OpR X (compareOp .NotIn) (fun x y H Q => ∃ i j, x = .str i ∧ y = .str j ∧ Q (.bl (!(!(Builtin.Str.occurrences j i 0 j.length 1).isEmpty))) H) := by
  intro pins s σ H x y v u Q I rx ry h
  obtain ⟨i, j, rfl, rfl, q⟩ := h
  obtain ⟨t, rfl⟩ := rx
  obtain ⟨t', rfl⟩ := ry
  exact notIn_str ⟨.bl _, H, I, rfl, q⟩
theorem call_len_seq : CallR X (.builtin "len") (fun xs H Q => ∃ p ys, xs = [.ref p] ∧ (SqL X.K H p ys ∨ SqT X.K H p ys) ∧ Q (.int ys.length) H) := by
  intro pins s σ H xs us Q I r h
  obtain ⟨p, ys, rfl, hq, q⟩ := h
  obtain ⟨u, rfl, rx⟩ := vals1 r
  cases rx
  have hn := line63
  rcases hq with hq | hq
  · obtain ⟨its, r', pl, hz⟩ := I.list hq
    have hlen := r'.length
    exact Calls.call_len_list pl.isList (by simp only [List.size_toArray] <;> omega) ⟨.int ys.length, H, I.tok _, ⟨s.toks + 1, by rw [List.size_toArray, hlen]⟩, q⟩
  · obtain ⟨its, r', pl, hz⟩ := I.tuple hq
    have hlen := r'.length
    exact len_tuple pl (by simp only [List.size_toArray] <;> omega) ⟨.int ys.length, H, I.tok _, ⟨s.toks + 1, by rw [List.size_toArray, hlen]⟩, q⟩
theorem call_len_str : CallR X (.builtin "len") (fun xs H Q => ∃ z, xs = [.str z] ∧ z.length ≤ sizeLine ∧ Q (.int z.length) H) := by
  intro pins s σ H xs us Q I r h
  obtain ⟨z, rfl, hz, q⟩ := h
  obtain ⟨u, rfl, t, rfl⟩ := vals1 r
  have hn := line63
  exact len_str (by omega) ⟨.int z.length, H, I.tok _, ⟨_, rfl⟩, q⟩
theorem CallR.or {f : Value} {r r' : List V → Hp → VK → Prop} (h : CallR X f r) (h' : CallR X f r') : CallR X f (fun xs H Q => r xs H Q ∨ r' xs H Q) := by
  intro pins s σ H xs us Q I rs q
  rcases q with q | q
  · exact h pins s σ H xs us Q I rs q
  · exact h' pins s σ H xs us Q I rs q
theorem call_list_of : CallR X (.type "list") (fun xs H Q => ∃ p ys, xs = [.ref p] ∧ (SqL X.K H p ys ∨ SqT X.K H p ys) ∧ ∀ l, H l = none → Q (.ref l) (upd H l (.lst ys))) := by
  intro pins s σ H xs us Q I r h
  obtain ⟨p, ys, rfl, hq, q⟩ := h
  obtain ⟨u, rfl, rx⟩ := vals1 r
  cases rx
  have fin : ∀ (its : List Value), Vals ys its → ys.length ≤ sizeLine → ∀ (h' : Heap) (c' : Nat), (∀ b o', s.heap.get? b = some o' → h'.get? b = some o') →
      h'.get? s.heap.objs.size = some { cls := .type "list", dict := none, data := .seq its.toArray c', slots := #[] } → EP X pins σ Q (.ref s.heap.objs.size) { s with heap := h' } := fun its r' hz h' c' kp e =>
    ⟨.ref s.heap.objs.size, _, I.laid (t' := s.toks) kp (Nat.le_refl _) (show ObjOk X.prog X.w _ h' _ (.lst ys) from ⟨hz, its, c', r', e⟩), rfl, q _ (I.hok.fresh (Nat.le_refl _))⟩
  rcases hq with hq | hq
  · obtain ⟨its, r', pl, hz⟩ := I.list hq
    have hlen := r'.length
    obtain ⟨o, ho, hc, n, hd⟩ := pl.isList
    exact call_list_seq p (.inl rfl) ho hc hd (fun h' c' kp e => fin its r' hz h' c' kp e) (by simp only [List.size_toArray] <;> omega)
  · obtain ⟨its, r', pl, hz⟩ := I.tuple hq
    have hlen := r'.length
    obtain ⟨o, ho, hc, n, hd⟩ := pl
    exact call_list_seq p (.inr rfl) ho hc hd (fun h' c' kp e => fin its r' hz h' c' kp e) (by simp only [List.size_toArray] <;> omega)
theorem call_tuple_of : CallR X (.type "tuple") (fun xs H Q => ∃ p ys, xs = [.ref p] ∧ ((SqL X.K H p ys ∧ ∀ l, H l = none → Q (.ref l) (upd H l (.tup ys))) ∨ (SqT X.K H p ys ∧ Q (.ref p) H))) := by
  intro pins s σ H xs us Q I r h
  obtain ⟨p, ys, rfl, h⟩ := h
  obtain ⟨u, rfl, rx⟩ := vals1 r
  cases rx
  rcases h with ⟨hq, q⟩ | ⟨hq, q⟩
  · obtain ⟨its, r', pl, hz⟩ := I.list hq
    have hlen := r'.length
    refine call_tuple_list pl.isList (fun h' kp => ?_) (by simp only [List.size_toArray] <;> omega)
    have I1 : Inv X pins σ H { s with heap := h' } := I.kept (t' := s.toks) kp
    have I2 : Inv X pins σ (upd H h'.objs.size (.tup ys)) { s with heap := h'.push { cls := .type "tuple", data := .seq its.toArray } } :=
      I1.laid (t' := s.toks) (fun b o e => Heap.get?_push_of_some _ e) (Nat.le_refl _) (show ObjOk X.prog X.w _ _ _ (.tup ys) from ⟨hz, its, r', IsTup.new _ _⟩)
    exact ⟨.ref h'.objs.size, _, I2, rfl, q _ (I1.hok.fresh (Nat.le_refl _))⟩
  · obtain ⟨its, r', pl, hz⟩ := I.tuple hq
    exact call_tuple_same pl ⟨.ref p, H, I, rfl, q⟩
def tyV (K : PySem.W.Frag) (T : String) (x : V) (H : Hp) : Prop := match x with
  | .str _ => T = "str"
  | .int _ => T = "int"
  | .ref p => (T = "list" ∧ ∃ xs, SqL K H p xs) ∨ (T = "tuple" ∧ ∃ o, K.lookup p = some o ∧ o.cls = .type "tuple" ∧ o.dict = none) ∨
      (T = "dict" ∧ ((∃ kvs, H p = some (.dK kvs)) ∨ ∃ kvs, H p = some (.dT kvs))) ∨ (T = "set" ∧ ∃ S n, H p = some (.set S n))
  | _ => False
theorem tyV_is {pins : List (Addr × Obj)} {σ : St} {H : Hp} {s : Shared} {T : String} {x : V} {v : Value} (I : Inv X pins σ H s) (r : RelV x v) (ty : tyV X.K T x H) :
    s.TypeIs v T ∧ ∀ a, v = .ref a → ∃ ob, s.heap.get? a = some ob ∧ ob.dict = none := by
  cases x with
  | str z =>
    obtain ⟨t, rfl⟩ := r
    cases (show T = "str" from ty)
    exact ⟨typeIs_str s z t, fun _ e => nomatch e⟩
  | int i =>
    obtain ⟨t, rfl⟩ := r
    cases (show T = "int" from ty)
    exact ⟨typeIs_int s i t, fun _ e => nomatch e⟩
  | ref p =>
    cases r
    rcases ty with ⟨rfl, xs, hq⟩ | ⟨rfl, o, hk, hc, hd⟩ | ⟨rfl, hk⟩ | ⟨rfl, S, n, hk⟩
    · obtain ⟨its, _, pl, _⟩ := I.list hq
      refine ⟨pl.isList.typeIs, fun a e => ?_⟩
      cases e
      obtain ⟨o, n, e, c, hd, _⟩ := pl
      exact ⟨o, e, hd⟩
    · refine ⟨⟨o, I.kIn p o hk, hc⟩, fun a e => ?_⟩
      cases e
      exact ⟨o, I.kIn _ o hk, hd⟩
    · have z : ∃ o, s.heap.get? p = some o ∧ o.ExactDict := by
        rcases hk with ⟨kvs, hk⟩ | ⟨kvs, hk⟩
        · obtain ⟨_, _, _, _, o, _, _, e, ex, _⟩ := I.hok p _ hk
          exact ⟨o, e, ex⟩
        · obtain ⟨_, _, _, _, o, _, _, e, ex, _⟩ := I.hok p _ hk
          exact ⟨o, e, ex⟩
      obtain ⟨o, e, ex⟩ := z
      refine ⟨⟨o, e, ex.1⟩, fun a e2 => ?_⟩
      cases e2
      exact ⟨o, e, ex.2.1⟩
    · obtain ⟨o, _, _, _, e, ex, _⟩ := I.hok p _ hk
      refine ⟨⟨o, e, ex.1⟩, fun a e2 => ?_⟩
      cases e2
      exact ⟨o, e, ex.2.1⟩
  | _ => exact False.elim ty
def tBM0 (K : PySem.W.Frag) (T : String) (r : V → List V → Hp → VK → Prop) (to : TE) : TE := fun σ H Q => to σ H fun x H1 => tyV K T x H1 ∧ r x [] H1 Q
def tBM (K : PySem.W.Frag) (T : String) (r : V → List V → Hp → VK → Prop) (to : TE) (t : TA) : TE := fun σ H Q => to σ H fun x H1 => tyV K T x H1 ∧ t σ H1 fun xs H2 => r x xs H2 Q
variable {o e : Expr} {es : List Expr} {to : TE} {t : TA} {name : Str} {apos cpos : Pos} {T id : String} {r : V → List V → Hp → VK → Prop}
theorem pe_bm0 (pa : PlainAttrs T) (slot : Slot T name id) (hty : typeOf (.builtin id) = pure (.type "method_descriptor")) (hm : MtR X id r) (ho : PE X o to)
    (hbase : attributeBase o name X.env (eval o X.env) = eval o X.env := by rfl) (hline : (apos.endLine == cpos.line) = true := by rfl) : PE X (.Call (.Attribute o name apos) [] [] cpos) (tBM0 X.K T r to) := by
  intro pins s σ H Q I h
  refine wpAny_Call_method0_late hbase hline (thn (ho pins s σ H _ I h) fun v s1 ⟨x, H1, I1, r1, ty, q1⟩ => ?_)
  obtain ⟨h1, h2⟩ := tyV_is I1 r1 ty
  exact ⟨T, id, pa, slot, hty, h1, h2, Calls.callWith_builtin rfl (PySem.evalArgs_none (hm pins s1 σ H1 x [] v [] Q I1 r1 .nil q1))⟩
theorem pe_bm (pa : PlainAttrs T) (slot : Slot T name id) (hty : typeOf (.builtin id) = pure (.type "method_descriptor")) (hm : MtR X id r) (ho : PE X o to) (ha : PA X (e :: es) t)
    (hbase : attributeBase o name X.env (eval o X.env) = eval o X.env := by rfl)
    (hfew : ((backTo cpos (starEach (e :: es) X.env)).all (fun x => !x.1) && (backToKw cpos (keywordEach [] X.env)).all (fun x => x.1.isSome)
      && decide ((e :: es).length + ([] : List Keyword).length + (if ([] : List Keyword).isEmpty then 0 else 1) < 30)) = true := by rfl)
    (hline : (apos.endLine == cpos.line) = true := by rfl) (hs : starEach (e :: es) X.env = (false, eval e X.env) :: starEach es X.env := by rfl) (hplain : (backTo cpos (starEach es X.env)).any (·.1) = false := by rfl) :
    PE X (.Call (.Attribute o name apos) (e :: es) [] cpos) (tBM X.K T r to t) := by
  intro pins s σ H Q I h
  refine wpAny_Call_method_late hbase hfew hline rfl (thn (ho pins s σ H _ I h) fun v s1 ⟨x, H1, I1, r1, ty, q1⟩ => ?_)
  obtain ⟨h1, h2⟩ := tyV_is I1 r1 ty
  refine ⟨T, id, pa, slot, hty, h1, h2, ?_⟩
  have hA := ha cpos pins s1 σ H1 _ I1 q1
  rw [hs] at hA ⊢
  refine Calls.callWith_builtin (by show (false || (backTo cpos (starEach es X.env)).any (·.1)) = false; rw [hplain] <;> rfl) (Calls.evalArgs_plain ?_)
  exact thn hA fun us s2 ⟨vs, H2, I2, r2, q2⟩ => hm pins s2 σ H2 x vs v us Q I2 r1 r2 q2
/- xs.append(e), list.index on a module's tuple .. are MtR facts of 06m -/
end
end L2
namespace L2
open PySem PySem.Spec PyProof.Rows
def MtM (X : Cx) (id : String) (r : V → List V → Hp → VK → Prop) : Prop :=
  ∀ (pins : List (Addr × Obj)) (s : Shared) (σ : St) (H : Hp) (x : V) (xs : List V) (v : Value) (us : List Value) (Q : VK), Inv X pins σ H s → RelV x v → Vals xs us → r x xs H Q →
    wpAny (model X.prog X.w) X.A (call (.builtin id) (v :: us)) (EP X pins σ Q) X.xe s
theorem Vals.one : ∀ {x : V} {us : List Value}, Vals [x] us → ∃ u, us = [u] ∧ RelV x u
  | _, _, .cons r .nil => ⟨_, rfl, r⟩
theorem Vals.two : ∀ {x y : V} {us : List Value}, Vals [x, y] us → ∃ u v, us = [u, v] ∧ RelV x u ∧ RelV y v
  | _, _, _, .cons r (.cons q .nil) => ⟨_, _, rfl, r, q⟩
theorem Vals.zero : ∀ {us : List Value}, Vals [] us → us = []
  | _, .nil => rfl
theorem Vals.dropLast {xs : List V} {us : List Value} (h : Vals xs us) : Vals xs.dropLast us.dropLast := by
  induction h with
  | nil => exact .nil
  | cons r t ih =>
    cases t with
    | nil => exact .nil
    | cons q t' => exact .cons r ih
theorem Vals.eraseIdx : ∀ {xs : List V} {us : List Value} (i : Nat), Vals xs us → Vals (xs.eraseIdx i) (us.eraseIdx i)
  | _, _, _, .nil => .nil
  | _, _, 0, .cons _ t => t
  | _, _, i + 1, .cons r t => .cons r (Vals.eraseIdx i t)
theorem Vals.reverse {xs : List V} {us : List Value} (h : Vals xs us) : Vals xs.reverse us.reverse := by
  induction h with
  | nil => exact .nil
  | cons r t ih => rw [List.reverse_cons, List.reverse_cons]; exact Vals.append ih (.cons r .nil)
theorem Vals.rep {xs : List V} {us : List Value} (h : Vals xs us) : ∀ k : Nat, Vals (List.replicate k xs).flatten (List.replicate k us).flatten
  | 0 => .nil
  | k + 1 => by
    rw [List.replicate_succ, List.replicate_succ, List.flatten_cons, List.flatten_cons]
    exact Vals.append h (Vals.rep h k)
theorem erase_last {α : Type} (l : List α) : l.eraseIdx (l.length - 1) = l.dropLast := by
  induction l with
  | nil => rfl
  | cons a r ih =>
    cases r with
    | nil => rfl
    | cons b r =>
      have e : (a :: b :: r).length - 1 = ((b :: r).length - 1) + 1 := by
        have h1 : (a :: b :: r).length = r.length + 2 := rfl
        have h2 : (b :: r).length = r.length + 1 := rfl
        omega
      rw [e, List.eraseIdx_cons_succ, ih]
      all_goals rfl
theorem len_erase {α : Type} : ∀ (l : List α) (i : Nat), (l.eraseIdx i).length ≤ l.length
  | [], _ => Nat.le_refl _
  | _ :: _, 0 => Nat.le_succ _
  | _ :: r, i + 1 => Nat.succ_le_succ (len_erase r i)
theorem foldl_rep (its : List Value) : ∀ (k : Nat) (acc : List Value),
    List.foldl (fun x1 x2 => x1 ++ x2) acc.toArray (List.replicate k its.toArray) = (acc ++ (List.replicate k its).flatten).toArray
  | 0, acc => by simp
  | k + 1, acc => by
    have e : acc.toArray ++ its.toArray = (acc ++ its).toArray := by simp
    have e2 : (acc ++ its) ++ (List.replicate k its).flatten = acc ++ (List.replicate (k + 1) its).flatten := by
      rw [List.replicate_succ, List.flatten_cons, List.append_assoc]
    rw [← e2, ← foldl_rep its k (acc ++ its), ← e, List.replicate_succ, List.foldl_cons]
section
variable {X : Cx} {pins : List (Addr × Obj)} {σ : St} {H : Hp} {s : Shared} {l b : Addr} {xs ys zs : List V}
theorem Inv.lset {its its' : List Value} {n : Nat} {f : Array Value → Array Value} {t' : Nat} (I : Inv X pins σ H s) (hH : H l = some (.lst xs))
    (e : s.heap.get? l = some { cls := .type "list", data := .seq its.toArray n }) (hf : f its.toArray = its'.toArray) (hv : Vals ys its') (hz : ys.length ≤ sizeLine) :
    Inv X pins σ (upd H l (.lst ys)) { s with heap := s.heap.update l (Obj.mapSeq f), toks := t' } := by
  have q := PySem.IsL.update e f
  rw [hf] at q
  refine I.write (x := l) (e := l) (by rw [hH]; exact trivial) (.inl rfl) (fun b' u hb hu => (Heap.get?_update_other s.heap (Obj.mapSeq f) (Ne.symm hb)).trans hu) ⟨_, q⟩ ?_
  exact ⟨hz, its', _, hv, q⟩
theorem Inv.lnew {its : List Value} {t' : Nat} (I : Inv X pins σ H s) (hv : Vals ys its) (hz : ys.length ≤ sizeLine) :
    Inv X pins σ (upd H s.heap.objs.size (.lst ys)) { s with heap := s.heap.push { cls := .type "list", data := .seq its.toArray }, toks := t' } :=
  I.laid (fun _ _ q => Heap.get?_push_of_some _ q) (Nat.le_refl _) ⟨hz, its, 0, hv, Heap.get?_push_size _ rfl⟩
theorem Inv.fresh (I : Inv X pins σ H s) : H s.heap.objs.size = none := I.hok.fresh (Nat.le_refl _)
theorem Inv.lstM (I : Inv X pins σ H s) (hH : H l = some (.lst xs)) : xs.length ≤ sizeLine ∧ ∃ (its : List Value) (n : Nat), Vals xs its ∧ xs.length = its.length ∧ s.heap.get? l = some { cls := .type "list", data := .seq its.toArray n } := by
  obtain ⟨z, its, n, r, e⟩ := I.hok l _ hH
  exact ⟨z, its, n, r, r.length, e⟩
theorem notLongL {n : Nat} (h : n ≤ sizeLine) : Builtin.List.listTooLong n = false := by
  unfold Builtin.List.listTooLong
  exact decide_eq_false (by omega)
end
section
variable {X : Cx}
def rAppend : V → List V → Hp → VK → Prop := fun x vs H Q => ∃ l xs y, x = .ref l ∧ vs = [y] ∧ H l = some (.lst xs) ∧ xs.length < sizeLine ∧ Q .non (upd H l (.lst (xs ++ [y])))
theorem mt_append : MtM X "list.append" rAppend := by
  intro pins s σ H x vs v us Q I rx rv h
  obtain ⟨l, xs, y, rfl, rfl, hH, hz, q⟩ := h
  cases rx
  obtain ⟨u, rfl, ru⟩ := rv.one
  obtain ⟨z, its, n, r, hl, e⟩ := I.lstM hH
  refine call_meets F.slot_list_append ⟨_, e, rfl⟩ F.entry_list_append (F.args_list_append_2 _ _) (PySem.list_append l its.toArray n u (by rw [List.size_toArray]; omega)) ⟨e, ?_⟩
  refine ⟨.non, _, I.lset (its' := its ++ [u]) hH e (by simp) (r.append (.cons ru .nil)) ?_, rfl, q⟩
  rw [List.length_append, List.length_singleton]
  omega
def rExtend : V → List V → Hp → VK → Prop := fun x vs H Q => ∃ l b xs zs, x = .ref l ∧ vs = [.ref b] ∧ H l = some (.lst xs) ∧ H b = some (.lst zs) ∧ xs.length + zs.length ≤ sizeLine ∧ Q .non (upd H l (.lst (xs ++ zs)))
theorem mt_extend : MtM X "list.extend" rExtend := by
  intro pins s σ H x vs v us Q I rx rv h
  obtain ⟨l, b, xs, zs, rfl, rfl, hH, hB, hz, q⟩ := h
  cases rx
  obtain ⟨u, rfl, ru⟩ := rv.one
  cases ru
  obtain ⟨z, its, n, r, hl, e⟩ := I.lstM hH
  obtain ⟨z2, its2, n2, r2, hl2, e2⟩ := I.lstM hB
  have hsz : its.toArray.size + its2.toArray.size ≤ sizeLine := by rw [List.size_toArray, List.size_toArray]; omega
  have hlong : ¬ (!its.toArray.isEmpty && Builtin.List.listTooLong (its.toArray.size + its2.toArray.size)) = true := by
    rw [notLongL hsz, Bool.and_false]
    exact Bool.false_ne_true
  refine call_meets F.slot_list_extend ⟨_, e, rfl⟩ F.entry_list_extend (F.args_list_extend_2 _ _)
    (AutoSeq1.list_extend_list_list_0 l its.toArray n b its2.toArray n2 hlong (by rw [List.size_toArray]; omega) (by omega)) ⟨e, e2, ?_⟩
  refine ⟨.non, _, I.lset (its' := its ++ its2) hH e (by simp) (r.append r2) ?_, rfl, q⟩
  rw [List.length_append]
  omega
def rPop : V → List V → Hp → VK → Prop := fun x vs H Q => ∃ l xs y, x = .ref l ∧ vs = [] ∧ H l = some (.lst xs) ∧ xs[xs.length - 1]? = some y ∧ Q y (upd H l (.lst xs.dropLast))
theorem mt_pop : MtM X "list.pop" rPop := by
  intro pins s σ H x vs v us Q I rx rv h
  obtain ⟨l, xs, y, rfl, rfl, hH, hy, q⟩ := h
  cases rx
  have hus := rv.zero
  subst hus
  obtain ⟨z, its, n, r, hl, e⟩ := I.lstM hH
  obtain ⟨u, hu, ru⟩ := r.get hy
  have hy' : its.toArray[its.toArray.size - 1]? = some u := by
    show its.toArray[its.length - 1]? = some u
    rw [← Array.getElem?_toList, ← hl]
    exact hu
  refine call_meets F.slot_list_pop ⟨_, e, rfl⟩ F.entry_list_pop (F.args_list_pop_1 _) (MeetsSeq.list_pop_last l its.toArray n u hy' (by rw [List.size_toArray]; omega)) ⟨e, ?_⟩
  refine ⟨y, _, I.lset (its' := its.dropLast) hH e ?_ r.dropLast ?_, ru, q⟩
  · show its.toArray.eraseIdxIfInBounds (its.toArray.size - 1) = its.dropLast.toArray
    rw [List.size_toArray, List.eraseIdxIfInBounds_toArray, erase_last]
  · rw [List.length_dropLast]
    omega
def rPopAt : V → List V → Hp → VK → Prop := fun x vs H Q => ∃ l xs i k y, x = .ref l ∧ vs = [.int i] ∧ H l = some (.lst xs) ∧ -(2 ^ 63) ≤ i ∧ i < 2 ^ 63 ∧ seqIndex? i xs.length = some k ∧ xs[k]? = some y ∧ Q y (upd H l (.lst (xs.eraseIdx k)))
theorem mt_popAt : MtM X "list.pop" rPopAt := by
  intro pins s σ H x vs v us Q I rx rv h
  obtain ⟨l, xs, i, k, y, rfl, rfl, hH, h1, h2, hk, hy, q⟩ := h
  cases rx
  obtain ⟨u, rfl, ru⟩ := rv.one
  obtain ⟨t, rfl⟩ := ru
  obtain ⟨z, its, n, r, hl, e⟩ := I.lstM hH
  obtain ⟨w, hw, rw'⟩ := r.get hy
  refine call_meets F.slot_list_pop ⟨_, e, rfl⟩ F.entry_list_pop (F.args_list_pop_2 _ _)
    (MeetsSeq.list_pop_at l its.toArray n i t k w (fitsIndex_both h1 h2) (by rw [List.size_toArray, ← hl]; exact hk) (by rw [← Array.getElem?_toList]; exact hw) (by rw [List.size_toArray]; omega)) ⟨e, ?_⟩
  refine ⟨y, _, I.lset (its' := its.eraseIdx k) hH e ?_ (r.eraseIdx k) ?_, rw', q⟩
  · show its.toArray.eraseIdxIfInBounds k = (its.eraseIdx k).toArray
    rw [List.eraseIdxIfInBounds_toArray]
  · have := len_erase xs k
    omega
def rReverse : V → List V → Hp → VK → Prop := fun x vs H Q => ∃ l xs, x = .ref l ∧ vs = [] ∧ H l = some (.lst xs) ∧ Q .non (upd H l (.lst xs.reverse))
theorem mt_reverse : MtM X "list.reverse" rReverse := by
  intro pins s σ H x vs v us Q I rx rv h
  obtain ⟨l, xs, rfl, rfl, hH, q⟩ := h
  cases rx
  have hus := rv.zero
  subst hus
  obtain ⟨z, its, n, r, hl, e⟩ := I.lstM hH
  refine call_meets F.slot_list_reverse ⟨_, e, rfl⟩ F.entry_list_reverse (F.args_list_reverse_1 _) (AutoSeq1.list_reverse_list_0 l its.toArray n (by rw [List.size_toArray]; omega)) ⟨e, ?_⟩
  refine ⟨.non, _, I.lset (its' := its.reverse) hH e (by simp) r.reverse ?_, rfl, q⟩
  rw [List.length_reverse]
  omega
def rClear : V → List V → Hp → VK → Prop := fun x vs H Q => ∃ l xs, x = .ref l ∧ vs = [] ∧ H l = some (.lst xs) ∧ Q .non (upd H l (.lst []))
theorem mt_clear : MtM X "list.clear" rClear := by
  intro pins s σ H x vs v us Q I rx rv h
  obtain ⟨l, xs, rfl, rfl, hH, q⟩ := h
  cases rx
  have hus := rv.zero
  subst hus
  obtain ⟨z, its, n, r, hl, e⟩ := I.lstM hH
  refine call_meets F.slot_list_clear ⟨_, e, rfl⟩ F.entry_list_clear (F.args_list_clear_1 _) (AutoSeq1.list_clear_list_0 l its.toArray n (by rw [List.size_toArray]; omega)) ⟨e, ?_⟩
  exact ⟨.non, _, I.lset (its' := []) (ys := []) hH e rfl .nil (Nat.zero_le _), rfl, q⟩
def rCat : R2 := fun x y H Q => ∃ l b xs zs, x = .ref l ∧ y = .ref b ∧ H l = some (.lst xs) ∧ H b = some (.lst zs) ∧ xs.length + zs.length ≤ sizeLine ∧ ∀ p, H p = none → Q (.ref p) (upd H p (.lst (xs ++ zs)))
theorem op_cat : OpR X (binaryOp .Add) rCat := by
  intro pins s σ H x y v u Q I rx ry h
  obtain ⟨l, b, xs, zs, rfl, rfl, hH, hB, hz, q⟩ := h
  cases rx
  cases ry
  obtain ⟨z, its, n, r, hl, e⟩ := I.lstM hH
  obtain ⟨z2, its2, n2, r2, hl2, e2⟩ := I.lstM hB
  refine PySem.P.add_list e e2 ?_ (by rw [List.size_toArray, List.size_toArray]; omega)
  have ea : its.toArray ++ its2.toArray = (its ++ its2).toArray := by simp
  rw [ea]
  exact ⟨.ref _, _, I.lnew (t' := s.toks) (r.append r2) (by rw [List.length_append]; omega), rfl, q _ I.fresh⟩
def rRep : R2 := fun x y H Q => ∃ l k xs, x = .ref l ∧ y = .int k ∧ H l = some (.lst xs) ∧ -(2 ^ 63) ≤ k ∧ k < 2 ^ 63 ∧ xs.length * k.toNat ≤ sizeLine ∧
  ∀ p, H p = none → Q (.ref p) (upd H p (.lst (List.replicate k.toNat xs).flatten))
theorem len_rep {α : Type} (xs : List α) (k : Nat) : (List.replicate k xs).flatten.length = k * xs.length := by
  induction k with
  | zero => simp
  | succ k ih => rw [List.replicate_succ, List.flatten_cons, List.length_append, ih, Nat.succ_mul, Nat.add_comm]
theorem op_rep : OpR X (binaryOp .Mult) rRep := by
  intro pins s σ H x y v u Q I rx ry h
  obtain ⟨l, k, xs, rfl, rfl, hH, h1, h2, hz, q⟩ := h
  cases rx
  obtain ⟨t, rfl⟩ := ry
  obtain ⟨z, its, n, r, hl, e⟩ := I.lstM hH
  have hlen : its.toArray.size * k.toNat ≤ sizeLine := by rw [List.size_toArray, ← hl]; exact hz
  have hcap : ¬ its.toArray.size * k.toNat > (2 ^ 63 - 1) / 8 := by
    have : (sizeLine : Nat) ≤ (2 ^ 63 - 1) / 8 := by decide
    omega
  have hfit : ¬ (!Builtin.List.listFitsIndex k) = true := by
    rw [fitsIndex_both h1 h2]
    exact Bool.false_ne_true
  have hlong : ¬ Builtin.List.listTooLong (its.toArray.size * k.toNat) = true := by
    rw [notLongL hlen]
    exact Bool.false_ne_true
  have hnew : List.foldl (fun x1 x2 => x1 ++ x2) #[] (List.replicate (if its.toArray.isEmpty = true then 0 else k.toNat) its.toArray) = (List.replicate k.toNat its).flatten.toArray := by
    have f0 : ∀ m : Nat, List.foldl (fun x1 x2 => x1 ++ x2) #[] (List.replicate m its.toArray) = (List.replicate m its).flatten.toArray := fun m => by
      have := foldl_rep its m []
      rw [List.nil_append] at this
      exact this
    rw [f0]
    cases its with
    | nil => simp
    | cons a r' => rw [if_neg (by simp)]
  refine wpAny_binaryOp_repeat_ref (T := "list") (U := "int") (by decide) ⟨_, e, rfl⟩ (fun s' => typeIs_int s' k t) noFill_list_mul F.fills_int_mul F.slot_int_rmul repeat_list F.slot_int_index.lookup
    (call_meets F.slot_int_rmul (typeIs_int s k t) F.entry_int_rmul (F.args_int_rmul_2 _ _) (int___rmul___int_list k t l its.toArray n)
      ⟨e, rfl, ⟨_, e, rfl⟩, call_meets F.slot_list_mul ⟨_, e, rfl⟩ F.entry_list_mul (F.args_list_mul_2 _ _) (AutoListH.list___mul___list_int_3 l its.toArray n k t hfit hcap hlong) ⟨e, ?_⟩⟩)
  rw [hnew]
  exact ⟨.ref _, _, I.lnew (t' := s.toks) (r.rep k.toNat) (by rw [len_rep, Nat.mul_comm]; exact hz), rfl, q _ I.fresh⟩
theorem del_list {pins : List (Addr × Obj)} {s : Shared} {σ : St} {H : Hp} {l : Addr} {xs : List V} {i : Int} {t : Tok} {k : Nat} {Q : Unit → Shared → Prop} (I : Inv X pins σ H s) (hH : H l = some (.lst xs))
    (h1 : -(2 ^ 63) ≤ i) (h2 : i < 2 ^ 63) (hk : seqIndex? i xs.length = some k) (h : ∀ s', Inv X pins σ (upd H l (.lst (xs.eraseIdx k))) s' → Q () s') :
    wpAny (model X.prog X.w) X.A (delItem (.ref l) (.int i t)) Q X.xe s := by
  obtain ⟨z, its, n, r, hl, e⟩ := I.lstM hH
  refine PySem.P.delItem_list (k := k) e (fitsIndex_both h1 h2) (by rw [List.size_toArray, ← hl]; exact hk) (h _ ?_) (by rw [List.size_toArray]; omega)
  refine I.lset (its' := its.eraseIdx k) (t' := s.toks) hH e ?_ (r.eraseIdx k) ?_
  · show its.toArray.eraseIdxIfInBounds k = (its.eraseIdx k).toArray
    rw [List.eraseIdxIfInBounds_toArray]
  · have := len_erase xs k
    omega
end
section
variable {prog : Program} {w : World} {A : Around} {E : Value → Shared → Prop} {s : Shared}
theorem splice_eq (its its2 : List Value) (a c : Nat) : its.toArray.extract 0 a ++ its2.toArray ++ its.toArray.extract c its.toArray.size = (its.take a ++ its2 ++ its.drop c).toArray := by
  apply Array.toList_inj.mp
  first
    | (simp
       exact List.take_of_length_le (by simp))
    | simp [List.take_of_length_le]
    | simp
theorem bounds_run {a c n : Nat} (hac : a ≤ c) (hc : c ≤ n) : sliceBounds (some (a : Int)) (some (c : Int)) none n = ((a : Int), (c : Int), 1) := by
  simp only [sliceBounds, Option.getD_none]
  have h1 : ¬ ((a : Int) < 0) := by omega
  have h2 : ¬ ((c : Int) < 0) := by omega
  simp only [h1, h2, if_false, show (1 : Int) > 0 by decide, if_true]
  congr 1
  · omega
  · congr 1; omega
set_option maxRecDepth 100000 in
theorem setItem_slice {l b sl : Addr} {items new : Array Value} {n n2 : Nat} {vl vu : Value} {a c : Nat} {Q : Unit → Shared → Prop}
    (e : s.heap.get? l = some { cls := .type "list", data := .seq items n }) (e2 : s.heap.get? b = some { cls := .type "list", data := .seq new n2 }) (hne : l ≠ b)
    (hs : s.heap.IsSliceOf sl vl vu .none) (pl : IsPart vl (some (a : Int))) (pu : IsPart vu (some (c : Int))) (hac : a ≤ c) (hc : c ≤ items.size)
    (hsz : items.size + new.size ≤ sizeLine) (h : Q () { s with heap := s.heap.update l (Obj.mapSeq fun xs => xs.extract 0 a ++ new ++ xs.extract c xs.size) }) :
    wpAny (model prog w) A (setItem (.ref l) (.ref sl) (.ref b)) Q E s := by
  have hl : s.heap.IsList l items := PySem.IsL.isList e
  have hb : s.heap.IsList b new := PySem.IsL.isList e2
  obtain ⟨os, hos, hcs, hds⟩ := id hs
  have hTs : s.TypeIs (.ref sl) "slice" := ⟨os, hos, hcs⟩
  have hstep : ¬ ((rawPart none == rawInt 0) = true) := Bool.false_ne_true
  have hsame : Builtin.List.listSameRef (.ref l) (.ref b) = false := by
    unfold Builtin.List.listSameRef
    exact beq_eq_false_iff_ne.mpr hne
  have hmax : (max (a : Int) (c : Int)).toNat = c := by omega
  have hz' : ((fun xs : Array Value => xs.extract 0 a ++ new ++ xs.extract c xs.size) items).size ≤ sizeLine + 1 := by
    simp only [Array.size_append, Array.size_extract]
    omega
  unfold setItem
  try with_reducible refine wpAny_holding ?_
  first | refine wpAny_bind (wpAny_pure ?_) | skip
  refine wpAny_bind (wpAny_sequenceKey hl.typeIs (by decide) ?_)
  refine wpAny_bind (wpAny_callSpecial?_slot (name := Str.ofString "__setitem__") hl.typeIs slot_list_setitem
    (wpAny_call_entry slot_list_setitem hl.typeIs entry_list_setitem ?_ (args_list_setitem _ _ _)))
  show wpAny _ _ (Builtin.List.listSubscript? (.ref sl) >>= _) _ _ s
  refine wpAny_bind ?_
  unfold Builtin.List.listSubscript?
  refine wpAny_bind (wpAny_specialOf hTs slice_no_index ?_)
  simp only [Option.isNone_none, if_true]
  refine wpAny_pure ?_
  show wpAny _ _ (typeOf (.ref sl) >>= _) _ _ s
  refine wpAny_bind (wpAny_typeOf hTs ?_)
  first
    | rw [if_neg (by decide)]
    | refine PySem.W.KFB.if_not (by decide) ?_
  rw [listSliceParts_eq]
  refine wpAny_bind (wpAny_bind (wpAny_field hos hds (x := .none) rfl (wpAny_bind (wpAny_listPart .none ?_))))
  rw [if_neg hstep]
  refine wpAny_bind (wpAny_field hos hds (x := vl) rfl (wpAny_bind (wpAny_listPart pl ?_)))
  refine wpAny_bind (wpAny_field hos hds (x := vu) rfl (wpAny_bind (wpAny_listPart pu (wpAny_pure ?_))))
  first
    | simp only [hsame, Bool.false_eq_true, if_false]
    | refine PySem.W.KFB.if_not hsame ?_
    | (dsimp only
       rw [if_neg (by rw [hsame]; exact Bool.false_ne_true)])
  refine wpAny_bind (m := Builtin.List.listAllItems (.ref b) "must assign iterable to extended slice") ?_
  unfold Builtin.List.listAllItems
  refine wpAny_bind (wpAny_typeOf hb.typeIs ?_)
  first
    | refine PySem.W.KFB.if_so (by decide) ?_
    | rw [if_pos (by decide)]
    | simp only [beq_self_eq_true, Bool.true_or, if_true]
  unfold Builtin.List.listItems
  refine wpAny_bind (wpAny_seqItems e2 rfl (wpAny_pure ?_))
  refine wpAny_bind (wpAny_bind (wpAny_seqItems e rfl (wpAny_pure ?_)))
  refine wpAny_bind (wpAny_of_eq ((sliceIndices_raw (some (a : Int)) (some (c : Int)) none items.size (by simp)).trans (congrArg (pure : Int × Int × Int → Sem (Int × Int × Int)) (bounds_run hac hc))) ?_)
  show wpAny _ _ (if ((1 : Int) == 1) = true then _ else _) _ _ s
  rw [if_pos (by decide)]
  refine wpAny_bind (wpAny_rule ?_)
  first
    | simp only [notLongL hsz, Bool.false_eq_true, if_false]
    | refine PySem.W.KFB.if_not (notLongL hsz) ?_
  first | refine wpAny_bind (wpAny_pure ?_) | skip
  show wpAny _ _ (updateSeq l (fun xs => xs.extract 0 ((a : Int)).toNat ++ new ++ xs.extract (max (a : Int) (c : Int)).toNat xs.size) >>= _) _ _ s
  rw [hmax, Int.toNat_natCast]
  refine wpAny_bind (wpAny_updateSeq (hz := Nat.le_trans (Nat.le_add_right _ _) hsz) (_hz' := hz') e rfl ?_)
  refine wpAny_bind (wpAny_letGo ?_)
  first
    | exact wpAny_bind (wpAny_pure (wpAny_pure ⟨.none, rfl, wpAny_pure h⟩))
    | exact wpAny_pure ⟨.none, rfl, wpAny_pure h⟩
end
section
variable {X : Cx}
theorem set_slice {pins : List (Addr × Obj)} {s : Shared} {σ : St} {H : Hp} {l b sl : Addr} {xs ys : List V} {a c : Int} {vl vu : Value} {Q : Unit → Shared → Prop} (I : Inv X pins σ H s)
    (hH : H l = some (.lst xs)) (hB : H b = some (.lst ys)) (hne : l ≠ b) (hs : s.heap.IsSliceOf sl vl vu .none) (ra : RelV (.int a) vl) (rc : RelV (.int c) vu) (h0 : 0 ≤ a) (hac : a ≤ c) (hc : c ≤ xs.length)
    (hz : xs.length + ys.length ≤ sizeLine) (h : ∀ s', Inv X pins σ (upd H l (.lst (xs.take a.toNat ++ ys ++ xs.drop c.toNat))) s' → Q () s') :
    wpAny (model X.prog X.w) X.A (setItem (.ref l) (.ref sl) (.ref b)) Q X.xe s := by
  obtain ⟨ta, rfl⟩ := ra
  obtain ⟨tc, rfl⟩ := rc
  obtain ⟨z, its, n, r, hl, e⟩ := I.lstM hH
  obtain ⟨z2, its2, n2, r2, hl2, e2⟩ := I.lstM hB
  obtain ⟨a', rfl⟩ := Int.eq_ofNat_of_zero_le h0
  obtain ⟨c', rfl⟩ := Int.eq_ofNat_of_zero_le (Int.le_trans h0 hac)
  simp only [Int.toNat_natCast] at h
  refine setItem_slice (a := a') (c := c') e e2 hne hs (.int _ _) (.int _ _) (by omega) (by rw [List.size_toArray]; omega) (by rw [List.size_toArray, List.size_toArray]; omega) (h _ ?_)
  refine I.lset (its' := its.take a' ++ its2 ++ its.drop c') (t' := s.toks) hH e ?_ (Vals.append (Vals.append (r.take _) r2) (r.drop _)) ?_
  · exact splice_eq its its2 a' c'
  · rw [List.length_append, List.length_append, List.length_take, List.length_drop]
    omega
end
open PySem PySem.Spec PyProof.Rows
section
variable {κ : Type} [DecidableEq κ]
def valV (kvs : List (κ × V)) (k : κ) : Option V := (kvs.find? fun kv => decide (kv.1 = k)).map (·.2)
def putK (kvs : List (κ × V)) (k : κ) (v : V) : List (κ × V) :=
  if (kvs.any fun kv => decide (kv.1 = k)) = true then kvs.map (fun kv => if kv.1 = k then (kv.1, v) else kv) else kvs ++ [(k, v)]
def dropK (kvs : List (κ × V)) (k : κ) : List (κ × V) := kvs.filter fun kv => decide (kv.1 ≠ k)
theorem valV_nil {k : κ} : valV ([] : List (κ × V)) k = none := rfl
theorem valV_pos {p : κ × V} {r : List (κ × V)} {k : κ} (e : p.1 = k) : valV (p :: r) k = some p.2 := by simp [valV, List.find?_cons, e]
theorem valV_neg {p : κ × V} {r : List (κ × V)} {k : κ} (e : ¬ p.1 = k) : valV (p :: r) k = valV r k := by simp [valV, List.find?_cons, e]
theorem valV_any (k : κ) : ∀ kvs : List (κ × V), (kvs.any fun kv => decide (kv.1 = k)) = (valV kvs k).isSome
  | [] => rfl
  | p :: r => by
    rw [List.any_cons]
    by_cases e : p.1 = k
    · simp only [valV_pos e, decide_eq_true e, Bool.true_or, Option.isSome_some]
    · rw [valV_neg e, decide_eq_false e, Bool.false_or]; exact valV_any k r
theorem valV_map (k j : κ) (y : V) : ∀ kvs : List (κ × V), valV (kvs.map fun kv => if kv.1 = k then (kv.1, y) else kv) j = (valV kvs j).map fun x => if j = k then y else x
  | [] => rfl
  | p :: r => by
    have ih := valV_map k j y r
    rw [List.map_cons]
    by_cases h : p.1 = k
    · rw [if_pos h]
      by_cases e : p.1 = j
      · rw [valV_pos (p := (p.1, y)) e, valV_pos e, Option.map_some, if_pos (e.symm.trans h)]
      · rw [valV_neg (p := (p.1, y)) e, valV_neg e, ih]
    · rw [if_neg h]
      by_cases e : p.1 = j
      · rw [valV_pos (p := p) e, valV_pos e, Option.map_some, if_neg (fun z => h (e.trans z))]
      · rw [valV_neg (p := p) e, valV_neg e, ih]
theorem valV_snoc (k j : κ) (y : V) : ∀ kvs : List (κ × V), valV kvs k = none → valV (kvs ++ [(k, y)]) j = if j = k then some y else valV kvs j
  | [], _ => by
    by_cases e : k = j
    · rw [if_pos e.symm]; exact valV_pos (p := (k, y)) e
    · rw [if_neg (fun z => e z.symm)]; exact valV_neg (p := (k, y)) e
  | p :: r, hn => by
    rw [List.cons_append]
    have hk : ¬ p.1 = k := fun z => by rw [valV_pos z] at hn; cases hn
    rw [valV_neg hk] at hn
    have ih := valV_snoc k j y r hn
    by_cases e : p.1 = j
    · rw [valV_pos e, valV_pos e, if_neg (fun z => hk (e.trans z))]
    · rw [valV_neg e, valV_neg e, ih]
theorem valV_put (kvs : List (κ × V)) (k j : κ) (y : V) : valV (putK kvs k y) j = if j = k then some y else valV kvs j := by
  unfold putK
  by_cases a : (kvs.any fun kv => decide (kv.1 = k)) = true
  · rw [if_pos a, valV_map]
    rw [valV_any] at a
    by_cases e : j = k
    · obtain ⟨x, hx⟩ := Option.isSome_iff_exists.mp a
      rw [if_pos e, e, hx, Option.map_some, if_pos rfl]
    · rw [if_neg e]
      cases valV kvs j with
      | none => rfl
      | some x => rw [Option.map_some, if_neg e]
  · rw [if_neg a]
    refine valV_snoc k j y kvs ?_
    rw [valV_any] at a
    cases q : valV kvs k with
    | none => rfl
    | some x => rw [q] at a; exact (a rfl).elim
theorem length_putK (kvs : List (κ × V)) (k : κ) (v : V) : (putK kvs k v).length ≤ kvs.length + 1 := by
  unfold putK
  split
  · rw [List.length_map]; omega
  · rw [List.length_append, List.length_cons, List.length_nil]; omega
theorem putK_new {kvs : List (κ × V)} {k : κ} (v : V) (h : valV kvs k = none) : putK kvs k v = kvs ++ [(k, v)] := by
  unfold putK
  rw [valV_any, h]
  exact if_neg (by decide)
theorem RelO.isSome_eq {o : Option V} {u : Option Value} (r : RelO o u) : o.isSome = u.isSome := by
  cases o with
  | none => cases u with
    | none => rfl
    | some _ => exact (show False from r).elim
  | some _ => cases u with
    | none => exact (show False from r).elim
    | some _ => rfl
theorem RelO.getD {o : Option V} {u : Option Value} {d : V} {d' : Value} (r : RelO o u) (rd : RelV d d') : RelV (o.getD d) (u.getD d') := by
  cases o with
  | none => cases u with
    | none => exact rd
    | some _ => exact (show False from r).elim
  | some _ => cases u with
    | none => exact (show False from r).elim
    | some _ => exact r
theorem KV.val {kvs : List (κ × V)} {vs : List (κ × Value)} (r : KV kvs vs) (k : κ) : RelO (valV kvs k) (valueAt vs k) := by
  unfold KV at r
  induction r with
  | nil => exact True.intro
  | @cons p q ps qs h t ih =>
    obtain ⟨h1, h2⟩ := h
    by_cases e : p.1 = k
    · have e' : q.1 = k := h1.symm.trans e
      have b : valueAt (q :: qs) k = some q.2 := by simp [valueAt, List.find?_cons, e']
      rw [valV_pos e, b]; exact h2
    · have e' : ¬ q.1 = k := fun z => e (h1.trans z)
      have b : valueAt (q :: qs) k = valueAt qs k := by simp [valueAt, List.find?_cons, e']
      rw [valV_neg e, b]; exact ih
theorem KV.any {kvs : List (κ × V)} {vs : List (κ × Value)} (r : KV kvs vs) (k : κ) : (kvs.any fun kv => decide (kv.1 = k)) = vs.any fun kv => decide (kv.1 = k) := by
  unfold KV at r
  induction r with
  | nil => rfl
  | cons h t ih => rw [List.any_cons, List.any_cons, ih, h.1]
theorem KV.repl {kvs : List (κ × V)} {vs : List (κ × Value)} (r : KV kvs vs) (k : κ) {y : V} {u : Value} (ry : RelV y u) :
    KV (kvs.map fun kv => if kv.1 = k then (kv.1, y) else kv) (vs.map fun kv => if kv.1 = k then (kv.1, u) else kv) := by
  unfold KV at r ⊢
  induction r with
  | nil => exact .nil
  | @cons p q ps qs h t ih =>
    rw [List.map_cons, List.map_cons]
    refine .cons ?_ ih
    obtain ⟨h1, h2⟩ := h
    by_cases e : p.1 = k
    · rw [if_pos e, if_pos (h1.symm.trans e)]; exact ⟨h1, ry⟩
    · rw [if_neg e, if_neg (fun z => e (h1.trans z))]; exact ⟨h1, h2⟩
theorem KV.put {kvs : List (κ × V)} {vs : List (κ × Value)} (r : KV kvs vs) (k : κ) {y : V} {u : Value} (ry : RelV y u) : KV (putK kvs k y) (stored vs k u) := by
  unfold putK stored
  rw [r.any k]
  by_cases e : (vs.any fun kv => decide (kv.1 = k)) = true
  · rw [if_pos e, if_pos e]; exact r.repl k ry
  · rw [if_neg e, if_neg e]; exact Paired.snoc r ⟨rfl, ry⟩
theorem KV.drop {kvs : List (κ × V)} {vs : List (κ × Value)} (r : KV kvs vs) (k : κ) : KV (dropK kvs k) (without vs k) := by
  unfold KV at r ⊢
  unfold dropK without
  induction r with
  | nil => exact .nil
  | @cons p q ps qs h t ih =>
    obtain ⟨h1, h2⟩ := h
    rw [List.filter_cons, List.filter_cons]
    by_cases e : p.1 = k
    · have a : ¬ decide (p.1 ≠ k) = true := by simp [e]
      have b : ¬ decide (q.1 ≠ k) = true := by simp [h1.symm.trans e]
      rw [if_neg a, if_neg b]; exact ih
    · have e' : ¬ q.1 = k := fun z => e (h1.trans z)
      have a : decide (p.1 ≠ k) = true := by simp [e]
      have b : decide (q.1 ≠ k) = true := by simp [e']
      rw [if_pos a, if_pos b]; exact .cons ⟨h1, h2⟩ ih
theorem KV.keys {kvs : List (κ × V)} {vs : List (κ × Value)} (r : KV kvs vs) : kvs.map (·.1) = vs.map (·.1) := by
  unfold KV at r
  induction r with
  | nil => rfl
  | cons h t ih => rw [List.map_cons, List.map_cons, ih, h.1]
theorem KV.length {kvs : List (κ × V)} {vs : List (κ × Value)} (r : KV kvs vs) : kvs.length = vs.length := Paired.length r
theorem dropK_le (kvs : List (κ × V)) (k : κ) : (dropK kvs k).length ≤ kvs.length := List.length_filter_le _ _
end
theorem kV_is {P : Program} {w : World} {k : Key} {u : Value} (r : RelV (kV k) u) : (mixKind P w).is k u = true := by
  cases k with
  | inl i => obtain ⟨t, e⟩ := (show ∃ t, u = Value.int i t from r); subst e; exact mixKind_int P w i t
  | inr x => obtain ⟨t, e⟩ := (show ∃ t, u = Value.str x t from r); subst e; exact mixKind_str P w x t
theorem kV_inj {a b : Key} (e : kV a = kV b) : a = b := by
  cases a with
  | inl i => cases b with
    | inl j => have e' : V.int i = V.int j := e; injection e' with e'; rw [e']
    | inr y => exact nomatch (show V.int i = V.str y from e)
  | inr x => cases b with
    | inl j => exact nomatch (show V.str x = V.int j from e)
    | inr y => have e' : V.str x = V.str y := e; injection e' with e'; rw [e']
theorem kVs_inj : ∀ {a b : List Key}, a.map kV = b.map kV → a = b
  | [], [], _ => rfl
  | [], _ :: _, e => by simp at e
  | _ :: _, [], e => by simp at e
  | x :: xs, y :: ys, e => by
    rw [List.map_cons, List.map_cons] at e
    injection e with e1 e2
    rw [kV_inj e1, kVs_inj e2]
theorem items_are {P : Program} {w : World} : ∀ {ks : List Key} {us : List Value}, Vals (ks.map kV) us → ItemsAre (mixKind P w) ks us
  | [], _, r => by rw [List.map_nil] at r; cases r; exact .nil
  | k :: ks, _, r => by
    rw [List.map_cons] at r
    cases r with
    | cons h t => exact .cons (kV_is h) (items_are t)
abbrev KT (H : Hp) : List (List Key × V) → List (List Key × Addr × Value) → Prop := Paired fun p q => p.1 = q.1 ∧ H q.2.1 = some (.tup (p.1.map kV)) ∧ RelV p.2 q.2.2
theorem KT.val {H : Hp} {kvs : List (List Key × V)} {xs : List (List Key × Addr × Value)} (r : KT H kvs xs) (k : List Key) : RelO (valV kvs k) ((atKey xs k).map (·.2)) := by
  induction r with
  | nil => exact True.intro
  | @cons p q ps qs h t ih =>
    obtain ⟨h1, _, h2⟩ := h
    by_cases e : p.1 = k
    · have e' : q.1 = k := h1.symm.trans e
      have b : atKey (q :: qs) k = some q.2 := by simp [atKey, List.find?_cons, e']
      rw [valV_pos e, b]; exact h2
    · have e' : ¬ q.1 = k := fun z => e (h1.trans z)
      have b : atKey (q :: qs) k = atKey qs k := by simp [atKey, List.find?_cons, e']
      rw [valV_neg e, b]; exact ih
theorem KT.repl {H : Hp} {kvs : List (List Key × V)} {xs : List (List Key × Addr × Value)} (r : KT H kvs xs) (k : List Key) {y : V} {u : Value} (ry : RelV y u) :
    KT H (kvs.map fun kv => if kv.1 = k then (kv.1, y) else kv) (xs.map (putAt k u)) := by
  induction r with
  | nil => exact .nil
  | @cons p q ps qs h t ih =>
    rw [List.map_cons, List.map_cons]
    refine .cons ?_ ih
    obtain ⟨h1, h2, h3⟩ := h
    unfold putAt
    by_cases e : p.1 = k
    · rw [if_pos e, if_pos (h1.symm.trans e)]; exact ⟨h1, h2, ry⟩
    · rw [if_neg e, if_neg (fun z => e (h1.trans z))]; exact ⟨h1, h2, h3⟩
theorem KT.put {H : Hp} {kvs : List (List Key × V)} {xs : List (List Key × Addr × Value)} (r : KT H kvs xs) (k : List Key) {b : Addr} {y : V} {u : Value} (hb : H b = some (.tup (k.map kV))) (ry : RelV y u) :
    KT H (putK kvs k y) (storedH xs k b u) := by
  have e : (kvs.any fun kv => decide (kv.1 = k)) = (atKey xs k).isSome := by
    rw [valV_any, (r.val k).isSome_eq, Option.isSome_map]
  unfold putK storedH
  rw [e]
  by_cases q : (atKey xs k).isSome = true
  · rw [if_pos q, if_pos q]; exact r.repl k ry
  · rw [if_neg q, if_neg q]; exact Paired.snoc r ⟨rfl, hb, ry⟩
theorem KT.keeps {H H' : Hp} {kvs : List (List Key × V)} {xs : List (List Key × Addr × Value)} (r : KT H kvs xs) (ht : ∀ b ys, H b = some (.tup ys) → H' b = some (.tup ys)) : KT H' kvs xs :=
  Paired.mapP r fun _ _ z => ⟨z.1, ht _ _ z.2.1, z.2.2⟩
section
variable {P : Program} {w : World} {H : Hp} {h : Heap} {a : Addr}
theorem rd_of {u : HO} (ok : HOk P w H h) (e : Rd H a u) : ObjOk P w H h a u := e.ok ok
theorem dk_rd {kvs : List (Key × V)} (ok : HOk P w H h) (e : Rd H a (.dK kvs)) : kvs.length ≤ sizeLine ∧ (a == sysModules) = false ∧ ∃ vs, KV kvs vs ∧ h.DictOf (mixKind P w) a vs :=
  show ObjOk P w H h a (.dK kvs) from rd_of ok e
theorem dk_of {kvs : List (Key × V)} (ok : HOk P w H h) (e : H a = some (.dK kvs)) : kvs.length ≤ sizeLine ∧ (a == sysModules) = false ∧ ∃ vs, KV kvs vs ∧ h.DictOf (mixKind P w) a vs := dk_rd ok (.inl e)
theorem key_of {ks : List Key} (ok : HOk P w H h) (e : H a = some (.tup (ks.map kV))) : (tupleKind (mixKind P w)).is h ks a := by
  obtain ⟨_, its, r, o, h1, h2, n, h3⟩ := (show ObjOk P w H h a (.tup (ks.map kV)) from ok a _ e)
  exact ⟨o, its.toArray, n, h1, h2, h3, by simpa using items_are r⟩
theorem dt_rd {kvs : List (List Key × V)} (ok : HOk P w H h) (e : Rd H a (.dT kvs)) : kvs.length ≤ sizeLine ∧ (a == sysModules) = false ∧
    ∃ xs, KT H kvs xs ∧ h.DictOfH (tupleKind (mixKind P w)) a xs := by
  obtain ⟨z, y, xs, r, o, es, ep, h1, h2, h3, h4, h5⟩ := (show ObjOk P w H h a (.dT kvs) from rd_of ok e)
  refine ⟨z, y, xs, r, o, es, ep, h1, h2, h3, h4, fun x hx => ?_, h5⟩
  have all : ∀ {l : List (List Key × V)} {m : List (List Key × Addr × Value)}, KT H l m → ∀ x ∈ m, (tupleKind (mixKind P w)).is h x.1 x.2.1 := by
    intro l m q
    induction q with
    | nil => intro x hx; exact nomatch hx
    | @cons p q ps qs hq t ih =>
      intro x hx
      rcases List.mem_cons.mp hx with e | hx
      · subst e
        exact key_of ok (by rw [← hq.1]; exact hq.2.1)
      · exact ih x hx
  exact all r x hx
theorem dt_of {kvs : List (List Key × V)} (ok : HOk P w H h) (e : H a = some (.dT kvs)) : kvs.length ≤ sizeLine ∧ (a == sysModules) = false ∧
    ∃ xs, KT H kvs xs ∧ h.DictOfH (tupleKind (mixKind P w)) a xs := dt_rd ok (.inl e)
end
def DGet (H : Hp) (a : Addr) (y : V) (r : Option V) : Prop :=
  (∃ kvs k, Rd H a (.dK kvs) ∧ y = kV k ∧ r = valV kvs k) ∨ ∃ kvs k b, Rd H a (.dT kvs) ∧ y = .ref b ∧ H b = some (.tup (k.map kV)) ∧ r = valV kvs k
def DPut (H : Hp) (a : Addr) (y v : V) (H' : Hp) : Prop :=
  (∃ kvs k, H a = some (.dK kvs) ∧ y = kV k ∧ kvs.length < sizeLine ∧ H' = upd H a (.dK (putK kvs k v))) ∨
  ∃ kvs k b, H a = some (.dT kvs) ∧ y = .ref b ∧ H b = some (.tup (k.map kV)) ∧ kvs.length < sizeLine ∧ H' = upd H a (.dT (putK kvs k v))
theorem DGet.k {H : Hp} {a : Addr} {kvs : List (Key × V)} {k : Key} (e : H a = some (.dK kvs)) : DGet H a (kV k) (valV kvs k) := .inl ⟨kvs, k, .inl e, rfl, rfl⟩
theorem DGet.t {H : Hp} {a b : Addr} {kvs : List (List Key × V)} {k : List Key} (e : H a = some (.dT kvs)) (eb : H b = some (.tup (k.map kV))) : DGet H a (.ref b) (valV kvs k) := .inr ⟨kvs, k, b, .inl e, rfl, eb, rfl⟩
theorem DPut.k {H : Hp} {a : Addr} {kvs : List (Key × V)} {k : Key} {v : V} (e : H a = some (.dK kvs)) (hl : kvs.length < sizeLine) : DPut H a (kV k) v (upd H a (.dK (putK kvs k v))) := .inl ⟨kvs, k, e, rfl, hl, rfl⟩
theorem DPut.t {H : Hp} {a b : Addr} {kvs : List (List Key × V)} {k : List Key} {v : V} (e : H a = some (.dT kvs)) (eb : H b = some (.tup (k.map kV))) (hl : kvs.length < sizeLine) :
    DPut H a (.ref b) v (upd H a (.dT (putK kvs k v))) := .inr ⟨kvs, k, b, e, rfl, eb, hl, rfl⟩
section
variable {X : Cx} {pins : List (Addr × Obj)} {σ : St} {H : Hp} {s : Shared} {a : Addr} {y v : V} {u r : Value} {o : Option V} {A : Around} {E : Value → Shared → Prop}
theorem Inv.big (I : Inv X pins σ H s) : sysModules < s.heap.objs.size := by
  have h : mainGlobals < s.heap.objs.size := (I.mod.glob.keeps I.bk).lt
  exact Nat.lt_trans (by decide) h
theorem d_getItem {Q : Value → Shared → Prop} (hu : A.units + 1 < cLine) (I : Inv X pins σ H s) (g : DGet H a y (some v)) (ry : RelV y u) (h : ∀ w' s', Inv X pins σ H s' → RelV v w' → Q w' s') :
    wpAny (model X.prog X.w) A (getItem (.ref a) u) Q E s := by
  rcases g with ⟨kvs, k, e, ey, l⟩ | ⟨kvs, k, b, e, ey, eb, l⟩
  · subst ey
    obtain ⟨z, hd, vs, rel, dd⟩ := dk_rd I.hok e
    obtain ⟨w', hw, rw'⟩ := RelO.some_of (v := v) (o := valueAt vs k) (by rw [l]; exact rel.val k)
    exact wpAny_getItem_of (kV_is ry) dd.mapOf hw (h w' _ (I.tok _) rw')
  · subst ey
    cases (show u = Value.ref b from ry)
    obtain ⟨z, hd, xs, rel, dd⟩ := dt_rd I.hok e
    obtain ⟨w', hw, rw'⟩ := RelO.some_of (v := v) (o := (atKey xs k).map (·.2)) (by rw [l]; exact rel.val k)
    obtain ⟨p, hp, hp2⟩ := Option.map_eq_some_iff.mp hw
    refine wpAny_getItem_heap (tupleKind_room_in1 hu) (key_of I.hok eb) dd hp ?_
    rw [hp2]
    exact h w' _ (I.tok _) rw'
theorem d_in {Q : Value → Shared → Prop} (hu : A.units + 1 < cLine) (I : Inv X pins σ H s) (g : DGet H a y o) (ry : RelV y u) (h : ∀ s', Inv X pins σ H s' → Q (.bool o.isSome) s') :
    wpAny (model X.prog X.w) A (compareOp .In u (.ref a)) Q E s := by
  rcases g with ⟨kvs, k, e, ey, l⟩ | ⟨kvs, k, b, e, ey, eb, l⟩
  · subst ey
    obtain ⟨z, hd, vs, rel, dd⟩ := dk_rd I.hok e
    refine wpAny_in_of (kV_is ry) hd dd.mapOf ?_
    rw [← (rel.val k).isSome_eq, ← l]
    exact h _ (I.tok _)
  · subst ey
    cases (show u = Value.ref b from ry)
    obtain ⟨z, hd, xs, rel, dd⟩ := dt_rd I.hok e
    refine wpAny_in_heap (tupleKind_room_in1 hu) (key_of I.hok eb) hd dd ?_
    have q := (rel.val k).isSome_eq
    rw [Option.isSome_map] at q
    rw [← q, ← l]
    exact h _ (I.tok _)
theorem d_notIn {Q : Value → Shared → Prop} (hu : A.units + 1 < cLine) (I : Inv X pins σ H s) (g : DGet H a y o) (ry : RelV y u) (h : ∀ s', Inv X pins σ H s' → Q (.bool (!o.isSome)) s') :
    wpAny (model X.prog X.w) A (compareOp .NotIn u (.ref a)) Q E s := by
  rcases g with ⟨kvs, k, e, ey, l⟩ | ⟨kvs, k, b, e, ey, eb, l⟩
  · subst ey
    obtain ⟨z, hd, vs, rel, dd⟩ := dk_rd I.hok e
    refine wpAny_notIn_of (kV_is ry) hd dd.mapOf ?_
    rw [← (rel.val k).isSome_eq, ← l]
    exact h _ (I.tok _)
  · subst ey
    cases (show u = Value.ref b from ry)
    obtain ⟨z, hd, xs, rel, dd⟩ := dt_rd I.hok e
    refine wpAny_notIn_heap (tupleKind_room_in1 hu) (key_of I.hok eb) hd dd ?_
    have q := (rel.val k).isSome_eq
    rw [Option.isSome_map] at q
    rw [← q, ← l]
    exact h _ (I.tok _)
theorem d_write {h' : Heap} {t' : Nat} {ob : HO} (I : Inv X pins σ H s) (mu : Mut (H a)) (hs : Heap.SameBut a s.heap h') (he : ∃ q, h'.get? a = some q) (new : ObjOk X.prog X.w (upd H a ob) h' a ob) :
    Inv X pins σ (upd H a ob) { s with heap := h', toks := t' } :=
  I.write (x := a) (e := a) mu (.inl rfl) (fun b q hb z => (hs.2 b hb).trans z) he new
theorem dk_new {P : Program} {w : World} {H' : Hp} {h' : Heap} {kvs : List (Key × V)} {vs : List (Key × Value)} (z : kvs.length ≤ sizeLine) (hd : (a == sysModules) = false) (rel : KV kvs vs) (dd : h'.DictOf (mixKind P w) a vs) :
    ObjOk P w H' h' a (.dK kvs) := ⟨z, hd, vs, rel, dd⟩
theorem d_setItem {H' : Hp} {Q : Unit → Shared → Prop} (hu : A.units + 1 < cLine) (I : Inv X pins σ H s) (g : DPut H a y v H') (ry : RelV y u) (rv : RelV v r) (h : ∀ s', Inv X pins σ H' s' → Q () s') :
    wpAny (model X.prog X.w) A (setItem (.ref a) u r) Q E s := by
  rcases g with ⟨kvs, k, e, ey, l, eH⟩ | ⟨kvs, k, b, e, ey, eb, l, eH⟩
  · subst ey eH
    obtain ⟨z, hd, vs, rel, dd⟩ := dk_of I.hok e
    have hz : vs.length ≤ sizeLine := by rw [← rel.length]; exact z
    have hl : (putK kvs k v).length ≤ sizeLine := by have := length_putK kvs k v; omega
    refine wpAny_setItem_pairs (hsz := hz) (kV_is ry) dd fun h' dd' hs => h _ ?_
    have he : ∃ q, h'.get? a = some q := let ⟨q, _, _, hq, _⟩ := dd'; ⟨q, hq⟩
    exact d_write I (by rw [e]; exact True.intro) hs he (dk_new hl hd (rel.put k rv) dd')
  · subst ey eH
    cases (show u = Value.ref b from ry)
    obtain ⟨z, hd, xs, rel, dd⟩ := dt_of I.hok e
    have hz : xs.length ≤ sizeLine := by rw [← Paired.length rel]; exact z
    have hl : (putK kvs k v).length ≤ sizeLine := by have := length_putK kvs k v; omega
    refine wpAny_setItem_heap (hsz := hz) (tupleKind_room_in1 hu) (key_of I.hok eb) dd fun h' dd' hs => h _ ?_
    obtain ⟨q, es, ep, hq, h2, h3, h4, _, h5⟩ := dd'
    refine d_write I (by rw [e]; exact True.intro) hs ⟨q, hq⟩ ⟨hl, hd, _, (rel.put k eb rv).keeps fun c ys ec => ?_, q, es, ep, hq, h2, h3, h4, h5⟩
    rw [upd_ne (ne_of ec e (fun z => nomatch z))]
    exact ec
end
section
variable {X : Cx} {pins : List (Addr × Obj)} {σ : St} {H : Hp} {s : Shared} {a : Addr} {kvs : List (Key × V)} {k : Key} {u : Value} {A : Around} {E : Value → Shared → Prop}
theorem d_delItem {Q : Unit → Shared → Prop} (I : Inv X pins σ H s) (e : H a = some (.dK kvs)) (ry : RelV (kV k) u) (l : (valV kvs k).isSome = true) (h : ∀ s', Inv X pins σ (upd H a (.dK (dropK kvs k))) s' → Q () s') :
    wpAny (model X.prog X.w) A (delItem (.ref a) u) Q E s := by
  obtain ⟨z, hd, vs, rel, dd⟩ := dk_of I.hok e
  refine wpAny_delItem_slot dd.typeIs (by decide) PySem.F.slot_dict_delitem
    (call_meetsIn PySem.F.slot_dict_delitem dd.typeIs PySem.F.entry_dict_delitem (PySem.F.args_dict_delitem_2 _ _) (meets_dict_delitem_pairs (mixKind X.prog X.w) a (kV_is ry)) ⟨vs, dd, by rw [← rel.length]; exact z, by rw [← (rel.val k).isSome_eq]; exact l, fun h' dd' hs => h _ ?_⟩)
  have he : ∃ q, h'.get? a = some q := let ⟨q, _, _, hq, _⟩ := dd'; ⟨q, hq⟩
  exact d_write I (by rw [e]; exact True.intro) hs he (dk_new (Nat.le_trans (dropK_le kvs k) z) hd (rel.drop k) dd')
theorem d_pop {v : V} {more : List Value} {Q : Value → Shared → Prop} (I : Inv X pins σ H s) (e : H a = some (.dK kvs)) (ry : RelV (kV k) u) (l : valV kvs k = some v) (hm : more = [] ∨ ∃ x, more = [x])
    (h : ∀ w' s', Inv X pins σ (upd H a (.dK (dropK kvs k))) s' → RelV v w' → Q w' s') : wpAny (model X.prog X.w) A (call (.builtin "dict.pop") (.ref a :: u :: more)) Q E s := by
  obtain ⟨z, hd, vs, rel, dd⟩ := dk_of I.hok e
  obtain ⟨w', hw, rw'⟩ := RelO.some_of (v := v) (o := valueAt vs k) (by rw [← l]; exact rel.val k)
  have hp : (keyPart u).isSome = true := by
    cases k with
    | inl i => obtain ⟨t, q⟩ := (show ∃ t, u = Value.int i t from ry); subst q; rfl
    | inr x => obtain ⟨t, q⟩ := (show ∃ t, u = Value.str x t from ry); subst q; rfl
  have ha : argsOk "dict.pop" ⟨.ref a :: u :: more, []⟩ := by
    rcases hm with q | ⟨x, q⟩
    · subst q; exact PySem.F.args_dict_pop_2 _ _
    · subst q; exact PySem.F.args_dict_pop_3 _ _ _
  refine call_meetsIn PySem.F.slot_dict_pop dd.typeIs PySem.F.entry_dict_pop ha (meets_dict_pop_there (mixKind X.prog X.w) a (kV_is ry) more hm hp)
    ⟨vs, w', dd, by rw [← rel.length]; exact z, hw, fun h' dd' hs => h w' _ ?_ rw'⟩
  have he : ∃ q, h'.get? a = some q := let ⟨q, _, _, hq, _⟩ := dd'; ⟨q, hq⟩
  exact d_write I (by rw [e]; exact True.intro) hs he (dk_new (Nat.le_trans (dropK_le kvs k) z) hd (rel.drop k) dd')
theorem d_popD {r : Value} {Q : Value → Shared → Prop} (I : Inv X pins σ H s) (e : H a = some (.dK kvs)) (ry : RelV (kV k) u) (l : valV kvs k = none) (h : ∀ s', Inv X pins σ H s' → Q r s') :
    wpAny (model X.prog X.w) A (call (.builtin "dict.pop") [.ref a, u, r]) Q E s := by
  obtain ⟨z, hd, vs, rel, dd⟩ := dk_of I.hok e
  have hn : valueAt vs k = none := RelO.none_of (by rw [← l]; exact rel.val k)
  have hp : (keyPart u).isSome = true := by
    cases k with
    | inl i => obtain ⟨t, q⟩ := (show ∃ t, u = Value.int i t from ry); subst q; rfl
    | inr x => obtain ⟨t, q⟩ := (show ∃ t, u = Value.str x t from ry); subst q; rfl
  exact call_meetsIn PySem.F.slot_dict_pop dd.typeIs PySem.F.entry_dict_pop (PySem.F.args_dict_pop_3 _ _ _) (meets_dict_pop_default (mixKind X.prog X.w) a (kV_is ry) hd hp r) ⟨vs, dd, hn, h _ (I.tok _)⟩
theorem d_clear {Q : Value → Shared → Prop} (I : Inv X pins σ H s) (e : H a = some (.dK kvs)) (h : ∀ s', Inv X pins σ (upd H a (.dK [])) s' → Q .none s') : wpAny (model X.prog X.w) A (call (.builtin "dict.clear") [.ref a]) Q E s := by
  obtain ⟨z, hd, vs, rel, dd⟩ := dk_of I.hok e
  refine call_meetsIn PySem.F.slot_dict_clear dd.typeIs PySem.F.entry_dict_clear (PySem.F.args_dict_clear_1 _) (meets_dict_clear (mixKind X.prog X.w) a) ⟨vs, dd, by rw [← rel.length]; exact z, fun h' dd' hs => h _ ?_⟩
  have he : ∃ q, h'.get? a = some q := let ⟨q, _, _, hq, _⟩ := dd'; ⟨q, hq⟩
  exact d_write (t' := s.toks) I (by rw [e]; exact True.intro) hs he (dk_new (Nat.zero_le _) hd .nil dd')
theorem d_len {Q : Value → Shared → Prop} (I : Inv X pins σ H s) (e : Rd H a (.dK kvs)) (h : ∀ t s', Inv X pins σ H s' → Q (.int kvs.length t) s') : wpAny (model X.prog X.w) A (call (.builtin "len") [.ref a]) Q E s := by
  obtain ⟨z, hd, vs, rel, dd⟩ := dk_rd I.hok e
  refine call_len_dict hd dd (by rw [← rel.length]; rw [sizeLine_eq] at z; omega) ?_
  rw [← rel.length]
  exact h _ _ (I.tok _)
theorem d_truth {Q : Bool → Shared → Prop} (I : Inv X pins σ H s) (e : Rd H a (.dK kvs)) (h : ∀ s', Inv X pins σ H s' → Q (!kvs.isEmpty) s') : wpAny (model X.prog X.w) A (truthy (.ref a)) Q E s := by
  obtain ⟨z, hd, vs, rel, dd⟩ := dk_rd I.hok e
  refine wpAny_truthy_dict hd dd (by rw [← rel.length]; rw [sizeLine_eq] at z; omega) ?_
  have q : kvs.isEmpty = vs.isEmpty := by cases rel <;> rfl
  rw [← q]
  exact h _ (I.tok _)
end
def NoSl (i : Expr) : Prop := ∀ ov iv, subscripted i false ov iv = operate [ov, iv] (getItem ov iv)
theorem subD_of {prog : Program} {w : World} {A : Around} {E : Value → Shared → Prop} {s : Shared} {env : Env} {value slice : Expr} {pos : Pos} {T id : String} {Q : Value → Shared → Prop}
    (hl : typeLookup (.type T) "__getitem__" = pure (some (.builtin id))) (hs : NoSl slice)
    (h : wpAny (model prog w) A (eval value env) (fun o s₁ => wpAny (model prog w) A (eval slice env) (fun i s₂ => s₂.TypeIs o T ∧ wpAny (model prog w) A (getItem o i) Q E s₂) E s₁) E s) :
    wpAny (model prog w) A (eval (.Subscript value slice pos) env) Q E s := by
  refine Subscript_ (wpAny_mono h (fun o s₁ h₁ => wpAny_mono h₁ (fun i s₂ h₂ => ?_) fun _ _ x => x) fun _ _ x => x)
  obtain ⟨hT, h₂⟩ := h₂
  unfold subscriptTail
  refine wpAny_bind ?_
  rw [getitemInPython_of_ne hT.not_modules]
  refine wpAny_bind (wpAny_specialOf hT hl ?_)
  have fin : wpAny (model prog w) A (subscripted slice false o i) (fun r s₃ => wpAny (model prog w) A (letTemporaryGo value o r >>= fun _ => pure r) Q E s₃) E s₂ := by
    rw [hs o i]
    exact wpAny_operating (wpAny_mono h₂ (fun r s₃ h₃ => wpAny_bind (wpAny_letTemporaryGo (wpAny_pure h₃))) fun _ _ x => x)
  first
    | exact wpAny_pure (wpAny_bind fin)
    | exact wpAny_bind (wpAny_pure (wpAny_bind fin))
    | exact wpAny_bind fin
theorem dict_typeIs {X : Cx} {pins : List (Addr × Obj)} {σ : St} {H : Hp} {s : Shared} {a : Addr} {y : V} {o : Option V} (I : Inv X pins σ H s) (g : DGet H a y o) : s.TypeIs (.ref a) "dict" := by
  rcases g with ⟨kvs, k, e, _, _⟩ | ⟨kvs, k, b, e, _, _, _⟩
  · obtain ⟨_, _, vs, _, dd⟩ := dk_rd I.hok e
    exact dd.typeIs
  · obtain ⟨_, _, xs, _, dd⟩ := dt_rd I.hok e
    exact dd.typeIs
theorem dict_noDict {X : Cx} {pins : List (Addr × Obj)} {σ : St} {H : Hp} {s : Shared} {a : Addr} {y : V} {o : Option V} (I : Inv X pins σ H s) (g : DGet H a y o) :
    ∀ b, Value.ref a = .ref b → ∃ ob, s.heap.get? b = some ob ∧ ob.dict = none := fun b q => by
  cases q
  rcases g with ⟨kvs, k, e, _, _⟩ | ⟨kvs, k, b, e, _, _, _⟩
  · obtain ⟨_, _, vs, _, ob, _, _, h1, h2, _⟩ := dk_rd I.hok e
    exact ⟨ob, h1, h2.2.1⟩
  · obtain ⟨_, _, xs, _, ob, _, _, h1, h2, _⟩ := dt_rd I.hok e
    exact ⟨ob, h1, h2.2.1⟩
def tDGet (td ty : TE) : TE := fun σ H Q => td σ H fun x H1 => ty σ H1 fun y H2 => ∃ a v, x = .ref a ∧ DGet H2 a y (some v) ∧ Q v H2
def tDIn (ty td : TE) : TE := fun σ H Q => ty σ H fun y H1 => td σ H1 fun x H2 => ∃ a o, x = .ref a ∧ DGet H2 a y o ∧ Q (.bl o.isSome) H2
def tDNotIn (ty td : TE) : TE := fun σ H Q => ty σ H fun y H1 => td σ H1 fun x H2 => ∃ a o, x = .ref a ∧ DGet H2 a y o ∧ Q (.bl (!o.isSome)) H2
def sDPut (td ty tv : TE) : TS := fun D σ H => tv σ H fun v H1 => td σ H1 fun x H2 => ty σ H2 fun y H3 => ∃ a H4, x = .ref a ∧ DPut H3 a y v H4 ∧ D.nx σ H4
def sDAug (td ty tv : TE) (rd : V → V → Hp → VK → Prop) : TS := fun D σ H => td σ H fun x H1 => ty σ H1 fun y H2 => ∃ a v, x = .ref a ∧ DGet H2 a y (some v) ∧
  tv σ H2 fun y2 H3 => rd v y2 H3 fun z H4 => ∃ H5, DPut H4 a y z H5 ∧ D.nx σ H5
def sDDel (td ty : TE) : TS := fun D σ H => td σ H fun x H1 => ty σ H1 fun y H2 => ∃ a kvs k, x = .ref a ∧ H2 a = some (.dK kvs) ∧ y = kV k ∧ (valV kvs k).isSome = true ∧ D.nx σ (upd H2 a (.dK (dropK kvs k)))
section
variable {X : Cx} {o i e value : Expr} {pos pos' tpos : Pos} {td ty tv : TE}
theorem pe_dget (hu : X.A.units + 1 < cLine) (ho : PE X o td) (hi : PE X i ty) (hs : NoSl i) : PE X (.Subscript o i pos) (tDGet td ty) := by
  intro pins s σ H Q I h
  refine subD_of PySem.F.slot_dict_getitem.lookup hs (thn (ho pins s σ H _ I h) fun u s1 ⟨x, H1, I1, rx, q1⟩ => thn (hi pins s1 σ H1 _ I1 q1) fun iv s2 ⟨y, H2, I2, ry, a, v, ex, g, q2⟩ => ?_)
  subst ex
  obtain rfl : u = Value.ref a := rx
  exact ⟨dict_typeIs I2 g, d_getItem hu I2 g ry fun w' s3 I3 rw' => ⟨v, H2, I3, rw', q2⟩⟩
theorem pc_din (hu : X.A.units + 1 < cLine) (hi : PE X i ty) (ho : PE X o td) : PC X .In i o (tDIn ty td) := by
  intro pins s σ H Q I h
  refine thn (hi pins s σ H _ I h) fun iv s1 ⟨y, H1, I1, ry, q1⟩ => thn (ho pins s1 σ H1 _ I1 q1) fun u s2 ⟨x, H2, I2, rx, a, ov, ex, g, q2⟩ => ?_
  subst ex
  obtain rfl : u = Value.ref a := rx
  exact d_in hu I2 g ry fun s3 I3 => ⟨.bl ov.isSome, H2, I3, rfl, q2⟩
theorem pc_dnotin (hu : X.A.units + 1 < cLine) (hi : PE X i ty) (ho : PE X o td) : PC X .NotIn i o (tDNotIn ty td) := by
  intro pins s σ H Q I h
  refine thn (hi pins s σ H _ I h) fun iv s1 ⟨y, H1, I1, ry, q1⟩ => thn (ho pins s1 σ H1 _ I1 q1) fun u s2 ⟨x, H2, I2, rx, a, ov, ex, g, q2⟩ => ?_
  subst ex
  obtain rfl : u = Value.ref a := rx
  exact d_notIn hu I2 g ry fun s3 I3 => ⟨.bl (!ov.isSome), H2, I3, rfl, q2⟩
theorem ps_dput (hu : X.A.units + 1 < cLine) (ho : PE X o td) (hi : PE X i ty) (hv : PE X value tv) (hs : swapsWith value (some (.Subscript o i pos')) pos.line X.env = pure false) :
    PS X (.Assign [.Subscript o i pos'] value pos) (sDPut td ty tv) := by
  intro pins s σ H D I h
  refine wpAny_Assign_Subscript (thn (hv pins s σ H _ I h) fun r s1 ⟨v, H1, I1, rv, q1⟩ => thn (ho pins s1 σ H1 _ I1 q1) fun u s2 ⟨x, H2, I2, rx, q2⟩ => thn (hi pins s2 σ H2 _ I2 q2) fun iv s3 ⟨y, H3, I3, ry, a, H4, ex, g, q3⟩ => ?_) hs
  subst ex
  obtain rfl : u = Value.ref a := rx
  exact d_setItem hu I3 g ry rv fun s4 I4 => ⟨σ, H4, I4, q3⟩
theorem ps_daug {op : Operator} {rd : V → V → Hp → VK → Prop} (hu : X.A.units + 1 < cLine) (ho : PE X o td) (hi : PE X i ty) (hv : PE X value tv) (hop : InOp X op rd)
    (ha : ∀ ov iv new, augStore i ov iv new = (do holding [new, ov, iv] (setItem ov iv new); release [new, ov, iv] []; pure .next)) : PS X (.AugAssign (.Subscript o i tpos) op value pos) (sDAug td ty tv rd) := by
  intro pins s σ H D I h
  refine wpAny_AugAssign_SubscriptAny (thn (ho pins s σ H _ I h) fun u s1 ⟨x, H1, I1, rx, q1⟩ => thn (hi pins s1 σ H1 _ I1 q1) fun iv s2 ⟨y, H2, I2, ry, a, v, ex, g, q2⟩ => ?_) ha
  subst ex
  obtain rfl : u = Value.ref a := rx
  refine d_getItem hu I2 g ry fun w' s3 I3 rw' => thn (hv pins s3 σ H2 _ I3 q2) fun w2 s4 ⟨y2, H3, I4, ry2, q3⟩ => thn (hop pins s4 σ H3 v y2 w' w2 _ I4 rw' ry2 q3) fun w3 s5 ⟨z, H4, I5, rz, H5, g5, q4⟩ => ?_
  exact d_setItem hu I5 g5 ry rz fun s6 I6 => ⟨σ, H5, I6, q4⟩
theorem ps_ddel (ho : PE X o td) (hi : PE X i ty) : PS X (.Delete [.Subscript o i tpos] pos) (sDDel td ty) := by
  intro pins s σ H D I h
  refine wpAny_Delete (wpAny_deleteEach_cons (wpAny_delete_Subscript (thn (ho pins s σ H _ I h) fun u s1 ⟨x, H1, I1, rx, q1⟩ => thn (hi pins s1 σ H1 _ I1 q1) fun iv s2 ⟨y, H2, I2, ry, a, kvs, k, ex, e, ey, l, q2⟩ => ?_)))
  subst ex ey
  obtain rfl : u = Value.ref a := rx
  exact d_delItem I2 e ry l fun s3 I3 => wpAny_deleteEach_nil ⟨σ, _, I3, q2⟩
end
theorem dk_empty {P : Program} {w : World} {H : Hp} (h : Heap) (hb : sysModules < h.objs.size) : ObjOk P w H (h.push { cls := .type "dict", data := .dict #[] }) h.objs.size (.dK []) :=
  ⟨Nat.zero_le _, beq_eq_false_iff_ne.mpr (Ne.symm (Nat.ne_of_lt hb)), [], .nil, Heap.DictOf.new h⟩
theorem dt_empty {P : Program} {w : World} {H : Hp} (h : Heap) (hb : sysModules < h.objs.size) : ObjOk P w H (h.push { cls := .type "dict", data := .dict #[] }) h.objs.size (.dT []) :=
  ⟨Nat.zero_le _, beq_eq_false_iff_ne.mpr (Ne.symm (Nat.ne_of_lt hb)), [], .nil, _, #[], 0, Heap.get?_push_size _ rfl, ⟨rfl, rfl, rfl⟩, rfl, rfl, List.nodup_nil⟩
def tDNewK : TE := fun _ H Q => ∀ p, H p = none → Q (.ref p) (upd H p (.dK []))
def tDNewT : TE := fun _ H Q => ∀ p, H p = none → Q (.ref p) (upd H p (.dT []))
section
variable {X : Cx} {pos : Pos}
theorem pe_dnewK : PE X (.Dict [] [] pos) tDNewK := fun pins s σ H Q I h =>
  wpAny_Dict_empty ⟨.ref s.heap.objs.size, _, I.laid (a := s.heap.objs.size) (o := .dK []) (t' := s.toks) (fun _ _ q => Heap.get?_push_of_some _ q) (Nat.le_refl _) (dk_empty s.heap I.big), rfl, h _ (I.hok.fresh (Nat.le_refl _))⟩
theorem pe_dnewT : PE X (.Dict [] [] pos) tDNewT := fun pins s σ H Q I h =>
  wpAny_Dict_empty ⟨.ref s.heap.objs.size, _, I.laid (a := s.heap.objs.size) (o := .dT []) (t' := s.toks) (fun _ _ q => Heap.get?_push_of_some _ q) (Nat.le_refl _) (dt_empty s.heap I.big), rfl, h _ (I.hok.fresh (Nat.le_refl _))⟩
end
def tPairs : List (TE × TE) → St → Hp → (List (V × V) → Hp → Prop) → Prop
  | [], _, H, Q => Q [] H
  | (tk, tv) :: r, σ, H, Q => tk σ H fun x H1 => tv σ H1 fun y H2 => tPairs r σ H2 fun ps H3 => Q ((x, y) :: ps) H3
abbrev VV : List (V × V) → List (Value × Value) → Prop := Paired fun p q => RelV p.1 q.1 ∧ RelV p.2 q.2
def PPs (X : Cx) (pos : Pos) (keys : List (Option Expr)) (values : List Expr) (trs : List (TE × TE)) : Prop :=
  ∀ (pins : List (Addr × Obj)) (s : Shared) (σ : St) (H : Hp) (Q : List (V × V) → Hp → Prop), Inv X pins σ H s → tPairs trs σ H Q →
    wpAny (model X.prog X.w) X.A (evalPairs (pairTrees keys values X.env pos)) (fun vs s' => ∃ ps H', Inv X pins σ H' s' ∧ VV ps vs ∧ Q ps H') X.xe s
theorem pps_nil {X : Cx} {pos : Pos} : PPs X pos [] [] [] := fun pins s σ H Q I h => pairTrees_nil_walk ⟨[], H, I, .nil, h⟩
theorem pps_cons {X : Cx} {pos : Pos} {k v : Expr} {ks : List (Option Expr)} {vs : List Expr} {tk tv : TE} {trs : List (TE × TE)} (hk : PE X k tk) (hv : PE X v tv) (hr : PPs X pos ks vs trs) :
    PPs X pos (some k :: ks) (v :: vs) ((tk, tv) :: trs) := fun pins s σ H Q I h =>
  pairTrees_cons_walk (thn (hk pins s σ H _ I h) fun u s1 ⟨x, H1, I1, rx, q1⟩ => thn (hv pins s1 σ H1 _ I1 q1) fun w2 s2 ⟨y, H2, I2, ry, q2⟩ =>
    thn (hr pins s2 σ H2 _ I2 q2) fun ws s3 ⟨ps, H3, I3, rel, q3⟩ => ⟨(x, y) :: ps, H3, I3, .cons ⟨rx, ry⟩ rel, q3⟩)
def mergeK (kvs more : List (Key × V)) : List (Key × V) := more.foldl (fun acc kv => putK acc kv.1 kv.2) kvs
theorem KV.merge : ∀ {more : List (Key × V)} {rs : List (Key × Value)} {kvs : List (Key × V)} {vs : List (Key × Value)}, KV more rs → KV kvs vs → KV (mergeK kvs more) (merged vs rs) := by
  intro more rs kvs vs r
  unfold KV at r
  induction r generalizing kvs vs with
  | nil => intro q; exact q
  | @cons p q ps qs h t ih =>
    intro r0
    have e : KV (putK kvs p.1 p.2) (stored vs q.1 q.2) := by
      have := r0.put p.1 h.2
      rw [← h.1]; exact this
    exact ih e
theorem length_mergeK : ∀ (more kvs : List (Key × V)), (mergeK kvs more).length ≤ kvs.length + more.length
  | [], kvs => by show kvs.length ≤ kvs.length + 0; omega
  | p :: r, kvs => by
    have h1 := length_mergeK r (putK kvs p.1 p.2)
    have h2 := length_putK kvs p.1 p.2
    show (mergeK (putK kvs p.1 p.2) r).length ≤ _
    rw [List.length_cons]; omega
theorem carries_of {P : Program} {w : World} : ∀ {kvs : List (Key × V)} {ws : List (Value × Value)}, VV (kvs.map fun kv => (kV kv.1, kv.2)) ws → ∃ rs, Carries (mixKind P w) ws rs ∧ KV kvs rs
  | [], _, r => by rw [List.map_nil] at r; cases r; exact ⟨[], True.intro, .nil⟩
  | p :: kvs, _, r => by
    rw [List.map_cons] at r
    cases r with
    | @cons a b as bs h t =>
      obtain ⟨rs, c, q⟩ := carries_of (P := P) (w := w) t
      obtain ⟨b1, b2⟩ := b
      exact ⟨(p.1, b2) :: rs, ⟨kV_is h.1, rfl, c⟩, .cons ⟨rfl, h.2⟩ q⟩
def tDisp (trs : List (TE × TE)) : TE := fun σ H Q => ∀ p, H p = none → tPairs trs σ (upd H p (.dK [])) fun ps H2 => H2 p = some (.dK []) ∧ ∃ kvs : List (Key × V), ps = kvs.map (fun kv => (kV kv.1, kv.2)) ∧ kvs.length ≤ 15 ∧ Q (.ref p) (upd H2 p (.dK (mergeK [] kvs)))
theorem pe_disp {X : Cx} {pos : Pos} {keys : List (Option Expr)} {values : List Expr} {trs : List (TE × TE)} (h : PPs X pos keys values trs) (hall : keys.all (·.isSome) = true) (hl : keys.length = values.length) (h0 : keys ≠ [])
    (h15 : keys.length ≤ 15) : PE X (.Dict keys values pos) (tDisp trs) := by
  intro pins s σ H Q I q
  have hn := I.hok.fresh (Nat.le_refl s.heap.objs.size)
  have I1 := I.laid (a := s.heap.objs.size) (o := .dK []) (h' := s.heap.push { cls := .type "dict", data := .dict #[] }) (t' := s.toks) (fun _ _ q => Heap.get?_push_of_some _ q) (Nat.le_refl _) (dk_empty s.heap I.big)
  refine wpAny_Dict_walk (knd := mixKind X.prog X.w) hall hl h0 h15 (thn (h pins _ σ _ _ I1 (q _ hn)) fun ws s2 ⟨ps, H2, I2, rel, e, kvs, ep, lk, q2⟩ => ?_)
  subst ep
  obtain ⟨rs, c, rk⟩ := carries_of (P := X.prog) (w := X.w) rel
  obtain ⟨z, hd, vs0, r0, dd⟩ := dk_of I2.hok e
  cases r0
  refine ⟨rs, c, dd, fun h' dd' hs => ⟨.ref s.heap.objs.size, _, ?_, rfl, q2⟩⟩
  have hz : (mergeK [] kvs).length ≤ sizeLine := by
    have h1 := length_mergeK kvs []
    rw [List.length_nil] at h1
    rw [sizeLine_eq]; omega
  have he : ∃ q, h'.get? s.heap.objs.size = some q := let ⟨q, _, _, hq, _⟩ := dd'; ⟨q, hq⟩
  exact d_write I2 (by rw [e]; exact True.intro) hs he (dk_new hz hd (rk.merge .nil) dd')
structure M1 (X : Cx) (o : Expr) (m : Str) (apos : Pos) (e : Expr) (cpos : Pos) : Prop where
  base : attributeBase o m X.env (eval o X.env) = eval o X.env
  few : ((backTo cpos (starEach [e] X.env)).all (fun x => !x.1) && (backToKw cpos (keywordEach [] X.env)).all (fun x => x.1.isSome)
    && decide (([e] : List Expr).length + ([] : List Keyword).length + (if ([] : List Keyword).isEmpty then 0 else 1) < 30)) = true
  line : (apos.endLine == cpos.line) = true
  trees : backTo cpos (starEach [e] X.env) = [(false, eval e X.env)]
structure M2 (X : Cx) (o : Expr) (m : Str) (apos : Pos) (e f : Expr) (cpos : Pos) : Prop where
  base : attributeBase o m X.env (eval o X.env) = eval o X.env
  few : ((backTo cpos (starEach [e, f] X.env)).all (fun x => !x.1) && (backToKw cpos (keywordEach [] X.env)).all (fun x => x.1.isSome)
    && decide (([e, f] : List Expr).length + ([] : List Keyword).length + (if ([] : List Keyword).isEmpty then 0 else 1) < 30)) = true
  line : (apos.endLine == cpos.line) = true
  trees : backTo cpos (starEach [e, f] X.env) = [(false, eval e X.env), (false, eval f X.env)]
def IsD (H : Hp) (a : Addr) : Prop := (∃ kvs, Rd H a (.dK kvs)) ∨ ∃ kvs, Rd H a (.dT kvs)
theorem isD_at {X : Cx} {pins : List (Addr × Obj)} {σ : St} {H : Hp} {s : Shared} {a : Addr} (I : Inv X pins σ H s) (d : IsD H a) :
    s.TypeIs (.ref a) "dict" ∧ (∀ b, Value.ref a = .ref b → ∃ ob, s.heap.get? b = some ob ∧ ob.dict = none) ∧ (a == sysModules) = false := by
  rcases d with ⟨kvs, e⟩ | ⟨kvs, e⟩
  · obtain ⟨_, hd, vs, _, dd⟩ := dk_rd I.hok e
    refine ⟨dd.typeIs, fun b q => ?_, hd⟩
    cases q
    obtain ⟨ob, _, _, h1, h2, _⟩ := dd
    exact ⟨ob, h1, h2.2.1⟩
  · obtain ⟨_, hd, xs, _, dd⟩ := dt_rd I.hok e
    refine ⟨dd.typeIs, fun b q => ?_, hd⟩
    cases q
    obtain ⟨ob, _, _, h1, h2, _⟩ := dd
    exact ⟨ob, h1, h2.2.1⟩
section
variable {X : Cx} {pins : List (Addr × Obj)} {σ : St} {H : Hp} {s : Shared} {a : Addr} {y d : V} {u r : Value} {o : Option V} {A : Around} {E : Value → Shared → Prop}
theorem d_get1 {Q : Value → Shared → Prop} (hu : A.units + 1 < cLine) (I : Inv X pins σ H s) (g : DGet H a y o) (ry : RelV y u) (h : ∀ w' s', Inv X pins σ H s' → RelV (o.getD .non) w' → Q w' s') :
    wpAny (model X.prog X.w) A (call (.builtin "dict.get") [.ref a, u]) Q E s := by
  rcases g with ⟨kvs, k, e, ey, l⟩ | ⟨kvs, k, b, e, ey, eb, l⟩
  · subst ey
    obtain ⟨z, hd, vs, rel, dd⟩ := dk_rd I.hok e
    refine call_meetsIn PySem.F.slot_dict_get dd.typeIs PySem.F.entry_dict_get (PySem.F.args_dict_get_2 _ _) (meets_dict_get (mixKind X.prog X.w) a (kV_is ry) hd) ⟨_, dd.mapOf, h _ _ (I.tok _) ?_⟩
    rw [l]
    exact (rel.val k).getD rfl
  · subst ey
    cases (show u = Value.ref b from ry)
    obtain ⟨z, hd, xs, rel, dd⟩ := dt_rd I.hok e
    refine call_meetsIn PySem.F.slot_dict_get dd.typeIs PySem.F.entry_dict_get (PySem.F.args_dict_get_2 _ _) (meetsH_dict_get (tupleKind (mixKind X.prog X.w)) a b hd) ⟨tupleKind_room_in1 hu, k, xs, key_of I.hok eb, dd, h _ _ (I.tok _) ?_⟩
    rw [l]
    exact (rel.val k).getD rfl
theorem d_get2 {Q : Value → Shared → Prop} (hu : A.units + 1 < cLine) (I : Inv X pins σ H s) (g : DGet H a y o) (ry : RelV y u) (rd : RelV d r) (h : ∀ w' s', Inv X pins σ H s' → RelV (o.getD d) w' → Q w' s') :
    wpAny (model X.prog X.w) A (call (.builtin "dict.get") [.ref a, u, r]) Q E s := by
  rcases g with ⟨kvs, k, e, ey, l⟩ | ⟨kvs, k, b, e, ey, eb, l⟩
  · subst ey
    obtain ⟨z, hd, vs, rel, dd⟩ := dk_rd I.hok e
    refine call_meetsIn PySem.F.slot_dict_get dd.typeIs PySem.F.entry_dict_get (PySem.F.args_dict_get_3 _ _ _) (meets_dict_get_default (mixKind X.prog X.w) a (kV_is ry) hd r) ⟨_, dd.mapOf, h _ _ (I.tok _) ?_⟩
    rw [l]
    exact (rel.val k).getD rd
  · subst ey
    cases (show u = Value.ref b from ry)
    obtain ⟨z, hd, xs, rel, dd⟩ := dt_rd I.hok e
    refine call_meetsIn PySem.F.slot_dict_get dd.typeIs PySem.F.entry_dict_get (PySem.F.args_dict_get_3 _ _ _) (meetsH_dict_get_default (tupleKind (mixKind X.prog X.w)) a b hd r) ⟨tupleKind_room_in1 hu, k, xs, key_of I.hok eb, dd, h _ _ (I.tok _) ?_⟩
    rw [l]
    exact (rel.val k).getD rd
end
def tDGet1 (td ty : TE) : TE := fun σ H Q => td σ H fun x H1 => ∃ a, x = .ref a ∧ IsD H1 a ∧ ty σ H1 fun y H2 => ∃ o, DGet H2 a y o ∧ Q (o.getD .non) H2
def tDGet2 (td ty tx : TE) : TE := fun σ H Q => td σ H fun x H1 => ∃ a, x = .ref a ∧ IsD H1 a ∧ ty σ H1 fun y H2 => tx σ H2 fun z H3 => ∃ o, DGet H3 a y o ∧ Q (o.getD z) H3
def tDPop1 (td ty : TE) : TE := fun σ H Q => td σ H fun x H1 => ∃ a, x = .ref a ∧ IsD H1 a ∧ ty σ H1 fun y H2 => ∃ kvs k v, H2 a = some (.dK kvs) ∧ y = kV k ∧ valV kvs k = some v ∧ Q v (upd H2 a (.dK (dropK kvs k)))
def tDPop2 (td ty tx : TE) : TE := fun σ H Q => td σ H fun x H1 => ∃ a, x = .ref a ∧ IsD H1 a ∧ ty σ H1 fun y H2 => tx σ H2 fun z H3 => ∃ kvs k, H3 a = some (.dK kvs) ∧ y = kV k ∧
  (∀ v, valV kvs k = some v → Q v (upd H3 a (.dK (dropK kvs k)))) ∧ (valV kvs k = none → Q z H3)
section
variable {X : Cx} {o e f : Expr} {apos cpos : Pos} {td ty tx : TE}
theorem pe_dget1 (hu : X.A.units + 1 < cLine) (ho : PE X o td) (he : PE X e ty) (m : M1 X o "get" apos e cpos) : PE X (.Call (.Attribute o "get" apos) [e] [] cpos) (tDGet1 td ty) := by
  intro pins s σ H Q I h
  refine wpAny_Call_method m.base m.few m.line PySem.F.plainAttrs_dict PySem.F.slot_dict_get PySem.F.type_dict_get (thn (ho pins s σ H _ I h) fun u s1 ⟨x, H1, I1, rx, a, ex, d, q1⟩ => ?_)
  subst ex
  obtain rfl : u = Value.ref a := rx
  obtain ⟨t1, t2, _⟩ := isD_at I1 d
  refine ⟨t1, t2, ?_⟩
  rw [m.trees]
  refine Calls.callWith_builtin rfl (Calls.evalArgs_plain (Calls.spliced_cons (thn (he pins s1 σ H1 _ I1 q1) fun iv s2 ⟨y, H2, I2, ry, ov, g, q2⟩ => Calls.spliced_nil ?_)))
  exact d_get1 hu I2 g ry fun w' s3 I3 rw' => ⟨_, H2, I3, rw', q2⟩
theorem pe_dget2 (hu : X.A.units + 1 < cLine) (ho : PE X o td) (he : PE X e ty) (hf : PE X f tx) (m : M2 X o "get" apos e f cpos) : PE X (.Call (.Attribute o "get" apos) [e, f] [] cpos) (tDGet2 td ty tx) := by
  intro pins s σ H Q I h
  refine wpAny_Call_method m.base m.few m.line PySem.F.plainAttrs_dict PySem.F.slot_dict_get PySem.F.type_dict_get (thn (ho pins s σ H _ I h) fun u s1 ⟨x, H1, I1, rx, a, ex, d, q1⟩ => ?_)
  subst ex
  obtain rfl : u = Value.ref a := rx
  obtain ⟨t1, t2, _⟩ := isD_at I1 d
  refine ⟨t1, t2, ?_⟩
  rw [m.trees]
  refine Calls.callWith_builtin rfl (Calls.evalArgs_plain (Calls.spliced_cons (thn (he pins s1 σ H1 _ I1 q1) fun iv s2 ⟨y, H2, I2, ry, q2⟩ =>
    Calls.spliced_cons (thn (hf pins s2 σ H2 _ I2 q2) fun fv s3 ⟨z, H3, I3, rz, ov, g, q3⟩ => Calls.spliced_nil ?_))))
  exact d_get2 hu I3 g ry rz fun w' s4 I4 rw' => ⟨_, H3, I4, rw', q3⟩
theorem pe_dpop1 (ho : PE X o td) (he : PE X e ty) (m : M1 X o "pop" apos e cpos) : PE X (.Call (.Attribute o "pop" apos) [e] [] cpos) (tDPop1 td ty) := by
  intro pins s σ H Q I h
  refine wpAny_Call_method m.base m.few m.line PySem.F.plainAttrs_dict PySem.F.slot_dict_pop PySem.F.type_dict_pop (thn (ho pins s σ H _ I h) fun u s1 ⟨x, H1, I1, rx, a, ex, d, q1⟩ => ?_)
  subst ex
  obtain rfl : u = Value.ref a := rx
  obtain ⟨t1, t2, _⟩ := isD_at I1 d
  refine ⟨t1, t2, ?_⟩
  rw [m.trees]
  refine Calls.callWith_builtin rfl (Calls.evalArgs_plain (Calls.spliced_cons (thn (he pins s1 σ H1 _ I1 q1) fun iv s2 ⟨y, H2, I2, ry, kvs, k, v, ea, ey, l, q2⟩ => Calls.spliced_nil ?_)))
  subst ey
  exact d_pop I2 ea ry l (.inl rfl) fun w' s3 I3 rw' => ⟨v, _, I3, rw', q2⟩
theorem pe_dpop2 (ho : PE X o td) (he : PE X e ty) (hf : PE X f tx) (m : M2 X o "pop" apos e f cpos) : PE X (.Call (.Attribute o "pop" apos) [e, f] [] cpos) (tDPop2 td ty tx) := by
  intro pins s σ H Q I h
  refine wpAny_Call_method m.base m.few m.line PySem.F.plainAttrs_dict PySem.F.slot_dict_pop PySem.F.type_dict_pop (thn (ho pins s σ H _ I h) fun u s1 ⟨x, H1, I1, rx, a, ex, d, q1⟩ => ?_)
  subst ex
  obtain rfl : u = Value.ref a := rx
  obtain ⟨t1, t2, _⟩ := isD_at I1 d
  refine ⟨t1, t2, ?_⟩
  rw [m.trees]
  refine Calls.callWith_builtin rfl (Calls.evalArgs_plain (Calls.spliced_cons (thn (he pins s1 σ H1 _ I1 q1) fun iv s2 ⟨y, H2, I2, ry, q2⟩ =>
    Calls.spliced_cons (thn (hf pins s2 σ H2 _ I2 q2) fun fv s3 ⟨z, H3, I3, rz, kvs, k, ea, ey, q3, q4⟩ => Calls.spliced_nil ?_))))
  subst ey
  cases l : valV kvs k with
  | some v => exact d_pop I3 ea ry l (.inr ⟨fv, rfl⟩) fun w' s4 I4 rw' => ⟨v, _, I4, rw', q3 v l⟩
  | none => exact d_popD I3 ea ry l fun s4 I4 => ⟨z, H3, I4, rz, q4 l⟩
end
section
variable {X : Cx} {pins : List (Addr × Obj)} {σ : St} {H : Hp} {s : Shared} {a : Addr} {kvs : List (Key × V)} {A : Around} {E : Value → Shared → Prop}
theorem d_copyOf {Q : Value → Shared → Prop} (I : Inv X pins σ H s) (e : Rd H a (.dK kvs)) (h : ∀ p s', H p = none → Inv X pins σ (upd H p (.dK kvs)) s' → Q (.ref p) s') : wpAny (model X.prog X.w) A (call (.type "dict") [.ref a]) Q E s := by
  obtain ⟨z, hd, vs, rel, dd⟩ := dk_rd I.hok e
  refine kt_call_dict hd dd (by rw [← rel.length]; exact z) fun h' dd' hs => ?_
  refine h _ _ (I.hok.fresh (Nat.le_refl _)) (I.laid (a := s.heap.objs.size) (o := .dK kvs) (t' := s.toks) (fun b q hq => ?_) (Nat.le_refl _) (dk_new z (beq_eq_false_iff_ne.mpr (Ne.symm (Nat.ne_of_lt I.big))) rel dd'))
  exact (hs.2 b (Nat.ne_of_lt (Heap.lt_size hq))).trans (Heap.get?_push_of_some _ hq)
end
section
variable {X : Cx} {pins : List (Addr × Obj)} {σ : St} {H : Hp} {s : Shared} {a : Addr} {y : V} {u : Value} {A : Around} {E : Value → Shared → Prop}
theorem d_missing {Q : Value → Shared → Prop} (hu : A.units + 1 < cLine) (hh : A.handled = none) (I : Inv X pins σ H s) (g : DGet H a y none) (ry : RelV y u)
    (h : ∀ h' e t', Heap.NewExc s.heap h' e "KeyError" → E (.ref e) { s with heap := h', toks := t' }) : wpAny (model X.prog X.w) A (getItem (.ref a) u) Q E s := by
  rcases g with ⟨kvs, k, e, ey, l⟩ | ⟨kvs, k, b, e, ey, eb, l⟩
  · subst ey
    obtain ⟨z, hd, vs, rel, dd⟩ := dk_rd I.hok e
    have hn : valueAt vs k = none := RelO.none_of (by rw [l]; exact rel.val k)
    exact wpAny_getItem_missing_of (kV_is ry) hd hh dd.mapOf hn fun h' ex ne => h h' ex _ ne
  · subst ey
    cases (show u = Value.ref b from ry)
    obtain ⟨z, hd, xs, rel, dd⟩ := dt_rd I.hok e
    have hn : (atKey xs k).map (·.2) = none := RelO.none_of (by rw [l]; exact rel.val k)
    exact wpAny_getItem_missing_heap (tupleKind_room_in1 hu) (key_of I.hok eb) hd hh dd (Option.map_eq_none_iff.mp hn) fun h' ex ne => h h' ex _ ne
end
end L2
namespace Att
open PySem PySem.W PySem.Calls PyProof.Rows
theorem ints_of_wellAll {P : Params} {h : Heap} : ∀ (ns : List Int) (vs : List Value), WellAll P h vs (ns.map WData.int) → IntsAre vs ns := by
  intro ns
  induction ns with
  | nil =>
    intro vs w
    rw [List.map_nil] at w
    cases w
    exact .nil
  | cons n ns ih =>
    intro vs w
    rw [List.map_cons] at w
    cases w with
    | cons a b =>
      cases a
      exact .cons _ _ (ih _ b)
theorem script_of {l : OpenLaw} {n : Nat} (hn : l.most = some n) {P : Params} {h : Heap} {args : List WData} {vals : List Value}
    (hpre : l.row.toRowW.claim.pre args = true) (hwl : WellAll P h vals args) :
    ∃ a vs ns, vals = [Value.ref a] ∧ args = [WData.list (ns.map WData.int)] ∧ h.get? a = some { cls := .type "list", data := .seq vs.toArray } ∧ IntsAre vs ns ∧ ns.length ≤ n := by
  have hsh : WShape.hasAll [] args [.list .int] = true := (pre_splitW hpre).1
  have hc : l.pre.holds [] { args := args } = true := (pre_splitW hpre).2
  obtain ⟨d, r, rfl, h1, h2⟩ := hasAllW_cons hsh
  obtain rfl := hasAllW_nil h2
  obtain ⟨xs, rfl, h3⟩ := hasW_list h1
  obtain ⟨ns, rfl⟩ := items_int h3
  have hlen : ns.length ≤ n := by
    unfold OpenLaw.pre at hc
    have h4 : (WTm.not (.lt (.lit (.int (n : Int))) (.len (.arg 0)))).holds [] { args := [.list (ns.map .int)] } = true := by
      have h4 := (holds_andW hc).1
      rw [hn] at h4
      exact h4
    have h5 := condW_of h4 (w_not (w_lt w_lit (w_len_list (w_arg rfl))))
    rw [List.length_map] at h5
    refine Nat.le_of_not_lt fun q => ?_
    have q' : (n : Int) < ((ns.length : Nat) : Int) := by omega
    first
      | (rw [decide_eq_true q'] at h5; exact absurd h5 (by decide))
      | (simp at h5; omega)
  cases hwl with
  | cons w1 w2 =>
    cases w2
    cases w1 with
    | list ho hall => exact ⟨_, _, ns, rfl, rfl, ho, ints_of_wellAll ns _ hall, hlen⟩
theorem post_true (l : OpenLaw) (args : List WData) : l.row.toRowW.claim.post args (.bool true) args = true :=
  postW_of (r := l.row.toRowW) (X := (true == true))
    (show WShape.has [] (.bool true) .bool = true by first | rfl | decide | simp [WShape.has, WShape.arms, WShape.armsAll])
    (show (WTm.eq .res (.lit (.bool true))).value [] { args := args, res := some (.bool true), after := args } = some (.bool (true == true)) from w_eq_bool (w_res rfl) w_lit) rfl
theorem attach {l : OpenLaw} {n : Nat} {q : Program} {loose : List Str} {XP : (Str → Option Value) → Heap → Prop} {YP : World → Heap → Prop} {d : DefRec} {x : Str}
    (hn : l.most = some n) (hdf : d.params.defaults = [])
    (hbind : ∀ pm cd doc v : Value, bindArgs (docDef d.name d.params d.body d.scope pm cd doc) ⟨[v], []⟩ = pure [(x, v)])
    (hx : d.scope.names.lookup x = some .local ∨ d.scope.names.lookup x = some .cell)
    (hk : d.scope.kind = .function) (hco : d.scope.isCoroutine = false) (hgen : d.scope.isGenerator = false)
    (body : ∀ (w : World) (s₀ s₁ s : Shared) (mg mb : Str → Option Value) (fa : Addr) (o : Obj) (pm cd doc : Value) (a : Addr) (vs : List Value) (ns : List Int),
      Ground q loose [] XP w s₀ mg mb s₁.heap → YP w s₁.heap →
      s₁.heap.get? fa = some o → o.data = .func (docDef d.name d.params d.body d.scope pm cd doc) → s₁.heap.CodeRec cd d.name → mg d.name = some (.ref fa) →
      s₁.heap.get? a = some { cls := .type "list", data := .seq vs.toArray } → IntsAre vs ns → ns.length ≤ n →
      s.gens = #[] → s.os = s₁.os →
      Fr s₁.heap s₁.heap.objs.size s.heap (bindL (envOfC d.name d.scope s₁.heap.objs.size fa cd).kindOf [(x, .ref a)] fun _ => none) →
      Cl s₁.heap.objs.size (cellsFrom (s₁.heap.objs.size + 1) d.scope.names []) s.heap (bindC (envOfC d.name d.scope s₁.heap.objs.size fa cd).kindOf [(x, .ref a)] fun _ => none) →
      wpAny (model l.prog w) (callerA.deeper (envOfC d.name d.scope s₁.heap.objs.size fa cd)) (execs d.body (envOfC d.name d.scope s₁.heap.objs.size fa cd))
        (fun f s' => f = .ret (.bool true) ∧ OldK s₁.heap s'.heap ∧ s'.os = s₁.os ∧ AllBare s'.gens) (fun _ _ => False) s) :
    WalkO q loose XP YP l.row.toRowW d [] (fun f vs => PySem.call f vs) := by
  intro w s₀ s₁ mg mb G Y fa o pm cd doc dV kV ho hd hcd hD hmg hg args vals as hpre hlay hrd hwl hlo
  obtain rfl : dV = .none := Dflts.none hD hdf
  obtain rfl : kV = .none := Dflts.noKw hD
  obtain ⟨a, vs, ns, rfl, rfl, hobj, hints, hlen⟩ := script_of hn hpre hwl
  refine enter_call ?_
  refine call_cells_ret (o := o) (by rw [depth_caller]; decide) ho (fd_plain hd) G.T.nolimit hcd (hbind pm cd doc (.ref a)) (fun y hy => ?_) (fun h₁ tk F X => ?_) hco hgen hk
  · obtain rfl : y = (x, Value.ref a) := List.mem_singleton.mp hy
    rcases hx with e | e
    · exact .inl e
    · exact .inr ⟨e, cellsFrom_some _ _ _ (.inl e)⟩
  · refine wpAny_mono (body w s₀ s₁ { s₁ with heap := h₁, toks := tk } mg mb fa o pm cd doc a vs ns G Y ho (fd_plain hd) hcd hmg hobj hints hlen hg rfl F X) (fun f s' hq => ?_) (fun _ _ hq => hq)
    obtain ⟨rfl, h2, h3, h4⟩ := hq
    exact ⟨.inl ⟨.bool true, .bool true, [], rfl, fun _ => rfl, .bool true, post_true l _, fun _ => ⟨List.Pairwise.nil, fun _ hm => (nomatch hm)⟩⟩, h2, h3, h4⟩
theorem attach_call {l : OpenLaw} {n : Nat} {q : Program} {loose : List Str} {XP : (Str → Option Value) → Heap → Prop} {YP : World → Heap → Prop} {d : DefRec}
    (hn : l.most = some n) (hdf : d.params.defaults = [])
    (call : ∀ (w : World) (s₀ s₁ : Shared) (mg mb : Str → Option Value) (fa : Addr) (o : Obj) (pm cd doc : Value) (a : Addr) (vs : List Value) (ns : List Int),
      Ground q loose [] XP w s₀ mg mb s₁.heap → YP w s₁.heap →
      s₁.heap.get? fa = some o → o.data = .func (docDef d.name d.params d.body d.scope pm cd doc) → s₁.heap.CodeRec cd d.name → mg d.name = some (.ref fa) →
      s₁.heap.get? a = some { cls := .type "list", data := .seq vs.toArray } → IntsAre vs ns → ns.length ≤ n → s₁.gens = #[] →
      codeAny (model l.prog w) callerA (.call (.ref fa) ⟨[.ref a], []⟩) (fun r s' => r = .ok (.ret (.bool true)) ∧ OldK s₁.heap s'.heap ∧ s'.os = s₁.os ∧ AllBare s'.gens) s₁) :
    WalkO q loose XP YP l.row.toRowW d [] (fun f vs => PySem.call f vs) := by
  intro w s₀ s₁ mg mb G Y fa o pm cd doc dV kV ho hd hcd hD hmg hg args vals as hpre hlay hrd hwl hlo
  obtain rfl : dV = .none := Dflts.none hD hdf
  obtain rfl : kV = .none := Dflts.noKw hD
  obtain ⟨a, vs, ns, rfl, rfl, hobj, hints, hlen⟩ := script_of hn hpre hwl
  refine enter_call (codeAny_mono (call w s₀ s₁ mg mb fa o pm cd doc a vs ns G Y ho (fd_plain hd) hcd hmg hobj hints hlen hg) fun r s' hq => ?_)
  obtain ⟨rfl, h2, h3, h4⟩ := hq
  exact ⟨.inl ⟨.bool true, .bool true, [], rfl, fun _ => rfl, .bool true, post_true l _, fun _ => ⟨List.Pairwise.nil, fun _ hm => (nomatch hm)⟩⟩, h2, h3, h4⟩
theorem attachN {l : OpenLaw} {n : Nat} {q : Program} {loose : List Str} {XP : (Str → Option Value) → Heap → Prop} {YP : World → Heap → Prop} {d : DefRec} {x : Str}
    (hn : l.most = some n) (hdf : d.params.defaults = [])
    (hbind : ∀ pm cd doc v : Value, bindArgs (docDef d.name d.params d.body d.scope pm cd doc) ⟨[v], []⟩ = pure [(x, v)])
    (hx : d.scope.names.lookup x = some .local ∨ d.scope.names.lookup x = some .cell)
    (hk : d.scope.kind = .function) (hco : d.scope.isCoroutine = false) (hgen : d.scope.isGenerator = false)
    (body : ∀ (w : World) (s₀ s₁ s : Shared) (mg mb : Str → Option Value) (fa : Addr) (o : Obj) (pm cd doc : Value) (a : Addr) (vs : List Value) (ns : List Int),
      Ground q loose [] XP w s₀ mg mb s₁.heap → YP w s₁.heap →
      s₁.heap.get? fa = some o → o.data = .func (docDef d.name d.params d.body d.scope pm cd doc) → s₁.heap.CodeRec cd d.name → mg d.name = some (.ref fa) →
      s₁.heap.get? a = some { cls := .type "list", data := .seq vs.toArray } → IntsAre vs ns → ns.length ≤ n →
      s.gens = #[] → s.os = s₁.os →
      Fr s₁.heap s₁.heap.objs.size s.heap (bindL (envOfC d.name d.scope s₁.heap.objs.size fa cd).kindOf [(x, .ref a)] fun _ => none) →
      Cl s₁.heap.objs.size (cellsFrom (s₁.heap.objs.size + 1) d.scope.names []) s.heap (bindC (envOfC d.name d.scope s₁.heap.objs.size fa cd).kindOf [(x, .ref a)] fun _ => none) →
      wpAny (model l.prog w) (callerA.deeper (envOfC d.name d.scope s₁.heap.objs.size fa cd)) (execs d.body (envOfC d.name d.scope s₁.heap.objs.size fa cd))
        (fun f s' => f = .ret (.bool true) ∧ (∀ b o, s₁.heap.get? b = some o → s'.heap.get? b = some o) ∧ s'.os = s₁.os ∧ s'.gens = #[]) (fun _ _ => False) s) :
    WalkN q loose XP YP l.row.toRowW d [] (fun f vs => PySem.call f vs) := by
  intro w s₀ s₁ mg mb G Y fa o pm cd doc dV kV ho hd hcd hD hmg hg args vals as hpre hlay hrd hwl hlo
  obtain rfl : dV = .none := Dflts.none hD hdf
  obtain rfl : kV = .none := Dflts.noKw hD
  obtain ⟨a, vs, ns, rfl, rfl, hobj, hints, hlen⟩ := script_of hn hpre hwl
  refine enter_callW ?_
  refine call_cells_ret (o := o) (by rw [depth_caller]; decide) ho (fd_plain hd) G.T.nolimit hcd (hbind pm cd doc (.ref a)) (fun y hy => ?_) (fun h₁ tk F X => ?_) hco hgen hk
  · obtain rfl : y = (x, Value.ref a) := List.mem_singleton.mp hy
    rcases hx with e | e
    · exact .inl e
    · exact .inr ⟨e, cellsFrom_some _ _ _ (.inl e)⟩
  · refine wpAny_mono (body w s₀ s₁ { s₁ with heap := h₁, toks := tk } mg mb fa o pm cd doc a vs ns G Y ho (fd_plain hd) hcd hmg hobj hints hlen hg rfl F X) (fun f s' hq => ?_) (fun _ _ hq => hq)
    obtain ⟨rfl, h2, h3, h4⟩ := hq
    exact ⟨.inl ⟨.bool true, .bool true, [], rfl, fun _ => rfl, .bool true, post_true l _, fun _ => ⟨List.Pairwise.nil, fun _ hm => (nomatch hm)⟩⟩, h2, h3, h4⟩
section
variable {prog : Program} {w : World} {A : Around} {E : Value → Shared → Prop} {s : Shared} {K : Frag}
theorem call_fn {R : Result → Shared → Prop} {name qual : Str} {params : Arguments} {body : List Stmt} {scope : Scope} {dV kV doc pm cdv ct oc : Value} {an od : Option Addr} {osl : Array (Option Value)} {f : Addr} {args : Args} {binds : List (Str × Value)}
    (X : K.In s.heap) (hlim : s.heap.NoLimit) (ho : K.lookup f = some ⟨oc, od, .func (fnOf name qual params body scope dV kV doc pm an cdv ct), osl⟩) (hcd : codeIn K cdv qual = true) (hroom : A.depth < recursionLimit)
    (hbind : BindsTo s (fnOf name qual params body scope dV kV doc pm an cdv ct) args binds)
    (hkind : (binds.all fun y => scope.names.lookup y.1 == some .local || scope.names.lookup y.1 == some .cell) = true)
    (h : ∀ s₁, InCallC s s.heap.objs.size (bindL (envOfC qual scope s.heap.objs.size f cdv).kindOf binds fun _ => none) (cellsFrom (s.heap.objs.size + 1) scope.names [])
        (bindC (envOfC qual scope s.heap.objs.size f cdv).kindOf binds fun _ => none) s₁ →
      wpAny (model prog w) (A.deeper (envOfC qual scope s.heap.objs.size f cdv)) (execs body (envOfC qual scope s.heap.objs.size f cdv))
        (fun fl s' => R (.ok (.ret (match fl with | .ret v => v | _ => .none))) s')
        (fun e s' => wpAny (model prog w) (A.deeper (envOfC qual scope s.heap.objs.size f cdv)) (leaving (envOfC qual scope s.heap.objs.size f cdv) e) (fun _ s'' => R (.error e) s'') (fun e' s'' => R (.error e') s'') s') s₁)
    (hco : scope.isCoroutine = false) (hgen : scope.isGenerator = false) (hk : scope.kind = .function) : codeAny (model prog w) A (.call (.ref f) args) R s := by
  refine codeAny_call_function hroom (X _ _ ho) rfl hco hgen rfl (codeRec_of X hcd) (hbind _ _ _ _ ?_)
  refine wpAny_newFunctionEnv_cells hk (kindsX hkind _) fun env he s₁ x => ?_
  subst he
  exact ⟨hlim.keeps x.toInCall.keep, codeAny_func (h s₁ x)⟩
theorem make_obj {R : Result → Shared → Prop} {C fI : Addr} {rest : List Value} {kw : List (Str × Value)}
    (X : K.In s.heap) (hm : makesIn K C = true) (hi : findIn K (.ref C) "__init__" = some (some (.ref fI))) (hf : isFn K (.ref fI) = true)
    (h : codeAny (model prog w) (A.under (.builtin "type.__call__" ⟨.ref C :: rest, kw⟩)) (.call (.ref fI) ⟨.ref (s.heap.objs.size + 1) :: rest, kw⟩) (InitBack (s.heap.objs.size + 1) R)
      { s with heap := (s.heap.push emptyDict).push (instObj C s.heap.objs.size) }) : codeAny (model prog w) A (.call (.ref C) ⟨rest, kw⟩) R s := by
  obtain ⟨hh, g, d, t, os⟩ := s
  exact make_core (makes_of X hm) (looks_findIn X hi) (fun self => bind_fn X self (beq_iff_eq.mp hf)) (.inl rfl) h
theorem get_field {x C : Addr} {ox : Obj} {es : List DictEntry} {n : Nat} {name : Str} {expr : Bool} {v : Value} {Q : Value → Shared → Prop}
    (X : K.In s.heap) (I : PySem.W.InstAt s.heap x ox C (some (dictOf es n))) (hg : plainGet K C name = true) (hh : hasDictIn K C = true) (ha : findIn K (.ref C) name = some none)
    (hl : getL name es = some (some v)) (hv : handedIn v = true) (h : Q v { s with toks := s.toks + 1 }) : wpAny (model prog w) A (getAttr (.ref x) name expr) Q E s :=
  get_value X I (plainGet_of hg).1 (findObj_own hh ha rfl hl) hv h
theorem get_method {x C f : Addr} {ox : Obj} {es : List DictEntry} {n : Nat} {name : Str} {pl : Sem Bool} {Q : Value × List Value → Shared → Prop}
    (X : K.In s.heap) (I : PySem.W.InstAt s.heap x ox C (some (dictOf es n))) (hg : plainGet K C name = true) (hf : findIn K (.ref C) name = some (some (.ref f))) (ht : isFn K (.ref f) = true)
    (hl : getL name es = some none) (h : Q (.ref f, [.ref x]) s) : wpAny (model prog w) A (getMethod (.ref x) name pl) Q E s :=
  method_fn X I (plainGet_of hg).1 (plainGet_of hg).2 hf (beq_iff_eq.mp ht) (by show (lookIn name (dictOf es n)).map _ = _; rw [lookIn_dict, hl]; rfl) h
def noObjs (h : Heap) : Heap := { h with objs := #[] }
theorem noObjs_get (h : Heap) (b : Addr) : (noObjs h).get? b = none := by
  cases e : (noObjs h).get? b with
  | none => rfl
  | some o => exact absurd (Heap.lt_size e) (Nat.not_lt_zero _)
def ledger (h : Heap) (L d : Addr) : List (Addr × Obj) := (List.range h.objs.size).filterMap fun a => if a = L ∨ a = d then none else (h.get? a).map fun o => (a, o)
theorem mem_ledger {h : Heap} {L d a : Addr} {o : Obj} : (a, o) ∈ ledger h L d ↔ a ≠ L ∧ a ≠ d ∧ h.get? a = some o := by
  unfold ledger
  rw [List.mem_filterMap]
  constructor
  · rintro ⟨b, _, e⟩
    split at e
    · cases e
    · rename_i hb
      obtain ⟨o', ho, e'⟩ := Option.map_eq_some_iff.mp e
      cases e'
      exact ⟨fun q => hb (.inl q), fun q => hb (.inr q), ho⟩
  · rintro ⟨n1, n2, ho⟩
    refine ⟨a, List.mem_range.mpr (Heap.lt_size ho), ?_⟩
    rw [if_neg (show ¬ (a = L ∨ a = d) from fun q => q.elim n1 n2), ho] <;> rfl
theorem news_ledger {h : Heap} {L d : Addr} {od : Obj} (hne : d ≠ L) (ho : h.get? d = some od) : News (noObjs h) L h ([] ++ (d, od) :: ledger h L d) := by
  rintro ⟨a, o⟩ hp
  rcases List.mem_cons.mp hp with e | hp
  · cases e
    exact ⟨ho, hne, noObjs_get _ _⟩
  · obtain ⟨n1, n2, e⟩ := mem_ledger.mp hp
    exact ⟨e, n1, noObjs_get _ _⟩
theorem fr_all {h : Heap} {L : Addr} {m : Str → Option Value} (n : h.Ns L m) : Fr (noObjs h) L h m :=
  ⟨n, fun b o e => (by rw [noObjs_get] at e; cases e), Nat.zero_le _⟩
theorem upd_ledger {h : Heap} {L d : Addr} {o o' : Obj} : Upd d o o' ((d, o) :: ledger h L d) ((d, o') :: ledger h L d) :=
  .head fun ⟨_, _⟩ hp => (mem_ledger.mp hp).2.1
theorem set_field {x C dx L : Addr} {ox : Obj} {m : Str → Option Value} {es es' : List DictEntry} {n n' : Nat} {name : Str} {v : Value} {Q : Unit → Shared → Prop}
    (X : K.In s.heap) (I : PySem.W.InstAt s.heap x ox C (some (dictOf es n))) (hd : ox.dict = some dx) (hL : s.heap.Ns L m) (hne : dx ≠ L)
    (hs : findIn K (.ref C) "__setattr__" = some (some (.builtin "object.__setattr__"))) (hp : plainOver K C = true) (ht : takerIn K C name = some none) (hh : hasDictIn K C = true) (hl : (getL name es).isSome = true)
    (e : (putL name (PyData.keyHash w.params name) (.str name (s.toks + 1)) v es, putN name es n) = (es', n')) (hz : es'.length ≤ 1000)
    (h : ∀ h' : Heap, h'.Ns L m → h'.get? dx = some (dictOf es' n') → (∀ b o, b ≠ dx → b ≠ L → s.heap.get? b = some o → h'.get? b = some o) → Q () { s with heap := h', toks := s.toks + 2 }) :
    wpAny (model prog w) A (setAttr (.ref x) name v) Q E s := by
  obtain ⟨e1, e2⟩ := Prod.mk.inj e
  have hdx : s.heap.get? dx = some (dictOf es n) := by
    have := I.dict
    rw [hd] at this
    exact this
  refine set_plain X I hs (osa_dict (s := { s with toks := s.toks + 1 }) (h₀ := noObjs s.heap) (L := L) (m := m) (od := dictOf es n) (od' := dictOf es' n') (es := es') (n := n') (pre := []) (post := ledger s.heap L dx)
    (fr_all hL) (news_ledger hne hdx) X I hd hp ht hh hl (fun _ q => nomatch q) (fun ⟨_, _⟩ q => (mem_ledger.mp q).2.1) (by rw [putName_dict, e1, e2]) rfl hz fun h' F' N' => ?_)
  exact h h' F'.ns (N'.get (List.Mem.head _)) fun b o n1 n2 ho => N'.get (List.Mem.tail _ (mem_ledger.mpr ⟨n2, n1, ho⟩))
end
end Att
namespace L2
open PySem PySem.Spec PyProof.Rows
theorem vals_ints : ∀ {vs : List Value} {ns : List Int}, IntsAre vs ns → Vals (ns.map V.int) vs
  | _, _, .nil => .nil
  | _, _, .cons n t h => .cons ⟨t, rfl⟩ (vals_ints h)
def Only (H : Hp) : Prop := ∀ b, H b = none ∨ ∃ o xs, H b = some (.frz o (.lst xs))
theorem law_call {P : Program} {w : World} {K : PySem.W.Frag} {mg mb : Str → Option Value} {CX : CXT} {k : Nat} {fa a : Addr} {fd : FuncData} {x : Str} {sp : Sp} {s₁ : Shared} {vs : List Value} {ns : List Int}
    (KX : K.In s₁.heap) (hns : s₁.heap.Ns mainGlobals mg) (hb : s₁.heap.Ns builtinsNs mb) (hbb : ∀ x : Str, x ≠ "__name__" → mb x = bootBuiltins x) (hlim : s₁.heap.NoLimit) (hg : s₁.gens = #[])
    (ha : s₁.heap.get? a = some { cls := .type "list", data := .seq vs.toArray }) (hi : IntsAre vs ns) (hl : ns.length ≤ sizeLine) (hr : Room k callerA)
    (F : ∀ base : Heap, K.In base → base.Ns mainGlobals mg → FnOk P w K mg base CX k fa fd [x] sp) (hbind : ∀ (s : Shared) (u : Value), BindsTo s fd ⟨[u], []⟩ [(x, u)])
    (hsp : ∀ H : Hp, Only H → SqL K H a (ns.map V.int) → sp [.ref a] H (fun v _ => v = .bl true) fun _ _ _ => False)
    (hCX : ∀ H e s', CX [] H s₁ (fun _ _ _ => False) e s' → False) :
    codeAny (model P w) callerA (.call (.ref fa) ⟨[.ref a], []⟩) (fun r s' => r = .ok (.ret (.bool true)) ∧ OldK s₁.heap s'.heap ∧ s'.os = s₁.os ∧ AllBare s'.gens) s₁ := by
  have rv := vals_ints hi
  have lenV := hi.length
  have core : ∀ H : Hp, Only H → SqL K H a (ns.map V.int) → HOk P w H s₁.heap → (∀ b, H b ≠ none → b = a) → (H a ≠ none → K.lookup a = none) →
      codeAny (model P w) callerA (.call (.ref fa) ⟨[.ref a], []⟩) (fun r s' => r = .ok (.ret (.bool true)) ∧ OldK s₁.heap s'.heap ∧ s'.os = s₁.os ∧ AllBare s'.gens) s₁ := by
    intro H hO hS hok hA hK
    have base_of : ∀ {b : Addr} {o : Obj}, s₁.heap.get? b = some o → H b = none → (hidT s₁.heap H).get? b = some o := fun e n => hidT_get e n
    have noA : ∀ {b : Addr} {o : Obj} {es : Array DictEntry} {ep : Nat}, s₁.heap.get? b = some o → o.data = .dict es ep → H b = none := fun {b o es ep} e d => by
      cases q : H b with
      | none => rfl
      | some u =>
        have e' : b = a := hA b (by rw [q]; simp)
        subst e'
        rw [ha] at e; cases e
        have d' : Data.seq vs.toArray _ = Data.dict es ep := d
        cases d'
    have nsK : ∀ {b : Addr} {m : Str → Option Value}, s₁.heap.Ns b m → (hidT s₁.heap H).Ns b m := fun {b m} ⟨o, es, ep, e, d, r⟩ => ⟨o, es, ep, base_of e (noA e d), d, r⟩
    have hKb : K.In (hidT s₁.heap H) := fun b o e => base_of (KX b o e) (by
      cases q : H b with
      | none => rfl
      | some u =>
        have e' : b = a := hA b (by rw [q]; simp)
        subst e'
        rw [hK (by rw [q]; simp)] at e; cases e)
    have hM : Mod K mg (hidT s₁.heap H) := ⟨hKb, nsK hns, ⟨mb, nsK hb, hbb⟩, let ⟨mc, h1, h2⟩ := hlim; ⟨mc, nsK h1, h2⟩⟩
    have e0 : Env0 P w K mg (hidT s₁.heap H) callerA [] s₁ H := ⟨rfl, hM, fun b o e => of_hidT e, Nat.le_of_eq (hidT_size _ _), trivial, fun b hb => absurd (show b ∈ ([] : List Addr) from hb) (by simp), hok, .of_eq hg⟩
    refine codeAny_mono ((F _ hKb (nsK hns)).run callerA [] s₁ H ⟨[.ref a], []⟩ [.ref a] [.ref a] _ _ hr e0 (hbind s₁ (.ref a)) (.cons rfl .nil) (hsp H hO hS)) fun r s' h => ?_
    cases r with
    | error e => exact (hCX H e s' h).elim
    | ok fl =>
      cases fl with
      | next => exact False.elim h
      | brk => exact False.elim h
      | cont => exact False.elim h
      | ret u =>
        obtain ⟨v, H', os, bare, un, hok', r', q⟩ := h
        have q' : v = .bl true := q
        subst q'
        obtain rfl : u = Value.bool true := r'
        refine ⟨rfl, OldK.of_keep fun b o e => ?_, os, bare⟩
        cases q : H b with
        | none => exact un.keep b o e q (by intro z; exact absurd (show b ∈ ([] : List Addr) from z) (by simp)) (by simp)
        | some u =>
          rcases hO b with z | ⟨ob, xs, z⟩
          · rw [q] at z; cases z
          · have z2 := un.frzs b ob _ z
            obtain ⟨e1, _⟩ := hok b _ z
            obtain ⟨e2, _⟩ := hok' b _ z2
            rw [e] at e1; cases e1
            exact e2
  cases hk : K.lookup a with
  | some o =>
    have e := KX a o hk
    rw [ha] at e
    cases e
    refine core (fun _ => none) (fun _ => .inl rfl) (.inr ⟨_, vs.toArray, _, hk, rfl, rfl, rfl, by rw [List.size_toArray, lenV]; exact hl, by simpa using rv⟩) (fun b u z => by have z' : (none : Option HO) = some u := z; cases z') (fun b z => absurd rfl z) fun z => absurd rfl z
  | none =>
    refine core (fun b => if b = a then some (.frz { cls := .type "list", data := .seq vs.toArray } (.lst (ns.map V.int))) else none) (fun b => ?_) (.inl (.inr ⟨{ cls := .type "list", data := .seq vs.toArray }, if_pos rfl⟩)) (fun b u z => ?_) (fun b z => ?_) fun _ => hk
    · by_cases hb : b = a
      · exact .inr ⟨_, _, if_pos hb⟩
      · exact .inl (if_neg hb)
    · by_cases hb : b = a
      · have z' := (if_pos hb).symm.trans z
        cases z'
        subst hb
        exact ⟨ha, by rw [List.length_map]; exact hl, vs, _, rv, ha⟩
      · have z' := (if_neg hb).symm.trans z
        cases z'
    · by_cases hb : b = a
      · exact hb
      · exact absurd (if_neg hb) z
end L2
namespace L2
open PySem PySem.Spec PyProof.Rows
abbrev KOf {K : PySem.W.Frag} {h : Heap} (_ : K.In h) : PySem.W.Frag := K
theorem walk_of {l : PySem.W.OpenLaw} {n k : Nat} {q : Program} {loose : List Str} {XP : (Str → Option Value) → Heap → Prop} {YP : World → Heap → Prop} {d : DefRec} {K : Params → PySem.W.Frag} {CX : World → CXT} {sp : World → Sp} {x : Str}
    (hn : l.most = some n) (hn2 : n ≤ sizeLine) (hdf : d.params.defaults = []) (hr : Room k callerA)
    (hY : ∀ (w : World) (h : Heap), YP w h → (K w.params).In h)
    (F : ∀ (w : World) (mg : Str → Option Value) (fa : Addr) (h : Heap), (K w.params).In h → h.Ns mainGlobals mg → mg d.name = some (.ref fa) →
      ∃ fd : FuncData, (∀ (s : Shared) (u : Value), BindsTo s fd ⟨[u], []⟩ [(x, u)]) ∧
        ∀ base : Heap, (K w.params).In base → base.Ns mainGlobals mg → FnOk l.prog w (K w.params) mg base (CX w) k fa fd [x] (sp w))
    (hsp : ∀ (w : World) (H : Hp) (a : Addr) (ns : List Int), ns.length ≤ n → Only H → SqL (K w.params) H a (ns.map V.int) → sp w [.ref a] H (fun v _ => v = .bl true) fun _ _ _ => False)
    (hCX : ∀ (w : World) (H : Hp) (s : Shared) (e : Value) (s' : Shared), CX w [] H s (fun _ _ _ => False) e s' → False) :
    PySem.W.WalkO q loose XP YP l.row.toRowW d [] (fun f vs => PySem.call f vs) := by
  refine Att.attach_call hn hdf fun w s₀ s₁ mg mb fa o pm cd doc a vs ns G Y ho hd hcd hmg hobj hints hlen hg => ?_
  have KX := hY w _ Y
  obtain ⟨fd, hb, hF⟩ := F w mg fa _ KX G.T.g hmg
  exact law_call KX G.T.g G.T.b G.T.builtins G.T.nolimit hg hobj hints (Nat.le_trans hlen hn2) hr hF hb (fun H hO hS => hsp w H a ns hlen hO hS) fun H e s' => hCX w H s₁ e s'
theorem walk_ofK {l : PySem.W.OpenLaw} {n k : Nat} {q : Program} {loose : List Str} {XP : (Str → Option Value) → Heap → Prop} {YP : World → Heap → Prop} {d : DefRec} {K : Params → PySem.W.Frag} {CX : CXT} {sp : PySem.W.Frag → Sp} {x : Str}
    (hn : l.most = some n) (hn2 : n ≤ sizeLine) (hdf : d.params.defaults = []) (hr : Room k callerA)
    (hY : ∀ (w : World) (h : Heap), YP w h → (K w.params).In h)
    (F : ∀ (w : World) (mg : Str → Option Value) (fa : Addr) (h : Heap), (K w.params).In h → h.Ns mainGlobals mg → mg d.name = some (.ref fa) →
      ∃ fd : FuncData, (∀ (s : Shared) (u : Value), BindsTo s fd ⟨[u], []⟩ [(x, u)]) ∧
        ∀ base : Heap, (K w.params).In base → base.Ns mainGlobals mg → FnOk l.prog w (K w.params) mg base CX k fa fd [x] (sp (K w.params)))
    (hsp : ∀ (K : PySem.W.Frag) (H : Hp) (a : Addr) (ns : List Int), ns.length ≤ n → Only H → SqL K H a (ns.map V.int) → sp K [.ref a] H (fun v _ => v = .bl true) fun _ _ _ => False)
    (hCX : ∀ (H : Hp) (s : Shared) (e : Value) (s' : Shared), CX [] H s (fun _ _ _ => False) e s' → False) :
    PySem.W.WalkO q loose XP YP l.row.toRowW d [] (fun f vs => PySem.call f vs) :=
  walk_of (K := K) (CX := fun _ => CX) (sp := fun w => sp (K w.params)) hn hn2 hdf hr hY F (fun w H a ns h1 h2 h3 => hsp (K w.params) H a ns h1 h2 h3) fun _ H s e s' => hCX H s e s'
end L2
/- THE LAST THEOREM (shape; LID, My.* are yours):
   My.Adr: a structure of the addresses that your layer names (classes, functions); My.Txt K t: a structure (Prop) of the equations over K;
   My.txt_mk : {K} {implicit addresses ..} (e1 : nsIn K mainGlobals "law" = some (some (.ref f))) (e2 : K.lookup f = some ⟨oc, od, .func (fnOf "law" "law" params body scope dV kV doc pm an cdv ct), sl⟩) (e3 : codeIn K cdv "law" = true) .. : ∃ t, My.Txt K t
set_option maxRecDepth 100000 in
set_option maxHeartbeats 0 in
theorem PySem.Challenge.cw_LID_holds : PySem.Challenge.rw_LID.Holds := by
  w_on; o_law; k_head; (case hw => w_witness2)
  k_fill
  refine L2.walk_of (l := PySem.Challenge.rw_LID) (n := 63) (k := 40) (x := "script") (CX := fun w => ..) (sp := fun _ => My.sp_law) rfl (by decide) rfl ⟨rfl, by decide, by decide⟩ (fun w h Y => PySem.W.kIn_of Y) ?F ?S ?C
  case F =>
    intro w mg fa h KX G hmg
    have T : ∃ t, My.Txt (L2.KOf KX) t := by
      dsimp only [L2.KOf]                          -- K must stand as «<heap const> w.params» for k_is
      refine' My.txt_mk ?e1 ?e2 ?e3 ..
      (case e1 => PySem.W.k_is)                    -- in the order: a name -> its address -> its object -> its parts
      (case e2 => PySem.W.k_is)
      ..
    obtain ⟨t, T⟩ := T
    have e0 := hmg.symm.trans (PySem.W.mg_of KX G T.law)
    cases e0                                       -- fa is the law's own address
    exact ⟨_, fun s u => .of_eq rfl, fun base kb nb => My.law_fn T kb nb⟩     -- if «.of_eq rfl» comes too early: refine' ⟨_, ?b, fun base kb nb => My.law_fn T kb nb⟩; exact fun s u => .of_eq rfl
  case S => exact fun w H a ns hl hO hS => ..
  case C => exact ..
(the tactic k_is has no namespace: write k_is) -/
namespace L2
open PySem PySem.Spec PyProof.Rows
def inClass (s : Stmt) (j : Nat) : Stmt := match s with
  | .ClassDef _ _ _ body _ _ _ _ _ _ _ => body.getD j (.Pass ⟨0, 0, 0, 0⟩)
  | _ => .Pass ⟨0, 0, 0, 0⟩
def defArgs (s : Stmt) : Arguments := match s with
  | .FunctionDef _ a _ _ _ _ _ _ _ _ => a
  | _ => { posonlyargs := [], args := [], vararg := none, kwonlyargs := [], kw_defaults := [], kwarg := none, defaults := [] }
def defBody (s : Stmt) : List Stmt := match s with
  | .FunctionDef _ _ b _ _ _ _ _ _ _ => b
  | _ => []
def defScope (s : Stmt) : Scope := match s with
  | .FunctionDef _ _ _ _ _ _ sc _ _ _ => sc
  | _ => { kind := .function, names := [], isGenerator := false, isCoroutine := false }
abbrev CX0 : CXT := fun _ _ _ _ _ _ => False
abbrev E0 : XK := fun _ _ _ => False
theorem pass0 {X : Cx} : Passes CX0 X E0 := fun _ _ _ _ _ _ _ h => h.elim
structure Fun (K : PySem.W.Frag) (x qual : Str) (st : Stmt) (f : Addr) (fd : FuncData) : Prop where
  ex : ∃ (oc : Value) (od : Option Addr) (kV doc pm : Value) (an : Option Addr) (cdv ct : Value) (osl : Array (Option Value)),
    fd = PySem.W.fnOf x qual (defArgs st) (defBody st) (defScope st) .none kV doc pm an cdv ct ∧ K.lookup f = some ⟨oc, od, .func fd, osl⟩ ∧ PySem.W.codeIn K cdv qual = true
  kp : PySem.W.keepIn K (.ref f) = true
section
variable {P : Program} {w : World} {K : PySem.W.Frag} {mg : Str → Option Value} {base : Heap}
theorem Fun.ok {x qual : Str} {st : Stmt} {f : Addr} {fd : FuncData} {N ps : List Str} {k : Nat} {sp : Sp} (F : Fun K x qual st f fd) (S : FnScope N ps (defScope st)) (len : ∀ vs H Q E, sp vs H Q E → vs.length = ps.length)
    (hbody : ∀ (cdv : Value) (A : Around) (outer : List Env) (s : Shared) (H : Hp) (vs : List V) (Q : VK) (E : XK), Room k (A.deeper (envOfC qual (defScope st) s.heap.objs.size f cdv)) → sp vs H Q E →
      ∃ t, PSs (cxOf CX0 P w K mg base N qual (defScope st) f cdv A outer s H E).nox (defBody st) t ∧ t { nx := fun _ H' => Q .non H', rt := Q } (start N vs) H) : FnOk P w K mg base CX0 (k + 1) f fd ps sp := by
  obtain ⟨oc, od, kV, doc, pm, an, cdv, ct, osl, rfl, lk, hcd⟩ := F.ex
  refine fn_of lk hcd S len fun A outer s H vs Q E hr hsp => ?_
  obtain ⟨t, h, q⟩ := hbody cdv A outer s H vs Q E hr hsp
  exact ⟨t, h.nox, q⟩
theorem Fun.binds {x qual : Str} {st : Stmt} {f : Addr} {fd : FuncData} {ps : List Str} (F : Fun K x qual st f fd)
    (h : ∀ (kV doc pm : Value) (an : Option Addr) (cdv ct : Value) (us : List Value), us.length = ps.length → bindArgs (PySem.W.fnOf x qual (defArgs st) (defBody st) (defScope st) .none kV doc pm an cdv ct) ⟨us, []⟩ = pure (ps.zip us)) : Binds K fd ps [] := by
  obtain ⟨oc, od, kV, doc, pm, an, cdv, ct, osl, rfl, lk, hcd⟩ := F.ex
  exact .all (h kV doc pm an cdv ct)
theorem fun_mk {x qual : Str} {st : Stmt} {f : Addr} {oc : Value} {od an : Option Addr} {osl : Array (Option Value)} {kV doc pm cdv ct : Value} (l : K.lookup f = some ⟨oc, od, .func (PySem.W.fnOf x qual (defArgs st) (defBody st) (defScope st) .none kV doc pm an cdv ct), osl⟩)
    (c : PySem.W.codeIn K cdv qual = true) (k : PySem.W.keepIn K (.ref f) = true) : Fun K x qual st f (PySem.W.fnOf x qual (defArgs st) (defBody st) (defScope st) .none kV doc pm an cdv ct) := ⟨⟨oc, od, kV, doc, pm, an, cdv, ct, osl, rfl, l, c⟩, k⟩
end
theorem hu_of {A : Around} {k : Nat} (hr : Room k A) : A.units + 1 < cLine := Nat.lt_of_le_of_lt (Nat.add_le_add_left (by decide : 1 ≤ 64) _) hr.units
theorem small1000 {n : Nat} (h : n ≤ 1000) : n < sizeLine := Nat.lt_of_le_of_lt h (by decide)
section
variable {X : Cx}
theorem pv (i : Nat) {x : Str} {pos : Pos} (hN : X.N[i]? = some x := by rfl) (hv : Vis X.env.scope x := by first | exact Or.inl rfl | exact Or.inr (Or.inl rfl) | exact Or.inr (Or.inr rfl)) (hd : (x == ("__debug__" : Str)) = false := by decide)
    (hcd : (x == ("__classdict__" : Str)) = false := by decide) : PE X (.Name x pos) (tVar i) := pe_var hN hv hd hcd
theorem call_lenD : CallR X (.builtin "len") (fun xs H Q => ∃ a kvs, xs = [V.ref a] ∧ H a = some (.dK kvs) ∧ Q (.int kvs.length) H) := by
  intro pins s σ H xs us Q I r h
  obtain ⟨a, kvs, rfl, ha, q⟩ := h
  obtain ⟨u, rfl, ru⟩ := vals1 r
  cases ru
  exact d_len I (.inl ha) fun t s' I' => ⟨.int kvs.length, H, I', ⟨t, rfl⟩, q⟩
end
theorem iteF {A B : Prop} (h : B) : if false = true then A else B := by
  rw [if_neg Bool.false_ne_true]
  exact h
theorem iteT {A B : Prop} (h : A) : if true = true then A else B := by
  rw [if_pos rfl]
  exact h
theorem ite2 {c A B : Prop} [Decidable c] (h1 : c → A) (h2 : ¬ c → B) : if c then A else B := by
  by_cases h : c
  · rw [if_pos h]
    exact h1 h
  · rw [if_neg h]
    exact h2 h
theorem iteNS {c A B : Prop} [Decidable c] (hc : c) (h : B) : if (!decide c) = true then A else B := by
  rw [decide_eq_true hc]
  exact iteF h
def Same (H H' : Hp) : Prop := ∀ b o, H b = some o → H' b = some o
theorem Same.refl (H : Hp) : Same H H := fun _ _ h => h
theorem Same.trans {H H1 H2 : Hp} (a : Same H H1) (b : Same H1 H2) : Same H H2 := fun c o h => b c o (a c o h)
theorem Same.free {H H' : Hp} (e : Same H H') {l : Addr} (h : H' l = Option.none) : H l = Option.none := by
  cases q : H l with
  | none => rfl
  | some o =>
    rw [e l o q] at h
    cases h
theorem Same.seq {K : PySem.W.Frag} {H H' : Hp} {a : Addr} {xs : List V} (e : Same H H') (h : SqL K H a xs) : SqL K H' a xs := by
  rcases h with (h | ⟨o, h⟩) | h
  · exact .inl (.inl (e _ _ h))
  · exact .inl (.inr ⟨o, e _ _ h⟩)
  · exact .inr h
section
variable {κ : Type} [DecidableEq κ]
theorem valV_not {kvs : List (κ × V)} {k : κ} (h : valV kvs k = none) : ¬ k ∈ kvs.map (·.1) := by
  intro m
  obtain ⟨p, hp, e⟩ := List.mem_map.mp m
  have q : (kvs.any fun kv => decide (kv.1 = k)) = true := List.any_eq_true.mpr ⟨p, hp, decide_eq_true e⟩
  rw [valV_any, h] at q
  exact absurd q (by simp)
theorem valV_in {kvs : List (κ × V)} {k : κ} {v : V} (h : valV kvs k = some v) : k ∈ kvs.map (·.1) := by
  have q : (kvs.any fun kv => decide (kv.1 = k)) = true := by
    rw [valV_any, h]
    all_goals rfl
  obtain ⟨p, hp, e⟩ := List.any_eq_true.mp q
  exact List.mem_map.mpr ⟨p, hp, of_decide_eq_true e⟩
theorem nd_snoc : ∀ {l : List κ} {k : κ}, l.Nodup → ¬ k ∈ l → (l ++ [k]).Nodup
  | [], k, _, _ => by simp
  | a :: r, k, h, hk => by
    obtain ⟨h1, h2⟩ := List.nodup_cons.mp h
    show (a :: (r ++ [k])).Nodup
    refine List.nodup_cons.mpr ⟨fun m => ?_, nd_snoc h2 fun m => hk (List.mem_cons.mpr (Or.inr m))⟩
    rcases List.mem_append.mp m with q | q
    · exact h1 q
    · exact hk (List.mem_cons.mpr (Or.inl (List.mem_singleton.mp q).symm))
theorem nd_putK {kvs : List (κ × V)} {k : κ} (v : V) (hn : (kvs.map (·.1)).Nodup) (h : valV kvs k = none) : ((putK kvs k v).map (·.1)).Nodup := by
  rw [putK_new v h, List.map_append]
  exact nd_snoc hn (valV_not h)
theorem dropK_pos {p : κ × V} {r : List (κ × V)} {k : κ} (e : p.1 = k) : dropK (p :: r) k = dropK r k := by
  unfold dropK
  rw [List.filter_cons, if_neg (by simp [e])]
theorem dropK_neg {p : κ × V} {r : List (κ × V)} {k : κ} (e : ¬ p.1 = k) : dropK (p :: r) k = p :: dropK r k := by
  unfold dropK
  rw [List.filter_cons, if_pos (by simp [e])]
theorem dropK_no : ∀ {kvs : List (κ × V)} {k : κ}, ¬ k ∈ kvs.map (·.1) → dropK kvs k = kvs
  | [], _, _ => rfl
  | p :: r, k, h => by
    have h' : ¬ k ∈ r.map (·.1) := fun m => by
      obtain ⟨q, hq, e⟩ := List.mem_map.mp m
      exact h (List.mem_map.mpr ⟨q, List.mem_cons.mpr (Or.inr hq), e⟩)
    rw [dropK_neg fun e => h (List.mem_map.mpr ⟨p, List.mem_cons.mpr (Or.inl rfl), e⟩), dropK_no h']
theorem dropK_mem {kvs : List (κ × V)} {k : κ} {p : κ × V} (h : p ∈ dropK kvs k) : p ∈ kvs := (List.mem_filter.mp h).1
theorem nd_dropK : ∀ {kvs : List (κ × V)} {k : κ}, (kvs.map (·.1)).Nodup → ((dropK kvs k).map (·.1)).Nodup
  | [], _, _ => List.nodup_nil
  | p :: r, k, h => by
    have h : (p.1 :: r.map (·.1)).Nodup := h
    obtain ⟨h1, h2⟩ := List.nodup_cons.mp h
    by_cases e : p.1 = k
    · rw [dropK_pos e]
      exact nd_dropK h2
    · rw [dropK_neg e]
      show (p.1 :: (dropK r k).map (·.1)).Nodup
      refine List.nodup_cons.mpr ⟨fun m => h1 ?_, nd_dropK h2⟩
      obtain ⟨q, hq, eq⟩ := List.mem_map.mp m
      exact List.mem_map.mpr ⟨q, dropK_mem hq, eq⟩
theorem dropK_len : ∀ {kvs : List (κ × V)} {k : κ}, (kvs.map (·.1)).Nodup → k ∈ kvs.map (·.1) → (dropK kvs k).length + 1 = kvs.length
  | [], _, _, m => by simp at m
  | p :: r, k, h, m => by
    have h : (p.1 :: r.map (·.1)).Nodup := h
    have m : k = p.1 ∨ k ∈ r.map (·.1) := List.mem_cons.mp m
    obtain ⟨h1, h2⟩ := List.nodup_cons.mp h
    by_cases e : p.1 = k
    · subst e
      rw [dropK_pos rfl, dropK_no h1]
      all_goals rfl
    · have m' : k ∈ r.map (·.1) := m.resolve_left fun z => e z.symm
      have q := dropK_len h2 m'
      rw [dropK_neg e, List.length_cons, List.length_cons]
      omega
end
end L2
end
section
namespace Ks
open PySem L2
def top (i : Nat) : Stmt := PySem.Challenge.pw_oddcoin_k02_whole_found.main.body.getD i (.Pass ⟨0, 0, 0, 0⟩)
def kd (P : Params) (x : Str) (n : Nat) (v : Value) : DictEntry := { hash := PyData.keyHash P x, key := .str x n, val := v }
def KK : Params → PySem.W.Frag := fun P =>
  (nat_lit 2, { cls := Value.none, data := Data.dict #[] }) ::
  (nat_lit 3, { cls := Value.type "dict", data := Data.dict #[kd P "__name__" 165 (Value.str "law_oddcoin_k02_whole_found" 670), kd P "__doc__" 166 Value.none, kd P "__package__" 167 Value.none, kd P "__loader__" 168 (Value.builtin "__main__.__loader__#opaque"), kd P "__spec__" 169 Value.none, kd P "__annotations__" 170 (Value.ref 6), kd P "__builtins__" 171 (Value.ref 4), kd P "__file__" 173 (Value.str "/claim/cut.py" 172), kd P "__cached__" 174 Value.none, kd P "_wall" 193 (Value.ref 21), kd P "CoinError" 213 (Value.ref 31), kd P "BadMarks" 229 (Value.ref 44), kd P "BadWeighing" 245 (Value.ref 56), kd P "BadOutcome" 261 (Value.ref 68), kd P "Never" 277 (Value.ref 80), kd P "BadCoin" 293 (Value.ref 92), kd P "OUTCOMES" 299 (Value.ref 95), kd P "is_whole" 306 (Value.ref 102), kd P "check_marks" 315 (Value.ref 109), kd P "check_side" 325 (Value.ref 116), kd P "check_weighing" 334 (Value.ref 123), kd P "check_outcome" 341 (Value.ref 130), kd P "check_odd" 350 (Value.ref 137), kd P "cases" 360 (Value.ref 144), kd P "most_cases" 369 (Value.ref 151), kd P "fewest" 378 (Value.ref 158), kd P "OTHER" 390 (Value.ref 159), kd P "placed" 400 (Value.ref 166), kd P "outcome_by" 408 (Value.ref 173), kd P "may_be_heavy" 415 (Value.ref 180), kd P "may_be_light" 422 (Value.ref 187), kd P "may_all_be_good" 429 (Value.ref 194), kd P "sign_behind" 440 (Value.ref 201), kd P "judged" 455 (Value.ref 208), kd P "behind" 461 (Value.ref 213), kd P "weighed" 472 (Value.ref 220), kd P "Answer" 494 (Value.ref 230), kd P "Heavy" 527 (Value.ref 258), kd P "Light" 560 (Value.ref 284), kd P "Nothing" 584 (Value.ref 303), kd P "Open" 621 (Value.ref 329), kd P "coins_with" 629 (Value.ref 336), kd P "paired_first" 641 (Value.ref 343), kd P "kept_off" 649 (Value.ref 350), kd P "first_weighing" 661 (Value.ref 357), kd P "told" 669 (Value.ref 364), kd P "_law_cell_at" 679 (Value.ref 371), kd P "_law_draw" 689 (Value.ref 378), kd P "_law_after" 698 (Value.ref 385), kd P "_law_led" 712 (Value.ref 392), kd P "law" 724 (Value.ref 399)] 51 }) ::
  (nat_lit 15, { cls := Value.type "tuple", data := Data.seq #[] }) ::
  (nat_lit 17, { cls := Value.type "tuple", data := Data.seq #[Value.str "k" 190] }) ::
  (nat_lit 18, { cls := Value.type "tuple", data := Data.seq #[] }) ::
  (nat_lit 20, { cls := Value.type "code", data := Data.fields #[Value.str "_wall" 187, Value.str "_wall" 188, Value.str "/claim/cut.py" 189, Value.int 1 0, Value.int 1 0, Value.int 0 0, Value.int 0 0, Value.int 3 0, Value.ref 15, Value.bool true, Value.int 181 0, Value.ref 16, Value.none, Value.ref 17, Value.ref 18, Value.ref 19, Value.int 191 0, Value.int 1 0, Value.str "/claim/cut.py" 192] }) ::
  (nat_lit 21, { cls := Value.type "function", data := Data.func { name := "_wall", qualname := "_wall", params := defArgs (top 0), body := .stmts (defBody (top 0)), scope := defScope (top 0), globals := 3, closure := [], defaults := Value.none, kwdefaults := Value.none, pyModule := Value.str "__main__" 164, code := Value.ref 20 } }) ::
  (nat_lit 22, { cls := Value.type "tuple", data := Data.seq #[Value.type "ValueError"] }) ::
  (nat_lit 29, { cls := Value.type "tuple", data := Data.seq #[] }) ::
  (nat_lit 30, { cls := Value.type "dict", data := Data.dict #[kd P "__module__" 203 (Value.str "oddcoin.errors" 194), kd P "__firstlineno__" 207 (Value.int 5 206), kd P "__static_attributes__" 208 (Value.ref 29), kd P "__weakref__" 210 (Value.ref 32), kd P "__doc__" 211 Value.none] 3 }) ::
  (nat_lit 31, { cls := Value.type "type", data := Data.cls { name := "CoinError", bases := [Value.type "ValueError"], mro := [Value.ref 31, Value.type "ValueError", Value.type "Exception", Value.type "BaseException", Value.type "object"], ns := 30, qualname := "CoinError", subclasses := [Value.ref 44, Value.ref 56, Value.ref 68, Value.ref 80, Value.ref 92] }, slots := #[some (Value.ref 22), none, some (Value.str "CoinError" 196), some (Value.str "CoinError" 204), some (Value.builtin "ValueError.__new__"), some (Value.bool true)] }) ::
  (nat_lit 32, { cls := Value.type "getset_descriptor", data := Data.fields #[Value.str "__weakref__" 209, Value.ref 31, Value.builtin "ExceptionGroup.__weakref__", Value.none] }) ::
  (nat_lit 35, { cls := Value.type "tuple", data := Data.seq #[Value.ref 31] }) ::
  (nat_lit 42, { cls := Value.type "tuple", data := Data.seq #[] }) ::
  (nat_lit 43, { cls := Value.type "dict", data := Data.dict #[kd P "__module__" 221 (Value.str "oddcoin.errors" 194), kd P "__firstlineno__" 225 (Value.int 7 224), kd P "__static_attributes__" 226 (Value.ref 42), kd P "__doc__" 227 Value.none] 2 }) ::
  (nat_lit 44, { cls := Value.type "type", data := Data.cls { name := "BadMarks", bases := [Value.ref 31], mro := [Value.ref 44, Value.ref 31, Value.type "ValueError", Value.type "Exception", Value.type "BaseException", Value.type "object"], ns := 43, qualname := "BadMarks" }, slots := #[some (Value.ref 35), none, some (Value.str "BadMarks" 214), some (Value.str "BadMarks" 222), some (Value.builtin "ValueError.__new__"), some (Value.bool true)] }) ::
  (nat_lit 47, { cls := Value.type "tuple", data := Data.seq #[Value.ref 31] }) ::
  (nat_lit 54, { cls := Value.type "tuple", data := Data.seq #[] }) ::
  (nat_lit 55, { cls := Value.type "dict", data := Data.dict #[kd P "__module__" 237 (Value.str "oddcoin.errors" 194), kd P "__firstlineno__" 241 (Value.int 9 240), kd P "__static_attributes__" 242 (Value.ref 54), kd P "__doc__" 243 Value.none] 2 }) ::
  (nat_lit 56, { cls := Value.type "type", data := Data.cls { name := "BadWeighing", bases := [Value.ref 31], mro := [Value.ref 56, Value.ref 31, Value.type "ValueError", Value.type "Exception", Value.type "BaseException", Value.type "object"], ns := 55, qualname := "BadWeighing" }, slots := #[some (Value.ref 47), none, some (Value.str "BadWeighing" 230), some (Value.str "BadWeighing" 238), some (Value.builtin "ValueError.__new__"), some (Value.bool true)] }) ::
  (nat_lit 59, { cls := Value.type "tuple", data := Data.seq #[Value.ref 31] }) ::
  (nat_lit 66, { cls := Value.type "tuple", data := Data.seq #[] }) ::
  (nat_lit 67, { cls := Value.type "dict", data := Data.dict #[kd P "__module__" 253 (Value.str "oddcoin.errors" 194), kd P "__firstlineno__" 257 (Value.int 11 256), kd P "__static_attributes__" 258 (Value.ref 66), kd P "__doc__" 259 Value.none] 2 }) ::
  (nat_lit 68, { cls := Value.type "type", data := Data.cls { name := "BadOutcome", bases := [Value.ref 31], mro := [Value.ref 68, Value.ref 31, Value.type "ValueError", Value.type "Exception", Value.type "BaseException", Value.type "object"], ns := 67, qualname := "BadOutcome" }, slots := #[some (Value.ref 59), none, some (Value.str "BadOutcome" 246), some (Value.str "BadOutcome" 254), some (Value.builtin "ValueError.__new__"), some (Value.bool true)] }) ::
  (nat_lit 71, { cls := Value.type "tuple", data := Data.seq #[Value.ref 31] }) ::
  (nat_lit 78, { cls := Value.type "tuple", data := Data.seq #[] }) ::
  (nat_lit 79, { cls := Value.type "dict", data := Data.dict #[kd P "__module__" 269 (Value.str "oddcoin.errors" 194), kd P "__firstlineno__" 273 (Value.int 13 272), kd P "__static_attributes__" 274 (Value.ref 78), kd P "__doc__" 275 Value.none] 2 }) ::
  (nat_lit 80, { cls := Value.type "type", data := Data.cls { name := "Never", bases := [Value.ref 31], mro := [Value.ref 80, Value.ref 31, Value.type "ValueError", Value.type "Exception", Value.type "BaseException", Value.type "object"], ns := 79, qualname := "Never" }, slots := #[some (Value.ref 71), none, some (Value.str "Never" 262), some (Value.str "Never" 270), some (Value.builtin "ValueError.__new__"), some (Value.bool true)] }) ::
  (nat_lit 83, { cls := Value.type "tuple", data := Data.seq #[Value.ref 31] }) ::
  (nat_lit 90, { cls := Value.type "tuple", data := Data.seq #[] }) ::
  (nat_lit 91, { cls := Value.type "dict", data := Data.dict #[kd P "__module__" 285 (Value.str "oddcoin.errors" 194), kd P "__firstlineno__" 289 (Value.int 15 288), kd P "__static_attributes__" 290 (Value.ref 90), kd P "__doc__" 291 Value.none] 2 }) ::
  (nat_lit 92, { cls := Value.type "type", data := Data.cls { name := "BadCoin", bases := [Value.ref 31], mro := [Value.ref 92, Value.ref 31, Value.type "ValueError", Value.type "Exception", Value.type "BaseException", Value.type "object"], ns := 91, qualname := "BadCoin" }, slots := #[some (Value.ref 83), none, some (Value.str "BadCoin" 278), some (Value.str "BadCoin" 286), some (Value.builtin "ValueError.__new__"), some (Value.bool true)] }) ::
  (nat_lit 95, { cls := Value.type "tuple", data := Data.seq #[Value.str "left" 296, Value.str "right" 297, Value.str "even" 298] }) ::
  (nat_lit 96, { cls := Value.type "tuple", data := Data.seq #[] }) ::
  (nat_lit 98, { cls := Value.type "tuple", data := Data.seq #[Value.str "value" 303] }) ::
  (nat_lit 99, { cls := Value.type "tuple", data := Data.seq #[] }) ::
  (nat_lit 101, { cls := Value.type "code", data := Data.fields #[Value.str "is_whole" 300, Value.str "is_whole" 301, Value.str "/claim/cut.py" 302, Value.int 19 0, Value.int 1 0, Value.int 0 0, Value.int 0 0, Value.int 3 0, Value.ref 96, Value.bool true, Value.int 181 0, Value.ref 97, Value.none, Value.ref 98, Value.ref 99, Value.ref 100, Value.int 304 0, Value.int 19 0, Value.str "/claim/cut.py" 305] }) ::
  (nat_lit 102, { cls := Value.type "function", data := Data.func { name := "is_whole", qualname := "is_whole", params := defArgs (top 10), body := .stmts (defBody (top 10)), scope := defScope (top 10), globals := 3, closure := [], defaults := Value.none, kwdefaults := Value.none, pyModule := Value.str "oddcoin.checks" 294, code := Value.ref 101 } }) ::
  (nat_lit 103, { cls := Value.type "tuple", data := Data.seq #[] }) ::
  (nat_lit 105, { cls := Value.type "tuple", data := Data.seq #[Value.str "marks" 310, Value.str "either" 311, Value.str "one_way" 312] }) ::
  (nat_lit 106, { cls := Value.type "tuple", data := Data.seq #[] }) ::
  (nat_lit 108, { cls := Value.type "code", data := Data.fields #[Value.str "check_marks" 307, Value.str "check_marks" 308, Value.str "/claim/cut.py" 309, Value.int 21 0, Value.int 1 0, Value.int 0 0, Value.int 0 0, Value.int 3 0, Value.ref 103, Value.bool true, Value.int 181 0, Value.ref 104, Value.none, Value.ref 105, Value.ref 106, Value.ref 107, Value.int 313 0, Value.int 21 0, Value.str "/claim/cut.py" 314] }) ::
  (nat_lit 109, { cls := Value.type "function", data := Data.func { name := "check_marks", qualname := "check_marks", params := defArgs (top 11), body := .stmts (defBody (top 11)), scope := defScope (top 11), globals := 3, closure := [], defaults := Value.none, kwdefaults := Value.none, pyModule := Value.str "oddcoin.checks" 294, code := Value.ref 108 } }) ::
  (nat_lit 110, { cls := Value.type "tuple", data := Data.seq #[] }) ::
  (nat_lit 112, { cls := Value.type "tuple", data := Data.seq #[Value.str "highest" 319, Value.str "side" 320, Value.str "last" 321, Value.str "coin" 322] }) ::
  (nat_lit 113, { cls := Value.type "tuple", data := Data.seq #[] }) ::
  (nat_lit 115, { cls := Value.type "code", data := Data.fields #[Value.str "check_side" 316, Value.str "check_side" 317, Value.str "/claim/cut.py" 318, Value.int 30 0, Value.int 2 0, Value.int 0 0, Value.int 0 0, Value.int 3 0, Value.ref 110, Value.bool true, Value.int 181 0, Value.ref 111, Value.none, Value.ref 112, Value.ref 113, Value.ref 114, Value.int 323 0, Value.int 30 0, Value.str "/claim/cut.py" 324] }) ::
  (nat_lit 116, { cls := Value.type "function", data := Data.func { name := "check_side", qualname := "check_side", params := defArgs (top 12), body := .stmts (defBody (top 12)), scope := defScope (top 12), globals := 3, closure := [], defaults := Value.none, kwdefaults := Value.none, pyModule := Value.str "oddcoin.checks" 294, code := Value.ref 115 } }) ::
  (nat_lit 117, { cls := Value.type "tuple", data := Data.seq #[] }) ::
  (nat_lit 119, { cls := Value.type "tuple", data := Data.seq #[Value.str "highest" 329, Value.str "left" 330, Value.str "right" 331] }) ::
  (nat_lit 120, { cls := Value.type "tuple", data := Data.seq #[] }) ::
  (nat_lit 122, { cls := Value.type "code", data := Data.fields #[Value.str "check_weighing" 326, Value.str "check_weighing" 327, Value.str "/claim/cut.py" 328, Value.int 42 0, Value.int 3 0, Value.int 0 0, Value.int 0 0, Value.int 3 0, Value.ref 117, Value.bool true, Value.int 181 0, Value.ref 118, Value.none, Value.ref 119, Value.ref 120, Value.ref 121, Value.int 332 0, Value.int 42 0, Value.str "/claim/cut.py" 333] }) ::
  (nat_lit 123, { cls := Value.type "function", data := Data.func { name := "check_weighing", qualname := "check_weighing", params := defArgs (top 13), body := .stmts (defBody (top 13)), scope := defScope (top 13), globals := 3, closure := [], defaults := Value.none, kwdefaults := Value.none, pyModule := Value.str "oddcoin.checks" 294, code := Value.ref 122 } }) ::
  (nat_lit 124, { cls := Value.type "tuple", data := Data.seq #[] }) ::
  (nat_lit 126, { cls := Value.type "tuple", data := Data.seq #[Value.str "outcome" 338] }) ::
  (nat_lit 127, { cls := Value.type "tuple", data := Data.seq #[] }) ::
  (nat_lit 129, { cls := Value.type "code", data := Data.fields #[Value.str "check_outcome" 335, Value.str "check_outcome" 336, Value.str "/claim/cut.py" 337, Value.int 49 0, Value.int 1 0, Value.int 0 0, Value.int 0 0, Value.int 3 0, Value.ref 124, Value.bool true, Value.int 181 0, Value.ref 125, Value.none, Value.ref 126, Value.ref 127, Value.ref 128, Value.int 339 0, Value.int 49 0, Value.str "/claim/cut.py" 340] }) ::
  (nat_lit 130, { cls := Value.type "function", data := Data.func { name := "check_outcome", qualname := "check_outcome", params := defArgs (top 14), body := .stmts (defBody (top 14)), scope := defScope (top 14), globals := 3, closure := [], defaults := Value.none, kwdefaults := Value.none, pyModule := Value.str "oddcoin.checks" 294, code := Value.ref 129 } }) ::
  (nat_lit 131, { cls := Value.type "tuple", data := Data.seq #[] }) ::
  (nat_lit 133, { cls := Value.type "tuple", data := Data.seq #[Value.str "coins" 345, Value.str "odd" 346, Value.str "heavy" 347] }) ::
  (nat_lit 134, { cls := Value.type "tuple", data := Data.seq #[] }) ::
  (nat_lit 136, { cls := Value.type "code", data := Data.fields #[Value.str "check_odd" 342, Value.str "check_odd" 343, Value.str "/claim/cut.py" 344, Value.int 52 0, Value.int 3 0, Value.int 0 0, Value.int 0 0, Value.int 3 0, Value.ref 131, Value.bool true, Value.int 181 0, Value.ref 132, Value.none, Value.ref 133, Value.ref 134, Value.ref 135, Value.int 348 0, Value.int 52 0, Value.str "/claim/cut.py" 349] }) ::
  (nat_lit 137, { cls := Value.type "function", data := Data.func { name := "check_odd", qualname := "check_odd", params := defArgs (top 15), body := .stmts (defBody (top 15)), scope := defScope (top 15), globals := 3, closure := [], defaults := Value.none, kwdefaults := Value.none, pyModule := Value.str "oddcoin.checks" 294, code := Value.ref 136 } }) ::
  (nat_lit 138, { cls := Value.type "tuple", data := Data.seq #[] }) ::
  (nat_lit 140, { cls := Value.type "tuple", data := Data.seq #[Value.str "marks" 356, Value.str "one_way" 357] }) ::
  (nat_lit 141, { cls := Value.type "tuple", data := Data.seq #[] }) ::
  (nat_lit 143, { cls := Value.type "code", data := Data.fields #[Value.str "cases" 353, Value.str "cases" 354, Value.str "/claim/cut.py" 355, Value.int 60 0, Value.int 1 0, Value.int 0 0, Value.int 0 0, Value.int 3 0, Value.ref 138, Value.bool true, Value.int 181 0, Value.ref 139, Value.none, Value.ref 140, Value.ref 141, Value.ref 142, Value.int 358 0, Value.int 60 0, Value.str "/claim/cut.py" 359] }) ::
  (nat_lit 144, { cls := Value.type "function", data := Data.func { name := "cases", qualname := "cases", params := defArgs (top 17), body := .stmts (defBody (top 17)), scope := defScope (top 17), globals := 3, closure := [], defaults := Value.none, kwdefaults := Value.none, pyModule := Value.str "oddcoin.marks" 351, code := Value.ref 143 } }) ::
  (nat_lit 145, { cls := Value.type "tuple", data := Data.seq #[] }) ::
  (nat_lit 147, { cls := Value.type "tuple", data := Data.seq #[Value.str "weighings" 364, Value.str "most" 365, Value.str "step" 366] }) ::
  (nat_lit 148, { cls := Value.type "tuple", data := Data.seq #[] }) ::
  (nat_lit 150, { cls := Value.type "code", data := Data.fields #[Value.str "most_cases" 361, Value.str "most_cases" 362, Value.str "/claim/cut.py" 363, Value.int 66 0, Value.int 1 0, Value.int 0 0, Value.int 0 0, Value.int 3 0, Value.ref 145, Value.bool true, Value.int 181 0, Value.ref 146, Value.none, Value.ref 147, Value.ref 148, Value.ref 149, Value.int 367 0, Value.int 66 0, Value.str "/claim/cut.py" 368] }) ::
  (nat_lit 151, { cls := Value.type "function", data := Data.func { name := "most_cases", qualname := "most_cases", params := defArgs (top 18), body := .stmts (defBody (top 18)), scope := defScope (top 18), globals := 3, closure := [], defaults := Value.none, kwdefaults := Value.none, pyModule := Value.str "oddcoin.marks" 351, code := Value.ref 150 } }) ::
  (nat_lit 152, { cls := Value.type "tuple", data := Data.seq #[] }) ::
  (nat_lit 154, { cls := Value.type "tuple", data := Data.seq #[Value.str "marks" 373, Value.str "many" 374, Value.str "weighings" 375] }) ::
  (nat_lit 155, { cls := Value.type "tuple", data := Data.seq #[] }) ::
  (nat_lit 157, { cls := Value.type "code", data := Data.fields #[Value.str "fewest" 370, Value.str "fewest" 371, Value.str "/claim/cut.py" 372, Value.int 71 0, Value.int 1 0, Value.int 0 0, Value.int 0 0, Value.int 3 0, Value.ref 152, Value.bool true, Value.int 181 0, Value.ref 153, Value.none, Value.ref 154, Value.ref 155, Value.ref 156, Value.int 376 0, Value.int 71 0, Value.str "/claim/cut.py" 377] }) ::
  (nat_lit 158, { cls := Value.type "function", data := Data.func { name := "fewest", qualname := "fewest", params := defArgs (top 19), body := .stmts (defBody (top 19)), scope := defScope (top 19), globals := 3, closure := [], defaults := Value.none, kwdefaults := Value.none, pyModule := Value.str "oddcoin.marks" 351, code := Value.ref 157 } }) ::
  (nat_lit 159, { cls := Value.type "dict", data := Data.dict #[kd P "left" 381 (Value.str "right" 382), kd P "right" 383 (Value.str "left" 384), kd P "even" 385 (Value.str "even" 386)] 3 }) ::
  (nat_lit 160, { cls := Value.type "tuple", data := Data.seq #[] }) ::
  (nat_lit 162, { cls := Value.type "tuple", data := Data.seq #[Value.str "left" 394, Value.str "right" 395, Value.str "places" 396, Value.str "coin" 397] }) ::
  (nat_lit 163, { cls := Value.type "tuple", data := Data.seq #[] }) ::
  (nat_lit 165, { cls := Value.type "code", data := Data.fields #[Value.str "placed" 391, Value.str "placed" 392, Value.str "/claim/cut.py" 393, Value.int 79 0, Value.int 2 0, Value.int 0 0, Value.int 0 0, Value.int 3 0, Value.ref 160, Value.bool true, Value.int 181 0, Value.ref 161, Value.none, Value.ref 162, Value.ref 163, Value.ref 164, Value.int 398 0, Value.int 79 0, Value.str "/claim/cut.py" 399] }) ::
  (nat_lit 166, { cls := Value.type "function", data := Data.func { name := "placed", qualname := "placed", params := defArgs (top 22), body := .stmts (defBody (top 22)), scope := defScope (top 22), globals := 3, closure := [], defaults := Value.none, kwdefaults := Value.none, pyModule := Value.str "oddcoin.weighing" 379, code := Value.ref 165 } }) ::
  (nat_lit 167, { cls := Value.type "tuple", data := Data.seq #[] }) ::
  (nat_lit 169, { cls := Value.type "tuple", data := Data.seq #[Value.str "place" 404, Value.str "heavy" 405] }) ::
  (nat_lit 170, { cls := Value.type "tuple", data := Data.seq #[] }) ::
  (nat_lit 172, { cls := Value.type "code", data := Data.fields #[Value.str "outcome_by" 401, Value.str "outcome_by" 402, Value.str "/claim/cut.py" 403, Value.int 86 0, Value.int 2 0, Value.int 0 0, Value.int 0 0, Value.int 3 0, Value.ref 167, Value.bool true, Value.int 181 0, Value.ref 168, Value.none, Value.ref 169, Value.ref 170, Value.ref 171, Value.int 406 0, Value.int 86 0, Value.str "/claim/cut.py" 407] }) ::
  (nat_lit 173, { cls := Value.type "function", data := Data.func { name := "outcome_by", qualname := "outcome_by", params := defArgs (top 23), body := .stmts (defBody (top 23)), scope := defScope (top 23), globals := 3, closure := [], defaults := Value.none, kwdefaults := Value.none, pyModule := Value.str "oddcoin.weighing" 379, code := Value.ref 172 } }) ::
  (nat_lit 174, { cls := Value.type "tuple", data := Data.seq #[] }) ::
  (nat_lit 176, { cls := Value.type "tuple", data := Data.seq #[Value.str "sign" 412] }) ::
  (nat_lit 177, { cls := Value.type "tuple", data := Data.seq #[] }) ::
  (nat_lit 179, { cls := Value.type "code", data := Data.fields #[Value.str "may_be_heavy" 409, Value.str "may_be_heavy" 410, Value.str "/claim/cut.py" 411, Value.int 88 0, Value.int 1 0, Value.int 0 0, Value.int 0 0, Value.int 3 0, Value.ref 174, Value.bool true, Value.int 181 0, Value.ref 175, Value.none, Value.ref 176, Value.ref 177, Value.ref 178, Value.int 413 0, Value.int 88 0, Value.str "/claim/cut.py" 414] }) ::
  (nat_lit 180, { cls := Value.type "function", data := Data.func { name := "may_be_heavy", qualname := "may_be_heavy", params := defArgs (top 24), body := .stmts (defBody (top 24)), scope := defScope (top 24), globals := 3, closure := [], defaults := Value.none, kwdefaults := Value.none, pyModule := Value.str "oddcoin.weighing" 379, code := Value.ref 179 } }) ::
  (nat_lit 181, { cls := Value.type "tuple", data := Data.seq #[] }) ::
  (nat_lit 183, { cls := Value.type "tuple", data := Data.seq #[Value.str "sign" 419] }) ::
  (nat_lit 184, { cls := Value.type "tuple", data := Data.seq #[] }) ::
  (nat_lit 186, { cls := Value.type "code", data := Data.fields #[Value.str "may_be_light" 416, Value.str "may_be_light" 417, Value.str "/claim/cut.py" 418, Value.int 90 0, Value.int 1 0, Value.int 0 0, Value.int 0 0, Value.int 3 0, Value.ref 181, Value.bool true, Value.int 181 0, Value.ref 182, Value.none, Value.ref 183, Value.ref 184, Value.ref 185, Value.int 420 0, Value.int 90 0, Value.str "/claim/cut.py" 421] }) ::
  (nat_lit 187, { cls := Value.type "function", data := Data.func { name := "may_be_light", qualname := "may_be_light", params := defArgs (top 25), body := .stmts (defBody (top 25)), scope := defScope (top 25), globals := 3, closure := [], defaults := Value.none, kwdefaults := Value.none, pyModule := Value.str "oddcoin.weighing" 379, code := Value.ref 186 } }) ::
  (nat_lit 188, { cls := Value.type "tuple", data := Data.seq #[] }) ::
  (nat_lit 190, { cls := Value.type "tuple", data := Data.seq #[Value.str "marks" 426] }) ::
  (nat_lit 191, { cls := Value.type "tuple", data := Data.seq #[] }) ::
  (nat_lit 193, { cls := Value.type "code", data := Data.fields #[Value.str "may_all_be_good" 423, Value.str "may_all_be_good" 424, Value.str "/claim/cut.py" 425, Value.int 92 0, Value.int 1 0, Value.int 0 0, Value.int 0 0, Value.int 3 0, Value.ref 188, Value.bool true, Value.int 181 0, Value.ref 189, Value.none, Value.ref 190, Value.ref 191, Value.ref 192, Value.int 427 0, Value.int 92 0, Value.str "/claim/cut.py" 428] }) ::
  (nat_lit 194, { cls := Value.type "function", data := Data.func { name := "may_all_be_good", qualname := "may_all_be_good", params := defArgs (top 26), body := .stmts (defBody (top 26)), scope := defScope (top 26), globals := 3, closure := [], defaults := Value.none, kwdefaults := Value.none, pyModule := Value.str "oddcoin.weighing" 379, code := Value.ref 193 } }) ::
  (nat_lit 195, { cls := Value.type "tuple", data := Data.seq #[] }) ::
  (nat_lit 197, { cls := Value.type "tuple", data := Data.seq #[Value.str "sign" 433, Value.str "place" 434, Value.str "outcome" 435, Value.str "heavy" 436, Value.str "light" 437] }) ::
  (nat_lit 198, { cls := Value.type "tuple", data := Data.seq #[] }) ::
  (nat_lit 200, { cls := Value.type "code", data := Data.fields #[Value.str "sign_behind" 430, Value.str "sign_behind" 431, Value.str "/claim/cut.py" 432, Value.int 94 0, Value.int 3 0, Value.int 0 0, Value.int 0 0, Value.int 3 0, Value.ref 195, Value.bool true, Value.int 181 0, Value.ref 196, Value.none, Value.ref 197, Value.ref 198, Value.ref 199, Value.int 438 0, Value.int 94 0, Value.str "/claim/cut.py" 439] }) ::
  (nat_lit 201, { cls := Value.type "function", data := Data.func { name := "sign_behind", qualname := "sign_behind", params := defArgs (top 27), body := .stmts (defBody (top 27)), scope := defScope (top 27), globals := 3, closure := [], defaults := Value.none, kwdefaults := Value.none, pyModule := Value.str "oddcoin.weighing" 379, code := Value.ref 200 } }) ::
  (nat_lit 202, { cls := Value.type "tuple", data := Data.seq #[] }) ::
  (nat_lit 204, { cls := Value.type "tuple", data := Data.seq #[Value.str "marks" 444, Value.str "left" 445, Value.str "right" 446, Value.str "places" 447, Value.str "counts" 448, Value.str "coin" 449, Value.str "sign" 450, Value.str "place" 451, Value.str "outcome" 452] }) ::
  (nat_lit 205, { cls := Value.type "tuple", data := Data.seq #[] }) ::
  (nat_lit 207, { cls := Value.type "code", data := Data.fields #[Value.str "judged" 441, Value.str "judged" 442, Value.str "/claim/cut.py" 443, Value.int 104 0, Value.int 3 0, Value.int 0 0, Value.int 0 0, Value.int 3 0, Value.ref 202, Value.bool true, Value.int 181 0, Value.ref 203, Value.none, Value.ref 204, Value.ref 205, Value.ref 206, Value.int 453 0, Value.int 104 0, Value.str "/claim/cut.py" 454] }) ::
  (nat_lit 208, { cls := Value.type "function", data := Data.func { name := "judged", qualname := "judged", params := defArgs (top 28), body := .stmts (defBody (top 28)), scope := defScope (top 28), globals := 3, closure := [], defaults := Value.none, kwdefaults := Value.none, pyModule := Value.str "oddcoin.weighing" 379, code := Value.ref 207 } }) ::
  (nat_lit 209, { cls := Value.type "tuple", data := Data.seq #[] }) ::
  (nat_lit 212, { cls := Value.type "code", data := Data.fields #[Value.str "behind" 456, Value.str "behind" 457, Value.str "/claim/cut.py" 458, Value.int 120 0, Value.int 4 0, Value.int 0 0, Value.int 0 0, Value.int 3 0, Value.ref 209, Value.bool true, Value.int 181 0, Value.ref 210, Value.none, Value.none, Value.none, Value.ref 211, Value.int 459 0, Value.int 120 0, Value.str "/claim/cut.py" 460] }) ::
  (nat_lit 213, { cls := Value.type "function", data := Data.func { name := "behind", qualname := "behind", params := defArgs (top 29), body := .stmts (defBody (top 29)), scope := defScope (top 29), globals := 3, closure := [], defaults := Value.none, kwdefaults := Value.none, pyModule := Value.str "oddcoin.weighing" 379, code := Value.ref 212 } }) ::
  (nat_lit 214, { cls := Value.type "tuple", data := Data.seq #[] }) ::
  (nat_lit 216, { cls := Value.type "tuple", data := Data.seq #[Value.str "coins" 465, Value.str "odd" 466, Value.str "heavy" 467, Value.str "left" 468, Value.str "right" 469] }) ::
  (nat_lit 217, { cls := Value.type "tuple", data := Data.seq #[] }) ::
  (nat_lit 219, { cls := Value.type "code", data := Data.fields #[Value.str "weighed" 462, Value.str "weighed" 463, Value.str "/claim/cut.py" 464, Value.int 127 0, Value.int 5 0, Value.int 0 0, Value.int 0 0, Value.int 3 0, Value.ref 214, Value.bool true, Value.int 181 0, Value.ref 215, Value.none, Value.ref 216, Value.ref 217, Value.ref 218, Value.int 470 0, Value.int 127 0, Value.str "/claim/cut.py" 471] }) ::
  (nat_lit 220, { cls := Value.type "function", data := Data.func { name := "weighed", qualname := "weighed", params := defArgs (top 30), body := .stmts (defBody (top 30)), scope := defScope (top 30), globals := 3, closure := [], defaults := Value.none, kwdefaults := Value.none, pyModule := Value.str "oddcoin.weighing" 379, code := Value.ref 219 } }) ::
  (nat_lit 228, { cls := Value.type "tuple", data := Data.seq #[] }) ::
  (nat_lit 229, { cls := Value.type "dict", data := Data.dict #[kd P "__module__" 482 (Value.str "oddcoin.answers" 473), kd P "__firstlineno__" 486 (Value.int 132 485), kd P "__static_attributes__" 487 (Value.ref 228), kd P "__dict__" 489 (Value.ref 231), kd P "__weakref__" 491 (Value.ref 232), kd P "__doc__" 492 Value.none] 4 }) ::
  (nat_lit 230, { cls := Value.type "type", data := Data.cls { name := "Answer", bases := [Value.type "object"], mro := [Value.ref 230, Value.type "object"], ns := 229, qualname := "Answer", subclasses := [Value.ref 258, Value.ref 284, Value.ref 303, Value.ref 329] }, slots := #[none, none, some (Value.str "Answer" 475), some (Value.str "Answer" 483), some (Value.builtin "object.__new__"), some (Value.bool true)] }) ::
  (nat_lit 231, { cls := Value.type "getset_descriptor", data := Data.fields #[Value.str "__dict__" 488, Value.ref 230, Value.builtin "function.__dict__", Value.builtin "function.__dict__#set"] }) ::
  (nat_lit 232, { cls := Value.type "getset_descriptor", data := Data.fields #[Value.str "__weakref__" 490, Value.ref 230, Value.builtin "ExceptionGroup.__weakref__", Value.none] }) ::
  (nat_lit 235, { cls := Value.type "tuple", data := Data.seq #[Value.ref 230] }) ::
  (nat_lit 242, { cls := Value.type "tuple", data := Data.seq #[] }) ::
  (nat_lit 244, { cls := Value.type "tuple", data := Data.seq #[Value.str "self" 510, Value.str "coin" 511] }) ::
  (nat_lit 245, { cls := Value.type "tuple", data := Data.seq #[] }) ::
  (nat_lit 247, { cls := Value.type "code", data := Data.fields #[Value.str "__init__" 507, Value.str "Heavy.__init__" 508, Value.str "/claim/cut.py" 509, Value.int 136 0, Value.int 2 0, Value.int 0 0, Value.int 0 0, Value.int 3 0, Value.ref 242, Value.bool true, Value.int 181 0, Value.ref 243, Value.none, Value.ref 244, Value.ref 245, Value.ref 246, Value.int 512 0, Value.int 136 0, Value.str "/claim/cut.py" 513] }) ::
  (nat_lit 248, { cls := Value.type "function", data := Data.func { name := "__init__", qualname := "Heavy.__init__", params := { posonlyargs := [], args := [{ arg := "self", annotation := none, pos := { line := 136, col := 17, endLine := 136, endCol := 21 } }, { arg := "coin", annotation := none, pos := { line := 136, col := 23, endLine := 136, endCol := 27 } }], vararg := none, kwonlyargs := [], kw_defaults := [], kwarg := none, defaults := [] }, body := FuncBody.stmts [Stmt.Assign [(Expr.Name "self" { line := 137, col := 8, endLine := 137, endCol := 12 }).Attribute "coin" { line := 137, col := 8, endLine := 137, endCol := 17 }] (Expr.Name "coin" { line := 137, col := 20, endLine := 137, endCol := 24 }) { line := 137, col := 8, endLine := 137, endCol := 24 }], scope := { kind := ScopeKind.function, names := [("self", NameKind.local), ("coin", NameKind.local)], isGenerator := false, isCoroutine := false }, globals := 3, closure := [], defaults := Value.none, kwdefaults := Value.none, pyModule := Value.str "oddcoin.answers" 473, code := Value.ref 247 } }) ::
  (nat_lit 249, { cls := Value.type "tuple", data := Data.seq #[] }) ::
  (nat_lit 251, { cls := Value.type "tuple", data := Data.seq #[Value.str "self" 518, Value.str "marks" 519] }) ::
  (nat_lit 252, { cls := Value.type "tuple", data := Data.seq #[] }) ::
  (nat_lit 254, { cls := Value.type "code", data := Data.fields #[Value.str "shows" 515, Value.str "Heavy.shows" 516, Value.str "/claim/cut.py" 517, Value.int 139 0, Value.int 2 0, Value.int 0 0, Value.int 0 0, Value.int 3 0, Value.ref 249, Value.bool true, Value.int 181 0, Value.ref 250, Value.none, Value.ref 251, Value.ref 252, Value.ref 253, Value.int 520 0, Value.int 139 0, Value.str "/claim/cut.py" 521] }) ::
  (nat_lit 255, { cls := Value.type "function", data := Data.func { name := "shows", qualname := "Heavy.shows", params := { posonlyargs := [], args := [{ arg := "self", annotation := none, pos := { line := 139, col := 14, endLine := 139, endCol := 18 } }, { arg := "marks", annotation := none, pos := { line := 139, col := 20, endLine := 139, endCol := 25 } }], vararg := none, kwonlyargs := [], kw_defaults := [], kwarg := none, defaults := [] }, body := FuncBody.stmts [Stmt.Expr ((Expr.Name "_wall" { line := 140, col := 8, endLine := 140, endCol := 13 }).Call [Expr.Constant (Const.int 0) 0 { line := 140, col := 14, endLine := 140, endCol := 15 }] [] { line := 140, col := 8, endLine := 140, endCol := 16 }) { line := 140, col := 8, endLine := 140, endCol := 16 }], scope := { kind := ScopeKind.function, names := [("self", NameKind.local), ("marks", NameKind.local), ("_wall", NameKind.globalImplicit)], isGenerator := false, isCoroutine := false }, globals := 3, closure := [], defaults := Value.none, kwdefaults := Value.none, pyModule := Value.str "oddcoin.answers" 473, code := Value.ref 254 } }) ::
  (nat_lit 256, { cls := Value.type "tuple", data := Data.seq #[Value.str "coin" 523] }) ::
  (nat_lit 257, { cls := Value.type "dict", data := Data.dict #[kd P "__module__" 502 (Value.str "oddcoin.answers" 473), kd P "__firstlineno__" 506 (Value.int 134 505), kd P "__init__" 514 (Value.ref 248), kd P "shows" 522 (Value.ref 255), kd P "__static_attributes__" 524 (Value.ref 256), kd P "__doc__" 525 Value.none] 2 }) ::
  (nat_lit 258, { cls := Value.type "type", data := Data.cls { name := "Heavy", bases := [Value.ref 230], mro := [Value.ref 258, Value.ref 230, Value.type "object"], ns := 257, qualname := "Heavy" }, slots := #[some (Value.ref 235), none, some (Value.str "Heavy" 495), some (Value.str "Heavy" 503), some (Value.builtin "object.__new__"), some (Value.bool true)] }) ::
  (nat_lit 261, { cls := Value.type "tuple", data := Data.seq #[Value.ref 230] }) ::
  (nat_lit 268, { cls := Value.type "tuple", data := Data.seq #[] }) ::
  (nat_lit 270, { cls := Value.type "tuple", data := Data.seq #[Value.str "self" 543, Value.str "coin" 544] }) ::
  (nat_lit 271, { cls := Value.type "tuple", data := Data.seq #[] }) ::
  (nat_lit 273, { cls := Value.type "code", data := Data.fields #[Value.str "__init__" 540, Value.str "Light.__init__" 541, Value.str "/claim/cut.py" 542, Value.int 143 0, Value.int 2 0, Value.int 0 0, Value.int 0 0, Value.int 3 0, Value.ref 268, Value.bool true, Value.int 181 0, Value.ref 269, Value.none, Value.ref 270, Value.ref 271, Value.ref 272, Value.int 545 0, Value.int 143 0, Value.str "/claim/cut.py" 546] }) ::
  (nat_lit 274, { cls := Value.type "function", data := Data.func { name := "__init__", qualname := "Light.__init__", params := { posonlyargs := [], args := [{ arg := "self", annotation := none, pos := { line := 143, col := 17, endLine := 143, endCol := 21 } }, { arg := "coin", annotation := none, pos := { line := 143, col := 23, endLine := 143, endCol := 27 } }], vararg := none, kwonlyargs := [], kw_defaults := [], kwarg := none, defaults := [] }, body := FuncBody.stmts [Stmt.Assign [(Expr.Name "self" { line := 144, col := 8, endLine := 144, endCol := 12 }).Attribute "coin" { line := 144, col := 8, endLine := 144, endCol := 17 }] (Expr.Name "coin" { line := 144, col := 20, endLine := 144, endCol := 24 }) { line := 144, col := 8, endLine := 144, endCol := 24 }], scope := { kind := ScopeKind.function, names := [("self", NameKind.local), ("coin", NameKind.local)], isGenerator := false, isCoroutine := false }, globals := 3, closure := [], defaults := Value.none, kwdefaults := Value.none, pyModule := Value.str "oddcoin.answers" 473, code := Value.ref 273 } }) ::
  (nat_lit 275, { cls := Value.type "tuple", data := Data.seq #[] }) ::
  (nat_lit 277, { cls := Value.type "tuple", data := Data.seq #[Value.str "self" 551, Value.str "marks" 552] }) ::
  (nat_lit 278, { cls := Value.type "tuple", data := Data.seq #[] }) ::
  (nat_lit 280, { cls := Value.type "code", data := Data.fields #[Value.str "shows" 548, Value.str "Light.shows" 549, Value.str "/claim/cut.py" 550, Value.int 146 0, Value.int 2 0, Value.int 0 0, Value.int 0 0, Value.int 3 0, Value.ref 275, Value.bool true, Value.int 181 0, Value.ref 276, Value.none, Value.ref 277, Value.ref 278, Value.ref 279, Value.int 553 0, Value.int 146 0, Value.str "/claim/cut.py" 554] }) ::
  (nat_lit 281, { cls := Value.type "function", data := Data.func { name := "shows", qualname := "Light.shows", params := { posonlyargs := [], args := [{ arg := "self", annotation := none, pos := { line := 146, col := 14, endLine := 146, endCol := 18 } }, { arg := "marks", annotation := none, pos := { line := 146, col := 20, endLine := 146, endCol := 25 } }], vararg := none, kwonlyargs := [], kw_defaults := [], kwarg := none, defaults := [] }, body := FuncBody.stmts [Stmt.Expr ((Expr.Name "_wall" { line := 147, col := 8, endLine := 147, endCol := 13 }).Call [Expr.Constant (Const.int 1) 0 { line := 147, col := 14, endLine := 147, endCol := 15 }] [] { line := 147, col := 8, endLine := 147, endCol := 16 }) { line := 147, col := 8, endLine := 147, endCol := 16 }], scope := { kind := ScopeKind.function, names := [("self", NameKind.local), ("marks", NameKind.local), ("_wall", NameKind.globalImplicit)], isGenerator := false, isCoroutine := false }, globals := 3, closure := [], defaults := Value.none, kwdefaults := Value.none, pyModule := Value.str "oddcoin.answers" 473, code := Value.ref 280 } }) ::
  (nat_lit 282, { cls := Value.type "tuple", data := Data.seq #[Value.str "coin" 556] }) ::
  (nat_lit 283, { cls := Value.type "dict", data := Data.dict #[kd P "__module__" 535 (Value.str "oddcoin.answers" 473), kd P "__firstlineno__" 539 (Value.int 141 538), kd P "__init__" 547 (Value.ref 274), kd P "shows" 555 (Value.ref 281), kd P "__static_attributes__" 557 (Value.ref 282), kd P "__doc__" 558 Value.none] 2 }) ::
  (nat_lit 284, { cls := Value.type "type", data := Data.cls { name := "Light", bases := [Value.ref 230], mro := [Value.ref 284, Value.ref 230, Value.type "object"], ns := 283, qualname := "Light" }, slots := #[some (Value.ref 261), none, some (Value.str "Light" 528), some (Value.str "Light" 536), some (Value.builtin "object.__new__"), some (Value.bool true)] }) ::
  (nat_lit 287, { cls := Value.type "tuple", data := Data.seq #[Value.ref 230] }) ::
  (nat_lit 294, { cls := Value.type "tuple", data := Data.seq #[] }) ::
  (nat_lit 296, { cls := Value.type "tuple", data := Data.seq #[Value.str "self" 576, Value.str "marks" 577] }) ::
  (nat_lit 297, { cls := Value.type "tuple", data := Data.seq #[] }) ::
  (nat_lit 299, { cls := Value.type "code", data := Data.fields #[Value.str "shows" 573, Value.str "Nothing.shows" 574, Value.str "/claim/cut.py" 575, Value.int 150 0, Value.int 2 0, Value.int 0 0, Value.int 0 0, Value.int 3 0, Value.ref 294, Value.bool true, Value.int 181 0, Value.ref 295, Value.none, Value.ref 296, Value.ref 297, Value.ref 298, Value.int 578 0, Value.int 150 0, Value.str "/claim/cut.py" 579] }) ::
  (nat_lit 300, { cls := Value.type "function", data := Data.func { name := "shows", qualname := "Nothing.shows", params := { posonlyargs := [], args := [{ arg := "self", annotation := none, pos := { line := 150, col := 14, endLine := 150, endCol := 18 } }, { arg := "marks", annotation := none, pos := { line := 150, col := 20, endLine := 150, endCol := 25 } }], vararg := none, kwonlyargs := [], kw_defaults := [], kwarg := none, defaults := [] }, body := FuncBody.stmts [Stmt.Expr ((Expr.Name "_wall" { line := 151, col := 8, endLine := 151, endCol := 13 }).Call [Expr.Constant (Const.int 2) 0 { line := 151, col := 14, endLine := 151, endCol := 15 }] [] { line := 151, col := 8, endLine := 151, endCol := 16 }) { line := 151, col := 8, endLine := 151, endCol := 16 }], scope := { kind := ScopeKind.function, names := [("self", NameKind.local), ("marks", NameKind.local), ("_wall", NameKind.globalImplicit)], isGenerator := false, isCoroutine := false }, globals := 3, closure := [], defaults := Value.none, kwdefaults := Value.none, pyModule := Value.str "oddcoin.answers" 473, code := Value.ref 299 } }) ::
  (nat_lit 301, { cls := Value.type "tuple", data := Data.seq #[] }) ::
  (nat_lit 302, { cls := Value.type "dict", data := Data.dict #[kd P "__module__" 568 (Value.str "oddcoin.answers" 473), kd P "__firstlineno__" 572 (Value.int 148 571), kd P "shows" 580 (Value.ref 300), kd P "__static_attributes__" 581 (Value.ref 301), kd P "__doc__" 582 Value.none] 2 }) ::
  (nat_lit 303, { cls := Value.type "type", data := Data.cls { name := "Nothing", bases := [Value.ref 230], mro := [Value.ref 303, Value.ref 230, Value.type "object"], ns := 302, qualname := "Nothing" }, slots := #[some (Value.ref 287), none, some (Value.str "Nothing" 561), some (Value.str "Nothing" 569), some (Value.builtin "object.__new__"), some (Value.bool true)] }) ::
  (nat_lit 306, { cls := Value.type "tuple", data := Data.seq #[Value.ref 230] }) ::
  (nat_lit 313, { cls := Value.type "tuple", data := Data.seq #[] }) ::
  (nat_lit 315, { cls := Value.type "tuple", data := Data.seq #[Value.str "self" 600, Value.str "left" 601, Value.str "right" 602, Value.str "many" 603] }) ::
  (nat_lit 316, { cls := Value.type "tuple", data := Data.seq #[] }) ::
  (nat_lit 318, { cls := Value.type "code", data := Data.fields #[Value.str "__init__" 597, Value.str "Open.__init__" 598, Value.str "/claim/cut.py" 599, Value.int 154 0, Value.int 4 0, Value.int 0 0, Value.int 0 0, Value.int 3 0, Value.ref 313, Value.bool true, Value.int 181 0, Value.ref 314, Value.none, Value.ref 315, Value.ref 316, Value.ref 317, Value.int 604 0, Value.int 154 0, Value.str "/claim/cut.py" 605] }) ::
  (nat_lit 319, { cls := Value.type "function", data := Data.func { name := "__init__", qualname := "Open.__init__", params := { posonlyargs := [], args := [{ arg := "self", annotation := none, pos := { line := 154, col := 17, endLine := 154, endCol := 21 } }, { arg := "left", annotation := none, pos := { line := 154, col := 23, endLine := 154, endCol := 27 } }, { arg := "right", annotation := none, pos := { line := 154, col := 29, endLine := 154, endCol := 34 } }, { arg := "many", annotation := none, pos := { line := 154, col := 36, endLine := 154, endCol := 40 } }], vararg := none, kwonlyargs := [], kw_defaults := [], kwarg := none, defaults := [] }, body := FuncBody.stmts [Stmt.Assign [(Expr.Name "self" { line := 155, col := 8, endLine := 155, endCol := 12 }).Attribute "left" { line := 155, col := 8, endLine := 155, endCol := 17 }] ((Expr.Name "list" { line := 155, col := 20, endLine := 155, endCol := 24 }).Call [Expr.Name "left" { line := 155, col := 25, endLine := 155, endCol := 29 }] [] { line := 155, col := 20, endLine := 155, endCol := 30 }) { line := 155, col := 8, endLine := 155, endCol := 30 }, Stmt.Assign [(Expr.Name "self" { line := 156, col := 8, endLine := 156, endCol := 12 }).Attribute "right" { line := 156, col := 8, endLine := 156, endCol := 18 }] ((Expr.Name "list" { line := 156, col := 21, endLine := 156, endCol := 25 }).Call [Expr.Name "right" { line := 156, col := 26, endLine := 156, endCol := 31 }] [] { line := 156, col := 21, endLine := 156, endCol := 32 }) { line := 156, col := 8, endLine := 156, endCol := 32 }, Stmt.Assign [(Expr.Name "self" { line := 157, col := 8, endLine := 157, endCol := 12 }).Attribute "many" { line := 157, col := 8, endLine := 157, endCol := 17 }] (Expr.Name "many" { line := 157, col := 20, endLine := 157, endCol := 24 }) { line := 157, col := 8, endLine := 157, endCol := 24 }], scope := { kind := ScopeKind.function, names := [("self", NameKind.local), ("left", NameKind.local), ("right", NameKind.local), ("many", NameKind.local), ("list", NameKind.globalImplicit)], isGenerator := false, isCoroutine := false }, globals := 3, closure := [], defaults := Value.none, kwdefaults := Value.none, pyModule := Value.str "oddcoin.answers" 473, code := Value.ref 318 } }) ::
  (nat_lit 320, { cls := Value.type "tuple", data := Data.seq #[] }) ::
  (nat_lit 322, { cls := Value.type "tuple", data := Data.seq #[Value.str "self" 610, Value.str "marks" 611] }) ::
  (nat_lit 323, { cls := Value.type "tuple", data := Data.seq #[] }) ::
  (nat_lit 325, { cls := Value.type "code", data := Data.fields #[Value.str "shows" 607, Value.str "Open.shows" 608, Value.str "/claim/cut.py" 609, Value.int 159 0, Value.int 2 0, Value.int 0 0, Value.int 0 0, Value.int 3 0, Value.ref 320, Value.bool true, Value.int 181 0, Value.ref 321, Value.none, Value.ref 322, Value.ref 323, Value.ref 324, Value.int 612 0, Value.int 159 0, Value.str "/claim/cut.py" 613] }) ::
  (nat_lit 326, { cls := Value.type "function", data := Data.func { name := "shows", qualname := "Open.shows", params := { posonlyargs := [], args := [{ arg := "self", annotation := none, pos := { line := 159, col := 14, endLine := 159, endCol := 18 } }, { arg := "marks", annotation := none, pos := { line := 159, col := 20, endLine := 159, endCol := 25 } }], vararg := none, kwonlyargs := [], kw_defaults := [], kwarg := none, defaults := [] }, body := FuncBody.stmts [Stmt.Expr ((Expr.Name "_wall" { line := 160, col := 8, endLine := 160, endCol := 13 }).Call [Expr.Constant (Const.int 3) 0 { line := 160, col := 14, endLine := 160, endCol := 15 }] [] { line := 160, col := 8, endLine := 160, endCol := 16 }) { line := 160, col := 8, endLine := 160, endCol := 16 }], scope := { kind := ScopeKind.function, names := [("self", NameKind.local), ("marks", NameKind.local), ("_wall", NameKind.globalImplicit)], isGenerator := false, isCoroutine := false }, globals := 3, closure := [], defaults := Value.none, kwdefaults := Value.none, pyModule := Value.str "oddcoin.answers" 473, code := Value.ref 325 } }) ::
  (nat_lit 327, { cls := Value.type "tuple", data := Data.seq #[Value.str "left" 615, Value.str "many" 616, Value.str "right" 617] }) ::
  (nat_lit 328, { cls := Value.type "dict", data := Data.dict #[kd P "__module__" 592 (Value.str "oddcoin.answers" 473), kd P "__firstlineno__" 596 (Value.int 152 595), kd P "__init__" 606 (Value.ref 319), kd P "shows" 614 (Value.ref 326), kd P "__static_attributes__" 618 (Value.ref 327), kd P "__doc__" 619 Value.none] 2 }) ::
  (nat_lit 329, { cls := Value.type "type", data := Data.cls { name := "Open", bases := [Value.ref 230], mro := [Value.ref 329, Value.ref 230, Value.type "object"], ns := 328, qualname := "Open" }, slots := #[some (Value.ref 306), none, some (Value.str "Open" 585), some (Value.str "Open" 593), some (Value.builtin "object.__new__"), some (Value.bool true)] }) ::
  (nat_lit 332, { cls := Value.type "tuple", data := Data.seq #[] }) ::
  (nat_lit 335, { cls := Value.type "code", data := Data.fields #[Value.str "coins_with" 624, Value.str "coins_with" 625, Value.str "/claim/cut.py" 626, Value.int 162 0, Value.int 2 0, Value.int 0 0, Value.int 0 0, Value.int 3 0, Value.ref 332, Value.bool true, Value.int 181 0, Value.ref 333, Value.none, Value.none, Value.none, Value.ref 334, Value.int 627 0, Value.int 162 0, Value.str "/claim/cut.py" 628] }) ::
  (nat_lit 336, { cls := Value.type "function", data := Data.func { name := "coins_with", qualname := "coins_with", params := defArgs (top 38), body := .stmts (defBody (top 38)), scope := defScope (top 38), globals := 3, closure := [], defaults := Value.none, kwdefaults := Value.none, pyModule := Value.str "oddcoin.telling" 622, code := Value.ref 335 } }) ::
  (nat_lit 337, { cls := Value.type "tuple", data := Data.seq #[] }) ::
  (nat_lit 339, { cls := Value.type "tuple", data := Data.seq #[Value.str "marks" 633, Value.str "pairs" 634, Value.str "alone" 635, Value.str "sign" 636, Value.str "coins" 637, Value.str "even" 638] }) ::
  (nat_lit 340, { cls := Value.type "tuple", data := Data.seq #[] }) ::
  (nat_lit 342, { cls := Value.type "code", data := Data.fields #[Value.str "paired_first" 630, Value.str "paired_first" 631, Value.str "/claim/cut.py" 632, Value.int 164 0, Value.int 1 0, Value.int 0 0, Value.int 0 0, Value.int 3 0, Value.ref 337, Value.bool true, Value.int 181 0, Value.ref 338, Value.none, Value.ref 339, Value.ref 340, Value.ref 341, Value.int 639 0, Value.int 164 0, Value.str "/claim/cut.py" 640] }) ::
  (nat_lit 343, { cls := Value.type "function", data := Data.func { name := "paired_first", qualname := "paired_first", params := defArgs (top 39), body := .stmts (defBody (top 39)), scope := defScope (top 39), globals := 3, closure := [], defaults := Value.none, kwdefaults := Value.none, pyModule := Value.str "oddcoin.telling" 622, code := Value.ref 342 } }) ::
  (nat_lit 344, { cls := Value.type "tuple", data := Data.seq #[] }) ::
  (nat_lit 346, { cls := Value.type "tuple", data := Data.seq #[Value.str "marks" 645, Value.str "most" 646] }) ::
  (nat_lit 347, { cls := Value.type "tuple", data := Data.seq #[] }) ::
  (nat_lit 349, { cls := Value.type "code", data := Data.fields #[Value.str "kept_off" 642, Value.str "kept_off" 643, Value.str "/claim/cut.py" 644, Value.int 173 0, Value.int 2 0, Value.int 0 0, Value.int 0 0, Value.int 3 0, Value.ref 344, Value.bool true, Value.int 181 0, Value.ref 345, Value.none, Value.ref 346, Value.ref 347, Value.ref 348, Value.int 647 0, Value.int 173 0, Value.str "/claim/cut.py" 648] }) ::
  (nat_lit 350, { cls := Value.type "function", data := Data.func { name := "kept_off", qualname := "kept_off", params := defArgs (top 40), body := .stmts (defBody (top 40)), scope := defScope (top 40), globals := 3, closure := [], defaults := Value.none, kwdefaults := Value.none, pyModule := Value.str "oddcoin.telling" 622, code := Value.ref 349 } }) ::
  (nat_lit 351, { cls := Value.type "tuple", data := Data.seq #[] }) ::
  (nat_lit 353, { cls := Value.type "tuple", data := Data.seq #[Value.str "marks" 653, Value.str "many" 654, Value.str "coins" 655, Value.str "on" 656, Value.str "left" 657, Value.str "right" 658] }) ::
  (nat_lit 354, { cls := Value.type "tuple", data := Data.seq #[] }) ::
  (nat_lit 356, { cls := Value.type "code", data := Data.fields #[Value.str "first_weighing" 650, Value.str "first_weighing" 651, Value.str "/claim/cut.py" 652, Value.int 175 0, Value.int 2 0, Value.int 0 0, Value.int 0 0, Value.int 3 0, Value.ref 351, Value.bool true, Value.int 181 0, Value.ref 352, Value.none, Value.ref 353, Value.ref 354, Value.ref 355, Value.int 659 0, Value.int 175 0, Value.str "/claim/cut.py" 660] }) ::
  (nat_lit 357, { cls := Value.type "function", data := Data.func { name := "first_weighing", qualname := "first_weighing", params := defArgs (top 41), body := .stmts (defBody (top 41)), scope := defScope (top 41), globals := 3, closure := [], defaults := Value.none, kwdefaults := Value.none, pyModule := Value.str "oddcoin.telling" 622, code := Value.ref 356 } }) ::
  (nat_lit 358, { cls := Value.type "tuple", data := Data.seq #[] }) ::
  (nat_lit 360, { cls := Value.type "tuple", data := Data.seq #[Value.str "marks" 665, Value.str "many" 666] }) ::
  (nat_lit 361, { cls := Value.type "tuple", data := Data.seq #[] }) ::
  (nat_lit 363, { cls := Value.type "code", data := Data.fields #[Value.str "told" 662, Value.str "told" 663, Value.str "/claim/cut.py" 664, Value.int 183 0, Value.int 1 0, Value.int 0 0, Value.int 0 0, Value.int 3 0, Value.ref 358, Value.bool true, Value.int 181 0, Value.ref 359, Value.none, Value.ref 360, Value.ref 361, Value.ref 362, Value.int 667 0, Value.int 183 0, Value.str "/claim/cut.py" 668] }) ::
  (nat_lit 364, { cls := Value.type "function", data := Data.func { name := "told", qualname := "told", params := defArgs (top 42), body := .stmts (defBody (top 42)), scope := defScope (top 42), globals := 3, closure := [], defaults := Value.none, kwdefaults := Value.none, pyModule := Value.str "oddcoin.telling" 622, code := Value.ref 363 } }) ::
  (nat_lit 365, { cls := Value.type "tuple", data := Data.seq #[] }) ::
  (nat_lit 367, { cls := Value.type "tuple", data := Data.seq #[Value.str "_law_script" 675, Value.str "_law_k" 676] }) ::
  (nat_lit 368, { cls := Value.type "tuple", data := Data.seq #[] }) ::
  (nat_lit 370, { cls := Value.type "code", data := Data.fields #[Value.str "_law_cell_at" 672, Value.str "_law_cell_at" 673, Value.str "/claim/cut.py" 674, Value.int 193 0, Value.int 2 0, Value.int 0 0, Value.int 0 0, Value.int 3 0, Value.ref 365, Value.bool true, Value.int 181 0, Value.ref 366, Value.none, Value.ref 367, Value.ref 368, Value.ref 369, Value.int 677 0, Value.int 193 0, Value.str "/claim/cut.py" 678] }) ::
  (nat_lit 371, { cls := Value.type "function", data := Data.func { name := "_law_cell_at", qualname := "_law_cell_at", params := defArgs (top 44), body := .stmts (defBody (top 44)), scope := defScope (top 44), globals := 3, closure := [], defaults := Value.none, kwdefaults := Value.none, pyModule := Value.str "law_oddcoin_k02_whole_found" 670, code := Value.ref 370 } }) ::
  (nat_lit 372, { cls := Value.type "tuple", data := Data.seq #[] }) ::
  (nat_lit 374, { cls := Value.type "tuple", data := Data.seq #[Value.str "_law_cell" 683, Value.str "_law_k" 684, Value.str "_law_many" 685, Value.str "_law_primes" 686] }) ::
  (nat_lit 375, { cls := Value.type "tuple", data := Data.seq #[] }) ::
  (nat_lit 377, { cls := Value.type "code", data := Data.fields #[Value.str "_law_draw" 680, Value.str "_law_draw" 681, Value.str "/claim/cut.py" 682, Value.int 197 0, Value.int 3 0, Value.int 0 0, Value.int 0 0, Value.int 3 0, Value.ref 372, Value.bool true, Value.int 181 0, Value.ref 373, Value.none, Value.ref 374, Value.ref 375, Value.ref 376, Value.int 687 0, Value.int 197 0, Value.str "/claim/cut.py" 688] }) ::
  (nat_lit 378, { cls := Value.type "function", data := Data.func { name := "_law_draw", qualname := "_law_draw", params := defArgs (top 45), body := .stmts (defBody (top 45)), scope := defScope (top 45), globals := 3, closure := [], defaults := Value.none, kwdefaults := Value.none, pyModule := Value.str "law_oddcoin_k02_whole_found" 670, code := Value.ref 377 } }) ::
  (nat_lit 379, { cls := Value.type "tuple", data := Data.seq #[] }) ::
  (nat_lit 381, { cls := Value.type "tuple", data := Data.seq #[Value.str "_law_marks" 693, Value.str "_law_found" 694, Value.str "_law_outcome" 695] }) ::
  (nat_lit 382, { cls := Value.type "tuple", data := Data.seq #[] }) ::
  (nat_lit 384, { cls := Value.type "code", data := Data.fields #[Value.str "_law_after" 690, Value.str "_law_after" 691, Value.str "/claim/cut.py" 692, Value.int 200 0, Value.int 3 0, Value.int 0 0, Value.int 0 0, Value.int 3 0, Value.ref 379, Value.bool true, Value.int 181 0, Value.ref 380, Value.none, Value.ref 381, Value.ref 382, Value.ref 383, Value.int 696 0, Value.int 200 0, Value.str "/claim/cut.py" 697] }) ::
  (nat_lit 385, { cls := Value.type "function", data := Data.func { name := "_law_after", qualname := "_law_after", params := defArgs (top 46), body := .stmts (defBody (top 46)), scope := defScope (top 46), globals := 3, closure := [], defaults := Value.none, kwdefaults := Value.none, pyModule := Value.str "law_oddcoin_k02_whole_found" 670, code := Value.ref 384 } }) ::
  (nat_lit 386, { cls := Value.type "tuple", data := Data.seq #[] }) ::
  (nat_lit 388, { cls := Value.type "tuple", data := Data.seq #[Value.str "_law_coins" 702, Value.str "_law_odd" 703, Value.str "_law_heavy" 704, Value.str "_law_marks" 705, Value.str "_law_found" 706, Value.str "_law_many" 707, Value.str "_law_turn" 708, Value.str "_law_outcome" 709] }) ::
  (nat_lit 389, { cls := Value.type "tuple", data := Data.seq #[] }) ::
  (nat_lit 391, { cls := Value.type "code", data := Data.fields #[Value.str "_law_led" 699, Value.str "_law_led" 700, Value.str "/claim/cut.py" 701, Value.int 205 0, Value.int 3 0, Value.int 0 0, Value.int 0 0, Value.int 3 0, Value.ref 386, Value.bool true, Value.int 181 0, Value.ref 387, Value.none, Value.ref 388, Value.ref 389, Value.ref 390, Value.int 710 0, Value.int 205 0, Value.str "/claim/cut.py" 711] }) ::
  (nat_lit 392, { cls := Value.type "function", data := Data.func { name := "_law_led", qualname := "_law_led", params := defArgs (top 47), body := .stmts (defBody (top 47)), scope := defScope (top 47), globals := 3, closure := [], defaults := Value.none, kwdefaults := Value.none, pyModule := Value.str "law_oddcoin_k02_whole_found" 670, code := Value.ref 391 } }) ::
  (nat_lit 393, { cls := Value.type "tuple", data := Data.seq #[] }) ::
  (nat_lit 395, { cls := Value.type "tuple", data := Data.seq #[Value.str "_law_script" 716, Value.str "_law_coins" 717, Value.str "_law_odds" 718, Value.str "_law_k" 719, Value.str "_law_odd" 720, Value.str "_law_heavy" 721] }) ::
  (nat_lit 396, { cls := Value.type "tuple", data := Data.seq #[] }) ::
  (nat_lit 398, { cls := Value.type "code", data := Data.fields #[Value.str "law" 713, Value.str "law" 714, Value.str "/claim/cut.py" 715, Value.int 229 0, Value.int 1 0, Value.int 0 0, Value.int 0 0, Value.int 3 0, Value.ref 393, Value.bool true, Value.int 181 0, Value.ref 394, Value.none, Value.ref 395, Value.ref 396, Value.ref 397, Value.int 722 0, Value.int 229 0, Value.str "/claim/cut.py" 723] }) ::
  (nat_lit 399, { cls := Value.type "function", data := Data.func { name := "law", qualname := "law", params := defArgs (top 48), body := .stmts (defBody (top 48)), scope := defScope (top 48), globals := 3, closure := [], defaults := Value.none, kwdefaults := Value.none, pyModule := Value.str "law_oddcoin_k02_whole_found" 670, code := Value.ref 398 } }) :: []
def keysK : List Addr := [2, 3, 15, 17, 18, 20, 21, 22, 29, 30, 31, 32, 35, 42, 43, 44, 47, 54, 55, 56, 59, 66, 67, 68, 71, 78, 79, 80, 83, 90, 91, 92, 95, 96, 98, 99, 101, 102, 103, 105, 106, 108, 109, 110, 112, 113, 115, 116, 117, 119, 120, 122, 123, 124, 126, 127, 129, 130, 131, 133, 134, 136, 137, 138, 140, 141, 143, 144, 145, 147, 148, 150, 151, 152, 154, 155, 157, 158, 159, 160, 162, 163, 165, 166, 167, 169, 170, 172, 173, 174, 176, 177, 179, 180, 181, 183, 184, 186, 187, 188, 190, 191, 193, 194, 195, 197, 198, 200, 201, 202, 204, 205, 207, 208, 209, 212, 213, 214, 216, 217, 219, 220, 228, 229, 230, 231, 232, 235, 242, 244, 245, 247, 248, 249, 251, 252, 254, 255, 256, 257, 258, 261, 268, 270, 271, 273, 274, 275, 277, 278, 280, 281, 282, 283, 284, 287, 294, 296, 297, 299, 300, 301, 302, 303, 306, 313, 315, 316, 318, 319, 320, 322, 323, 325, 326, 327, 328, 329, 332, 335, 336, 337, 339, 340, 342, 343, 344, 346, 347, 349, 350, 351, 353, 354, 356, 357, 358, 360, 361, 363, 364, 365, 367, 368, 370, 371, 372, 374, 375, 377, 378, 379, 381, 382, 384, 385, 386, 388, 389, 391, 392, 393, 395, 396, 398, 399]
def view : Program := { PySem.Challenge.pw_oddcoin_k02_whole_found with main := { PySem.Challenge.pw_oddcoin_k02_whole_found.main with body := [top 0, top 2, top 3, top 4, top 5, top 6, top 7, top 9, top 10, top 11, top 12, top 13, top 14, top 15, top 17, top 18, top 19, top 21, top 22, top 23, top 24, top 25, top 26, top 27, top 28, top 29, top 30, top 32, top 33, top 34, top 35, top 36, top 38, top 39, top 40, top 41, top 42, top 44, top 45, top 46, top 47, top 48] } }
theorem keysK_is : ∀ P, keysK = (KK P).map (·.1) := fun _ => by kernel_rfl
end Ks
namespace Ks
open PySem L2 PySem.W PyProof.Rows
theorem left_of {p q : Program} {loose : List Str} {Xt : Shared → Bool} {α : Type} {Yf : Shared → α} {Ya : World → α} {N : Nat} {g0 : Bool} (row : String)
    (op : ∀ w : World, (fencedOpening treeTable p w N).map (fun s => (s.heap, s.gens, s.drawn, s.toks)) = some (boot_heap w.params, Array.mk [], boot_drawn, boot_toks))
    (h0 : ∀ (w : World) (os : OsState), (topFrom treeTable p (w.withFollow row false) N ⟨boot_heap (w.withFollow row false).params, Array.mk [], boot_drawn, boot_toks, os⟩).map (fun s => (openSeen q loose (importedModules p.main.body) Xt g0 s, Yf s)) = some (openGood q loose, Ya (w.withFollow row false)))
    (h1 : ∀ (w : World) (os : OsState), (topFrom treeTable p (w.withFollow row true) N ⟨boot_heap (w.withFollow row true).params, Array.mk [], boot_drawn, boot_toks, os⟩).map (fun s => (openSeen q loose (importedModules p.main.body) Xt g0 s, Yf s)) = some (openGood q loose, Ya (w.withFollow row true))) : LeftO p q loose Xt Yf Ya N g0 := by
  have go : ∀ w : World, (∀ os, (topFrom treeTable p w N ⟨boot_heap w.params, Array.mk [], boot_drawn, boot_toks, os⟩).map (fun s => (openSeen q loose (importedModules p.main.body) Xt g0 s, Yf s)) = some (openGood q loose, Ya w)) →
      (openEnds treeTable p w N).map (fun s => (openSeen q loose (importedModules p.main.body) Xt g0 s, Yf s)) = some (openGood q loose, Ya w) := by
    intro w h
    obtain ⟨⟨hp, gs, d, k, os⟩, e, e'⟩ := Option.map_eq_some_iff.mp (op w)
    obtain ⟨rfl, rfl, rfl, rfl⟩ : hp = boot_heap w.params ∧ gs = Array.mk [] ∧ d = boot_drawn ∧ k = boot_toks := by simpa using e'
    unfold openEnds
    rw [e]
    exact h os
  intro w
  have e := World.withFollow_self w row
  cases hb : w.params.followText row <;> rw [hb] at e
  · have := go _ (h0 w)
    rw [e] at this
    exact this
  · have := go _ (h1 w)
    rw [e] at this
    exact this
end Ks
namespace Ks
open PySem L2 PySem.W PyProof.Rows
theorem left_false : ∀ (w : World) (os : OsState), (topFrom treeTable PySem.Challenge.pw_oddcoin_k02_whole_found (w.withFollow "special-get-raises" false) 7226 ⟨boot_heap (w.withFollow "special-get-raises" false).params, Array.mk [], boot_drawn, boot_toks, os⟩).map (fun s => (openSeen view ["OTHER"] (importedModules PySem.Challenge.pw_oddcoin_k02_whole_found.main.body) (fun s => xlAt view [] s && recOk (RowW.records (OpenRow.toRowW (PySem.Challenge.rw_oddcoin_k02_whole_found).row)) s) true s, Hook.obs (kHook KK keysK keysK_is) s)) = some (openGood view ["OTHER"], Hook.val (kHook KK keysK keysK_is) (w.withFollow "special-get-raises" false)) := by
  intro w os
  unfold topFrom
  rw [PySem.W.Fast.te14082659384304107361, PySem.W.Fast.te4187177175401517315, PySem.W.Fast.te14364793385576792824]
  kernel_rfl
theorem left_true : ∀ (w : World) (os : OsState), (topFrom treeTable PySem.Challenge.pw_oddcoin_k02_whole_found (w.withFollow "special-get-raises" true) 7226 ⟨boot_heap (w.withFollow "special-get-raises" true).params, Array.mk [], boot_drawn, boot_toks, os⟩).map (fun s => (openSeen view ["OTHER"] (importedModules PySem.Challenge.pw_oddcoin_k02_whole_found.main.body) (fun s => xlAt view [] s && recOk (RowW.records (OpenRow.toRowW (PySem.Challenge.rw_oddcoin_k02_whole_found).row)) s) true s, Hook.obs (kHook KK keysK keysK_is) s)) = some (openGood view ["OTHER"], Hook.val (kHook KK keysK keysK_is) (w.withFollow "special-get-raises" true)) := by
  intro w os
  unfold topFrom
  rw [PySem.W.Fast.te14082659384304107361, PySem.W.Fast.te4187177175401517315, PySem.W.Fast.te14364793385576792824]
  kernel_rfl
theorem boot : ∀ w : World, (fencedOpening treeTable PySem.Challenge.pw_oddcoin_k02_whole_found w 7226).map (fun s => (s.heap, s.gens, s.drawn, s.toks)) = some (boot_heap w.params, Array.mk [], boot_drawn, boot_toks) :=
  boot_open (by kernel_rfl) (by decide) (fun _ => by kernel_rfl)
theorem leftO : LeftO PySem.Challenge.pw_oddcoin_k02_whole_found view ["OTHER"] (fun s => xlAt view [] s && recOk (RowW.records (OpenRow.toRowW (PySem.Challenge.rw_oddcoin_k02_whole_found).row)) s) (Hook.obs (kHook KK keysK keysK_is)) (Hook.val (kHook KK keysK keysK_is)) 7226 :=
  left_of "special-get-raises" boot left_false left_true
end Ks
end
section
namespace SetX
open PySem
theorem getD_nat (xs : Array Nat) (i d : Nat) (h : i < xs.size) : xs.getD i d = xs[i] := by simp [Array.getD, h]
def Rise (xs : Array Nat) : Prop := ∀ a b, a < b → b < xs.size → xs.getD a 0 < xs.getD b 0
theorem rise_iff (xs : Array Nat) : Rise xs ↔ xs.toList.Pairwise (· < ·) := by
  rw [List.pairwise_iff_getElem]
  constructor
  · intro h i j hi hj hij
    have hj' : j < xs.size := by simpa using hj
    have hi' : i < xs.size := by simpa using hi
    have := h i j hij hj'
    rw [getD_nat xs i 0 hi', getD_nat xs j 0 hj'] at this
    simpa using this
  · intro h a b hab hb
    have ha : a < xs.size := by omega
    rw [getD_nat xs a 0 ha, getD_nat xs b 0 hb]
    have := h a b (by simpa using ha) (by simpa using hb) hab
    simpa using this
theorem below_go {xs : Array Nat} (R : Rise xs) (j : Nat) : ∀ (fuel lo hi : Nat), hi - lo ≤ fuel → lo ≤ hi → hi ≤ xs.size → (∀ i, i < lo → xs.getD i 0 < j) → (∀ i, hi ≤ i → i < xs.size → j ≤ xs.getD i 0) →
    let p := SetTable.below.go xs j fuel lo hi
    p ≤ xs.size ∧ (∀ i, i < p → xs.getD i 0 < j) ∧ (∀ i, p ≤ i → i < xs.size → j ≤ xs.getD i 0)
  | 0, lo, hi, h1, h2, h3, h4, h5 => by
    have e : lo = hi := by omega
    subst e
    exact ⟨h3, h4, h5⟩
  | fuel + 1, lo, hi, h1, h2, h3, h4, h5 => by
    show let p := SetTable.below.go xs j (fuel + 1) lo hi; _
    unfold SetTable.below.go
    by_cases hlt : lo < hi
    · rw [if_pos hlt]
      have hm : (lo + hi) / 2 < hi := by omega
      have hm2 : lo ≤ (lo + hi) / 2 := by omega
      have hms : (lo + hi) / 2 < xs.size := by omega
      have eg : xs.getD ((lo + hi) / 2) j = xs.getD ((lo + hi) / 2) 0 := by rw [getD_nat xs _ j hms, getD_nat xs _ 0 hms]
      dsimp only
      rw [eg]
      by_cases hc : xs.getD ((lo + hi) / 2) 0 < j
      · rw [if_pos hc]
        refine below_go R j fuel _ hi (by omega) (by omega) h3 (fun i hi' => ?_) h5
        by_cases e : i = (lo + hi) / 2
        · rw [e]; exact hc
        · exact Nat.lt_trans (R i ((lo + hi) / 2) (by omega) hms) hc
      · rw [if_neg hc]
        refine below_go R j fuel lo _ (by omega) hm2 (by omega) h4 fun i hi' hsz => ?_
        by_cases e : i = (lo + hi) / 2
        · rw [e]; omega
        · have := R ((lo + hi) / 2) i (by omega) hsz
          omega
    · rw [if_neg hlt]
      have e : lo = hi := by omega
      subst e
      exact ⟨h3, h4, h5⟩
theorem below_spec {xs : Array Nat} (R : Rise xs) (j : Nat) : SetTable.below xs j ≤ xs.size ∧ (∀ i, i < SetTable.below xs j → xs.getD i 0 < j) ∧ (∀ i, SetTable.below xs j ≤ i → i < xs.size → j ≤ xs.getD i 0) :=
  below_go R j xs.size 0 xs.size (by omega) (Nat.zero_le _) (Nat.le_refl _) (fun i h => absurd h (Nat.not_lt_zero _)) fun i h1 h2 => absurd h2 (by omega)
theorem not_live {xs : Array Nat} (R : Rise xs) {j : Nat} (h : ¬ xs[SetTable.below xs j]? = some j) : ∀ i, i < xs.size → xs.getD i 0 ≠ j := by
  intro i hi e
  obtain ⟨h1, h2, h3⟩ := below_spec R j
  by_cases c : i < SetTable.below xs j
  · have := h2 i c; omega
  · by_cases c2 : i = SetTable.below xs j
    · apply h
      rw [← c2, Array.getElem?_eq_getElem hi, ← e, getD_nat xs i 0 hi]
    · have h4 := h3 (SetTable.below xs j) (Nat.le_refl _) (by omega)
      have := R (SetTable.below xs j) i (by omega) hi
      omega
theorem insert_rise {xs : Array Nat} (R : Rise xs) {j : Nat} (hn : ∀ i, i < xs.size → xs.getD i 0 ≠ j) : Rise (SetTable.insertAt xs (SetTable.below xs j) j) := by
  rw [rise_iff, SetTable.toList_insertAt]
  obtain ⟨h1, h2, h3⟩ := below_spec R j
  have RL := (rise_iff xs).mp R
  refine List.pairwise_append.mpr ⟨RL.sublist (List.take_sublist _ _), List.pairwise_cons.mpr ⟨fun y hy => ?_, RL.sublist (List.drop_sublist _ _)⟩, fun x hx y hy => ?_⟩
  · obtain ⟨i, hi, rfl⟩ := List.mem_iff_getElem.mp hy
    rw [List.getElem_drop]
    have hi' : SetTable.below xs j + i < xs.size := by
      rw [List.length_drop] at hi; simp at hi; omega
    have a := h3 (SetTable.below xs j + i) (by omega) hi'
    have b := hn (SetTable.below xs j + i) hi'
    rw [getD_nat xs _ 0 hi'] at a b
    simp only [Array.getElem_toList]
    omega
  · have hx' : x < j := by
      obtain ⟨i, hi, rfl⟩ := List.mem_iff_getElem.mp hx
      rw [List.getElem_take]
      rw [List.length_take] at hi
      have hi1 : i < SetTable.below xs j := by omega
      have hi2 : i < xs.size := by simp at hi; omega
      have a := h2 i hi1
      rw [getD_nat xs _ 0 hi2] at a
      simpa using a
    rcases List.mem_cons.mp hy with e | hy
    · rw [e]; exact hx'
    · have hy' : j ≤ y := by
        obtain ⟨i, hi, rfl⟩ := List.mem_iff_getElem.mp hy
        rw [List.getElem_drop]
        have hi' : SetTable.below xs j + i < xs.size := by
          rw [List.length_drop] at hi; simp at hi; omega
        have a := h3 (SetTable.below xs j + i) (by omega) hi'
        rw [getD_nat xs _ 0 hi'] at a
        simpa using a
      omega
theorem probe_go {t : SetTable} {hashAt : Nat → Int} {h : Int} : ∀ (fuel : Nat) (p : SetTable.Probe) {j : Nat} {dm : Option Nat}, (∀ d, p.dummy = some d → t.slot d = .dummy) → SetTable.probe.go t hashAt h fuel p = some (.empty j dm) →
    t.slot j = .empty ∧ ∀ d, dm = some d → t.slot d = .dummy
  | 0, p, j, dm, _, e => by simp [SetTable.probe.go] at e
  | fuel + 1, p, j, dm, hd, e => by
    unfold SetTable.probe.go at e
    have adv : ∀ q : SetTable.Probe, (t.advance q).dummy = q.dummy := fun q => by unfold SetTable.advance; split <;> rfl
    cases q : t.slot p.j with
    | empty =>
      rw [q] at e
      have e' := Option.some.inj e
      injection e' with e1 e2
      subst e1 e2
      exact ⟨q, hd⟩
    | dummy =>
      rw [q] at e
      refine probe_go fuel _ (fun d z => ?_) e
      rw [adv] at z
      have z' : some p.j = some d := z
      cases z'
      exact q
    | live i =>
      rw [q] at e
      dsimp only at e
      split at e
      · cases e
      · exact probe_go fuel _ (fun d z => by rw [adv] at z; exact hd d z) e
structure TabOk (b : Bool) (t : SetTable) : Prop where
  led : t.led = b
  rise : Rise t.place
theorem range_rise (n : Nat) : Rise (Array.range n) := by
  intro a c hac hc
  simp only [Array.size_range] at hc
  rw [getD_nat _ a 0 (by simp; omega), getD_nat _ c 0 (by simpa using hc)]
  simpa using hac
theorem standIn_ok {b : Bool} {t : SetTable} (h : TabOk b t) (n : Nat) : TabOk b (t.standIn n) := ⟨h.led, range_rise n⟩
theorem orStandIn_ok {b : Bool} {t : SetTable} (h : TabOk b t) (n : Nat) : TabOk b (t.orStandIn n) := by
  unfold SetTable.orStandIn
  split
  · exact h
  · exact standIn_ok h n
theorem slot_free {t : SetTable} {j : Nat} (h : t.slot j = .empty ∨ t.slot j = .dummy) : ¬ t.place[SetTable.below t.place j]? = some j := by
  intro e
  unfold SetTable.slot at h
  simp [e] at h
theorem layNew_ok {b : Bool} {t : SetTable} (h : TabOk b t) (es : Array (Int × Value)) (k : Int) (x : Value) : TabOk b (layNew t es k x).2.1 := by
  unfold layNew
  split
  · rename_i slot wd e
    dsimp only
    refine orStandIn_ok (t := (t.put slot).1) ⟨h.led, ?_⟩ _
    show Rise (SetTable.insertAt t.place (SetTable.below t.place slot) slot)
    refine insert_rise h.rise (not_live h.rise (slot_free ?_))
    unfold SetTable.freeSlot SetTable.probe at e
    split at e
    · rename_i j dm q
      obtain ⟨h1, h2⟩ := probe_go _ _ (fun d z => by cases z) q
      have e' := Option.some.inj e
      have e1 : dm.getD j = slot := congrArg Prod.fst e'
      cases dm with
      | none => exact .inl (e1 ▸ h1)
      | some d => exact .inr (by have z : d = slot := e1; rw [← z]; exact h2 d rfl)
    · cases e
  · exact standIn_ok h _
theorem laid_ok {mask fg mv : Nat} {led plain : Bool} {hs : Array Int} {t : SetTable} {ord : Array Nat} (e : SetTable.laid mask fg mv led plain hs = some (t, ord)) : TabOk led t := by
  unfold SetTable.laid at e
  cases q : SetTable.layClean mask hs with
  | none => rw [q] at e; cases e
  | some owner =>
    rw [q] at e
    have e' := congrArg Prod.fst (Option.some.inj e)
    have e'' : ({ mask, place := (((List.range (mask + 1)).filterMap fun j => (owner.getD j none).map (j, ·)).map (·.1)).toArray, dummies := #[], finger := fg, led, moves := mv, plain } : SetTable) = t := e'
    subst e''
    refine ⟨rfl, ?_⟩
    rw [rise_iff]
    show List.Pairwise (· < ·) (((List.range (mask + 1)).filterMap fun j => (owner.getD j none).map (j, ·)).map (·.1))
    rw [List.pairwise_map]
    refine List.Pairwise.filterMap _ (fun a a' haa b hb b' hb' => ?_) (List.pairwise_lt_range)
    cases qa : owner.getD a none with
    | none => rw [qa] at hb; cases hb
    | some u =>
      rw [qa] at hb
      cases qb : owner.getD a' none with
      | none => rw [qb] at hb'; cases hb'
      | some v =>
        rw [qb] at hb'
        have z1 : (a, u) = b := Option.some.inj hb
        have z2 : (a', v) = b' := Option.some.inj hb'
        rw [← z1, ← z2]
        exact haa
theorem relayAll_ok {b : Bool} {t : SetTable} (h : TabOk b t) (es : Array (Int × Value)) (wanted : Nat) : TabOk b (relayAll t es wanted).2.1 := by
  unfold relayAll
  split
  · rename_i t' order e
    dsimp only
    split
    · unfold SetTable.relaid at e
      have := laid_ok e
      rw [h.led] at this
      exact this
    · exact standIn_ok h _
  · exact standIn_ok h _
end SetX
namespace SetX
open PySem
def ledOf (w : World) : Bool := !(w.params.followText "set-order")
def val (e : Int × Value) : Int := match e.2 with | .int n _ => n | _ => 0
def Ent (l : List (Int × Value)) : Prop := ∀ e ∈ l, ∃ n t, e = (hashInt n, Value.int n t)
def SetAt (w : World) (h : Heap) (a : Addr) (ns : List Int) : Prop :=
  ∃ o es ep t, h.get? a = some o ∧ o.ExactSet ∧ o.data = .set es ep t ∧ Ent es.toList ∧ es.toList.map val = ns ∧ ns.Nodup ∧ ns.length < scanBound ∧ t.fits es.size = true ∧ TabOk (ledOf w) t
theorem SetAt.keeps {w : World} {h h' : Heap} {a : Addr} {ns : List Int} (S : SetAt w h a ns) (k : ∀ o, h.get? a = some o → h'.get? a = some o) : SetAt w h' a ns := by
  obtain ⟨o, es, ep, t, ho, r⟩ := S
  exact ⟨o, es, ep, t, k o ho, r⟩
theorem Ent.elems {prog : Program} {w : World} {l : List (Int × Value)} (h : Ent l) : ElemsOf (intKind prog w) l := fun e he => by
  obtain ⟨n, t, rfl⟩ := h e he
  exact ⟨⟨n, intKind_is prog w n t, rfl⟩, rfl⟩
theorem is_val {prog : Program} {w : World} {e : Int × Value} (h : ∃ n t, e = (hashInt n, Value.int n t)) (k : Int) : (intKind prog w).is k e.2 = decide (k = val e) := by
  obtain ⟨n, t, rfl⟩ := h
  show Value.isInt k (Value.int n t) = decide (k = n)
  unfold Value.isInt
  by_cases e : k = n
  · subst e; simp
  · have e' : ¬ n = k := fun z => e z.symm
    simp [e, e']
theorem Ent.perm {l l' : List (Int × Value)} (h : Ent l) (p : List.Perm l' l) : Ent l' := fun e he => h e (p.mem_iff.mp he)
theorem Ent.snoc {l : List (Int × Value)} (h : Ent l) (k : Int) (t : Tok) : Ent (l ++ [(hashInt k, Value.int k t)]) := fun e he => by
  rcases List.mem_append.mp he with z | z
  · exact h e z
  · have z' : e = (hashInt k, Value.int k t) := by simpa using z
    exact ⟨k, t, z'⟩
theorem find_none {prog : Program} {w : World} {l : List (Int × Value)} (h : Ent l) {k : Int} : l.findIdx? (fun e => (intKind prog w).is k e.2) = none ↔ k ∉ l.map val := by
  rw [List.findIdx?_eq_none_iff]
  constructor
  · intro q hm
    obtain ⟨e, he, rfl⟩ := List.mem_map.mp hm
    have := q e he
    rw [is_val (h e he)] at this
    simp at this
  · intro q e he
    rw [is_val (h e he)]
    refine decide_eq_false fun z => q ?_
    rw [z]
    exact List.mem_map.mpr ⟨e, he, rfl⟩
section
variable {prog : Program} {w : World} {A : Around} {E : Value → Shared → Prop} {s : Shared} {a : Addr} {ns : List Int} {k : Int} {tk : Tok}
theorem fits_line {n : Nat} (h : n < scanBound) : n ≤ sizeLine := by
  have h1 : scanBound = 4096 := rfl
  rw [h1] at h; rw [sizeLine_eq]; omega
theorem store_at {h : Heap} {o : Obj} {es es' : Array (Int × Value)} {ep : Nat} {t t' : SetTable} (ho : h.get? a = some o) (hd : o.data = .set es ep t) :
    (h.update a (Obj.putSet es' t')).get? a = some { o with data := .set es' (ep + 1) t' } := by
  have z := Heap.get?_update_self (Obj.putSet es' t') ho (by rw [putSet_of es' t' hd]; rfl)
  rw [putSet_of es' t' hd] at z; exact z
theorem find_int {x : Value} (hx : x = .int k tk) {Q : Option Nat → Shared → Prop} (hS : SetAt w s.heap a ns) (h : ∀ r : Option Nat, r.isSome = decide (k ∈ ns) → Q r s) : wpAny (model prog w) A (setFind a x (hashInt k)) Q E s := by
  subst hx
  obtain ⟨o, es, ep, t, ho, hex, hd, he, rfl, hn, hb, hf, ht⟩ := hS
  have hz : es.size < scanBound := by simpa using hb
  unfold setFind setFindIn
  refine wpAny_bind (wpAny_setState_of ho hd hf ?_); dsimp only
  rw [byScan_of (knd := intKind prog w) rfl hz he.elems]; simp only [↓reduceIte]; refine wpAny_bind (wpAny_rule ?_)
  refine wpAny_bind (wpAny_setScan_of (knd := intKind prog w) (k := k) (intKind_is prog w k tk) ho hd hf he.elems ?_)
  cases hr : List.findIdx? (fun e => (intKind prog w).is k e.2) es.toList with
  | none =>
    dsimp only
    refine wpAny_pure (h none ?_)
    have := (find_none he).mp hr
    rw [decide_eq_false this]; rfl
  | some j =>
    dsimp only
    refine wpAny_pure (h (some (0 + j)) ?_)
    have : k ∈ es.toList.map val := by
      refine Decidable.byContradiction fun z => ?_
      rw [(find_none (prog := prog) (w := w) he).mpr z] at hr
      cases hr
    rw [decide_eq_true this]; rfl
theorem add_int {x : Value} (hx : x = .int k tk) {Q : Bool → Shared → Prop} (hS : SetAt w s.heap a ns) (hroom : ns.length + 1 < scanBound)
    (h : ∀ h' ns', Heap.SameBut a s.heap h' → SetAt w h' a ns' → (∀ y, y ∈ ns' ↔ y ∈ ns ∨ y = k) → ns'.length ≤ ns.length + 1 → Q (!decide (k ∈ ns)) { s with heap := h' }) : wpAny (model prog w) A (setAddHashed a x (hashInt k)) Q E s := by
  subst hx
  obtain ⟨o, es, ep, t, ho, hex, hd, he, rfl, hn, hb, hf, ht⟩ := hS
  have hz : es.size < scanBound := by simpa using hb
  have hz1 : es.size + 1 < scanBound := by simpa using hroom
  have ie : (es.toList.map val).length = es.size := by simp
  unfold setAddHashed setAddHashedIn; refine wpAny_holding (wpAny_bind (wpAny_setState_of ho hd hf ?_)); dsimp only
  rw [byScan_of (knd := intKind prog w) rfl hz he.elems]; simp only [↓reduceIte]
  unfold setAddByScan; refine wpAny_bind ?_; refine wpAny_bind (wpAny_rule ?_)
  refine wpAny_bind (wpAny_setScan_of (knd := intKind prog w) (k := k) (intKind_is prog w k tk) ho hd hf he.elems ?_)
  cases hr : List.findIdx? (fun e => (intKind prog w).is k e.2) es.toList with
  | some j =>
    have hk : k ∈ es.toList.map val := by
      refine Decidable.byContradiction fun z => ?_
      rw [(find_none (prog := prog) (w := w) he).mpr z] at hr
      cases hr
    dsimp only
    refine wpAny_pure (wpAny_pure ?_)
    have q := h s.heap (es.toList.map val) (Heap.SameBut.refl a s.heap) ⟨o, es, ep, t, ho, hex, hd, he, rfl, hn, hb, hf, ht⟩ (fun y => ⟨.inl, fun z => z.elim id fun z => z ▸ hk⟩) (Nat.le_succ _)
    rw [decide_eq_true hk] at q
    exact q
  | none =>
    have hk : k ∉ es.toList.map val := (find_none he).mp hr
    dsimp only
    have hgw : ∀ (c : Bool) {s₁ : Shared} {Q' : Unit → Shared → Prop}, Q' () s₁ → wpAny (model prog w) A (match c with | true => rule "set.scan.the-table-gave-way" | false => pure ()) Q' E s₁ := fun c s₁ Q' hq => by
      cases c <;> first | exact wpAny_pure hq | exact wpAny_rule hq
    have hperm := layNew_perm t es (hashInt k) (.int k tk)
    have hfits := layNew_fits t es (hashInt k) (.int k tk)
    have hok := layNew_ok ht es (hashInt k) (.int k tk)
    generalize hL : layNew t es (hashInt k) (.int k tk) = L at hperm hfits hok ⊢
    have hL' : layNew t es ((intKind prog w).hash k) (.int k tk) = L := hL
    obtain ⟨es1, t1, wd, gave⟩ := L
    first | rw [hL'] | skip
    dsimp only at hperm hfits hok ⊢
    rw [Array.toList_push] at hperm
    have he1 : Ent es1.toList := (he.snoc k tk).perm hperm
    have mem1 : ∀ y, y ∈ es1.toList.map val ↔ y ∈ es.toList.map val ∨ y = k := fun y => by
      rw [(hperm.map val).mem_iff, List.map_append, List.mem_append]
      show _ ∨ y ∈ [k] ↔ _
      rw [List.mem_singleton]
    have nd1 : (es1.toList.map val).Nodup := by
      refine (hperm.map val).nodup_iff.mpr ?_
      rw [List.map_append]
      refine List.nodup_append.mpr ⟨hn, by simp, fun p hp q hq z => ?_⟩
      have hq' : q = k := by simpa [val] using hq
      exact hk (hq' ▸ z ▸ hp)
    have sz1 : es1.size = es.size + 1 := by
      have := hperm.length_eq
      simpa using this
    have hb1 : (es1.toList.map val).length < scanBound := by simpa [sz1] using hz1
    have hend : ∀ h', Heap.SameBut a s.heap h' → ∀ es2 : Array (Int × Value), SetAt w h' a (es2.toList.map val) → List.Perm es2.toList es1.toList → Q true { s with heap := h' } := fun h' sb es2 S2 p2 => by
      have q := h h' (es2.toList.map val) sb S2 (fun y => by rw [(p2.map val).mem_iff]; exact mem1 y) (by rw [(p2.map val).length_eq]; simp [sz1])
      rw [decide_eq_false hk] at q
      exact q
    have tail : ∀ t2 : SetTable, t2.fits es1.size = true → TabOk (ledOf w) t2 → ∀ R : Option Bool → Shared → Prop, (∀ h', Heap.SameBut a s.heap h' → ∀ es2 : Array (Int × Value), SetAt w h' a (es2.toList.map val) → List.Perm es2.toList es1.toList → R (some true) { s with heap := h' }) →
        ∀ g : Bool → Sem Unit, (∀ (c : Bool) (s₁ : Shared) (Q' : Unit → Shared → Prop), Q' () s₁ → wpAny (model prog w) A (g c) Q' E s₁) → wpAny (model prog w) A (do
          storeSet a es1 t2
          if (!wd && t2.tooFull) = true then do
              g (relayAll t2 es1 (SetTable.grown es1.size)).2.2
              storeSet a (relayAll t2 es1 (SetTable.grown es1.size)).1 (relayAll t2 es1 (SetTable.grown es1.size)).2.1
              pure (some true)
            else pure (some true)) R E s := by
      intro t2 hf2 hk2 R hR g hg
      refine wpAny_bind (wpAny_storeSet_of ho hd ?_ (fits_line (by rw [sz1]; exact hz1)))
      have e1 := store_at (es' := es1) (t' := t2) ho hd
      have sb1 := Heap.SameBut.update s.heap a (Obj.putSet es1 t2)
      split
      · have p2 := relayAll_perm t2 es1 (SetTable.grown es1.size)
        have f2 := relayAll_fits t2 es1 (SetTable.grown es1.size)
        have k2 := relayAll_ok hk2 es1 (SetTable.grown es1.size)
        generalize relayAll t2 es1 (SetTable.grown es1.size) = Rl at p2 f2 k2 ⊢
        obtain ⟨es2, t3, gave2⟩ := Rl
        dsimp only at p2 f2 k2 ⊢
        have sz2 : es2.size = es1.size := by rw [← Array.length_toList, p2.length_eq, Array.length_toList]
        refine wpAny_bind (hg _ _ _ ?_)
        refine wpAny_bind (wpAny_storeSet_of e1 rfl ?_ (fits_line (by rw [sz2, sz1]; exact hz1)))
        have e2 := store_at (es' := es2) (t' := t3) e1 rfl
        exact wpAny_pure (hR _ (sb1.trans (Heap.SameBut.update _ a _)) es2 ⟨_, es2, _, t3, e2, hex, rfl, he1.perm p2, rfl, (p2.map val).nodup_iff.mpr nd1, by rw [(p2.map val).length_eq]; exact hb1, f2, k2⟩ p2)
      · exact wpAny_pure (hR _ sb1 es1 ⟨_, es1, _, t2, e1, hex, rfl, he1, rfl, nd1, hb1, hf2, hk2⟩ .rfl)
    refine wpAny_bind (hgw _ ?_)
    split
    · refine wpAny_bind ?_
      rw [hashByValue_scannable 8 rfl]
      refine wpAny_pure ?_
      refine tail _ ?_ ?_ _ ?_ _ ?_
      · exact hfits
      · exact hok
      · intro h' sb es2 S2 p2; dsimp only; exact wpAny_pure (hend h' sb es2 S2 p2)
      · intro c s₁ Q' hq; cases c <;> first | exact wpAny_pure hq | exact wpAny_rule hq
    · refine wpAny_bind (wpAny_pure ?_)
      simp only [↓reduceIte]
      refine tail _ hfits hok _ ?_ _ ?_
      · intro h' sb es2 S2 p2; dsimp only; exact wpAny_pure (hend h' sb es2 S2 p2)
      · intro c s₁ Q' hq; cases c <;> first | exact wpAny_pure hq | exact wpAny_rule hq
end
end SetX
namespace SetX
open PySem PyProof.Rows
section
variable {prog : Program} {w : World} {A : Around} {R : Result → Shared → Prop} {I : Addr} {fp wr : List Addr} {G : Array GenState → Array GenState → Prop} {n : Nat} {P : Nat → Value → Prop} {St : Nat → Shared → Prop}
theorem update_loopX (W : WalksS prog w A.in1 I fp wr G n P St) (S : Addr) (hSf : S ∉ fp) (vl : Nat → Int) (hval : ∀ i v, P i v → ∃ t, v = .int (vl i) t) (hb : n + 1 < scanBound) :
    ∀ (k i : Nat) (s : Shared) (ns : List Int), n - i = k → i ≤ n → St i s → SetAt w s.heap S ns → (∀ y, y ∈ ns ↔ ∃ j, j < i ∧ y = vl j) → ns.length ≤ i →
      (∀ s' ns', Moved (S :: wr) G s s' → SetAt w s'.heap S ns' → (∀ y, y ∈ ns' ↔ ∃ j, j < n ∧ y = vl j) → R (.ok (.ret .none)) s') → codeAny (model prog w) A (.builtin "set.update.loop" ⟨[.ref S, .ref I], []⟩) R s := by
  have nw : S ∉ wr := fun z => hSf (W.sub _ z)
  have up : ∀ b ∈ wr, b ∈ S :: wr := fun b z => List.mem_cons_of_mem _ z
  intro k
  induction k with
  | zero =>
    intro i s ns hk hi hst hS hm hl hR
    have e : i = n := by omega
    subst e
    refine codeAny_builtin F.entry_set_update_loop ?_; rw [Around.under_plainId F.plain_set_update_loop _]; show wpAny _ A.in1 (pyNext (.ref I) >>= _) _ _ s
    refine wpAny_bind (W.done s _ _ hst fun s' mv => ?_); show wpAny _ A.in1 (ret Value.none) _ _ s'
    exact wpAny_pure (hR s' ns (mv.mono up) (hS.keeps fun o ho => mv.heap S o nw ho) hm)
  | succ k ih =>
    intro i s ns hk hi hst hS hm hl hR
    have lt : i < n := by omega
    refine codeAny_builtin F.entry_set_update_loop ?_; rw [Around.under_plainId F.plain_set_update_loop _]; show wpAny _ A.in1 (pyNext (.ref I) >>= _) _ _ s
    refine wpAny_bind (W.item i s _ _ lt hst fun v s' hP hst' mv => ?_)
    obtain ⟨t, rfl⟩ := hval i v hP
    have hS' : SetAt w s'.heap S ns := hS.keeps fun o ho => mv.heap S o nw ho
    show wpAny _ A.in1 (holding [Value.int (vl i) t] (setAdd S (.int (vl i) t)) >>= _) _ _ s'
    refine wpAny_bind (wpAny_holding ?_); unfold setAdd; refine wpAny_holding ?_
    refine wpAny_bind ((intKind prog w).pyHash (k := vl i) (intKind_is _ _ _ _) ?_)
    refine add_int (s := { s' with toks := s'.toks + 1 }) (k := vl i) (tk := t) rfl hS' (by omega) fun h' ns' sb S2 m2 l2 => ?_
    refine wpAny_pure ⟨plainId_quiet F.plain_set_update_loop _, ih (i + 1) _ ns' (by omega) lt (W.frame _ s' _ _ hst' (Nat.le_succ _) fun b hb o e => ?_) S2 (fun y => ?_) (by omega) fun s'' ns'' mv2 S3 m3 => ?_⟩
    · rw [sb.2 b (fun z : b = S => hSf (by rw [← z]; exact hb))]; exact e
    · rw [m2, hm]
      constructor
      · rintro (⟨j, hj, e⟩ | e)
        · exact ⟨j, by omega, e⟩
        · exact ⟨i, by omega, e⟩
      · rintro ⟨j, hj, e⟩
        by_cases z : j = i
        · exact .inr (by rw [e, z])
        · exact .inl ⟨j, by omega, e⟩
    · refine hR s'' ns'' (Moved.trans W.gtrans ((mv.mono up).then_heap (Nat.le_succ _) fun b o hb e => ?_) mv2) S3 m3
      rw [sb.2 b (fun z : b = S => hb (by rw [z]; exact List.mem_cons_self))]; exact e
end
section
variable {prog : Program} {w : World} {A : Around} {E : Value → Shared → Prop} {s : Shared}
abbrev newSetObj (w : World) : Obj := { cls := .type "set", dict := none, data := .set #[] 0 (.fresh 0 0 (ledOf w)) }
theorem fresh_ok (b : Bool) : TabOk b (.fresh 0 0 b) := ⟨rfl, fun a c h1 h2 => absurd h2 (by show ¬ c < 0; omega)⟩
theorem setAt_new {h : Heap} {a : Addr} (e : h.get? a = some (newSetObj w)) : SetAt w h a [] := ⟨_, #[], 0, _, e, ⟨rfl, rfl, rfl⟩, rfl, fun e he => by simp at he, rfl, List.nodup_nil, by decide, rfl, fresh_ok _⟩
theorem set_new_led (a : Value) {Q₁ : Value → Shared → Prop} (h : Q₁ (.ref s.heap.objs.size) { s with heap := s.heap.push (newSetObj w) }) :
    codeAny (model prog w) A (.call (.builtin "set.__new__") ⟨[.type "set", a], []⟩) (wants Q₁ E) s := by
  refine codeAny_of_tree ?_
  show wpAny _ A.in1 (do checkBuiltinCall "set.__new__" ⟨[.type "set", a], []⟩; again (.builtin "set.__new__" ⟨[.type "set", a], []⟩)) _ _ s
  refine wpAny_bind (wpAny_of_eq (F.newCall_set_1 a) (wpAny_pure ⟨plainId_quiet F.plain_set_new _, codeAny_builtin F.entry_set_new ?_⟩))
  rw [Around.under_plainId F.plain_set_new _]; unfold Builtin.«set.__new__» Builtin.Frozenset.newClass
  have hsub := sub_set_self
  obtain ⟨hp, g, d, tk, os⟩ := s
  dsimp only
  wp_walk
  refine wpAny_askSetting (wpAny_pure ?_); dsimp only; simp only [newObj]; refine wpAny_bind (wpAny_alloc (wpAny_pure ?_))
  exact wpAny_pure h
set_option maxRecDepth 100000 in
set_option maxHeartbeats 8000000 in
theorem call_set_listX {l : Addr} {items : Array Value} {ns : List Int} {Q : Value → Shared → Prop} (hh : A.handled = none) (hl : s.heap.IsList l items) (hi : PyProof.Rows.IntsAre items.toList ns) (hb : items.size + 1 < scanBound)
    (h : ∀ (h' : Heap) (tk : Nat) (ms : List Int), SetAt w h' s.heap.objs.size ms → (∀ y, y ∈ ms ↔ y ∈ ns) → (∀ b o, b < s.heap.objs.size → s.heap.get? b = some o → h'.get? b = some o) → Q (.ref s.heap.objs.size) { s with heap := h', toks := tk }) :
    wpAny (model prog w) A (call (.type "set") [.ref l]) Q E s := by
  obtain ⟨c, tl, hmro⟩ := F.called_set.mro
  have hmade := F.called_set.made
  have hsub := F.called_set.sub
  refine wpAny_call (codeAny_of_tree ?_); show wpAny _ _ (callAny (.type "set") _) _ _ _
  refine wpAny_pure ⟨Code.quiet_builtin _ (by decide +kernel), codeAny_builtin F.entry_type_call ?_⟩
  rw [Around.under_plain (weight_type_call_type "set" [.ref l] []) rfl]
  have h1 := F.called_set.notType
  have h2 := F.called_set.canCreate
  have hct := F.typeCall_set_1 (.ref l)
  repeat (any_goals (first | assumption | wp_step))
  refine codeAny_mono (set_new_led (.ref l) (E := E) (Q₁ := fun obj s₁ => obj = .ref s.heap.objs.size ∧ s₁ = { s with heap := s.heap.push (newSetObj w) }) ⟨rfl, rfl⟩) fun r s₁ hr => ?_
  cases r with
  | error e => exact hr
  | ok fl =>
    cases fl with
    | ret obj =>
      obtain ⟨rfl, rfl⟩ := hr
      have hS : (s.heap.push (newSetObj w)).get? s.heap.objs.size = some (newSetObj w) := Heap.get?_push_size _ rfl
      have hT : Shared.TypeIs { s with heap := s.heap.push (newSetObj w) } (.ref s.heap.objs.size) "set" := ⟨_, hS, rfl⟩
      have hli := F.called_set.init.lookup
      have hbi := F.called_set.init.bind (.ref s.heap.objs.size)
      repeat (any_goals (first | assumption | wp_step))
      refine codeAny_mono (codeAny_call_builtin (R := wants (fun r s₂ => r = .none ∧ ∃ h' tk ms, s₂ = { s with heap := h', toks := tk } ∧ SetAt w h' s.heap.objs.size ms ∧ (∀ y, y ∈ ms ↔ y ∈ ns) ∧ (∀ b o, b < s.heap.objs.size → s.heap.get? b = some o → h'.get? b = some o)) E)
        F.called_set.init.plain F.entry_set_init (check_set_init_1 hT ?_)) fun r₂ s₂ hr₂ => ?_
      · obtain ⟨ol, hol, hcl, nl, hdl⟩ := hl
        obtain ⟨ocls, odict, odata, oslots⟩ := ol
        simp only at hcl hdl
        subst hcl; subst hdl
        have hol' : (s.heap.push (newSetObj w)).get? l = some { cls := .type "list", dict := odict, data := .seq items nl, slots := oslots } := Heap.get?_push_of_some _ hol
        have hsls := F.sub_list_set
        have hslf := F.sub_list_frozenset
        have hne : (Value.type "list" == Value.type "dict") = false := by decide
        have hl1 : (s.heap.push (newSetObj w)).IsList l items := ⟨_, hol', rfl, nl, rfl⟩
        unfold Builtin.«set.__init__» noKeywords Builtin.Frozenset.updateFrom
        generalize hPI : pyIter = PI
        wp_walk
        subst hPI
        refine wpAny_pyIter_list hl1 ?_; refine wpAny_bind (wpAny_runValue ?_)
        have hlS : l < s.heap.objs.size := Heap.lt_size hol
        have hh3 : A.in1.in1.in1.handled = none := by simp [hh]
        have zs : (s.heap.push (newSetObj w)).objs.size = s.heap.objs.size + 1 := Heap.size_push ..
        have hval : ∀ (i : Nat) (v : Value), items[i]? = some v → ∃ t, v = .int ((fun i => ns.getD i 0) i) t := fun i v hv => PyProof.Rows.IntsAre.int_at hi i v (by rw [Array.getElem?_toList]; exact hv)
        have zn : items.size = ns.length := by have := IntsAre.length hi; simpa using this
        refine update_loopX ((Walks.list hh3 _ l (by rw [zs]; exact Nat.ne_of_lt (Nat.lt_succ_of_lt hlS)) items).toS) s.heap.objs.size (by rw [zs]; simp only [List.mem_cons, List.mem_singleton, List.not_mem_nil, or_false, not_or]; exact ⟨Nat.ne_of_lt (Nat.lt_succ_self _), Nat.ne_of_gt hlS⟩) (fun i => ns.getD i 0) hval hb (items.size - 0) 0 _ [] (by omega) (Nat.zero_le _)
          ⟨⟨_, Heap.get?_push_size _ rfl, rfl, rfl⟩, (hl1.push _)⟩ (setAt_new (Heap.get?_push_of_some _ hS)) (fun y => by simp) (Nat.zero_le _) ?_
        intro s' ms mv S2 m2
        obtain ⟨h', g', d', tk', os'⟩ := s'
        have eg : g' = s.gens := mv.gens
        have ed : d' = s.drawn := mv.drawn
        have eo : os' = s.os := mv.os
        subst eg; subst ed; subst eo
        show wpAny _ _ _ _ _ _
        refine wpAny_pure ?_
        show wpAny _ _ (ret Value.none) _ _ _
        refine wpAny_pure ⟨rfl, h', tk', ms, rfl, S2, fun y => ?_, fun b o hb e => ?_⟩
        · rw [m2 y, zn]
          constructor
          · rintro ⟨j, hj, rfl⟩
            have : ns.getD j 0 = ns[j] := by simp [List.getD, hj]
            show ns.getD j 0 ∈ ns
            rw [this]; exact List.getElem_mem hj
          · intro hy
            obtain ⟨j, hj, rfl⟩ := List.mem_iff_getElem.mp hy
            exact ⟨j, hj, by simp [List.getD, hj]⟩
        · have hb1 : b ≠ s.heap.objs.size := Nat.ne_of_lt hb
          have hb2 : b ≠ (s.heap.push (newSetObj w)).objs.size := by rw [zs]; exact Nat.ne_of_lt (Nat.lt_succ_of_lt hb)
          exact mv.heap b o (by simp only [List.mem_cons, List.mem_singleton, List.not_mem_nil, or_false, not_or]; exact ⟨hb1, hb2⟩) (Heap.get?_push_of_some _ (Heap.get?_push_of_some _ e))
      · cases r₂ with
        | error e => exact hr₂
        | ok fl₂ =>
          cases fl₂ with
          | ret r =>
            obtain ⟨rfl, h', tk, ms, rfl, S2, m2, hk'⟩ := hr₂
            repeat (any_goals (first | assumption | wp_step))
            exact h _ _ _ S2 m2 hk'
          | _ => exact hr₂.elim
    | _ => exact hr.elim
end
end SetX
end
section
namespace SetX
open PySem PyProof.Rows
theorem perm_erase {α : Type} : ∀ (l : List α) (i : Nat) (h : i < l.length), List.Perm (l[i] :: l.eraseIdx i) l
  | [], i, h => absurd h (by simp)
  | x :: l, 0, h => .rfl
  | x :: l, i + 1, h => by
    have h' : i < l.length := by simpa using h
    show List.Perm (l[i] :: x :: l.eraseIdx i) (x :: l)
    exact (List.Perm.swap x l[i] _).trans ((perm_erase l i h').cons x)
theorem pick_go {α : Type} (next : Nat → Nat) : ∀ (fuel k : Nat) (left : List α) (out : Array α), left.length = fuel → List.Perm (pickOrder.go next fuel k left out).toList (out.toList ++ left)
  | 0, k, left, out, h => by
    have e : left = [] := List.length_eq_zero_iff.mp h
    subst e
    show List.Perm out.toList (out.toList ++ [])
    rw [List.append_nil]
  | fuel + 1, k, left, out, h => by
    show List.Perm (match left[next k % left.length]? with
      | some x => pickOrder.go next fuel (k + 1) (left.eraseIdx (next k % left.length)) (out.push x)
      | none => out).toList _
    have hlt : next k % left.length < left.length := Nat.mod_lt _ (by omega)
    rw [List.getElem?_eq_getElem hlt]
    dsimp only
    have hz : (left.eraseIdx (next k % left.length)).length = fuel := by rw [List.length_eraseIdx_of_lt hlt]; omega
    refine (pick_go next fuel (k + 1) _ _ hz).trans ?_
    rw [Array.toList_push, List.append_assoc]
    refine List.Perm.append_left _ ?_
    exact perm_erase _ _ hlt
theorem pickOrder_perm {α : Type} (next : Nat → Nat) (xs : Array α) : List.Perm (pickOrder next xs).toList xs.toList := by
  unfold pickOrder
  have := pick_go next xs.size 0 xs.toList #[] (by simp)
  simpa using this
section
variable {prog : Program} {w : World} {A : Around} {E : Value → Shared → Prop} {s : Shared} {a : Addr} {ns : List Int}
theorem wpAny_choose {src : Source} {n : Nat} {Q : Nat → Shared → Prop} (hn : n ≠ 0) (h : ∀ k d, k < n → Q k { s with drawn := d }) : wpAny (model prog w) A (choose src n) Q E s := by
  intro Γ p hΓ
  exact ⟨hn, h _ _ (Nat.mod_lt _ (Nat.pos_of_ne_zero hn))⟩
theorem drawOrder_of {α : Type} : ∀ (n : Nat) (xs : List α) (s : Shared) (Q : List α → Shared → Prop), xs.length = n → (∀ ys d, List.Perm ys xs → Q ys { s with drawn := d }) → wpAny (model prog w) A (drawOrder n xs) Q E s
  | 0, xs, s, Q, hl, h => by
    have e : xs = [] := List.length_eq_zero_iff.mp hl
    subst e
    exact wpAny_pure (h [] s.drawn .nil)
  | n + 1, [], s, Q, hl, h => by simp at hl
  | n + 1, x :: xs, s, Q, hl, h => by
    unfold drawOrder
    refine wpAny_bind (wpAny_choose (by simp) fun k d hk => ?_)
    rw [List.getElem?_eq_getElem hk]
    dsimp only
    refine wpAny_bind (drawOrder_of n _ _ _ (by rw [List.length_eraseIdx_of_lt hk]; omega) fun ys d' p => ?_)
    refine wpAny_pure (h _ d' ?_)
    exact (p.cons _).trans (perm_erase _ _ hk)
theorem setWalk_of {o : Obj} {es : Array (Int × Value)} {ep : Nat} {t : SetTable} {Q : Array (Int × Value) → Shared → Prop} (ho : s.heap.get? a = some o) (hd : o.data = .set es ep t) (hf : t.fits es.size = true) (hl : t.led = ledOf w)
    (h : ∀ es' d, List.Perm es'.toList es.toList → Q es' { s with drawn := d }) : wpAny (model prog w) A (setWalk a) Q E s := by
  unfold setWalk setsByText
  refine wpAny_bind (wpAny_setState_of ho hd hf ?_); dsimp only
  refine wpAny_bind (wpAny_bind (wpAny_askSetting (wpAny_pure ?_)))
  by_cases hb : (model prog w).w.params.followText "set-order" = true
  · dsimp only
    rw [if_pos hb]
    refine wpAny_bind (wpAny_askSetting (wpAny_pure ?_))
    exact h _ s.drawn (pickOrder_perm _ _)
  · dsimp only
    rw [if_neg hb]
    have hb' : ¬ w.params.followText "set-order" = true := hb
    have hl' : t.led = true := by rw [hl]; unfold ledOf; simp [hb']
    split
    · refine wpAny_bind (drawOrder_of _ _ _ _ (by simp) fun ys d p => ?_)
      exact wpAny_pure (h _ d (by simpa using p))
    · refine wpAny_bind ?_
      show wpAny _ _ (if (!t.led && decide (es.size > 1)) = true then _ else _) _ _ _
      rw [hl']
      simp only [Bool.not_true, Bool.false_and, Bool.false_eq_true, if_false]
      exact wpAny_pure (wpAny_pure (h es s.drawn .rfl))
end
end SetX
namespace SetX
open PySem PyProof.Rows
section
variable {prog : Program} {w : World} {A : Around} {E : Value → Shared → Prop} {s : Shared} {a b : Addr} {ns ms : List Int}
theorem forIn_arr {M : Model} {α β : Type} {s : Shared} (f : α → β → Sem (ForInStep β)) (I : List α → β → Shared → Prop) (Q : β → Shared → Prop)
    (turn : ∀ x rest c s, I (x :: rest) c s → wpAny M A (f x c) (fun r s' => match r with | .yield c' => I rest c' s' | .done c' => Q c' s') E s) (fin : ∀ c s, I [] c s → Q c s) (xs : Array α) (c : β) (h : I xs.toList c s) : wpAny M A (forIn xs c f) Q E s := by
  rw [← Array.forIn_toList]; exact wpAny_forIn_list f I Q turn fin _ c h
theorem setsQuiet_of : ∀ (l : List Addr) {Q : Bool → Shared → Prop}, (∀ c ∈ l, ∃ ks, SetAt w s.heap c ks) → Q true s → wpAny (model prog w) A (setsQuiet l) Q E s := by
  intro l Q hl hQ
  unfold setsQuiet
  refine wpAny_bind ?_
  refine wpAny_forIn_list _ (fun rest r s' => r = ⟨none, ()⟩ ∧ s' = s ∧ ∀ c ∈ rest, ∃ ks, SetAt w s.heap c ks) _ ?_ ?_ l _ ⟨rfl, rfl, hl⟩
  · rintro c rest r s' ⟨rfl, rfl, hc⟩
    obtain ⟨ks, o, es, ep, t, ho, hex, hd, he, _, _, _, hf, _⟩ := hc c List.mem_cons_self
    refine wpAny_bind (wpAny_setEntries_of ho hd hf ?_)
    refine wpAny_bind ?_
    refine forIn_arr _ (fun rest' r' s'' => r' = ⟨none, ()⟩ ∧ s'' = s' ∧ ∀ e ∈ rest', e ∈ es.toList) _ ?_ ?_ es _ ⟨rfl, rfl, fun e z => z⟩
    · rintro ⟨hv, x⟩ rest' r' s'' ⟨rfl, rfl, hm⟩
      obtain ⟨n, tk, e⟩ := he _ (hm _ List.mem_cons_self)
      have e2 : x = .int n tk := congrArg Prod.snd e
      subst e2
      exact wpAny_pure ⟨rfl, rfl, fun e z => hm e (List.mem_cons_of_mem _ z)⟩
    · rintro r' s'' ⟨rfl, rfl, _⟩
      exact wpAny_pure ⟨rfl, rfl, fun c' z => hc c' (List.mem_cons_of_mem _ z)⟩
  · rintro r s' ⟨rfl, rfl, _⟩
    exact wpAny_pure hQ
theorem walkUnseen_of {others : List Addr} {r : Addr} {o : Obj} {es : Array (Int × Value)} {ep : Nat} {t : SetTable} {Q : Array (Int × Value) → Shared → Prop} (ho : s.heap.get? a = some o) (hex : o.ExactSet) (hd : o.data = .set es ep t) (he : Ent es.toList) (hnd : (es.toList.map val).Nodup)
    (hb : (es.toList.map val).length < scanBound) (hf : t.fits es.size = true) (ht : TabOk (ledOf w) t) (hoth : ∀ c ∈ others, ∃ ks, SetAt w s.heap c ks) (hr : SetAt w s.heap r [])
    (h : ∀ es' h' d, List.Perm es'.toList es.toList → Heap.SameBut r s.heap h' → SetAt w h' r [] → Q es' { s with heap := h', drawn := d }) : wpAny (model prog w) A (setWalkUnseen a others (some r)) Q E s := by
  unfold setWalkUnseen setsByText
  refine wpAny_bind (wpAny_setState_of ho hd hf ?_); dsimp only
  refine wpAny_bind (wpAny_bind (wpAny_askSetting (wpAny_pure ?_)))
  dsimp only
  have plainW : ∀ (Q' : Array (Int × Value) → Shared → Prop), (∀ es' d, List.Perm es'.toList es.toList → Q' es' { s with drawn := d }) → wpAny (model prog w) A (setWalk a) Q' E s := fun Q' q => setWalk_of ho hd hf ht.led q
  split
  · exact plainW _ fun es' d p => h es' s.heap d p (.refl ..) hr
  · refine wpAny_bind (setsQuiet_of (a :: others) (fun c hc => ?_) ?_)
    · rcases List.mem_cons.mp hc with z | z
      · subst z; exact ⟨_, o, es, ep, t, ho, hex, hd, he, rfl, hnd, hb, hf, ht⟩
      · exact hoth c z
    · simp only [Bool.not_true, Bool.false_eq_true, if_false]
      refine wpAny_bind (wpAny_rule ?_)
      obtain ⟨o2, es2, ep2, t2, ho2, hex2, hd2, he2, m2, nd2, hb2, hf2, ht2⟩ := id hr
      refine wpAny_bind (wpAny_setState_of ho2 hd2 hf2 ?_); dsimp only
      have z2 : es2.toList = [] := List.map_eq_nil_iff.mp m2
      have z2' : es2.size = 0 := by rw [← Array.length_toList, z2]; rfl
      split
      · refine wpAny_bind (wpAny_storeSet_of ho2 hd2 ?_ (by rw [z2']; exact Nat.zero_le _))
        have e1 := store_at (es' := es2) (t' := { t2 with led := t2.led && t.led, plain := t2.plain && t.plain }) ho2 hd2
        refine wpAny_pure (h es _ s.drawn .rfl (Heap.SameBut.update ..) ⟨_, es2, _, _, e1, hex2, rfl, he2, m2, nd2, hb2, hf2, ?_, ht2.rise⟩)
        show (t2.led && t.led) = ledOf w
        rw [ht2.led, ht.led]; simp
      · exact wpAny_pure (h es s.heap s.drawn .rfl (.refl ..) hr)
theorem sub_set_froz : isSubtype (.type "set") (.type "frozenset") = pure false := by rw [isSubtype_type]; kernel_rfl
theorem entry_set_and : entryFor table "set.__and__" = some Builtin.«frozenset.__and__» := entryFor_alias (id' := "frozenset.__and__") (by kernel_rfl) rfl (by decide +kernel) (by kernel_rfl)
theorem SetAt.ty {s : Shared} (S : SetAt w s.heap a ns) : s.TypeIs (.ref a) "set" := let ⟨o, _, _, _, ho, hex, _⟩ := S; ⟨o, ho, hex.1⟩
theorem anySet_of {Q : Bool → Shared → Prop} (S : SetAt w s.heap a ns) (h : Q true s) : wpAny (model prog w) A (Builtin.Frozenset.isAnySet (.ref a)) Q E s := by
  unfold Builtin.Frozenset.isAnySet
  show wpAny _ _ (isInstance (.ref a) (.type "set") >>= _) _ _ _
  refine wpAny_bind (wpAny_isInstance S.ty sub_set_self ?_)
  exact wpAny_pure h
theorem newSet_led {Q : Value → Shared → Prop} (h : Q (.ref s.heap.objs.size) { s with heap := s.heap.push (newSetObj w) }) : wpAny (model prog w) A (newSet (.type "set")) Q E s := by
  unfold newSet setsByText
  refine wpAny_bind (wpAny_bind (wpAny_askSetting (wpAny_pure ?_))); dsimp only; simp only [newObj]
  exact wpAny_bind (wpAny_alloc (wpAny_pure h))
set_option maxHeartbeats 8000000 in
theorem inter_of {Q : Value → Shared → Prop} {idn : String} (hab : b ≠ a) (S : SetAt w s.heap a ns) (T : SetAt w s.heap b ms)
    (h : ∀ h' d ks, SetAt w h' s.heap.objs.size ks → (∀ y, y ∈ ks ↔ y ∈ ns ∧ y ∈ ms) → (∀ c o, s.heap.get? c = some o → h'.get? c = some o) → Q (.ref s.heap.objs.size) { s with heap := h', drawn := d }) :
    wpAny (model prog w) A (Builtin.Frozenset.intersection idn a (.ref b)) Q E s := by
  unfold Builtin.Frozenset.intersection
  have hne : (Value.ref b == Value.ref a) = false := by
    rw [beq_eq_false_iff_ne]; intro z; exact hab (Value.ref.inj z)
  rw [if_neg (by rw [hne]; simp)]
  unfold Builtin.Frozenset.baseOf
  refine wpAny_bind (wpAny_bind (wpAny_isInstance S.ty sub_set_self (wpAny_pure ?_)))
  simp only [if_true]
  refine wpAny_bind (newSet_led ?_)
  have k1 : ∀ c o, s.heap.get? c = some o → (s.heap.push (newSetObj w)).get? c = some o := fun c o e => Heap.get?_push_of_some _ e
  have S1 : SetAt w (s.heap.push (newSetObj w)) a ns := S.keeps fun o e => k1 a o e
  have T1 : SetAt w (s.heap.push (newSetObj w)) b ms := T.keeps fun o e => k1 b o e
  have R1 : SetAt w (s.heap.push (newSetObj w)) s.heap.objs.size [] := setAt_new (Heap.get?_push_size _ rfl)
  have la : a < s.heap.objs.size := by obtain ⟨o, _, _, _, e, _⟩ := S; exact Heap.lt_size e
  have lb : b < s.heap.objs.size := by obtain ⟨o, _, _, _, e, _⟩ := T; exact Heap.lt_size e
  generalize hs1 : ({ s with heap := s.heap.push (newSetObj w) } : Shared) = s1
  have ks1 : ∀ c o, s.heap.get? c = some o → s1.heap.get? c = some o := fun c o e => by rw [← hs1]; exact k1 c o e
  have S1' : SetAt w s1.heap a ns := by rw [← hs1]; exact S1
  have T1' : SetAt w s1.heap b ms := by rw [← hs1]; exact T1
  have R1' : SetAt w s1.heap s.heap.objs.size [] := by rw [← hs1]; exact R1
  have fin1 : ∀ h' d ks, SetAt w h' s.heap.objs.size ks → (∀ y, y ∈ ks ↔ y ∈ ns ∧ y ∈ ms) → (∀ c o, c ≠ s.heap.objs.size → s1.heap.get? c = some o → h'.get? c = some o) → Q (.ref s.heap.objs.size) { s1 with heap := h', drawn := d } := fun h' d ks q1 q2 q3 => by
    have := h h' d ks q1 q2 fun c o e => q3 c o (Nat.ne_of_lt (Heap.lt_size e)) (ks1 c o e)
    rw [← hs1]; exact this
  show wpAny _ _ (Builtin.Frozenset.addrOf (.ref s.heap.objs.size) >>= _) _ _ _
  refine wpAny_bind (wpAny_pure ?_)
  refine wpAny_bind (wpAny_holding ?_)
  refine wpAny_bind (anySet_of T1' ?_)
  simp only [if_true]
  show wpAny _ _ (Builtin.Frozenset.addrOf (.ref b) >>= _) _ _ _
  refine wpAny_bind (wpAny_pure ?_)
  unfold Builtin.Frozenset.sizeOf
  obtain ⟨oa, ea, pa, ta, hoa, hxa, hda, hea, hma, hna, hba, hfa, hta⟩ := id S1'
  obtain ⟨ob, eb, pb, tb, hob, hxb, hdb, heb, hmb, hnb, hbb, hfb, htb⟩ := id T1'
  refine wpAny_bind (wpAny_bind (wpAny_setEntries_of hob hdb hfb (wpAny_pure ?_)))
  refine wpAny_bind (wpAny_bind (wpAny_setEntries_of hoa hda hfa (wpAny_pure ?_)))
  have core : ∀ (ad wk : Addr) (as ws : List Int) (R' : Unit → Shared → Prop), ad < s.heap.objs.size → wk < s.heap.objs.size → SetAt w s1.heap ad as → SetAt w s1.heap wk ws →
      (∀ h' d ks, SetAt w h' s.heap.objs.size ks → (∀ y, y ∈ ks ↔ y ∈ as ∧ y ∈ ws) → (∀ c o, c ≠ s.heap.objs.size → s1.heap.get? c = some o → h'.get? c = some o) → R' () { s1 with heap := h', drawn := d }) →
      wpAny (model prog w) A (do
        let was ← setEpoch wk
        let lst ← setWalkUnseen wk [ad, s.heap.objs.size] (some s.heap.objs.size)
        forIn lst PUnit.unit fun x _ => do
          holding [x.snd] do
            let fd ← setFind ad x.snd x.fst
            if fd.isSome = true then do
                let _ ← setAddHashed s.heap.objs.size x.snd x.fst
                pure ()
              else pure ()
          Builtin.Frozenset.unchanged idn wk was
          pure (ForInStep.yield PUnit.unit)
        pure ()) R' E s1 := by
    intro ad wk as ws R' lad lwk SA SW q
    obtain ⟨ow, ew, pw, tw, how, hxw, hdw, hew, hmw, hnw, hbw, hfw, htw⟩ := id SW
    refine wpAny_bind (wpAny_setEpoch_of how hdw hfw ?_)
    refine wpAny_bind (walkUnseen_of how hxw hdw hew (by rw [hmw]; exact hnw) (by rw [hmw]; exact hbw) hfw htw (fun c hc => ?_) R1' fun es' h2 d2 p2 sb2 R2 => ?_)
    · rcases List.mem_cons.mp hc with z | z
      · subst z; exact ⟨_, SA⟩
      · have z' : c = s.heap.objs.size := by simpa using z
        subst z'; exact ⟨_, R1'⟩
    · refine wpAny_bind ?_
      refine forIn_arr _ (fun rest _ s' => ∃ h' ks, s' = { s1 with heap := h', drawn := d2 } ∧ SetAt w h' s.heap.objs.size ks ∧ (∀ c o, c ≠ s.heap.objs.size → s1.heap.get? c = some o → h'.get? c = some o) ∧ (∀ e ∈ rest, e ∈ ew.toList) ∧
          (∀ y, y ∈ ks ↔ y ∈ as ∧ y ∈ ws ∧ y ∉ rest.map val) ∧ (rest.map val).Nodup ∧ ks.length + rest.length ≤ ew.size) _ ?_ ?_ es' _ ⟨h2, [], rfl, R2, fun c o hc e => (sb2.2 c hc).trans e, fun e he => p2.mem_iff.mp he, fun y => ?_, (p2.map val).nodup_iff.mpr (by rw [hmw]; exact hnw), ?_⟩
      · rintro ⟨hv, x⟩ rest r s' ⟨h', ks, rfl, SK, kk, hm, hks, hnd, hlen⟩
        obtain ⟨n, tk, e⟩ := hew _ (hm _ List.mem_cons_self)
        have e1 : hv = hashInt n := congrArg Prod.fst e
        have e2 : x = .int n tk := congrArg Prod.snd e
        subst e1; subst e2
        have SA' : SetAt w h' ad as := SA.keeps fun o z => kk ad o (Nat.ne_of_lt lad) z
        have hwk : ∀ g : Heap, (∀ c o, c ≠ s.heap.objs.size → s1.heap.get? c = some o → g.get? c = some o) → g.get? wk = some ow := fun g kg => kg wk ow (Nat.ne_of_lt lwk) how
        have hnw' : n ∈ ws := by
          rw [← hmw]; exact List.mem_map.mpr ⟨_, hm _ List.mem_cons_self, rfl⟩
        have hvn : (((hashInt n, Value.int n tk) :: rest).map val) = n :: rest.map val := rfl
        rw [hvn] at hnd hks
        obtain ⟨hn1, hn2⟩ := List.nodup_cons.mp hnd
        have unch : ∀ (g : Heap) (R'' : ForInStep PUnit → Shared → Prop), (∀ c o, c ≠ s.heap.objs.size → s1.heap.get? c = some o → g.get? c = some o) → R'' (.yield ⟨⟩) { s1 with heap := g, drawn := d2 } →
            wpAny (model prog w) A (do Builtin.Frozenset.unchanged idn wk pw; pure (ForInStep.yield PUnit.unit)) R'' E { s1 with heap := g, drawn := d2 } := fun g R'' kg hR => by
          unfold Builtin.Frozenset.unchanged
          refine wpAny_bind (wpAny_bind (wpAny_setEpoch_of (hwk g kg) hdw hfw ?_))
          rw [if_neg (by simp)]
          exact wpAny_pure (wpAny_pure hR)
        refine wpAny_bind (wpAny_holding ?_)
        refine wpAny_bind (find_int (k := n) (tk := tk) rfl SA' fun fr hfr => ?_)
        by_cases hin : n ∈ as
        · have e3 : fr.isSome = true := by rw [hfr]; exact decide_eq_true hin
          rw [if_pos e3]
          have hroom : ks.length + 1 < scanBound := by
            have z : ew.size < scanBound := by have := hbw; rw [← hmw] at this; simpa using this
            simp only [List.length_cons] at hlen
            have hz : ks.length + 1 ≤ ew.size := by omega
            rcases Nat.lt_or_eq_of_le hz with q1 | q1
            · exact Nat.lt_trans q1 z
            · rw [q1]; exact z
          refine wpAny_bind (add_int (k := n) (tk := tk) (s := { s1 with heap := h', drawn := d2 }) rfl SK hroom fun h3 ks3 sb3 SK3 m3 l3 => ?_)
          refine wpAny_pure ?_
          have kk3 : ∀ c o, c ≠ s.heap.objs.size → s1.heap.get? c = some o → h3.get? c = some o := fun c o hc z => (sb3.2 c hc).trans (kk c o hc z)
          refine unch h3 _ kk3 ⟨h3, ks3, rfl, SK3, kk3, fun e z => hm e (List.mem_cons_of_mem _ z), fun y => ?_, hn2, ?_⟩
          · rw [m3, hks]
            constructor
            · rintro (⟨q1, q2, q3⟩ | rfl)
              · exact ⟨q1, q2, fun z => q3 (List.mem_cons_of_mem _ z)⟩
              · exact ⟨hin, hnw', hn1⟩
            · rintro ⟨q1, q2, q3⟩
              by_cases z : y = n
              · exact .inr z
              · exact .inl ⟨q1, q2, fun z' => (List.mem_cons.mp z').elim z q3⟩
          · simp only [List.length_cons] at hlen; omega
        · have e3 : fr.isSome = false := by rw [hfr]; exact decide_eq_false hin
          rw [if_neg (by rw [e3]; simp)]
          refine wpAny_pure ?_
          refine unch h' _ kk ⟨h', ks, rfl, SK, kk, fun e z => hm e (List.mem_cons_of_mem _ z), fun y => ?_, hn2, ?_⟩
          · rw [hks]
            constructor
            · rintro ⟨q1, q2, q3⟩
              exact ⟨q1, q2, fun z => q3 (List.mem_cons_of_mem _ z)⟩
            · rintro ⟨q1, q2, q3⟩
              exact ⟨q1, q2, fun z' => (List.mem_cons.mp z').elim (fun z => hin (z ▸ q1)) q3⟩
          · simp only [List.length_cons] at hlen; omega
      · rintro _ s' ⟨h', ks, rfl, SK, kk, _, hks, _, _⟩
        exact wpAny_pure (q h' d2 ks SK (fun y => by rw [hks]; simp) kk)
      · constructor
        · intro z; exact absurd z (by simp)
        · rintro ⟨_, z1, z2⟩
          exfalso
          apply z2
          rw [(p2.map val).mem_iff, hmw]; exact z1
      · have := p2.length_eq; simp at this; simp [this]
  by_cases hc : eb.size > ea.size
  · simp only [hc, if_true]
    refine core b a ms ns _ lb la T1' S1' fun h' d ks q1 q2 q3 => ?_
    exact wpAny_pure (fin1 h' d ks q1 (fun y => by rw [q2]; exact And.comm) q3)
  · simp only [hc, if_false]
    refine core a b ns ms _ la lb S1' T1' fun h' d ks q1 q2 q3 => ?_
    exact wpAny_pure (fin1 h' d ks q1 q2 q3)
end
end SetX
namespace SetX
open PySem PyProof.Rows
theorem slot_si_next : Slot "set_iterator" "__next__" "set_iterator.__next__" :=
  .of (owner := "set_iterator") (n := "__next__") (by rw [typeLookup_type, builtinLookup_eq_fast]; kernel_rfl) (by decide +kernel) (by decide +kernel) (by decide +kernel) (by first | exact .inl (by decide +kernel) | exact .inr (by decide +kernel)) (by rw [isSubtype_type]; kernel_rfl)
theorem slot_si_iter : Slot "set_iterator" "__iter__" "set_iterator.__iter__" :=
  .of (owner := "set_iterator") (n := "__iter__") (by rw [typeLookup_type, builtinLookup_eq_fast]; kernel_rfl) (by decide +kernel) (by decide +kernel) (by decide +kernel) (by first | exact .inl (by decide +kernel) | exact .inr (by decide +kernel)) (by rw [isSubtype_type]; kernel_rfl)
theorem entry_si_next : entryFor table "set_iterator.__next__" = some Builtin.«set_iterator.__next__» := by first | exact entryFor_of_tree (by kernel_rfl) | exact entryFor_of_fast (by kernel_rfl)
theorem entry_si_iter : entryFor table "set_iterator.__iter__" = some Builtin.«dict_keyiterator.__iter__» := entryFor_alias (id' := "dict_keyiterator.__iter__") (by kernel_rfl) rfl (by decide +kernel) (by kernel_rfl)
theorem args_si_next (a : Value) : argsOk "set_iterator.__next__" ⟨[a], []⟩ := by unfold argsOk; kernel_rfl
theorem args_si_iter (a : Value) : argsOk "set_iterator.__iter__" ⟨[a], []⟩ := by unfold argsOk; kernel_rfl
theorem entry_set_iter : entryFor table "set.__iter__" = some Builtin.«frozenset.__iter__» := entryFor_alias (id' := "frozenset.__iter__") (by kernel_rfl) rfl (by decide +kernel) (by kernel_rfl)
theorem set_len_lookup : typeLookup (.type "set") "__len__" = pure (some (.builtin "set.__len__")) := by rw [typeLookup_type, builtinLookup_eq_fast]; kernel_rfl
end SetX
end
section
namespace SetX
open PySem PyProof.Rows
section
variable {prog : Program} {w : World} {A : Around} {E : Value → Shared → Prop} {s : Shared}
def SIter (h : Heap) (it : Addr) (first : Value) (i : Nat) (a : Addr) (n ep : Nat) : Prop :=
  h.get? it = some { cls := .type "set_iterator", dict := none, data := .fields #[first, rawInt i, .ref a, rawInt n, rawInt ep], slots := #[] }
theorem siter_self {it a : Addr} {first : Value} {i n ep : Nat} {Q : Value → Shared → Prop} (hit : SIter s.heap it first i a n ep) (h : Q (.ref it) s) : wpAny (model prog w) A (pyIter (.ref it)) Q E s := by
  have hT : s.TypeIs (.ref it) "set_iterator" := ⟨_, hit, rfl⟩
  refine wpAny_pyIter_slot hT slot_si_iter (wpAny_call_entry slot_si_iter hT entry_si_iter ?_ (args_si_iter _))
  show wpAny _ _ (ret (.ref it)) _ _ s
  exact wpAny_pure ⟨_, rfl, "set_iterator", _, hT, slot_si_next.lookup, h⟩
theorem next_slot {it a : Addr} {o : Obj} {es : Array (Int × Value)} {ep : Nat} {t : SetTable} {sl : Int} {i : Nat} {x : Value} {nx : Nat} {Q : Option Value → Shared → Prop} (ho : s.heap.get? a = some o) (hd : o.data = .set es ep t) (hf : t.fits es.size = true)
    (hit : SIter s.heap it (rawInt sl) i a es.size ep) (hn : ∀ (s : Shared) (A : Around) (Q : Option (Value × Nat) → Shared → Prop) (E : Value → Shared → Prop), s.heap.get? a = some o → Q (some (x, nx)) s → wpAny (model prog w) A (setNext a sl.toNat i ep) Q E s)
    (h : ∀ h', SIter h' it (rawInt nx) (i + 1) a es.size ep → Heap.SameBut it s.heap h' → Q (some x) { s with heap := h' }) : wpAny (model prog w) A (pyNext (.ref it)) Q E s := by
  have hT : s.TypeIs (.ref it) "set_iterator" := ⟨_, hit, rfl⟩
  unfold pyNext
  refine wpAny_bind (wpAny_attempt (wpAny_callSpecial?_slot (name := Str.ofString "__next__") hT slot_si_next (wpAny_call_entry slot_si_next hT entry_si_next ?_ (args_si_next _))))
  unfold Builtin.«set_iterator.__next__»
  refine wpAny_bind (wpAny_pure ?_)
  refine wpAny_bind (wpAny_fieldsOf hit rfl ?_)
  show wpAny _ _ (setEntries a >>= _) _ _ _
  refine wpAny_bind (wpAny_setEntries_of ho hd hf ?_)
  rw [if_neg (by simp)]
  show wpAny _ _ (setNext a sl.toNat ((i : Nat) : Int).toNat ((ep : Nat) : Int).toNat >>= _) _ _ _
  simp only [Int.toNat_natCast]
  refine wpAny_bind (hn _ _ _ _ ho ?_)
  dsimp only
  refine wpAny_bind (wpAny_setField_rec hit (by simp) fun h1 e1 sb1 => ?_)
  refine wpAny_bind (wpAny_setField_rec (s := { s with heap := h1 }) e1 (by simp) fun h2 e2 sb2 => ?_)
  have sb2' : Heap.SameBut it h1 h2 := sb2
  refine wpAny_pure ⟨x, rfl, wpAny_pure (h h2 ?_ (sb1.trans sb2'))⟩
  have e2' : h2.get? it = some { cls := .type "set_iterator", dict := none, data := .fields ((#[rawInt sl, rawInt i, .ref a, rawInt es.size, rawInt ep].setIfInBounds 0 (rawInt nx)).setIfInBounds 1 (rawInt ((i : Int) + 1))), slots := #[] } := e2
  unfold SIter
  rw [e2']
  simp [rawInt]
theorem stop_tail {it : Addr} {cls : Value} {vs : Array Value} {Q : Option Value → Shared → Prop} (hh : A.handled = none) (hit : s.heap.get? it = some { cls := cls, dict := none, data := .fields vs, slots := #[] }) (hk : 2 < vs.size) {R : Fin → Shared → Prop} {E' : Value → Shared → Prop}
    (h : ∀ h' e, Heap.ExtBut it s.heap h' → (∃ o, h'.get? e = some o ∧ o.cls = .type "StopIteration") → E' (.ref e) { s with heap := h' }) : wpAny (model prog w) A (do setField (.ref it) 2 .none; raiseNew (← newExc (.type "StopIteration") [])) R E' s := by
  refine wpAny_bind (wpAny_setField_rec hit hk fun h1 e1 sb1 => ?_)
  show wpAny _ _ (newExc (.type "StopIteration") [] >>= _) _ _ _
  refine wpAny_bind ?_; simp only [newExc, newTuple]; refine wpAny_bind (wpAny_newObj_type ?_ (by size_fits))
  refine wpAny_bind (m := firstArgMember _ _) (wpAny_of_eq (a := Value.none) (by first | rfl | (simp only [firstArgMember]; rfl)) ?_); refine wpAny_newObj_type ?_ (by size_fits)
  simp only [raiseNew]; refine wpAny_bind (wpAny_handled ?_); rw [hh]
  refine wpAny_bind (wpAny_pure (wpAny_throw ?_)); exact h _ _ ((sb1.extBut.push _).push _) ⟨_, Heap.get?_push_size _ rfl, rfl⟩
theorem end_slot {it a : Addr} {o : Obj} {es : Array (Int × Value)} {ep : Nat} {t : SetTable} {sl : Int} {i : Nat} {Q : Option Value → Shared → Prop} (hh : A.handled = none) (ho : s.heap.get? a = some o) (hd : o.data = .set es ep t) (hf : t.fits es.size = true)
    (hit : SIter s.heap it (rawInt sl) i a es.size ep) (hn : ∀ (s : Shared) (A : Around) (Q : Option (Value × Nat) → Shared → Prop) (E : Value → Shared → Prop), s.heap.get? a = some o → Q none s → wpAny (model prog w) A (setNext a sl.toNat i ep) Q E s)
    (h : ∀ h', Heap.ExtBut it s.heap h' → Q none { s with heap := h' }) : wpAny (model prog w) A (pyNext (.ref it)) Q E s := by
  have hT : s.TypeIs (.ref it) "set_iterator" := ⟨_, hit, rfl⟩
  unfold pyNext
  refine wpAny_bind (wpAny_attempt (wpAny_callSpecial?_slot (name := Str.ofString "__next__") hT slot_si_next (wpAny_call_entry slot_si_next hT entry_si_next ?_ (args_si_next _))))
  unfold Builtin.«set_iterator.__next__»
  refine wpAny_bind (wpAny_pure ?_)
  refine wpAny_bind (wpAny_fieldsOf hit rfl ?_)
  show wpAny _ _ (setEntries a >>= _) _ _ _
  refine wpAny_bind (wpAny_setEntries_of ho hd hf ?_)
  rw [if_neg (by simp)]
  show wpAny _ _ (setNext a sl.toNat ((i : Nat) : Int).toNat ((ep : Nat) : Int).toNat >>= _) _ _ _
  simp only [Int.toNat_natCast]
  refine wpAny_bind (hn _ _ _ _ ho ?_)
  dsimp only
  refine stop_tail (Q := Q) (A := A.in1) hh hit (by simp) fun h' e eb ⟨oe, q1, q2⟩ => ?_
  refine wpAny_bind (wpAny_isInstance (T := "StopIteration") (b := true) ⟨oe, q1, q2⟩ isSubtype_stop ?_)
  exact wpAny_pure (h _ eb)
theorem next_drawn {it a p : Addr} {o : Obj} {es : Array (Int × Value)} {ep : Nat} {t : SetTable} {ys : List Nat} {i j : Nat} {hx : Int} {x : Value} {Q : Option Value → Shared → Prop} (ho : s.heap.get? a = some o) (hd : o.data = .set es ep t) (hf : t.fits es.size = true)
    (hp : s.heap.get? p = some { cls := .type "tuple", data := .seq (ys.map fun (k : Nat) => rawInt k).toArray }) (hit : SIter s.heap it (.ref p) i a es.size ep) (hy : ys[i]? = some j) (hj : es[j]? = some (hx, x))
    (h : ∀ h', SIter h' it (.ref p) (i + 1) a es.size ep → Heap.SameBut it s.heap h' → Q (some x) { s with heap := h' }) : wpAny (model prog w) A (pyNext (.ref it)) Q E s := by
  have hT : s.TypeIs (.ref it) "set_iterator" := ⟨_, hit, rfl⟩
  unfold pyNext
  refine wpAny_bind (wpAny_attempt (wpAny_callSpecial?_slot (name := Str.ofString "__next__") hT slot_si_next (wpAny_call_entry slot_si_next hT entry_si_next ?_ (args_si_next _))))
  unfold Builtin.«set_iterator.__next__»
  refine wpAny_bind (wpAny_pure ?_)
  refine wpAny_bind (wpAny_fieldsOf hit rfl ?_)
  show wpAny _ _ (setEntries a >>= _) _ _ _
  refine wpAny_bind (wpAny_setEntries_of ho hd hf ?_)
  rw [if_neg (by simp)]
  show wpAny _ _ (seqItems? (.ref p) >>= _) _ _ _
  refine wpAny_bind (wpAny_seqItems hp rfl ?_)
  have e0 : (ys.map fun (k : Nat) => rawInt k).toArray[((i : Nat) : Int).toNat]? = some (rawInt (j : Int)) := by
    rw [Int.toNat_natCast]; simp [hy]
  dsimp only
  show wpAny _ _ (match (ys.map fun (k : Nat) => rawInt k).toArray[((i : Nat) : Int).toNat]? with | some (.int place _) => _ | some _ => _ | none => _) _ _ _
  rw [e0]
  show wpAny _ _ (setNextDrawn a ((j : Nat) : Int).toNat ((ep : Nat) : Int).toNat >>= _) _ _ _
  simp only [Int.toNat_natCast]
  unfold setNextDrawn
  refine wpAny_bind (wpAny_bind (wpAny_setState_of ho hd hf ?_))
  dsimp only
  rw [if_neg (by simp), hj]
  refine wpAny_pure ?_
  refine wpAny_bind (wpAny_setField_rec hit (by simp) fun h2 e2 sb2 => ?_)
  refine wpAny_pure ⟨x, rfl, wpAny_pure (h h2 ?_ sb2)⟩
  unfold SIter
  rw [e2]
  simp [rawInt]
theorem end_drawn {it a p : Addr} {o : Obj} {es : Array (Int × Value)} {ep : Nat} {t : SetTable} {ys : List Nat} {i : Nat} {Q : Option Value → Shared → Prop} (hh : A.handled = none) (ho : s.heap.get? a = some o) (hd : o.data = .set es ep t) (hf : t.fits es.size = true)
    (hp : s.heap.get? p = some { cls := .type "tuple", data := .seq (ys.map fun (k : Nat) => rawInt k).toArray }) (hit : SIter s.heap it (.ref p) i a es.size ep) (hy : ys[i]? = none)
    (h : ∀ h', Heap.ExtBut it s.heap h' → Q none { s with heap := h' }) : wpAny (model prog w) A (pyNext (.ref it)) Q E s := by
  have hT : s.TypeIs (.ref it) "set_iterator" := ⟨_, hit, rfl⟩
  unfold pyNext
  refine wpAny_bind (wpAny_attempt (wpAny_callSpecial?_slot (name := Str.ofString "__next__") hT slot_si_next (wpAny_call_entry slot_si_next hT entry_si_next ?_ (args_si_next _))))
  unfold Builtin.«set_iterator.__next__»
  refine wpAny_bind (wpAny_pure ?_)
  refine wpAny_bind (wpAny_fieldsOf hit rfl ?_)
  show wpAny _ _ (setEntries a >>= _) _ _ _
  refine wpAny_bind (wpAny_setEntries_of ho hd hf ?_)
  rw [if_neg (by simp)]
  show wpAny _ _ (seqItems? (.ref p) >>= _) _ _ _
  refine wpAny_bind (wpAny_seqItems hp rfl ?_)
  have e0 : (ys.map fun (k : Nat) => rawInt k).toArray[((i : Nat) : Int).toNat]? = none := by
    rw [Int.toNat_natCast]; simpa using hy
  dsimp only
  show wpAny _ _ (match (ys.map fun (k : Nat) => rawInt k).toArray[((i : Nat) : Int).toNat]? with | some (.int place _) => _ | some _ => _ | none => _) _ _ _
  rw [e0]
  dsimp only
  refine wpAny_bind (wpAny_setField_rec hit (by simp) fun h2 e2 sb2 => ?_)
  refine stop_tail (Q := Q) (A := A.in1) (s := { s with heap := h2 }) hh e2 (by simp) fun h' e eb ⟨oe, q1, q2⟩ => ?_
  have eb' : Heap.ExtBut it h2 h' := eb
  refine wpAny_bind (wpAny_isInstance (s := { s with heap := h' }) (T := "StopIteration") (b := true) ⟨oe, q1, q2⟩ isSubtype_stop ?_)
  exact wpAny_pure (h _ fun b ob hb z => eb' b ob hb ((sb2.2 b hb).trans z))
end
end SetX
end
section
namespace SetX
open PySem PyProof.Rows
section
variable {prog : Program} {w : World} {A : Around} {E : Value → Shared → Prop} {s : Shared}
theorem setNext_text {a : Addr} {o : Obj} {es : Array (Int × Value)} {ep : Nat} {t : SetTable} {sl i : Nat} {Q : Option (Value × Nat) → Shared → Prop} (ho : s.heap.get? a = some o) (hd : o.data = .set es ep t) (hf : t.fits es.size = true)
    (hb : w.params.followText "set-order" = true) (h : Q (((pickOrder (w.params.setOrder a ep) es)[i]?).map fun e => (e.2, sl)) s) : wpAny (model prog w) A (setNext a sl i ep) Q E s := by
  unfold setNext setsByText
  refine wpAny_bind (wpAny_setState_of ho hd hf ?_); dsimp only
  refine wpAny_bind (wpAny_bind (wpAny_askSetting (wpAny_pure ?_)))
  have hb' : (model prog w).w.params.followText "set-order" = true := hb
  dsimp only
  rw [if_pos hb', if_neg (by simp)]
  unfold setWalk setsByText
  refine wpAny_bind (wpAny_bind (wpAny_setState_of ho hd hf ?_)); dsimp only
  refine wpAny_bind (wpAny_bind (wpAny_askSetting (wpAny_pure ?_)))
  dsimp only
  rw [if_pos hb']
  exact wpAny_bind (wpAny_askSetting (wpAny_pure (wpAny_pure h)))
theorem setNext_led {a : Addr} {o : Obj} {es : Array (Int × Value)} {ep : Nat} {t : SetTable} {sl i : Nat} {Q : Option (Value × Nat) → Shared → Prop} (ho : s.heap.get? a = some o) (hd : o.data = .set es ep t) (hf : t.fits es.size = true)
    (hb : ¬ w.params.followText "set-order" = true) (hl : t.led = true) (hdr : ¬ (!t.plain && decide (es.size > 1)) = true) (h : Q (match es[SetTable.below t.place sl]?, t.place[SetTable.below t.place sl]? with | some (_, x), some j => some (x, j + 1) | _, _ => none) s) :
    wpAny (model prog w) A (setNext a sl i ep) Q E s := by
  unfold setNext setsByText
  refine wpAny_bind (wpAny_setState_of ho hd hf ?_); dsimp only
  refine wpAny_bind (wpAny_bind (wpAny_askSetting (wpAny_pure ?_)))
  have hb' : ¬ (model prog w).w.params.followText "set-order" = true := hb
  dsimp only
  rw [if_neg hb']
  show wpAny _ _ (if (!t.plain && decide (es.size > 1)) = true then _ else _) _ _ _
  rw [if_neg hdr]
  refine wpAny_bind ?_
  show wpAny _ _ (if (!t.led && !es.isEmpty) = true then _ else _) _ _ _
  rw [hl]
  simp only [Bool.not_true, Bool.false_and, Bool.false_eq_true, if_false]
  exact wpAny_pure (wpAny_pure h)
def slotAt (t : SetTable) (i : Nat) : Nat := if i = 0 then 0 else t.place.getD (i - 1) 0 + 1
theorem below_slotAt {t : SetTable} (R : Rise t.place) {i : Nat} (hi : i ≤ t.place.size) : SetTable.below t.place (slotAt t i) = i := by
  obtain ⟨h1, h2, h3⟩ := below_spec R (slotAt t i)
  by_cases h0 : i = 0
  · subst h0
    have e : slotAt t 0 = 0 := by simp [slotAt]
    rw [e] at h2 ⊢
    by_cases z : SetTable.below t.place 0 = 0
    · exact z
    · have := h2 0 (by omega)
      omega
  · have e : slotAt t i = t.place.getD (i - 1) 0 + 1 := by simp [slotAt, h0]
    rw [e] at h1 h2 h3 ⊢
    rcases Nat.lt_trichotomy (SetTable.below t.place (t.place.getD (i - 1) 0 + 1)) i with z | z | z
    · have q := h3 (i - 1) (by omega) (by omega)
      omega
    · exact z
    · have q := h2 i z
      have q2 := R (i - 1) i (by omega) (by omega)
      omega
theorem fits_size {t : SetTable} {n : Nat} (h : t.fits n = true) : t.place.size = n := by
  unfold SetTable.fits at h
  simp only [Bool.and_eq_true, beq_iff_eq] at h
  exact h.1
abbrev Gid : Array GenState → Array GenState → Prop := fun a b => b = a
theorem moved_of {I : Addr} {h' : Heap} (hk : ∀ b o, b ≠ I → s.heap.get? b = some o → h'.get? b = some o) : Moved [I] Gid s { s with heap := h' } := ⟨fun b o hb e => hk b o (fun z => hb (by simp [z])) e, rfl, rfl, rfl, Nat.le_refl _⟩
theorem set_iter {Q : Value → Shared → Prop} {a : Addr} {ns : List Int} (S : SetAt w s.heap a ns)
    (h : ∀ (it : Addr) (fp : List Addr) (P : Nat → Value → Prop) (St : Nat → Shared → Prop) (ord : List (Int × Value)) (s1 : Shared), (∀ A' : Around, A'.handled = none → WalksS prog w A' it fp [it] Gid ord.length P St) → St 0 s1 → (∀ i v, P i v → ∃ e, ord[i]? = some e ∧ v = e.2) → Ent ord → List.Perm (ord.map val) ns →
      (∀ b ∈ fp, b < s1.heap.objs.size) → it ∈ fp → (∀ b o, s.heap.get? b = some o → s1.heap.get? b = some o) → s1.gens = s.gens → s1.os = s.os → s.toks ≤ s1.toks → (∀ i s', St i s' → s'.TypeIs (.ref it) "set_iterator") → (∀ b ∈ fp, b = a ∨ s.heap.objs.size ≤ b) → s.heap.objs.size ≤ it → Q (.ref it) s1) :
    wpAny (model prog w) A (pyIter (.ref a)) Q E s := by
  obtain ⟨o, es, ep, t, ho, hex, hd, he, rfl, hn, hb, hf, ht⟩ := id S
  have hT := S.ty
  have hsz := fits_size hf
  refine wpAny_pyIter_slot hT F.slot_set_iter (wpAny_call_entry F.slot_set_iter hT entry_set_iter ?_ (F.args_set_iter_1 _))
  unfold Builtin.«frozenset.__iter__»
  refine wpAny_bind (m := Builtin.Frozenset.slot0 "__iter__" _) (wpAny_pure ?_)
  unfold Builtin.Frozenset.sizeOf
  refine wpAny_bind (wpAny_bind (wpAny_setEntries_of ho hd hf (wpAny_pure ?_)))
  unfold setDrawn setsByText
  refine wpAny_bind (wpAny_bind (wpAny_setState_of ho hd hf ?_)); dsimp only
  refine wpAny_bind (wpAny_bind (wpAny_askSetting (wpAny_pure ?_)))
  refine wpAny_pure ?_
  show wpAny _ _ (if (!((model prog w).w.params.followText "set-order") && (!t.plain && decide (es.size > 1))) = true then _ else _) _ _ _
  have la : a < s.heap.objs.size := Heap.lt_size ho
  by_cases hdr : (!(w.params.followText "set-order") && (!t.plain && decide (es.size > 1))) = true
  · rw [if_pos (show (!((model prog w).w.params.followText "set-order") && (!t.plain && decide (es.size > 1))) = true from hdr)]
    refine wpAny_bind (drawOrder_of _ _ _ _ (by simp) fun ys d p => ?_)
    have hyl : ys.length = es.size := by have := p.length_eq; simpa using this
    have hz64 : es.size ≤ sizeLine := fits_line (by simpa using hb)
    have hy : ∀ (i : Nat), i < es.size → ∃ j e, ys[i]? = some j ∧ es[j]? = some e := fun i hi => by
      have h1 : i < ys.length := by omega
      have hm : ys[i] ∈ List.range es.size := p.mem_iff.mp (List.getElem_mem h1)
      have hm' : ys[i] < es.size := by simpa using hm
      exact ⟨ys[i], es[ys[i]], by simp [h1], by simp [hm']⟩
    refine wpAny_bind (wpAny_newTuple (items := ys.map fun (i : Nat) => rawInt (i : Int)) ?_ (by rw [List.length_map, hyl]; exact hz64))
    refine wpAny_bind (wpAny_setEpoch_of (o := o) (Heap.get?_push_of_some _ ho) hd hf ?_)
    show wpAny _ _ (newFields "set_iterator" _ >>= _) _ _ _
    refine wpAny_bind (wpAny_newObj_type ?_)
    refine wpAny_pure ⟨_, rfl, ?_⟩
    generalize hh1 : s.heap.push { cls := .type "tuple", data := .seq (List.map (fun (i : Nat) => rawInt (i : Int)) ys).toArray } = h1
    have e1 : h1.objs.size = s.heap.objs.size + 1 := by rw [← hh1]; exact Heap.size_push ..
    have hp1 : h1.get? s.heap.objs.size = some { cls := .type "tuple", data := .seq (ys.map fun (k : Nat) => rawInt k).toArray } := by rw [← hh1]; exact Heap.get?_push_size _ rfl
    have k1 : ∀ b o, s.heap.get? b = some o → h1.get? b = some o := fun b ob z => by rw [← hh1]; exact Heap.get?_push_of_some _ z
    generalize hh2 : h1.push { cls := .type "set_iterator", dict := none, data := .fields [Value.ref s.heap.objs.size, rawInt 0, .ref a, rawInt es.size, rawInt ep].toArray } = h2
    have k2 : ∀ b o, h1.get? b = some o → h2.get? b = some o := fun b ob z => by rw [← hh2]; exact Heap.get?_push_of_some _ z
    have hit : SIter h2 h1.objs.size (.ref s.heap.objs.size) 0 a es.size ep := by rw [← hh2]; exact Heap.get?_push_size _ rfl
    refine ⟨"set_iterator", _, ⟨_, hit, rfl⟩, slot_si_next.lookup, ?_⟩
    have nia : a ≠ h1.objs.size := by rw [e1]; exact Nat.ne_of_lt (Nat.lt_succ_of_lt la)
    have nip : s.heap.objs.size ≠ h1.objs.size := by rw [e1]; exact Nat.ne_of_lt (Nat.lt_succ_self _)
    refine h h1.objs.size [h1.objs.size, a, s.heap.objs.size] (fun i v => ∃ e, (ys.filterMap (es[·]?))[i]? = some e ∧ v = e.2) (fun i s' => SIter s'.heap h1.objs.size (.ref s.heap.objs.size) i a es.size ep ∧ s'.heap.get? a = some o ∧ s'.heap.get? s.heap.objs.size = some { cls := .type "tuple", data := .seq (ys.map fun (k : Nat) => rawInt k).toArray })
      (ys.filterMap (es[·]?)) _ (fun A' hA' => ?_) ⟨hit, k2 _ _ (k1 _ _ ho), k2 _ _ hp1⟩ (fun i v z => z) ?_ ?_ (fun b hb' => ?_) (by simp) (fun b ob z => k2 _ _ (k1 _ _ z)) rfl rfl (Nat.le_refl _) (fun i s' st => ⟨_, st.1, rfl⟩) (fun b hb' => ?_) (by rw [e1]; exact Nat.le_succ _)
    · have hfm : ∀ (i : Nat), (ys.filterMap (es[·]?))[i]? = (ys[i]?).bind (es[·]?) := by
        have all : ∀ l : List Nat, (∀ j ∈ l, j < es.size) → ∀ (i : Nat), (l.filterMap (es[·]?))[i]? = (l[i]?).bind (es[·]?) := by
          intro l
          induction l with
          | nil => intro _ i; simp
          | cons j r ih =>
            intro hl i
            have hj : j < es.size := hl j List.mem_cons_self
            rw [List.filterMap_cons, Array.getElem?_eq_getElem hj]
            dsimp only
            cases i with
            | zero => simp [hj]
            | succ i => simpa using ih (fun j' z => hl j' (List.mem_cons_of_mem _ z)) i
        exact all ys fun j z => by simpa using p.mem_iff.mp z
      have hlen : (ys.filterMap (es[·]?)).length = es.size := by
        have q : List.Perm (ys.filterMap (es[·]?)) es.toList := (p.filterMap _).trans (by rw [filterMap_getElem?_range])
        simpa using q.length_eq
      rw [hlen]
      exact { sub := fun b z => by simp at z; simp [z], grefl := fun _ => rfl, gtrans := fun _ _ _ z1 z2 => z2.trans z1,
              frame := fun i s' h' tk st _ hk => ⟨hk _ (by simp) _ st.1, hk _ (by simp) _ st.2.1, hk _ (by simp) _ st.2.2⟩,
              item := fun i s' Q' E' hi st hQ => by
                obtain ⟨j, e, hj, hej⟩ := hy i hi
                obtain ⟨hx, x⟩ := e
                refine next_drawn st.2.1 hd hf st.2.2 st.1 hj hej fun h' st' sb => hQ x { s' with heap := h' } ⟨(hx, x), by rw [hfm, hj]; exact hej, rfl⟩ ⟨st', (sb.2 _ nia).trans st.2.1, (sb.2 _ nip).trans st.2.2⟩ (moved_of fun b ob hb' z => (sb.2 b hb').trans z),
              done := fun s' Q' E' st hQ => end_drawn hA' st.2.1 hd hf st.2.2 st.1 (by simp [hyl]) fun h' eb => hQ { s' with heap := h' } (moved_of fun b ob hb' z => eb b ob hb' z),
              self := fun i s' Q' E' st hQ => siter_self st.1 hQ }
    · intro e z
      obtain ⟨j, _, hj⟩ := List.mem_filterMap.mp z
      exact he e (by obtain ⟨hj1, hj2⟩ := Array.getElem?_eq_some_iff.mp hj; rw [← hj2]; exact Array.getElem_mem_toList hj1)
    · have q : List.Perm (ys.filterMap (es[·]?)) es.toList := (p.filterMap _).trans (by rw [filterMap_getElem?_range])
      exact q.map val
    · have z2 : h2.objs.size = h1.objs.size + 1 := by rw [← hh2]; exact Heap.size_push ..
      show b < h2.objs.size
      rw [z2, e1]
      simp only [List.mem_cons, List.mem_singleton, List.not_mem_nil, or_false] at hb'
      rcases hb' with z | z | z
      · rw [z, e1]; exact Nat.lt_succ_self _
      · rw [z]; exact Nat.lt_succ_of_lt (Nat.lt_succ_of_lt la)
      · rw [z]; exact Nat.lt_succ_of_lt (Nat.lt_succ_self _)
    · simp only [List.mem_cons, List.mem_singleton, List.not_mem_nil, or_false] at hb'
      rcases hb' with z | z | z
      · right; rw [z, e1]; exact Nat.le_succ _
      · exact .inl z
      · right; rw [z]; exact Nat.le_refl _
  · rw [if_neg (show ¬ (!((model prog w).w.params.followText "set-order") && (!t.plain && decide (es.size > 1))) = true from hdr)]
    refine wpAny_bind (wpAny_pure ?_)
    refine wpAny_bind (wpAny_setEpoch_of ho hd hf ?_)
    show wpAny _ _ (newFields "set_iterator" _ >>= _) _ _ _
    refine wpAny_bind (wpAny_newObj_type ?_)
    refine wpAny_pure ⟨_, rfl, ?_⟩
    generalize hh2 : s.heap.push { cls := .type "set_iterator", dict := none, data := .fields [rawInt 0, rawInt 0, .ref a, rawInt es.size, rawInt ep].toArray } = h2
    have k2 : ∀ b o, s.heap.get? b = some o → h2.get? b = some o := fun b ob z => by rw [← hh2]; exact Heap.get?_push_of_some _ z
    have hit : SIter h2 s.heap.objs.size (rawInt 0) 0 a es.size ep := by rw [← hh2]; exact Heap.get?_push_size _ rfl
    have nia : a ≠ s.heap.objs.size := Nat.ne_of_lt la
    refine ⟨"set_iterator", _, ⟨_, hit, rfl⟩, slot_si_next.lookup, ?_⟩
    have lts : ∀ b ∈ [s.heap.objs.size, a], b < h2.objs.size := fun b hb' => by
      have z2 : h2.objs.size = s.heap.objs.size + 1 := by rw [← hh2]; exact Heap.size_push ..
      rw [z2]
      simp only [List.mem_cons, List.mem_singleton, List.not_mem_nil, or_false] at hb'
      rcases hb' with z | z
      · rw [z]; exact Nat.lt_succ_self _
      · rw [z]; exact Nat.lt_succ_of_lt la
    have go : ∀ (ord : List (Int × Value)) (sl : Nat → Nat), ord.length = es.size → sl 0 = 0 → List.Perm ord es.toList →
        (∀ (i : Nat) (e : Int × Value), ord[i]? = some e → ∀ (s : Shared) (A : Around) (Q : Option (Value × Nat) → Shared → Prop) (E : Value → Shared → Prop), s.heap.get? a = some o → Q (some (e.2, sl (i + 1))) s → wpAny (model prog w) A (setNext a ((sl i : Nat) : Int).toNat i ep) Q E s) →
        (∀ (s : Shared) (A : Around) (Q : Option (Value × Nat) → Shared → Prop) (E : Value → Shared → Prop), s.heap.get? a = some o → Q none s → wpAny (model prog w) A (setNext a ((sl es.size : Nat) : Int).toNat es.size ep) Q E s) →
        Q (.ref s.heap.objs.size) { s with heap := h2 } := by
      intro ord sl hol hsl0 hop hnx hend
      refine h s.heap.objs.size [s.heap.objs.size, a] (fun i v => ∃ e, ord[i]? = some e ∧ v = e.2) (fun i s' => SIter s'.heap s.heap.objs.size (rawInt (sl i)) i a es.size ep ∧ s'.heap.get? a = some o) ord _ (fun A' hA' => ?_) ⟨by rw [hsl0]; exact hit, k2 _ _ ho⟩ (fun i v z => z)
        (he.perm hop) (hop.map val) lts (by simp) (fun b ob z => k2 _ _ z) rfl rfl (Nat.le_refl _) (fun i s' st => ⟨_, st.1, rfl⟩) (fun b hb' => (by
          simp only [List.mem_cons, List.mem_singleton, List.not_mem_nil, or_false] at hb'
          rcases hb' with z | z
          · right; rw [z]; exact Nat.le_refl _
          · exact .inl z)) (Nat.le_refl _)
      rw [hol]
      exact { sub := fun b z => by simp at z; simp [z], grefl := fun _ => rfl, gtrans := fun _ _ _ z1 z2 => z2.trans z1,
              frame := fun i s' h' tk st _ hk => ⟨hk _ (by simp) _ st.1, hk _ (by simp) _ st.2⟩,
              item := fun i s' Q' E' hi st hQ => by
                have hi' : i < ord.length := by omega
                have hoi : ord[i]? = some ord[i] := by simp [hi']
                refine next_slot (x := ord[i].2) (nx := sl (i + 1)) st.2 hd hf st.1 (hnx i _ hoi) fun h' st' sb => hQ _ { s' with heap := h' } ⟨_, hoi, rfl⟩ ⟨st', (sb.2 _ nia).trans st.2⟩ (moved_of fun b ob hb' z => (sb.2 b hb').trans z),
              done := fun s' Q' E' st hQ => end_slot hA' st.2 hd hf st.1 hend fun h' eb => hQ { s' with heap := h' } (moved_of fun b ob hb' z => eb b ob hb' z),
              self := fun i s' Q' E' st hQ => siter_self st.1 hQ }
    by_cases hbt : w.params.followText "set-order" = true
    · have hpp := pickOrder_perm (w.params.setOrder a ep) es
      have hpl : (pickOrder (w.params.setOrder a ep) es).size = es.size := by have := hpp.length_eq; simpa using this
      refine go (pickOrder (w.params.setOrder a ep) es).toList (fun _ => 0) (by simpa using hpl) rfl hpp (fun i e hie s' A' Q' E' ho' q => ?_) fun s' A' Q' E' ho' q => ?_
      · refine setNext_text ho' hd hf hbt ?_
        have : (pickOrder (w.params.setOrder a ep) es)[i]? = some e := by simpa using hie
        rw [this]; exact q
      · refine setNext_text ho' hd hf hbt ?_
        have : (pickOrder (w.params.setOrder a ep) es)[es.size]? = none := by simp [hpl]
        rw [this]; exact q
    · have hl : t.led = true := by rw [ht.led]; unfold ledOf; simp [hbt]
      have hdr' : ¬ (!t.plain && decide (es.size > 1)) = true := fun z => hdr (by rw [z]; simp [hbt])
      refine go es.toList (slotAt t) (by simp) rfl .rfl (fun i e hie s' A' Q' E' ho' q => ?_) fun s' A' Q' E' ho' q => ?_
      · refine setNext_led ho' hd hf hbt hl hdr' ?_
        have hi : i < es.size := by have := (List.getElem?_eq_some_iff.mp hie).1; simpa using this
        rw [Int.toNat_natCast, below_slotAt ht.rise (by omega)]
        have e1 : es[i]? = some e := by simpa using hie
        have e2 : t.place[i]? = some (t.place.getD i 0) := by rw [getD_nat t.place i 0 (by omega)]; simp [show i < t.place.size by omega]
        rw [e1, e2]
        obtain ⟨hx, x⟩ := e
        have e3 : slotAt t (i + 1) = t.place.getD i 0 + 1 := by simp [slotAt]
        rw [e3] at q
        exact q
      · refine setNext_led ho' hd hf hbt hl hdr' ?_
        rw [Int.toNat_natCast, below_slotAt ht.rise (by omega)]
        have e1 : es[es.size]? = none := by simp
        rw [e1]
        exact q
end
end SetX
end
section
namespace SetX
open PySem PyProof.Rows
section
variable {prog : Program} {w : World} {A : Around} {E : Value → Shared → Prop} {s : Shared}
theorem and_setsX {Q : Value → Shared → Prop} {a b : Addr} {ns ms : List Int} (hab : b ≠ a) (S : SetAt w s.heap a ns) (T : SetAt w s.heap b ms)
    (h : ∀ h' d ks, SetAt w h' s.heap.objs.size ks → (∀ y, y ∈ ks ↔ y ∈ ns ∧ y ∈ ms) → (∀ c o, s.heap.get? c = some o → h'.get? c = some o) → Q (.ref s.heap.objs.size) { s with heap := h', drawn := d }) :
    wpAny (model prog w) A (binaryOp .BitAnd (.ref a) (.ref b)) Q E s := by
  refine wpAny_binaryOp_same S.ty T.ty F.fills_set_and F.slot_set_and (wpAny_call_entry F.slot_set_and S.ty entry_set_and ?_ (F.args_set_and_2 _ _))
  show wpAny _ _ (Builtin.Frozenset.slot1 "__and__" ⟨[.ref a, .ref b], []⟩ >>= _) _ _ _
  refine wpAny_bind (wpAny_pure ?_)
  show wpAny _ _ ((Builtin.Frozenset.isAnySet (.ref a) >>= _) >>= _) _ _ _
  refine wpAny_bind (wpAny_bind (anySet_of S ?_))
  show wpAny _ _ (Builtin.Frozenset.isAnySet (.ref b)) _ _ _
  refine anySet_of T ?_
  show wpAny _ _ (Builtin.Frozenset.intersection _ a (.ref b) >>= _) _ _ _
  refine wpAny_bind (inter_of hab S T fun h' d ks q1 q2 q3 => ?_)
  exact wpAny_pure ⟨_, rfl, by simp, h h' d ks q1 q2 q3⟩
theorem len_setX {Q : Value → Shared → Prop} {a : Addr} {ns : List Int} (S : SetAt w s.heap a ns) (h : ∀ t tk, Q (.int ns.length t) { s with toks := tk }) : wpAny (model prog w) A (call (.builtin "len") [.ref a]) Q E s := by
  obtain ⟨o, es, ep, t, ho, hex, hd, he, rfl, hn, hb, hf, ht⟩ := S
  have hz : es.size < scanBound := by simpa using hb
  refine call_len_set ho hex hd hf (by have : scanBound = 4096 := rfl; omega) ?_
  have e : (es.toList.map val).length = es.size := by simp
  rw [e] at h
  exact h _ _
theorem collect_set {Q : List Value → Shared → Prop} {a : Addr} {ns : List Int} (hh : A.handled = none) (S : SetAt w s.heap a ns)
    (h : ∀ s' vs ms, (∀ b o, s.heap.get? b = some o → s'.heap.get? b = some o) → s'.gens = s.gens → s'.os = s.os → s.heap.objs.size ≤ s'.heap.objs.size → IntsAre vs ms → List.Perm ms ns → Q vs s') : wpAny (model prog w) A (collect (.ref a)) Q E s := by
  have la : a < s.heap.objs.size := by obtain ⟨o, _, _, _, e, _⟩ := S; exact Heap.lt_size e
  unfold collect
  refine wpAny_bind (wpAny_runValue (codeAny_builtin F.entry_proto_collect ?_)); rw [Around.under_plainId F.plain_proto_collect _]
  show wpAny _ A.in1 (newList [] >>= fun l => again (.builtin "list.__iadd__" ⟨[l, .ref a], []⟩)) _ _ s
  refine wpAny_bind (wpAny_newObj_type ?_)
  refine wpAny_pure ⟨plainId_quiet F.plain_list_iadd _, codeAny_builtin F.entry_list_iadd ?_⟩; rw [Around.under_plainId F.plain_list_iadd _]
  generalize hh1 : s.heap.push { cls := .type "list", dict := none, data := .seq ([] : List Value).toArray } = h1
  have k1 : ∀ b o, s.heap.get? b = some o → h1.get? b = some o := fun b ob z => by rw [← hh1]; exact Heap.get?_push_of_some _ z
  have hL1 : h1.get? s.heap.objs.size = some { cls := .type "list", dict := none, data := .seq ([] : List Value).toArray } := by rw [← hh1]; exact Heap.get?_push_size _ rfl
  have S1 : SetAt w h1 a ns := S.keeps fun o z => k1 a o z
  have hsame : Builtin.List.listSameRef (.ref s.heap.objs.size) (.ref a) = false := by simp [Builtin.List.listSameRef, Nat.ne_of_gt la]
  show wpAny _ A.in1 (Builtin.List.listExtendWith (.ref s.heap.objs.size) (.ref a) (.ref s.heap.objs.size)) _ _ { s with heap := h1 }
  unfold Builtin.List.listExtendWith
  have T1 : Shared.TypeIs { s with heap := h1 } (.ref a) "set" := SetAt.ty (s := { s with heap := h1 }) S1
  refine wpAny_bind (wpAny_typeOf T1 ?_)
  rw [if_neg (by rw [hsame]; decide)]
  refine wpAny_bind (set_iter (s := { s with heap := h1 }) S1 fun it fp P St ord s2 W st0 hP hE hp hlt hI kk kg ko kt hTy hfpA hitA => ?_)
  refine wpAny_bind (wpAny_holding ?_)
  unfold Builtin.List.listLengthHint
  have S2 : SetAt w s2.heap a ns := S1.keeps fun o z => kk a o z
  refine wpAny_bind (wpAny_specialOf S2.ty set_len_lookup ?_)
  (generalize hid : ("set.__len__" : String) = id0; wp_delta; rw [show splitId id0 = some ("set", "__len__") from by subst hid; decide +kernel]; subst hid)
  refine wpAny_bind (wpAny_isInstance (b := true) S2.ty sub_set_self ?_)
  simp only [Bool.not_true, Bool.false_eq_true, if_false]
  rw [if_pos (by decide +kernel)]
  refine wpAny_bind (wpAny_typeOf S2.ty ?_)
  dsimp only
  refine wpAny_pure ?_
  rw [if_pos (by decide +kernel)]
  refine wpAny_bind (wpAny_rule ?_)
  have hL2 : s2.heap.get? s.heap.objs.size = some (seqObj "list" #[] 0) := kk _ _ hL1
  have hol : ord.length ≤ sizeLine := by
    have e1 := hp.length_eq
    obtain ⟨o, es, ep, t, _, _, _, _, _, _, hb, _, _⟩ := S
    rw [List.length_map] at e1
    exact fits_line (by omega)
  unfold Builtin.List.listTouch
  refine wpAny_bind (wpAny_bind (listUpdate_at hL2 rfl ?_))
  have q1 := get?_update_seq hL2 (·.push .none)
  refine listUpdate_at q1 rfl ?_
  have q2 := get?_update_seq q1 (·.pop)
  have nS : s.heap.objs.size ∉ fp := fun z => by
    rcases hfpA _ z with e | e
    · exact Nat.ne_of_gt la e
    · have e' : h1.objs.size ≤ s.heap.objs.size := e
      rw [← hh1, Heap.size_push] at e'
      exact absurd e' (Nat.not_succ_le_self _)
  have WW := W A.in1 hh
  have st3 := WW.frame 0 s2 ((s2.heap.update s.heap.objs.size (Obj.mapSeq (·.push .none))).update s.heap.objs.size (Obj.mapSeq (·.pop))) s2.toks st0 (Nat.le_refl _) fun b hb o z => by
    have nb : s.heap.objs.size ≠ b := fun e => nS (e ▸ hb)
    rw [Heap.get?_update_other _ _ nb, Heap.get?_update_other _ _ nb]; exact z
  refine wpAny_pure ⟨plainId_quiet F.plain_extend_loop _, codeAny_extend_loopS WW hol s.heap.objs.size nS _ ord.length 0 _ #[] _ (Nat.sub_zero _) (Nat.zero_le _) st3 q2 (ItemsOf.nil P) fun s' acc c mv hS' hacc => ?_⟩
  show wpAny _ A (load s.heap.objs.size >>= _) _ _ s'
  refine wpAny_bind (wpAny_load hS' ?_)
  refine wpAny_pure ?_
  have hIA : IntsAre acc.toList (ord.map val) := by
    have all : ∀ (vs : List Value) (l : List (Int × Value)), vs.length = l.length → (∀ (i : Nat) (v : Value), vs[i]? = some v → ∃ e, l[i]? = some e ∧ v = e.2) → Ent l → IntsAre vs (l.map val) := by
      intro vs
      induction vs with
      | nil =>
        intro l hl _ _
        have e : l = [] := List.length_eq_zero_iff.mp hl.symm
        subst e; exact .nil
      | cons v r ih =>
        intro l hl hv hE'
        cases l with
        | nil => simp at hl
        | cons e l =>
          obtain ⟨e', q1, q2⟩ := hv 0 v rfl
          have q1' : e = e' := by simpa using q1
          subst q1'
          obtain ⟨n, t, rfl⟩ := hE' e List.mem_cons_self
          subst q2
          exact .cons n t (ih l (by simpa using hl) (fun i v z => by simpa using hv (i + 1) v (by simpa using z)) fun e z => hE' e (List.mem_cons_of_mem _ z))
    refine all acc.toList ord (by simpa using hacc.1) (fun i v z => hP i v (hacc.2 i v (by simpa using z))) hE
  refine h s' acc.toList _ (fun b o z => ?_) ?_ ?_ (Nat.le_of_lt (Heap.lt_size hS')) hIA hp
  · have z1 := kk b o (k1 b o z)
    have nb : b ≠ s.heap.objs.size := Nat.ne_of_lt (Heap.lt_size z)
    have nbI : b ∉ s.heap.objs.size :: [it] := fun y => by
      rcases List.mem_cons.mp y with e | e
      · exact nb e
      · have e' : b = it := by simpa using e
        have q' : h1.objs.size ≤ it := hitA
        rw [← e', ← hh1, Heap.size_push] at q'
        exact absurd (Nat.lt_of_lt_of_le (Nat.lt_succ_of_lt (Heap.lt_size z)) q') (Nat.lt_irrefl _)
    refine mv.heap b o nbI ?_
    show ((s2.heap.update s.heap.objs.size (Obj.mapSeq (·.push .none))).update s.heap.objs.size (Obj.mapSeq (·.pop))).get? b = some o
    rw [Heap.get?_update_other _ _ (Ne.symm nb), Heap.get?_update_other _ _ (Ne.symm nb)]; exact z1
  · have z : s'.gens = s2.gens := mv.gens
    rw [z, kg]
  · have z : s'.os = s2.os := mv.os
    rw [z, ko]
theorem sorted_set {Q : Value → Shared → Prop} {a : Addr} {ns : List Int} (hh : A.handled = none) (S : SetAt w s.heap a ns) (h64 : ns.length < 64)
    (h : ∀ s' l vs ms n, (∀ b o, s.heap.get? b = some o → s'.heap.get? b = some o) → s'.gens = s.gens → s'.os = s.os → s.heap.objs.size ≤ l → s'.heap.get? l = some (seqObj "list" vs.toArray n) → IntsAre vs ms → List.Perm ms ns → ms.Pairwise (· ≤ ·) → Q (.ref l) s') :
    wpAny (model prog w) A (call (.builtin "sorted") [.ref a]) Q E s := by
  refine Calls.call_function_entry kind_sorted plain_sorted entry_sorted (args_sorted1 _) ?_
  unfold Builtin.«sorted»
  refine wpAny_bind (m := checkCount "sorted" 1 1 _) (wpAny_pure ?_)
  refine wpAny_bind (collect_set hh S fun s1 vs ms k1 g1 o1 hz hI hp => ?_)
  have hvl : vs.length < 64 := by rw [IntsAre.length hI, hp.length_eq]; exact h64
  refine wpAny_bind (wpAny_newList ?_ (by rw [sizeLine_eq]; omega))
  have hL : (s1.heap.push (seqObj "list" vs.toArray 0)).get? s1.heap.objs.size = some (seqObj "list" vs.toArray 0) := Heap.get?_push_size _ rfl
  refine wpAny_bind (wpAny_holding (wpAny_call_entry slot_list_sort ⟨_, hL, rfl⟩ entry_list_sort (list_sort_tree (s := { s1 with heap := s1.heap.push (seqObj "list" vs.toArray 0) }) hL hI hvl fun out ns' a1 a2 a3 => ⟨_, rfl, ?_⟩) (args_list_sort _)))
  obtain ⟨n1, e1⟩ := sortedHeap_at (vs := vs) (out := out) hL
  refine wpAny_pure ⟨_, rfl, h _ s1.heap.objs.size out.toList ns' _ (fun b o z => ?_) g1 o1 hz (by simpa using e1) a1 (a2.trans hp) a3⟩
  have lb : b < s1.heap.objs.size := Heap.lt_size (k1 b o z)
  show (sortedHeap (s1.heap.push (seqObj "list" vs.toArray 0)) s1.heap.objs.size vs out).get? b = some o
  rw [sortedHeap_old (Nat.ne_of_lt lb) (by rw [size_push']; exact Nat.lt_succ_of_lt lb)]
  exact Heap.get?_push_of_some _ (k1 b o z)
end
end SetX
end
section
namespace L2
open PySem PySem.Spec PyProof.Rows
def clo (env : Env) : List (Str × NameKind) → List (Str × Addr) → List (Str × Addr)
  | [], acc => acc
  | (n, k) :: r, acc => if k == .free then (match env.cells.lookup n with | some c => clo env r ((n, c) :: acc) | none => clo env r acc) else clo env r acc
theorem clo_from {env : Env} {x : Str} {c : Addr} : ∀ {names : List (Str × NameKind)} {acc : List (Str × Addr)}, (∀ y d, acc.lookup y = some d → env.cells.lookup y = some d) → (clo env names acc).lookup x = some c → env.cells.lookup x = some c
  | [], acc, ha, h => ha x c h
  | (n, k) :: r, acc, ha, h => by
    unfold clo at h
    by_cases hk : (k == NameKind.free) = true
    · rw [if_pos hk] at h
      cases e : env.cells.lookup n with
      | none => rw [e] at h; exact clo_from ha h
      | some d =>
        rw [e] at h
        refine clo_from (fun y d' hy => ?_) h
        rw [List.lookup_cons] at hy
        cases q : y == n with
        | true =>
          rw [q] at hy
          have q' : y = n := eq_of_beq q
          subst q'
          cases hy
          exact e
        | false => rw [q] at hy; exact ha y d' hy
    · rw [if_neg hk] at h; exact clo_from ha h
theorem clo_acc {env : Env} {x : Str} {c : Addr} (hc : env.cells.lookup x = some c) : ∀ {names : List (Str × NameKind)} {acc : List (Str × Addr)}, (acc.lookup x = some c ∨ (x, NameKind.free) ∈ names) → (clo env names acc).lookup x = some c
  | [], acc, h => by
    rcases h with h | h
    · exact h
    · exact absurd h (by simp)
  | (n, k) :: r, acc, h => by
    unfold clo
    by_cases hk : (k == NameKind.free) = true
    · rw [if_pos hk]
      have hk' : k = NameKind.free := eq_of_beq hk
      by_cases hx : x = n
      · subst hx
        rw [hc]
        exact clo_acc hc (.inl (by rw [List.lookup_cons]; simp))
      · have h' : acc.lookup x = some c ∨ (x, NameKind.free) ∈ r := by
          rcases h with h | h
          · exact .inl h
          · rcases List.mem_cons.mp h with e | e
            · exact absurd (congrArg Prod.fst e) hx
            · exact .inr e
        cases e : env.cells.lookup n with
        | none => exact clo_acc hc h'
        | some d =>
          refine clo_acc hc (h'.imp (fun q => ?_) id)
          rw [List.lookup_cons]
          have hb : (x == n) = false := beq_eq_false_iff_ne.mpr hx
          rw [hb]
          exact q
    · rw [if_neg hk]
      refine clo_acc hc (h.imp id fun q => ?_)
      rcases List.mem_cons.mp q with e | e
      · exfalso
        have : k = NameKind.free := (congrArg Prod.snd e).symm
        exact hk (by rw [this]; rfl)
      · exact e
theorem closureFor_clo {scope : Scope} {env : Env} (h : ∀ x ∈ scope.names, x.2 = .free → ∃ c, env.cells.lookup x.1 = some c) : closureFor scope env = pure (clo env scope.names []) := by
  have go : ∀ (names : List (Str × NameKind)) (acc : List (Str × Addr)), (∀ x ∈ names, x.2 = .free → ∃ c, env.cells.lookup x.1 = some c) →
      (forIn names acc fun x cs => (match x with | (name, kind) => if (kind == .free) = true then do let c ← cellOf env name; pure (ForInStep.yield ((name, c) :: cs)) else pure (ForInStep.yield cs) : Sem (ForInStep (List (Str × Addr))))) = (pure (clo env names acc) : Sem (List (Str × Addr))) := by
    intro names
    induction names with
    | nil => intro acc _; rfl
    | cons p r ih =>
      intro acc hp
      obtain ⟨n, k⟩ := p
      have hr := fun x hx => hp x (List.mem_cons_of_mem _ hx)
      rw [List.forIn_cons]
      unfold clo
      by_cases hk : (k == NameKind.free) = true
      · obtain ⟨c, hc⟩ := hp (n, k) List.mem_cons_self (eq_of_beq hk)
        have hco : cellOf env n = pure c := by unfold cellOf; simp only at hc; rw [hc]
        simp only [hk, if_true, hco]
        simp only at hc
        rw [hc]
        exact ih ((n, c) :: acc) hr
      · simp only [hk, if_false]
        exact ih acc hr
  unfold closureFor
  dsimp only
  rw [go scope.names [] h]
  rfl
theorem lookup_relabel_free {env : Env} : ∀ {names : List (Str × NameKind)} {x : Str}, names.lookup x = some .free →
    (names.map fun (n, k) => if (k == NameKind.free && env.scope.kind == .function && env.kindOf n == some .cell) then (n, NameKind.cell) else (n, k)).lookup x = some .cell ∨
    (names.map fun (n, k) => if (k == NameKind.free && env.scope.kind == .function && env.kindOf n == some .cell) then (n, NameKind.cell) else (n, k)).lookup x = some .free
  | [], _, h => by simp at h
  | (n, k) :: r, x, h => by
    have ih := @lookup_relabel_free env r x
    show List.lookup x ((if (k == NameKind.free && env.scope.kind == .function && env.kindOf n == some .cell) = true then (n, NameKind.cell) else (n, k)) :: _) = _ ∨ List.lookup x ((if (k == NameKind.free && env.scope.kind == .function && env.kindOf n == some .cell) = true then (n, NameKind.cell) else (n, k)) :: _) = _
    cases hx : x == n with
    | true =>
      simp only [List.lookup_cons, hx] at h
      cases h
      by_cases hc : (NameKind.free == NameKind.free && env.scope.kind == .function && env.kindOf n == some .cell) = true
      · rw [if_pos hc]; simp only [List.lookup_cons, hx]; exact .inl trivial
      · rw [if_neg hc]; simp only [List.lookup_cons, hx]; exact .inr trivial
    | false =>
      simp only [List.lookup_cons, hx] at h
      by_cases hc : (k == NameKind.free && env.scope.kind == .function && env.kindOf n == some .cell) = true
      · rw [if_pos hc]; simp only [List.lookup_cons, hx]; exact ih h
      · rw [if_neg hc]; simp only [List.lookup_cons, hx]; exact ih h
def compX (X : Cx) (scope : Scope) (N' : List Str) (s : Shared) (H : Hp) (fp : List Addr) (C : Addr) : Cx :=
  { prog := X.prog, w := X.w, K := X.K, mg := X.mg, base := X.base, A := X.A, N := N', s₀ := s, H₀ := H, env := compEnvC scope (clo X.env scope.names []) C X.env, outer := X.stack, stack := X.stack, ex := fp, fn := fun _ => false,
    calm := X.calm, pn := [], xe := fun _ _ => False }
structure CompSc (N : List Str) (sc0 scope : Scope) (own fr : List Str) (js : List Nat) : Prop where
  kind : scope.kind = .function
  cell : ∀ y ∈ scope.names, y.2 ≠ .cell
  loc : ∀ x ∈ scope.names, x.2 = .local → scope.names.lookup x.1 = some .local
  free : ∀ x ∈ scope.names, x.2 = .free → sc0.names.lookup x.1 = some .cell ∨ sc0.names.lookup x.1 = some .free
  len : js.length = fr.length
  fr : ∀ p ∈ fr.zip js, N[p.2]? = some p.1 ∧ scope.names.lookup p.1 = some .free
def stOf (own : Nat) (js : List Nat) (σ : St) : St := List.replicate own none ++ js.map fun j => (σ[j]?).join
def tComp (wi : TI) (g : TG) (te : TE) (own : Nat) (js : List Nat) : TE := fun σ H Q => wi σ H fun J H1 => ∀ p, H1 p = none → ∃ W : Nat → Nat → St → Hp → Prop, (∃ m, W 0 m (stOf own js σ) (upd H1 p (.lst []))) ∧
  ∀ i m σ' H', W i m σ' H' → (J.stop i H' ∧ Q (.ref p) H') ∨ (J.go i H' ∧ ∀ x H2, J.yld i H' x H2 → g x σ' H2 fun σ2 H3 => te σ2 H3 fun v H4 => ∃ ys, H4 p = some (.lst ys) ∧ ys.length < sizeLine ∧ ∃ m', m' < m ∧ W (i + 1) m' σ2 (upd H4 p (.lst (ys ++ [v]))))
section
variable {X : Cx}
theorem comp_start {pins : List (Addr × Obj)} {σ : St} {H : Hp} {s : Shared} {h1 : Heap} {scope : Scope} {own fr : List Str} {js : List Nat} {sc0 : Scope} {N : List Str} {fp : List Addr} {tk : Nat} (I : Inv X pins σ H s) (hN : X.N = N) (hsc : X.env.scope = sc0) (S : CompSc N sc0 scope own fr js) (hf : ∀ b ∈ fp, FpOk X pins H b)
    (hlt : ∀ b ∈ fp, b < s.heap.objs.size) (hn : h1.Ns s.heap.objs.size (fun _ => none)) (hk : ∀ b o, s.heap.get? b = some o → h1.get? b = some o) :
    Inv (compX X scope (own ++ fr) s H fp s.heap.objs.size) [] (stOf own.length js σ) H { s with heap := h1, toks := tk } := by
  subst hN hsc
  have ok := I.ok
  have cl : ∀ x c, (clo X.env scope.names []).lookup x = some c → X.env.cells.lookup x = some c := fun x c h => clo_from (fun y d hy => by simp at hy) h
  have hasC : ∀ x, (X.env.scope.names.lookup x = some .cell ∨ X.env.scope.names.lookup x = some .free) → ∃ c, X.env.cells.lookup x = some c := fun x hx => ok.has x hx
  refine ⟨⟨ok.mod, S.kind, ok.glob, ok.blt, Nat.le_refl _, fun x y c h1 h2 => ok.inj x y c (cl x c h1) (cl y c h2), fun x hx => ?_, fun _ _ h => (Bool.false_ne_true h).elim, ok.hd, ok.frames, .inl rfl, fun b hb => ⟨Nat.ne_of_lt (hlt b hb), fun x c h => (hf b hb).2.2.2.2.1 x c (cl x c h)⟩,
    fun b o e => I.bs b o e, Nat.le_trans ok.bsz I.sz, fun b o e hb => ?_, fun b hb => fun z => ?_, I.stack, I.stkFree⟩, rfl, I.bare, Un.kept hk, ⟨_, hn, fun i x v h1 h2 h3 => ?_⟩, fun x c h => ?_, I.hok.fresh (Nat.le_refl _), fun x c h => I.freeC x c (cl x c h), fun p hp => absurd hp (by intro z; exact absurd (show p ∈ ([] : List (Addr × Obj)) from z) (by simp)), I.hok.kept hk, ?_⟩
  · -- a cell for each name that is drawn
    have hx' : (relabel scope X.env).names.lookup x = some .cell ∨ (relabel scope X.env).names.lookup x = some .free := hx
    have hfree : ∃ k, scope.names.lookup x = some k ∧ (k = .free ∨ k = .cell) := by
      have back : ∀ (names : List (Str × NameKind)), ((names.map fun (n, k) => if (k == NameKind.free && X.env.scope.kind == .function && X.env.kindOf n == some .cell) then (n, NameKind.cell) else (n, k)).lookup x = some .cell ∨
          (names.map fun (n, k) => if (k == NameKind.free && X.env.scope.kind == .function && X.env.kindOf n == some .cell) then (n, NameKind.cell) else (n, k)).lookup x = some .free) → ∃ k, names.lookup x = some k ∧ (k = .free ∨ k = .cell) := by
        intro names
        induction names with
        | nil => intro h; simp at h
        | cons p r ih =>
          obtain ⟨n, k⟩ := p
          intro h
          rw [List.map_cons] at h
          rw [List.lookup_cons]
          by_cases hc : (k == NameKind.free && X.env.scope.kind == .function && X.env.kindOf n == some .cell) = true
          · simp only [hc, if_true, List.lookup_cons] at h
            cases q : x == n with
            | true =>
              simp only [Bool.and_eq_true] at hc
              exact ⟨k, rfl, .inl (eq_of_beq hc.1.1)⟩
            | false => rw [q] at h; exact ih h
          · simp only [hc, Bool.false_eq_true, if_false, List.lookup_cons] at h
            cases q : x == n with
            | true =>
              rw [q] at h
              refine ⟨k, rfl, ?_⟩
              rcases h with h | h
              · exact .inr (Option.some.inj h)
              · exact .inl (Option.some.inj h)
            | false => rw [q] at h; exact ih h
      exact back _ hx'
    obtain ⟨k, e, z⟩ := hfree
    have hm : (x, k) ∈ scope.names := PySem.mem_of_lookup e
    rcases z with z | z
    · subst z
      obtain ⟨c, hc⟩ := hasC x (S.free _ hm rfl)
      exact ⟨c, clo_acc hc (.inr hm)⟩
    · exact absurd z (S.cell _ hm)
  · rcases (hf b hb).2.2.2.1 with z | z
    · exact ok.noex b o e z
    · exact absurd (Nat.lt_of_lt_of_le (Heap.lt_size (ok.bs b o e).1) z) (Nat.lt_irrefl _)
  · rcases List.mem_cons.mp (I.stkSub b z) with e | e
    · exact (hf b hb).2.1 e
    · exact (hf b hb).2.2.1 e
  · unfold stOf at h2
    by_cases hi : i < own.length
    · rw [List.getElem?_append_left (by simpa using hi), List.getElem?_replicate] at h2
      rw [if_pos hi] at h2
      cases h2
    · have hio : own.length ≤ i := Nat.le_of_not_lt hi
      rw [List.getElem?_append_right (by simpa using hio), List.length_replicate, List.getElem?_map] at h2
      have h1' : fr[i - own.length]? = some x := by
        have h1'' : (own ++ fr)[i]? = some x := h1
        rw [List.getElem?_append_right hio] at h1''
        exact h1''
      cases ej : js[i - own.length]? with
      | none => rw [ej] at h2; cases h2
      | some j =>
        rw [ej] at h2
        have h2' : (σ[j]?).join = some v := Option.some.inj h2
        have h2'' : σ[j]? = some (some v) := by
          cases q : σ[j]? with
          | none => rw [q] at h2'; cases h2'
          | some o => rw [q] at h2'; have : o = some v := h2'; rw [this]
        have hz : (x, j) ∈ fr.zip js := by
          refine List.mem_iff_getElem?.mpr ⟨i - own.length, ?_⟩
          rw [List.getElem?_zip_eq_some]
          exact ⟨h1', ej⟩
        obtain ⟨hj, hxf⟩ := S.fr _ hz
        have hcf := S.free _ (PySem.mem_of_lookup hxf) rfl
        obtain ⟨m, hm, hl⟩ := I.loc
        have hvis : Vis X.env.scope x := hcf.elim (fun z => .inr (.inl z)) fun z => .inr (.inr z)
        obtain ⟨u, r, l⟩ := hl j x v hj h2'' hvis
        refine ⟨u, r, .inr ⟨lookup_relabel_free hxf, ?_⟩⟩
        rcases l with ⟨lk, _⟩ | ⟨_, c, hc, hcell⟩
        · have lk' : X.env.scope.names.lookup x = some .local := lk
          rcases hcf with z | z
          · rw [lk'] at z; cases z
          · rw [lk'] at z; cases z
        · exact ⟨c, clo_acc hc (.inr (PySem.mem_of_lookup hxf)), hcell.keeps hk⟩
  · obtain ⟨v, z⟩ := I.cell x c (cl x c h)
    exact ⟨v, z.keeps hk⟩
  · show (stOf own.length js σ).length = (own ++ fr).length
    unfold stOf
    rw [List.length_append, List.length_replicate, List.length_map, List.length_append, S.len]
theorem compTurn_list1' (elt target iter : Expr) (scope : Scope) (pos : Pos) (it acc : Value) (env : Env) :
    compTurn (.ListComp elt [⟨target, iter, [], 0⟩] scope pos) 0 it acc env = (standAt iter.pos >>= fun _ => pyNext it >>= fun r => match r with
      | none => pure (.done .next)
      | some v => letOwnedTupleGo target it v >>= fun _ => assign target env v >>= fun _ =>
        (eval elt env >>= fun x => call (.builtin "list.append") [acc, x] >>= fun _ => pure ()) >>= fun _ =>
          again (.compLoop (.ListComp elt [⟨target, iter, [], 0⟩] scope pos) 0 it acc env)) := by rfl
theorem codeAny_compLoop_any {prog : Program} {w : World} {A : Around} {s : Shared} {R : Result → Shared → Prop} {elt target iter : Expr} {scope : Scope} {pos : Pos} {it acc : Value} {env : Env} (I : Nat → Shared → Prop)
    (turn : ∀ n s, I n s → wpAny (model prog w) A (pyNext it) (fun r s₁ => match r with
      | none => R (.ok .next) s₁
      | some v => wpAny (model prog w) A (letOwnedTupleGo target it v) (fun _ s₁' => wpAny (model prog w) A (assign target env v) (fun _ s₂ => wpAny (model prog w) A (eval elt env) (fun x s₃ =>
          wpAny (model prog w) A (call (.builtin "list.append") [acc, x]) (fun _ s₄ => ∃ m, m < n ∧ I m s₄) (fun _ _ => False) s₃)
          (fun _ _ => False) s₂) (fun _ _ => False) s₁') (fun _ _ => False) s₁) (fun _ _ => False) s)
    (n : Nat) (h : I n s) :
    codeAny (model prog w) A (.compLoop (.ListComp elt [⟨target, iter, [], 0⟩] scope pos) 0 it acc env) R s := by
  refine codeAny_loop rfl I (fun n s hI => ?_) n h
  show wpAny _ _ ((compTurn (.ListComp elt [⟨target, iter, [], 0⟩] scope pos) 0 it acc env).onRaise (fun x => do noteFrame x env; theTreesLotGoes x)) _ _ s
  refine wpAny_noted ?_
  rw [compTurn_list1']
  refine wpAny_bind (wpAny_standAt (wpAny_bind (wpAny_mono (turn n s hI) (fun r s₁ h₁ => ?_) fun _ _ h' => h'.elim)))
  cases r with
  | none => exact wpAny_pure h₁
  | some v =>
    exact wpAny_bind (wpAny_mono h₁ (fun _ s₁' h₁' => wpAny_bind (wpAny_mono h₁' (fun _ s₂ h₂ => wpAny_bind (wpAny_bind (wpAny_mono h₂ (fun x s₃ h₃ => wpAny_bind (wpAny_mono h₃
      (fun _ s₄ h₄ => wpAny_pure (wpAny_pure ⟨rfl, h₄⟩)) fun _ _ h' => h'.elim)) fun _ _ h' => h'.elim))) fun _ _ h' => h'.elim)) fun _ _ h' => h'.elim)
theorem pe_comp {tg iter elt : Expr} {scope : Scope} {pos : Pos} {wi : TI} {g : TG} {te : TE} (own fr : List Str) (js : List Nat) {sc0 : Scope} {N : List Str} (hc : X.calm = true) (hN : X.N = N) (hsc : X.env.scope = sc0) (S : CompSc N sc0 scope own fr js)
    (hi : PI X tg iter wi) (hg : ∀ s H fp C, PG (compX X scope (own ++ fr) s H fp C) tg g) (he : ∀ s H fp C, PE (compX X scope (own ++ fr) s H fp C) elt te)
    (hs : ∀ x, foldedSetIterable iter X.env x = pure x := by intro _; rfl) : PE X (.ListComp elt [⟨tg, iter, [], 0⟩] scope pos) (tComp wi g te own.length js) := by
  intro pins s σ H Q I h
  rw [eval_ListComp]
  have hclos : closureFor scope X.env = pure (clo X.env scope.names []) := closureFor_clo fun x hx e => by
    subst hsc
    exact I.ok.has x.1 (S.free x hx e)
  refine wpAny_comprehension_free (use := none) rfl hs hclos S.kind S.loc (thn (hi pins s σ H _ I h) fun xv s1 h1 => thn h1 fun itv s2 h2 => ?_)
  obtain ⟨it, fp, tn, J, H2, e, I2, T, st2, f2, rest⟩ := h2
  subst e
  refine wpAny_newObj_type ?_
  obtain ⟨W, ⟨m0, w0⟩, turn⟩ := rest s2.heap.objs.size (I2.hok.fresh (Nat.le_refl _))
  have I3 : Inv X pins σ (upd H2 s2.heap.objs.size (.lst [])) { s2 with heap := s2.heap.push { cls := .type "list", dict := none, data := .seq ([] : List Value).toArray } } :=
    I2.lnew (its := []) (t' := s2.toks) .nil (Nat.zero_le _)
  generalize hs3 : ({ s2 with heap := s2.heap.push { cls := .type "list", dict := none, data := .seq ([] : List Value).toArray } } : Shared) = s3 at I3 ⊢
  have ho3 : ∀ b o, s2.heap.get? b = some o → s3.heap.get? b = some o := fun b o e => by rw [← hs3]; exact Heap.get?_push_of_some _ e
  have f3 : ∀ b ∈ fp, FpOk X pins (upd H2 s2.heap.objs.size (.lst [])) b := fun b hb => by
    obtain ⟨o, e, _⟩ := T.obj _ _ st2 b hb
    exact ⟨by rw [upd_ne (Nat.ne_of_lt (Heap.lt_size e))]; exact (f2 b hb).1, (f2 b hb).2⟩
  have l3 : ∀ b ∈ fp, b < s3.heap.objs.size := fun b hb => by
    obtain ⟨o, e, _⟩ := T.obj _ _ st2 b hb
    exact Heap.lt_size (ho3 b o e)
  have st3 : tn 0 s3.heap := T.keep _ _ _ st2 fun b _ o e => ho3 b o e
  refine wpAny_newFunctionEnv S.cell (by intro y hy; simp at hy) (fun h4 hn4 sb4 => ?_) S.kind
  have ho4 : ∀ b o, s3.heap.get? b = some o → h4.get? b = some o := fun b o e => sb4.extBut b o (Nat.ne_of_lt (Heap.lt_size e)) (Heap.get?_push_of_some _ e)
  have hn4' : h4.Ns s3.heap.objs.size (fun _ => none) := hn4
  have J0 := comp_start (scope := scope) (own := own) (fr := fr) (js := js) (tk := s3.toks + ([] : List (Str × Value)).length) I3 hN hsc S f3 l3 hn4' ho4
  have st4 : tn 0 h4 := T.keep _ _ _ st3 fun b _ o e => ho4 b o e
  show codeAny (model X.prog X.w) X.A (.compStart (.ListComp elt [⟨tg, iter, [], 0⟩] scope pos) 0 (.ref it) (.ref s2.heap.objs.size) (compX X scope (own ++ fr) s3 (upd H2 s2.heap.objs.size (.lst [])) fp s3.heap.objs.size).env) (compPost (model X.prog X.w) X.A X.xe none (EP X pins σ Q) (.ref s2.heap.objs.size) s3.heap.objs.size) _
  generalize hX' : compX X scope (own ++ fr) s3 (upd H2 s2.heap.objs.size (.lst [])) fp s3.heap.objs.size = X' at J0 ⊢
  have hgX : PG X' tg g := hX' ▸ hg _ _ _ _
  have heX : PE X' elt te := hX' ▸ he _ _ _ _
  have eP : X'.prog = X.prog := by rw [← hX']; rfl
  have eW : X'.w = X.w := by rw [← hX']; rfl
  have eK : X'.K = X.K := by rw [← hX']; rfl
  have eC : X'.calm = true := by rw [← hX']; exact hc
  have eA : X'.A = X.A := by rw [← hX']; rfl
  have eX : X'.xe = fun _ _ => False := by rw [← hX']; rfl
  have eEx : X'.ex = fp := by rw [← hX']; rfl
  have eL : X'.env.locals = s3.heap.objs.size := by rw [← hX']; rfl
  have eN : X'.N = own ++ fr := by rw [← hX']; rfl
  have cl' : ∀ x c, X'.env.cells.lookup x = some c → X.env.cells.lookup x = some c := fun x c h => clo_from (names := scope.names) (acc := []) (fun y d hy => by simp at hy) (by rw [← hX'] at h; exact h)
  have eFs : X'.fs = frs X.stack := by rw [← hX']; rfl
  have ePn : X'.pn = [] := by rw [← hX']; rfl
  have fp' : ∀ {H' : Hp}, (∀ b ∈ fp, H' b = none) → ∀ b ∈ fp, FpOk X' [] H' b := fun hn b hb => ⟨hn b hb, by rw [eL]; exact Nat.ne_of_lt (l3 b hb), by
      rw [eFs]; intro z
      rcases List.mem_cons.mp (I3.stkSub b z) with e | e
      · exact (f3 b hb).2.1 e
      · exact (f3 b hb).2.2.1 e, .inl (by rw [eEx]; exact hb), fun x c h => (f3 b hb).2.2.2.2.1 x c (cl' x c h), fun p hp => by rw [ePn] at hp; exact absurd (show p ∈ ([] : List (Addr × Obj)) from hp) (by simp)⟩
  have loop : ∀ s4 : Shared, s4 = { s3 with heap := h4, toks := s3.toks + ([] : List (Str × Value)).length } →
      codeAny (model X.prog X.w) X.A (.compLoop (.ListComp elt [⟨tg, iter, [], 0⟩] scope pos) 0 (.ref it) (.ref s2.heap.objs.size) X'.env) (compPost (model X.prog X.w) X.A X.xe none (EP X pins σ Q) (.ref s2.heap.objs.size) s3.heap.objs.size) s4 := by
    rintro s4 rfl
    refine codeAny_compLoop_any (fun n s' => ∃ i σ' H', Inv X' [] σ' H' s' ∧ tn i s'.heap ∧ (∀ b ∈ fp, H' b = none) ∧ W i n σ' H') ?_ m0 ⟨0, _, _, J0, st4, fun b hb => (f3 b hb).1, w0⟩
    rintro n s5 ⟨i, σ5, H5, I5, st5, fr5, w5⟩
    rcases turn i n σ5 H5 w5 with ⟨stop, q⟩ | ⟨go, step⟩
    · have hd := T.done X' eP eW eK eC i [] s5 σ5 H5 (fun _ _ => False) I5 (fp' fr5) st5 stop
      rw [eA] at hd
      refine thn hd fun r s6 ⟨hr, I6⟩ => ?_
      subst hr
      obtain ⟨m6, hn6, _⟩ := I6.loc
      rw [eL] at hn6
      refine ⟨m6, hn6, fun h7 sb7 => ?_⟩
      have hC : H5 s3.heap.objs.size = none := by have := I6.free; rw [eL] at this; exact this
      have hok7 : HOk X.prog X.w H5 h7 := fun b ob e => by
        have e6 := I6.hok b ob e
        rw [eP, eW] at e6
        refine e6.stay (fun c w' hc q => (sb7.2 c ?_).trans q) (fun _ q => q) fun _ _ q => q
        rintro rfl
        rcases hc with z | z
        · rw [← z, hC] at e; cases e
        · rw [hC] at z; cases z
      have un : Un (frs X.stack) fp (upd H2 s2.heap.objs.size (.lst [])) H5 s3.heap h7 := by
        have b6 := I6.base
        have e0 : X'.H₀ = upd H2 s2.heap.objs.size (.lst []) := by rw [← hX']; rfl
        have e1 : X'.s₀ = s3 := by rw [← hX']; rfl
        rw [eFs, eEx, e0, e1] at b6
        have ne : ∀ b o, s3.heap.get? b = some o → b ≠ s3.heap.objs.size := fun b o e => Nat.ne_of_lt (Heap.lt_size e)
        exact ⟨fun b o e n hb hx => (sb7.2 b (ne b o e)).trans (b6.keep b o e n hb hx), fun b o e n hb hx => by
            obtain ⟨sl, z⟩ := b6.slot b o e n hb hx
            exact ⟨sl, (sb7.2 b (ne b o e)).trans z⟩, b6.free, fun b o e hx => by
            obtain ⟨o', z⟩ := b6.there b o e hx
            exact ⟨o', (sb7.2 b (ne b o e)).trans z⟩, b6.tups, b6.frzs, b6.tbls⟩
      have os7 : s6.os = s3.os := by have := I6.os; rw [← hX'] at this; exact this
      have I7 : Inv X pins σ H5 { s6 with heap := h7 } := I3.call' (s' := { s6 with heap := h7 }) (ch := fp) os7 un hok7 I6.bare fun b hb => ⟨(f3 b hb).2.2.2.1, (f3 b hb).2.1, (f3 b hb).2.2.2.2.1, (f3 b hb).2.2.2.2.2⟩
      exact ⟨.ref s2.heap.objs.size, H5, I7, rfl, q⟩
    · have hd := T.item X' eP eW eK eC i [] s5 σ5 H5 (fun _ _ => False) I5 (fp' fr5) st5 go
      rw [eA] at hd
      refine thn hd fun r s6 ⟨u, hr, h6⟩ => ?_
      subst hr
      refine thn h6 fun _ s7 ⟨x, H7, I7, r7, y7, st7, fr7⟩ => ?_
      have I7' := I7.pinned (fp' fr7) (T.obj _ _ st7)
      have hg7 := hgX _ s7 σ5 H7 x u _ I7' r7 (step x H7 y7)
      rw [eP, eW, eA, eX] at hg7
      refine thn hg7 fun _ s8 ⟨σ8, H8, I8, q8⟩ => ?_
      have he8 := heX _ s8 σ8 H8 _ I8 q8
      rw [eP, eW, eA, eX] at he8
      refine thn he8 fun v s9 ⟨z, H9, I9, r9, ys, hp9, hz9, m', hm', w9⟩ => ?_
      have ha := mt_append (X := X') _ s9 σ8 H9 (.ref s2.heap.objs.size) [z] (.ref s2.heap.objs.size) [v] (fun _ H' => ∃ m', m' < n ∧ W (i + 1) m' σ8 H') I9 rfl (.cons r9 .nil) ⟨_, ys, z, rfl, rfl, hp9, hz9, m', hm', w9⟩
      rw [eP, eW, eA, eX] at ha
      refine thn ha fun _ s10 ⟨_, H10, I10, _, m'', hm'', w10⟩ => ?_
      have pin10 : ∀ b ∈ fp, ∀ o, s7.heap.get? b = some o → s10.heap.get? b = some o ∧ H10 b = none := fun b hb o e =>
        let z := I10.pin (b, o) (List.mem_append_right _ (List.mem_append_right _ (mem_pinsAt hb e)))
        ⟨z.1, z.2.1⟩
      refine ⟨m'', hm'', i + 1, σ8, H10, I10.unpinned, T.keep _ _ _ st7 fun b hb o e => (pin10 b hb o e).1, fun b hb => ?_, w10⟩
      obtain ⟨o, e, _⟩ := T.obj _ _ st7 b hb
      exact (pin10 b hb o e).2
  have st4' : tn 0 ({ s3 with heap := h4, toks := s3.toks + ([] : List (Str × Value)).length } : Shared).heap := st4
  exact codeAny_compStart_list (loop _ rfl) (T.self X.A 0 _ _ _ st4' (loop _ rfl))
end
end L2
end
section
namespace PySem
open Sem (wp)
open AutoSeq1 (wpAny_loadPart')
section
variable {prog : Program} {w : World} {A : Around} {E : Value → Shared → Prop} {s : Shared}
theorem nextOf_tup_item {j t : Addr} {i : Nat} {its : Array Value} {y : Value} {Q : Value → Shared → Prop} (hj : s.heap.IsTupleIter j t i) (ht : s.heap.IsTuple t its) (hy : its[i]? = some y)
    (k : ∀ h', h'.IsTupleIter j t (i + 1) → Heap.SameBut j s.heap h' → Q y { s with heap := h' }) : wpAny (model prog w) A (Builtin.SmallTypes.nextOf (.ref j)) Q E s := by
  obtain ⟨ob, e1, e2, e3⟩ := id hj; obtain ⟨ot, f1, f2, nt, f3⟩ := ht; unfold Builtin.SmallTypes.nextOf
  refine wpAny_bind (wpAny_callSpecial?_slot (name := Str.ofString "__next__") hj.typeIs F.slot_tuple_iterator_next (wpAny_call_entry F.slot_tuple_iterator_next hj.typeIs F.entry_tuple_iterator_next ?_ (F.args_tuple_iterator_next_1 _)))
  show wpAny _ _ (field (.ref j) 0 >>= _) _ _ s; refine wpAny_bind (wpAny_field e1 e3 (x := .ref t) rfl ?_)
  show wpAny _ _ (if (Value.ref t == Value.none) = true then _ else _) _ _ s; rw [if_neg (show ¬ ((Value.ref t == Value.none) = true) from Bool.false_ne_true)]
  show wpAny _ _ (field (.ref j) 1 >>= _) _ _ s; refine wpAny_bind (wpAny_field e1 e3 (x := .int i 0) rfl ?_); show wpAny _ _ (seqItems? (.ref t) >>= _) _ _ s
  refine wpAny_bind (wpAny_seqItems f1 f3 ?_); simp only [Int.toNat_natCast, hy]
  refine wpAny_bind (wpAny_setField e1 e3 (by simp) (wpAny_pure ⟨y, rfl, wpAny_pure (k _ ?_ (Heap.SameBut.update ..))⟩))
  exact ⟨_, Heap.get?_update_self _ e1 (Obj.isFreed_of_fields (Obj.data_mapFields e3 _)), (Obj.cls_mapFields ..).trans e2, by rw [Obj.data_mapFields e3]; simp [rawInt]⟩
theorem nextOf_tup_end {j t : Addr} {i : Nat} {its : Array Value} {Q : Value → Shared → Prop} (hh : A.handled = none) (hj : s.heap.IsTupleIter j t i) (ht : s.heap.IsTuple t its) (hy : its[i]? = none)
    (k : ∀ h' e, Heap.ExtBut j s.heap h' → (∃ o, h'.get? e = some o ∧ o.cls = .type "StopIteration") → E (.ref e) { s with heap := h' }) : wpAny (model prog w) A (Builtin.SmallTypes.nextOf (.ref j)) Q E s := by
  obtain ⟨ob, e1, e2, e3⟩ := id hj; obtain ⟨ot, f1, f2, nt, f3⟩ := ht; unfold Builtin.SmallTypes.nextOf
  refine wpAny_bind (wpAny_callSpecial?_slot (name := Str.ofString "__next__") hj.typeIs F.slot_tuple_iterator_next (wpAny_call_entry F.slot_tuple_iterator_next hj.typeIs F.entry_tuple_iterator_next ?_ (F.args_tuple_iterator_next_1 _)))
  show wpAny _ _ (field (.ref j) 0 >>= _) _ _ s; refine wpAny_bind (wpAny_field e1 e3 (x := .ref t) rfl ?_)
  show wpAny _ _ (if (Value.ref t == Value.none) = true then _ else _) _ _ s; rw [if_neg (show ¬ ((Value.ref t == Value.none) = true) from Bool.false_ne_true)]
  show wpAny _ _ (field (.ref j) 1 >>= _) _ _ s; refine wpAny_bind (wpAny_field e1 e3 (x := .int i 0) rfl ?_); show wpAny _ _ (seqItems? (.ref t) >>= _) _ _ s
  refine wpAny_bind (wpAny_seqItems f1 f3 ?_); simp only [Int.toNat_natCast, hy]
  refine wpAny_bind (wpAny_rule (wpAny_bind (wpAny_setField e1 e3 (by simp) ?_))); show wpAny _ _ (newExc (.type "StopIteration") [] >>= _) _ _ _
  refine wpAny_bind ?_; simp only [newExc, newTuple]; refine wpAny_bind (wpAny_newObj_type ?_ (by size_fits))
  refine wpAny_bind (m := firstArgMember _ _) (wpAny_of_eq (a := Value.none) (by first | rfl | (simp only [firstArgMember]; rfl)) ?_); refine wpAny_newObj_type ?_ (by size_fits)
  simp only [raiseNew]; refine wpAny_bind (wpAny_handled ?_); first | rw [show A.in1.handled = none from hh] | rw [hh]
  refine wpAny_bind (wpAny_pure (wpAny_throw ?_)); exact k _ _ (((Heap.SameBut.update ..).extBut.push _).push _) ⟨_, Heap.get?_push_size _ rfl, rfl⟩
end
theorem Draws.tup {prog : Program} {w : World} {A : Around} (hh : A.handled = none) (j t : Addr) (ne : t ≠ j) (its : Array Value) :
    Draws prog w A j [j, t] its.size (fun i v => its[i]? = some v) (fun i h => h.IsTupleIter j t i ∧ h.IsTuple t its) where
  live := fun _ _ st => let ⟨o, ho, _⟩ := st.1; ⟨o, ho⟩
  frame := fun _ _ _ st hk => ⟨let ⟨o, e, r⟩ := st.1; ⟨o, hk j (by simp) o e, r⟩, let ⟨o, e, r⟩ := st.2; ⟨o, hk t (by simp) o e, r⟩⟩
  item := fun i s Q E hi st hQ => by
    refine nextOf_tup_item st.1 st.2 (y := its[i]) (by simp [hi]) fun h' a b => ?_
    exact hQ _ h' s.toks (by simp [hi]) ⟨a, st.2.extBut b.extBut ne⟩ b
  done := fun s Q E st hE => nextOf_tup_end hh st.1 st.2 (by simp) hE
theorem meets_enumerate_newT (l : Addr) (its : Array Value) (n : Nat) (dct : Option Addr) (sl : Array (Option Value)) :
    Meets (Builtin.«enumerate.__new__» ⟨[.type "enumerate", .ref l], []⟩) (fun _ R s => s.heap.get? l = some { cls := .type "tuple", dict := dct, data := .seq its n, slots := sl } ∧
      R (.ok (.ret (.ref (s.heap.push { cls := .type "tuple_iterator", data := .fields #[.ref l, .int 0 0] }).objs.size)))
        { s with heap := (s.heap.push { cls := .type "tuple_iterator", data := .fields #[.ref l, .int 0 0] }).push { cls := .type "enumerate", data := .fields #[.none, .bool false, .ref s.heap.objs.size, rawInt 0, .none, .none] } }) :=
  .of_wp fun prog w A R s h => by
    obtain ⟨hp, g, d, tk, os⟩ := s; obtain ⟨hl, h⟩ := h; have hsub := sub_enumerate
    have hL : Heap.IsTuple (Shared.heap ⟨hp, g, d, tk, os⟩) l its := ⟨_, hl, rfl, n, rfl⟩
    wp_walk using wpAny_loadPart' hl
    refine wpAny_stack_any fun st => wpAny_pure ?_
    split
    · rename_i c _ _ _ _ _
      cases (c == Value.type "enumerate") <;> (wp_walk using wpAny_loadPart' hl, wpAny_pyIter_tuple hL; exact ⟨_, rfl, h⟩)
    · wp_walk using wpAny_loadPart' hl, wpAny_pyIter_tuple hL
      exact ⟨_, rfl, h⟩
theorem call_enumerate_tup {prog : Program} {w : World} {A : Around} {E : Value → Shared → Prop} {s : Shared} {l : Addr} {its : Array Value} {Q : Value → Shared → Prop} (hL : s.heap.IsTuple l its)
    (h : ∀ h', IsEnum h' (s.heap.objs.size + 1) s.heap.objs.size 0 .none → h'.IsTupleIter s.heap.objs.size l 0 → h'.objs.size = s.heap.objs.size + 2 → (∀ b o, s.heap.get? b = some o → h'.get? b = some o) → Q (.ref (s.heap.objs.size + 1)) { s with heap := h' }) :
    wpAny (model prog w) A (call (.type "enumerate") [.ref l]) Q E s := by
  obtain ⟨⟨c, dct, dt, sl⟩, hl, hc, n, hd⟩ := hL
  have hc' : c = .type "tuple" := hc
  have hd' : dt = .seq its n := hd
  subst hc' hd'
  refine callType_new F.called_enumerate (by decide) (F.typeCall_enumerate_1 _) (F.newCall_enumerate_1 _) (fun obj => F.args_object_init_2 obj _) F.entry_enumerate_new (meets_enumerate_newT l its n dct sl) ⟨hl, ?_⟩
  have hz : (s.heap.push { cls := .type "tuple_iterator", data := .fields #[.ref l, .int 0 0] }).objs.size = s.heap.objs.size + 1 := Heap.size_push ..
  show _ ∧ _
  rw [hz]
  have he : IsEnum ((s.heap.push { cls := .type "tuple_iterator", data := .fields #[.ref l, .int 0 0] }).push { cls := .type "enumerate", data := .fields #[.none, .bool false, .ref s.heap.objs.size, rawInt 0, .none, .none] }) (s.heap.objs.size + 1) s.heap.objs.size 0 .none := by
    have := Heap.get?_push_size (s.heap.push { cls := .type "tuple_iterator", data := .fields #[.ref l, .int 0 0] }) (o := { cls := .type "enumerate", data := .fields #[.none, .bool false, .ref s.heap.objs.size, rawInt 0, .none, .none] }) rfl
    rw [hz] at this; exact this
  refine ⟨⟨_, he, rfl⟩, h _ he ⟨_, Heap.get?_push_of_some _ (Heap.get?_push_size _ rfl), rfl, rfl⟩ (by rw [Heap.size_push, hz]) fun b o x => Heap.get?_push_of_some _ (Heap.get?_push_of_some _ x)⟩
end PySem
end
section
namespace L2
open PySem PySem.Spec PyProof.Rows
section
variable {X : Cx} {pins : List (Addr × Obj)} {σ : St} {H : Hp} {s : Shared} {h' : Heap}
theorem Inv.turnedL {ch : List Addr} {a : Addr} {o : HO} {t' : Nat} (I : Inv X pins σ H s) (hf : ∀ b ∈ ch, FpOk X pins H b) (k : ∀ b u, b ∉ ch → s.heap.get? b = some u → h'.get? b = some u) (hp : s.heap.objs.size ≤ a)
    (new : ObjOk X.prog X.w (upd H a o) h' a o) : Inv X pins σ (upd H a o) { s with heap := h', toks := t' } := by
  have hn : H a = none := I.hok.fresh hp
  have nch : ∀ b u, H b = some u → b ∉ ch := fun b u e z => by have := (hf b z).1; rw [e] at this; cases this
  have nea : ∀ b u, s.heap.get? b = some u → b ≠ a := fun b u e => Nat.ne_of_lt (Nat.lt_of_lt_of_le (Heap.lt_size e) hp)
  refine I.step (g' := s.gens) (d' := s.drawn) (ch := ch) (fun b hb => ⟨(hf b hb).2.2.2.1, (hf b hb).2.1, (hf b hb).2.2.2.2.1, (hf b hb).2.2.2.2.2⟩) (fun b u _ _ hc e _ => k b u hc e) (fun b u _ _ hc e _ => ⟨u.slots, k b u hc e⟩)
    (fun b u _ e n => by rw [upd_ne (nea b u e)]; exact n) (fun b u hc e => ⟨u, k b u hc e⟩) (fun b xs e => by rw [upd_ne (ne_of_none e hn)]; exact e) (fun b u xs e => by rw [upd_ne (ne_of_none e hn)]; exact e)
    (fun b ps e => ⟨#[], by rw [upd_ne (ne_of_none e hn), e]; simp⟩) (fun m hm => ?_) (fun b u e => ?_) I.bare
  · obtain ⟨ol, es, ep, ho, r⟩ := hm
    exact ⟨ol, es, ep, k _ ol (fun z => (hf _ z).2.1 rfl) ho, r⟩
  · by_cases hb : b = a
    · subst hb; rw [upd_same] at e; cases e; exact new
    · rw [upd_ne hb] at e
      refine (I.hok b u e).stay (fun c v hc q => k c v ?_ q) (fun c q => by rw [upd_ne (ne_of_none q hn)]; exact q) fun c xs q => by rw [upd_ne (ne_of_none q hn)]; exact q
      rcases hc with z | z
      · rw [z]; exact nch b u e
      · exact nch c _ z
end
def ItS (x : Str) : It := ⟨fun i _ => i < x.cps.size, fun i H v H' => ∃ t c, H t = none ∧ x.cps[i]? = some c ∧ v = .ref t ∧ H' = upd H t (.tup [.int i, .str ⟨#[c]⟩]), fun i _ => i = x.cps.size⟩
def ItT (K : PySem.W.Frag) (a : Addr) : It := ⟨fun i H => ∃ xs y, SqT K H a xs ∧ xs[i]? = some y, fun i H v H' => ∃ t y, H t = none ∧ (∀ xs, SqT K H a xs → xs[i]? = some y) ∧ v = .ref t ∧ H' = upd H t (.tup [.int i, y]), fun i H => ∃ xs, SqT K H a xs ∧ i = xs.length⟩
theorem drawsS {prog : Program} {w : World} {A : Around} (hh : A.handled = none) (it : Addr) (x : Str) (t : Tok) :
    Draws prog w A it [it] x.cps.size (fun i v => ∃ c u, x.cps[i]? = some c ∧ v = .str ⟨#[c]⟩ u) (fun i h => h.IsStrIter it (strIterType x) x t i) := by
  cases ha : x.cps.all (· < 128)
  · have e : strIterType x = "str_iterator" := by simp [strIterType, ha]
    rw [e]; exact Draws.strWide hh it x t
  · have e : strIterType x = "str_ascii_iterator" := by simp [strIterType, ha]
    rw [e]; exact Draws.strAscii hh it x t
theorem turn_enumS {P : Program} {w : World} {K : PySem.W.Frag} {elts : List Expr} {k : Nat} {pos : Pos} (x : Str) (t : Tok) (e it : Addr) (hei : e ≠ it) :
    Turn P w K (.Tuple elts k pos) (ItS x) [e, it] e (fun i h => (∃ old, IsEnum h e it i old) ∧ h.IsStrIter it (strIterType x) x t i) where
  mem := by simp
  obj := fun i h st b hb => by
    obtain ⟨⟨old, he⟩, o, ho, hc, hd⟩ := st
    rcases List.mem_cons.mp hb with z | z
    · subst z; exact ⟨_, he, fun v z => by have z' : Data.fields _ = Data.cell v := z; cases z'⟩
    · have z' : b = it := by simpa using z
      subst z'; exact ⟨o, ho, fun v z => by rw [hd] at z; cases z⟩
  keep := fun i h h' st kk => by
    obtain ⟨⟨old, he⟩, o, ho, r⟩ := st
    exact ⟨⟨old, kk e (by simp) _ he⟩, o, kk it (by simp) o ho, r⟩
  item := by
    intro X hP hw hK hc i pins s σ H E I hf st hg
    subst hP hw hK
    obtain ⟨⟨old, he⟩, hs⟩ := st
    have hh : X.A.in1.handled = none := I.ok.hd hc
    refine wpAny_pyNext_enum_itemD (drawsS hh it x t) he hs hg hei (by simp [hei]) fun v h1 tk hv ho hs1 hT hsz hk => ?_
    obtain ⟨c, u, hxc, rfl⟩ := hv
    refine ⟨_, rfl, wpAny_letOwnedTupleGo_enum ho fun h2 he2 sb2 => ?_⟩
    have hlt : e < s.heap.objs.size := Heap.lt_size he
    have sb2' : Heap.SameBut e h1 h2 := sb2
    have hT2 : h2.get? s.heap.objs.size = some { cls := .type "tuple", data := .seq #[.int i tk, .str ⟨#[c]⟩ u] } := (sb2'.2 _ (Nat.ne_of_gt hlt)).trans hT
    refine ⟨.ref s.heap.objs.size, upd H s.heap.objs.size (.tup [.int i, .str ⟨#[c]⟩]), ?_, rfl, ⟨_, c, I.hok.fresh (Nat.le_refl _), hxc, rfl, rfl⟩, ⟨⟨_, by simpa using he2⟩, ?_⟩, fun b hb => ?_⟩
    · refine I.turnedL (ch := [e, it]) (t' := tk + 1) hf (fun b o hb q => ?_) (Nat.le_refl _) ⟨by show 2 ≤ sizeLine; decide, [.int i tk, .str ⟨#[c]⟩ u], .cons ⟨_, rfl⟩ (.cons ⟨_, rfl⟩ .nil), _, hT2, rfl, _, rfl⟩
      have h1' : b ≠ e := fun z => hb (by simp [z])
      have h2' : b ≠ it := fun z => hb (by simp [z])
      exact (sb2'.2 b h1').trans (hk b o h1' h2' q)
    · obtain ⟨o, q, r⟩ := hs1
      exact ⟨o, (sb2'.2 it (Ne.symm hei)).trans q, r⟩
    · have hb0 := hf b hb
      have ne : b ≠ s.heap.objs.size := by
        rcases List.mem_cons.mp hb with z | z
        · rw [z]; exact Nat.ne_of_lt hlt
        · have z' : b = it := by simpa using z
          obtain ⟨o, q, _⟩ := hs
          rw [z']; exact Nat.ne_of_lt (Heap.lt_size q)
      rw [upd_ne ne]; exact hb0.1
  done := by
    intro X hP hw hK hc i pins s σ H E I hf st hg
    subst hP hw hK
    obtain ⟨⟨old, he⟩, hs⟩ := st
    have hh : X.A.in1.handled = none := I.ok.hd hc
    have hi : i = x.cps.size := hg
    obtain ⟨f0, f1, f2, f3, f4, f5⟩ := hf it (by simp)
    refine wpAny_pyNext_enum_endD (drawsS hh it x t) he (by rw [← hi]; exact hs) fun h1 eb => ⟨rfl, I.turned (t' := s.toks) (fun b o hb q => eb b o hb q) f0 f1 f3 f4 f5⟩
  self := fun _ _ _ _ _ st h => by
    obtain ⟨⟨old, he⟩, _⟩ := st
    exact wpAny_pyIter_enum he h
theorem turn_enumT {P : Program} {w : World} {K : PySem.W.Frag} {elts : List Expr} {k : Nat} {pos : Pos} (a e it : Addr) (hei : e ≠ it) :
    Turn P w K (.Tuple elts k pos) (ItT K a) [e, it] e (fun i h => a ≠ it ∧ a ≠ e ∧ (∃ old, IsEnum h e it i old) ∧ h.IsTupleIter it a i) where
  mem := by simp
  obj := fun i h st b hb => by
    obtain ⟨_, _, ⟨old, he⟩, o, ho, hc, hd⟩ := st
    rcases List.mem_cons.mp hb with z | z
    · subst z; exact ⟨_, he, fun v z => by have z' : Data.fields _ = Data.cell v := z; cases z'⟩
    · have z' : b = it := by simpa using z
      subst z'; exact ⟨o, ho, fun v z => by rw [hd] at z; cases z⟩
  keep := fun i h h' st kk => by
    obtain ⟨n1, n2, ⟨old, he⟩, o, ho, r⟩ := st
    exact ⟨n1, n2, ⟨old, kk e (by simp) _ he⟩, o, kk it (by simp) o ho, r⟩
  item := by
    intro X hP hw hK hc i pins s σ H E I hf st hg
    subst hP hw hK
    obtain ⟨n1, n2, ⟨old, he⟩, hs⟩ := st
    have hh : X.A.in1.handled = none := I.ok.hd hc
    obtain ⟨xs, y, hq, hy⟩ := hg
    obtain ⟨its, rv, p, hz⟩ := I.tuple hq
    obtain ⟨u, hu, ru⟩ := rv.get hy
    have hlt' : i < its.toArray.size := by simpa using (List.getElem?_eq_some_iff.mp hu).1
    refine wpAny_pyNext_enum_itemD (Draws.tup hh it a n1 its.toArray) he ⟨hs, p⟩ hlt' hei (by simp [hei, Ne.symm n2]) fun v h1 tk hv ho hs1 hT hsz hk => ?_
    have hv' : v = u := by
      have hu' : its.toArray[i]? = some u := by simpa using hu
      have hv'' : its.toArray[i]? = some v := hv
      rw [hu'] at hv''
      exact (Option.some.inj hv'').symm
    subst hv'
    refine ⟨_, rfl, wpAny_letOwnedTupleGo_enum ho fun h2 he2 sb2 => ?_⟩
    have hlt : e < s.heap.objs.size := Heap.lt_size he
    have sb2' : Heap.SameBut e h1 h2 := sb2
    have hT2 : h2.get? s.heap.objs.size = some { cls := .type "tuple", data := .seq #[.int i tk, v] } := (sb2'.2 _ (Nat.ne_of_gt hlt)).trans hT
    refine ⟨.ref s.heap.objs.size, upd H s.heap.objs.size (.tup [.int i, y]), ?_, rfl, ⟨_, y, I.hok.fresh (Nat.le_refl _), fun ys hys => by rw [I.tuple_inj hys hq]; exact hy, rfl, rfl⟩, ⟨n1, n2, ⟨_, by simpa using he2⟩, ?_⟩, fun b hb => ?_⟩
    · refine I.turnedL (ch := [e, it]) (t' := tk + 1) hf (fun b o hb q => ?_) (Nat.le_refl _) ⟨by show 2 ≤ sizeLine; decide, [.int i tk, v], .cons ⟨_, rfl⟩ (.cons ru .nil), _, hT2, rfl, _, rfl⟩
      have h1' : b ≠ e := fun z => hb (by simp [z])
      have h2' : b ≠ it := fun z => hb (by simp [z])
      exact (sb2'.2 b h1').trans (hk b o h1' h2' q)
    · obtain ⟨⟨o, q, r⟩, _⟩ := hs1
      exact ⟨o, (sb2'.2 it (Ne.symm hei)).trans q, r⟩
    · have hb0 := hf b hb
      have ne : b ≠ s.heap.objs.size := by
        rcases List.mem_cons.mp hb with z | z
        · rw [z]; exact Nat.ne_of_lt hlt
        · have z' : b = it := by simpa using z
          obtain ⟨o, q, _⟩ := hs
          rw [z']; exact Nat.ne_of_lt (Heap.lt_size q)
      rw [upd_ne ne]; exact hb0.1
  done := by
    intro X hP hw hK hc i pins s σ H E I hf st hg
    subst hP hw hK
    obtain ⟨n1, n2, ⟨old, he⟩, hs⟩ := st
    have hh : X.A.in1.handled = none := I.ok.hd hc
    obtain ⟨xs, hq, hi⟩ := hg
    obtain ⟨its, rv, p, hz⟩ := I.tuple hq
    have hi' : i = its.toArray.size := by rw [hi, rv.length]; simp
    obtain ⟨f0, f1, f2, f3, f4, f5⟩ := hf it (by simp)
    refine wpAny_pyNext_enum_endD (Draws.tup hh it a n1 its.toArray) he (by rw [← hi']; exact ⟨hs, p⟩) fun h1 eb => ⟨rfl, I.turned (t' := s.toks) (fun b o hb q => eb b o hb q) f0 f1 f3 f4 f5⟩
  self := fun _ _ _ _ _ st h => by
    obtain ⟨_, _, ⟨old, he⟩, _⟩ := st
    exact wpAny_pyIter_enum he h
section
variable {X : Cx}
def iEnumS (ta : TE) : TI := fun σ H R => ta σ H fun v H1 => ∃ x, v = .str x ∧ R (ItS x) H1
def iEnumT (K : PySem.W.Frag) (ta : TE) : TI := fun σ H R => ta σ H fun v H1 => ∃ a, v = .ref a ∧ (∃ xs, SqT K H1 a xs) ∧ R (ItT K a) H1
theorem boot_enum : bootBuiltins "enumerate" = some (.type "enumerate") := by decide +kernel
theorem pi_enumS {elts : List Expr} {k : Nat} {tp : Pos} {a : Expr} {ta : TE} {p pos : Pos} (hg : Gl X "enumerate") (hm : X.mg "enumerate" = none) (ha : PE X a ta) (hs : starEach [a] X.env = [(false, eval a X.env)] := by rfl) :
    PI X (.Tuple elts k tp) (.Call (.Name "enumerate" p) [a] [] pos) (iEnumS ta) := by
  intro pins s σ H R I h
  refine Call_ (ld_blt I hg hm boot_enum (PyProof.Rows.callWith_type1 (thn (pa_cons ha pa_nil hs pos pins s σ H (fun vs H1 => ∃ x, vs = [.str x] ∧ R (ItS x) H1) I ?_) fun us s1 ⟨vs, H1, I1, r1, q1⟩ => ?_) hs rfl))
  · show ta σ H fun v H1 => ∃ x, [v] = [V.str x] ∧ R (ItS x) H1
    have h' : ta σ H fun v H1 => ∃ x, v = .str x ∧ R (ItS x) H1 := h
    have e : (fun (v : V) H1 => ∃ x, [v] = [V.str x] ∧ R (ItS x) H1) = fun v H1 => ∃ x, v = .str x ∧ R (ItS x) H1 := by
      funext v H1
      simp
    rw [e]; exact h'
  · obtain ⟨x, e, q⟩ := q1
    subst e
    cases r1 with
    | cons r rr =>
      cases rr
      obtain ⟨t, rfl⟩ := r
      refine call_enumerate_str fun h1 he hi hz hk => ?_
      have I2 : Inv X pins σ H1 { s1 with heap := h1 } := I1.kept (t' := s1.toks) hk
      refine wpAny_pyIter_enum he ⟨s1.heap.objs.size + 1, [s1.heap.objs.size + 1, s1.heap.objs.size], _, ItS x, H1, rfl, I2, turn_enumS x t _ _ (Nat.succ_ne_self _), ⟨⟨_, by simpa using he⟩, hi⟩, fun b hb => ?_, q⟩
      have hb' : s1.heap.objs.size ≤ b := by
        rcases List.mem_cons.mp hb with z | z
        · rw [z]; exact Nat.le_succ _
        · have z' : b = s1.heap.objs.size := by simpa using z
          rw [z']; exact Nat.le_refl _
      exact I1.fpOk hb' (I1.hok.fresh hb')
theorem pi_enumT {elts : List Expr} {k : Nat} {tp : Pos} {a : Expr} {ta : TE} {p pos : Pos} (hg : Gl X "enumerate") (hm : X.mg "enumerate" = none) (ha : PE X a ta) (hs : starEach [a] X.env = [(false, eval a X.env)] := by rfl) :
    PI X (.Tuple elts k tp) (.Call (.Name "enumerate" p) [a] [] pos) (iEnumT X.K ta) := by
  intro pins s σ H R I h
  refine Call_ (ld_blt I hg hm boot_enum (PyProof.Rows.callWith_type1 (thn (pa_cons ha pa_nil hs pos pins s σ H (fun vs H1 => ∃ x, vs = [.ref x] ∧ (∃ xs, SqT X.K H1 x xs) ∧ R (ItT X.K x) H1) I ?_) fun us s1 ⟨vs, H1, I1, r1, q1⟩ => ?_) hs rfl))
  · show ta σ H fun v H1 => ∃ x, [v] = [V.ref x] ∧ (∃ xs, SqT X.K H1 x xs) ∧ R (ItT X.K x) H1
    have h' : ta σ H fun v H1 => ∃ x, v = .ref x ∧ (∃ xs, SqT X.K H1 x xs) ∧ R (ItT X.K x) H1 := h
    have e : (fun (v : V) H1 => ∃ x, [v] = [V.ref x] ∧ (∃ xs, SqT X.K H1 x xs) ∧ R (ItT X.K x) H1) = fun v H1 => ∃ x, v = .ref x ∧ (∃ xs, SqT X.K H1 x xs) ∧ R (ItT X.K x) H1 := by
      funext v H1
      simp
    rw [e]; exact h'
  · obtain ⟨x, e, ⟨xs, hq⟩, q⟩ := q1
    subst e
    cases r1 with
    | cons r rr =>
      cases rr
      cases r
      obtain ⟨its, rv, pt, hz0⟩ := I1.tuple hq
      have ptl : x < s1.heap.objs.size := by obtain ⟨o, e, _⟩ := pt; exact Heap.lt_size e
      refine call_enumerate_tup pt fun h1 he hi hz hk => ?_
      have I2 : Inv X pins σ H1 { s1 with heap := h1 } := I1.kept (t' := s1.toks) hk
      refine wpAny_pyIter_enum he ⟨s1.heap.objs.size + 1, [s1.heap.objs.size + 1, s1.heap.objs.size], _, ItT X.K x, H1, rfl, I2, turn_enumT x _ _ (Nat.succ_ne_self _), ⟨Nat.ne_of_lt ptl, Nat.ne_of_lt (Nat.lt_succ_of_lt ptl), ⟨_, by simpa using he⟩, hi⟩, fun b hb => ?_, q⟩
      have hb' : s1.heap.objs.size ≤ b := by
        rcases List.mem_cons.mp hb with z | z
        · rw [z]; exact Nat.le_succ _
        · have z' : b = s1.heap.objs.size := by simpa using z
          rw [z']; exact Nat.le_refl _
      exact I1.fpOk hb' (I1.hok.fresh hb')
end
theorem for_enumS {x : Str} {g : TG} {tb : TS} {D : Ends} {σ : St} {H : Hp} (Pv : Nat → St → Hp → Prop) (h0 : Pv 0 σ H)
    (hs : ∀ i c t σ H, x.cps[i]? = some c → H t = none → Pv i σ H → g (.ref t) σ (upd H t (.tup [.int i, .str ⟨#[c]⟩])) fun σ2 H2 => tb { D with nx := Pv (i + 1), ct := Pv (i + 1), bk := D.nx } σ2 H2) (hd : ∀ σ H, Pv x.cps.size σ H → D.nx σ H) :
    ∃ W : Nat → Nat → St → Hp → Prop, (∃ m, W 0 m σ H) ∧ ∀ i m σ H, W i m σ H →
      ((ItS x).stop i H ∧ D.nx σ H) ∨ ((ItS x).go i H ∧ ∃ N : St → Hp → Prop, (∀ σ' H', N σ' H' → ∃ m', m' < m ∧ W (i + 1) m' σ' H') ∧ ∀ v H', (ItS x).yld i H v H' → g v σ H' fun σ2 H2 => tb { D with nx := N, ct := N, bk := D.nx } σ2 H2) := by
  refine ⟨fun i m σ H => m = x.cps.size - i ∧ i ≤ x.cps.size ∧ Pv i σ H, ⟨_, rfl, Nat.zero_le _, h0⟩, ?_⟩
  rintro i m σ H ⟨rfl, hi, p⟩
  by_cases hlt : i < x.cps.size
  · refine .inr ⟨hlt, Pv (i + 1), fun σ' H' p' => ⟨x.cps.size - (i + 1), by omega, rfl, hlt, p'⟩, fun v H' y => ?_⟩
    obtain ⟨t, c, ht, hc, rfl, rfl⟩ := y
    exact hs i c t σ H hc ht p
  · have e : i = x.cps.size := by omega
    subst e
    exact .inl ⟨rfl, hd σ H p⟩
theorem for_enumT {K : PySem.W.Frag} {a : Addr} {xs : List V} {g : TG} {tb : TS} {D : Ends} {σ : St} {H : Hp} (Pv : Nat → St → Hp → Prop) (h0 : Pv 0 σ H) (hl : ∀ i σ H, i ≤ xs.length → Pv i σ H → SqT K H a xs)
    (hs : ∀ i y t σ H, xs[i]? = some y → H t = none → Pv i σ H → g (.ref t) σ (upd H t (.tup [.int i, y])) fun σ2 H2 => tb { D with nx := Pv (i + 1), ct := Pv (i + 1), bk := D.nx } σ2 H2) (hd : ∀ σ H, Pv xs.length σ H → D.nx σ H) :
    ∃ W : Nat → Nat → St → Hp → Prop, (∃ m, W 0 m σ H) ∧ ∀ i m σ H, W i m σ H →
      ((ItT K a).stop i H ∧ D.nx σ H) ∨ ((ItT K a).go i H ∧ ∃ N : St → Hp → Prop, (∀ σ' H', N σ' H' → ∃ m', m' < m ∧ W (i + 1) m' σ' H') ∧ ∀ v H', (ItT K a).yld i H v H' → g v σ H' fun σ2 H2 => tb { D with nx := N, ct := N, bk := D.nx } σ2 H2) := by
  refine ⟨fun i m σ H => m = xs.length - i ∧ i ≤ xs.length ∧ Pv i σ H, ⟨_, rfl, Nat.zero_le _, h0⟩, ?_⟩
  rintro i m σ H ⟨rfl, hi, p⟩
  have q := hl i σ H hi p
  by_cases hlt : i < xs.length
  · refine .inr ⟨⟨xs, xs[i], q, by simp [hlt]⟩, Pv (i + 1), fun σ' H' p' => ⟨xs.length - (i + 1), by omega, rfl, hlt, p'⟩, fun v H' y => ?_⟩
    obtain ⟨t, c, ht, hc, rfl, rfl⟩ := y
    exact hs i c t σ H (hc xs q) ht p
  · have e : i = xs.length := by omega
    subst e
    exact .inl ⟨⟨xs, q, rfl⟩, hd σ H p⟩
end L2
end
section
namespace L2
open PySem PySem.Spec PyProof.Rows
section
variable {X : Cx}
def eqVs : List V → List V → Bool
  | [], [] => true
  | x :: xs, y :: ys => eqV x y && eqVs xs ys
  | _, _ => false
theorem eqVs_range : ∀ (xs ys : List V), xs.length = ys.length → (List.range xs.length).all (fun j => eqV (xs.getD j .non) (ys.getD j .non)) = eqVs xs ys
  | [], [], _ => rfl
  | x :: xs, y :: ys, h => by
    have ih := eqVs_range xs ys (by simpa using h)
    rw [List.length_cons, List.range_succ_eq_map, List.all_cons, List.all_map]
    show (eqV x y && _) = (eqV x y && eqVs xs ys)
    rw [← ih]; rfl
theorem eqVs_len : ∀ (xs ys : List V), xs.length ≠ ys.length → eqVs xs ys = false
  | [], [], h => absurd rfl h
  | [], _ :: _, _ => rfl
  | _ :: _, [], _ => rfl
  | x :: xs, y :: ys, h => by
    show (eqV x y && eqVs xs ys) = false
    rw [eqVs_len xs ys fun z => h (by simp [z])]; simp
theorem eqVs_ints : ∀ (ns ms : List Int), eqVs (ns.map V.int) (ms.map V.int) = decide (ns = ms)
  | [], [] => rfl
  | [], _ :: _ => rfl
  | _ :: _, [] => rfl
  | n :: ns, m :: ms => by
    show ((n == m) && eqVs (ns.map V.int) (ms.map V.int)) = _
    rw [eqVs_ints ns ms]
    by_cases h1 : n = m
    · by_cases h2 : ns = ms
      · simp [h1, h2]
      · simp [h1, h2]
    · simp [h1]
theorem vals_getD {xs : List V} {us : List Value} (r : Vals xs us) {j : Nat} (h : j < us.length) : RelV (xs.getD j .non) us[j] := by
  have hx : j < xs.length := by rw [r.length]; exact h
  obtain ⟨u, hu, ru⟩ := r.get (i := j) (x := xs[j]) (by simp [hx])
  have e : us[j] = u := by
    have := hu
    rw [List.getElem?_eq_getElem h] at this
    exact Option.some.inj this
  have e2 : xs.getD j .non = xs[j] := by simp [List.getD, hx]
  rw [e, e2]; exact ru
theorem flat_getD {xs : List V} (f : xs.all flatV = true) {j : Nat} (h : j < xs.length) : flatV (xs.getD j .non) = true := by
  have e2 : xs.getD j .non = xs[j] := by simp [List.getD, h]
  rw [e2]
  exact List.all_eq_true.mp f _ (List.getElem_mem h)
theorem items_eqAt {A : Around} {s : Shared} {xs ys : List V} {us vs : List Value} (rx : Vals xs us) (ry : Vals ys vs) (fx : xs.all flatV = true) (fy : ys.all flatV = true) :
    ∀ j (h1 : j < us.toArray.size) (h2 : j < vs.toArray.size), SeqAt.EqAt A s us.toArray[j] vs.toArray[j] (eqV (xs.getD j .non) (ys.getD j .non)) := by
  intro j h1 h2
  have h1' : j < us.length := by simpa using h1
  have h2' : j < vs.length := by simpa using h2
  have q := eqAt_V (A := A) (s := s) (vals_getD rx h1') (vals_getD ry h2') (flat_getD fx (by rw [rx.length]; exact h1')) (flat_getD fy (by rw [ry.length]; exact h2'))
  simpa using q
def rEqL (K : PySem.W.Frag) : R2 := fun x y H Q => ∃ a b xs ys, x = .ref a ∧ y = .ref b ∧ SqL K H a xs ∧ SqL K H b ys ∧ xs.all flatV = true ∧ ys.all flatV = true ∧ Q (.bl (eqVs xs ys)) H
def rNeL (K : PySem.W.Frag) : R2 := fun x y H Q => ∃ a b xs ys, x = .ref a ∧ y = .ref b ∧ SqL K H a xs ∧ SqL K H b ys ∧ xs.all flatV = true ∧ ys.all flatV = true ∧ Q (.bl (!eqVs xs ys)) H
theorem op_eqL (hu : X.A.units < cLine) : OpR X (compareOp .Eq) (rEqL X.K) := by
  intro pins s σ H x y v u Q I rx ry h
  obtain ⟨a, b, xs, ys, rfl, rfl, hx, hy, fx, fy, q⟩ := h
  cases rx
  cases ry
  obtain ⟨us, r1, p1, z1⟩ := I.list hx
  obtain ⟨vs, r2, p2, z2⟩ := I.list hy
  by_cases hl : xs.length = ys.length
  · refine SeqAt.eq_listAt p1.isList p2.isList (by simp [← r1.length, ← r2.length, hl]) hu (items_eqAt r1 r2 fx fy) ⟨.bl (eqVs xs ys), H, I, ?_, q⟩
    show Value.bool _ = Value.bool _
    rw [← eqVs_range xs ys hl]; simp [← r1.length]
  · refine SeqAt.eq_list_lengthsAt p1.isList p2.isList (by simpa [← r1.length, ← r2.length] using hl) hu ⟨.bl (eqVs xs ys), H, I, ?_, q⟩
    show Value.bool _ = Value.bool _
    rw [eqVs_len xs ys hl]
theorem ne_at {prog : Program} {w : World} {A : Around} {E : Value → Shared → Prop} {s : Shared} {l b : Addr} {items items2 : Array Value} {e : Nat → Bool} {Q : Value → Shared → Prop} (hl : s.heap.IsList l items) (hb : s.heap.IsList b items2) (hsz : items.size = items2.size) (hu : A.units < cLine)
    (he : ∀ j (h1 : j < items.size) (h2 : j < items2.size), SeqAt.EqAt A.in1 s items[j] items2[j] (e j)) (h : Q (.bool (!((List.range items.size).all e))) s) : wpAny (model prog w) A (compareOp .NotEq (.ref l) (.ref b)) Q E s := by
  obtain ⟨⟨c, dd, dt, sl⟩, ho, hc, n, hd⟩ := hl
  obtain ⟨⟨c2, dd2, dt2, sl2⟩, ho2, hc2, n2, hd2⟩ := hb
  dsimp only at hc hd hc2 hd2
  subst hc hd hc2 hd2
  exact richCompare_meets_room (op := .NotEq) ⟨_, ho, rfl⟩ ⟨_, ho2, rfl⟩ F.slot_list_ne F.entry_list_ne (F.args_list_ne_2 _ _) (SeqAt.list_neAt l b items items2 n n2 dd dd2 sl sl2 hsz e)
    ⟨ho, ho2, he, ⟨(fun x => nomatch x), h⟩⟩ hu
theorem ne_at_len {prog : Program} {w : World} {A : Around} {E : Value → Shared → Prop} {s : Shared} {l b : Addr} {items items2 : Array Value} {Q : Value → Shared → Prop} (hl : s.heap.IsList l items) (hb : s.heap.IsList b items2) (hsz : (items.size != items2.size) = true) (hu : A.units < cLine)
    (h : Q (.bool true) s) : wpAny (model prog w) A (compareOp .NotEq (.ref l) (.ref b)) Q E s := by
  obtain ⟨⟨c, dd, dt, sl⟩, ho, hc, n, hd⟩ := hl
  obtain ⟨⟨c2, dd2, dt2, sl2⟩, ho2, hc2, n2, hd2⟩ := hb
  dsimp only at hc hd hc2 hd2
  subst hc hd hc2 hd2
  exact richCompare_meets_room (op := .NotEq) ⟨_, ho, rfl⟩ ⟨_, ho2, rfl⟩ F.slot_list_ne F.entry_list_ne (F.args_list_ne_2 _ _) (SeqAt.list_ne_lengthsAt l b items items2 n n2 dd dd2 sl sl2 hsz)
    ⟨ho, ho2, ⟨(fun x => nomatch x), h⟩⟩ hu
theorem op_neL (hu : X.A.units < cLine) : OpR X (compareOp .NotEq) (rNeL X.K) := by
  intro pins s σ H x y v u Q I rx ry h
  obtain ⟨a, b, xs, ys, rfl, rfl, hx, hy, fx, fy, q⟩ := h
  cases rx
  cases ry
  obtain ⟨us, r1, p1, z1⟩ := I.list hx
  obtain ⟨vs, r2, p2, z2⟩ := I.list hy
  by_cases hl : xs.length = ys.length
  · refine ne_at p1.isList p2.isList (by simp [← r1.length, ← r2.length, hl]) hu (items_eqAt r1 r2 fx fy) ⟨.bl (!eqVs xs ys), H, I, ?_, q⟩
    show Value.bool _ = Value.bool _
    rw [← eqVs_range xs ys hl]; simp [← r1.length]
  · refine ne_at_len p1.isList p2.isList (by simpa [← r1.length, ← r2.length] using hl) hu ⟨.bl (!eqVs xs ys), H, I, ?_, q⟩
    show Value.bool _ = Value.bool _
    rw [eqVs_len xs ys hl]; rfl
theorem op_eqLL (hu : X.A.units + 1 < cLine) : OpR X (compareOp .Eq) (fun x y H Q => ∃ a b a1 a2 b1 b2 w1 w2 z1 z2, x = .ref a ∧ y = .ref b ∧ SqL X.K H a [.ref a1, .ref a2] ∧ SqL X.K H b [.ref b1, .ref b2] ∧ a1 ≠ b1 ∧ a2 ≠ b2 ∧
    SqL X.K H a1 w1 ∧ SqL X.K H a2 w2 ∧ SqL X.K H b1 z1 ∧ SqL X.K H b2 z2 ∧ w1.all flatV = true ∧ w2.all flatV = true ∧ z1.all flatV = true ∧ z2.all flatV = true ∧ Q (.bl (eqVs w1 z1 && eqVs w2 z2)) H) := by
  intro pins s σ H x y v u Q I rx ry h
  obtain ⟨a, b, a1, a2, b1, b2, w1, w2, z1, z2, rfl, rfl, hx, hy, n1, n2, h1, h2, h3, h4, f1, f2, f3, f4, q⟩ := h
  cases rx
  cases ry
  obtain ⟨us, r1, p1, _⟩ := I.list hx
  obtain ⟨vs, r2, p2, _⟩ := I.list hy
  obtain ⟨u1, u2, rfl, q1, q2⟩ := r1.two
  obtain ⟨v1, v2, rfl, q3, q4⟩ := r2.two
  cases q1; cases q2; cases q3; cases q4
  have rc : ∀ {l m : Addr} {xs ys : List V}, l ≠ m → SqL X.K H l xs → SqL X.K H m ys → xs.all flatV = true → ys.all flatV = true → SeqAt.EqAt X.A.in1 s (.ref l) (.ref m) (eqVs xs ys) := by
    intro l m xs ys hne hl hm fx fy
    obtain ⟨us, r1, p1, z1⟩ := I.list hl
    obtain ⟨vs, r2, p2, z2⟩ := I.list hm
    refine SeqAt.EqAt.of_refs hne ?_
    by_cases hlen : xs.length = ys.length
    · have := SeqAt.RcAt.lists (A := X.A.in1) (s := s) p1.isList p2.isList (by simp [← r1.length, ← r2.length, hlen]) (by show X.A.units + 1 < cLine; exact hu) (items_eqAt r1 r2 fx fy)
      rw [← eqVs_range xs ys hlen]; simpa [← r1.length] using this
    · have := SeqAt.RcAt.lists_lengths (A := X.A.in1) (s := s) p1.isList p2.isList (by simpa [← r1.length, ← r2.length] using hlen) (by show X.A.units + 1 < cLine; exact hu)
      rw [eqVs_len xs ys hlen]; exact this
  refine SeqAt.eq_listAt (e := fun j => if j = 0 then eqVs w1 z1 else eqVs w2 z2) p1.isList p2.isList rfl (by omega) (fun j hj1 hj2 => ?_) ⟨.bl (eqVs w1 z1 && eqVs w2 z2), H, I, ?_, q⟩
  · have hj : j < 2 := hj1
    match j, hj with
    | 0, _ => exact rc n1 h1 h3 f1 f3
    | 1, _ => exact rc n2 h2 h4 f2 f4
  · show Value.bool _ = Value.bool _
    simp [List.range_succ]
theorem boot_anyX : bootBuiltins "any" = some (.builtin "any") := by decide +kernel
theorem boot_allX : bootBuiltins "all" = some (.builtin "all") := by decide +kernel
theorem range_any (bs : List Bool) : (List.range bs.length).any (fun i => bs.getD i false) = bs.any id := by
  induction bs with
  | nil => rfl
  | cons b r ih =>
    rw [List.length_cons, List.range_succ_eq_map, List.any_cons, List.any_map, List.any_cons, ← ih]; rfl
theorem range_all (bs : List Bool) : (List.range bs.length).all (fun i => bs.getD i false) = bs.all id := by
  induction bs with
  | nil => rfl
  | cons b r ih =>
    rw [List.length_cons, List.range_succ_eq_map, List.all_cons, List.all_map, List.all_cons, ← ih]; rfl
theorem truth_bools {prog : Program} {w : World} {A : Around} {bs : List Bool} {its : List Value} (r : Vals (bs.map V.bl) its) : TruthOf prog w A (fun i v => its.toArray[i]? = some v) (fun i => bs.getD i false) := by
  intro i v s Q E hv hq
  have hv' : its[i]? = some v := by simpa using hv
  have hi : i < its.length := (List.getElem?_eq_some_iff.mp hv').1
  have hb : i < bs.length := by have := r.length; simp at this; omega
  obtain ⟨u, hu, ru⟩ := r.get (i := i) (x := .bl bs[i]) (by simp [hb])
  rw [hv'] at hu
  cases hu
  cases ru
  have e : bs.getD i false = bs[i] := by simp [List.getD, hb]
  have hq' : Q (bs.getD i false) s := hq
  rw [e] at hq'
  exact wpAny_pure hq'
theorem call_anyL (hc : X.calm = true) : CallR X (.builtin "any") (fun xs H Q => ∃ (p : Addr) (bs : List Bool), xs = [V.ref p] ∧ H p = some (.lst (bs.map V.bl)) ∧ Q (.bl (bs.any id)) H) := by
  intro pins s σ H xs us Q I r h
  obtain ⟨p, bs, rfl, hp, q⟩ := h
  obtain ⟨u, rfl, ru⟩ := vals1 r
  cases ru
  obtain ⟨its, rv, pl, hz⟩ := I.list (SqL.of (K := X.K) hp)
  have lt : p < s.heap.objs.size := by obtain ⟨o, n, e, _⟩ := pl; exact Heap.lt_size e
  refine call_any_walk (wpAny_pyIter_list pl.isList ⟨_, _, _, _, _, _, fun i => bs.getD i false, rfl, Walks.list (A := X.A.in1) (I.ok.hd hc) _ p (Nat.ne_of_lt lt) its.toArray, ⟨⟨_, Heap.get?_push_size _ rfl, rfl, rfl⟩, pl.isList.push _⟩, truth_bools rv, fun h' tk k => ?_⟩)
  refine ⟨.bl (bs.any id), H, ?_, ?_, q⟩
  · exact I.kept (t' := tk) fun b o e => k b o (by simp; exact Nat.ne_of_lt (Heap.lt_size e)) (Heap.get?_push_of_some _ e)
  · show Value.bool _ = Value.bool _
    have e : its.toArray.size = bs.length := by have := rv.length; simp at this; simp [this]
    rw [e, range_any]
theorem call_allL (hc : X.calm = true) : CallR X (.builtin "all") (fun xs H Q => ∃ (p : Addr) (bs : List Bool), xs = [V.ref p] ∧ H p = some (.lst (bs.map V.bl)) ∧ Q (.bl (bs.all id)) H) := by
  intro pins s σ H xs us Q I r h
  obtain ⟨p, bs, rfl, hp, q⟩ := h
  obtain ⟨u, rfl, ru⟩ := vals1 r
  cases ru
  obtain ⟨its, rv, pl, hz⟩ := I.list (SqL.of (K := X.K) hp)
  have lt : p < s.heap.objs.size := by obtain ⟨o, n, e, _⟩ := pl; exact Heap.lt_size e
  refine call_all_walk (wpAny_pyIter_list pl.isList ⟨_, _, _, _, _, _, fun i => bs.getD i false, rfl, Walks.list (A := X.A.in1) (I.ok.hd hc) _ p (Nat.ne_of_lt lt) its.toArray, ⟨⟨_, Heap.get?_push_size _ rfl, rfl, rfl⟩, pl.isList.push _⟩, truth_bools rv, fun h' tk k => ?_⟩)
  refine ⟨.bl (bs.all id), H, ?_, ?_, q⟩
  · exact I.kept (t' := tk) fun b o e => k b o (by simp; exact Nat.ne_of_lt (Heap.lt_size e)) (Heap.get?_push_of_some _ e)
  · show Value.bool _ = Value.bool _
    have e : its.toArray.size = bs.length := by have := rv.length; simp at this; simp [this]
    rw [e, range_all]
theorem call_isi : CallR X (.builtin "isinstance") (fun xs H Q => ∃ x n t b, xs = [x, .ty n] ∧ TyOf X.K H x t ∧ PySem.W.kitOne X.K t (.type n) = some b ∧ Q (.bl b) H) := by
  intro pins s σ H xs us Q I r h
  obtain ⟨x, n, t, b, rfl, ty, e, q⟩ := h
  obtain ⟨u, c, rfl, r1, r2⟩ := vals2 r
  cases (show c = Value.type n from r2)
  exact isinst_ok I r1 ty e fun tk => ⟨.bl b, H, I.tok tk, rfl, q⟩
theorem ix_kd : IxR X (fun x y H Q => ∃ a es n z v u, x = .ref a ∧ y = .str z ∧ X.K.lookup a = some ⟨.type "dict", none, .dict es n, #[]⟩ ∧ PySem.W.KeysLit X.w.params es.toList ∧ PySem.W.nsIn X.K a z = some (some u) ∧ RelV v u ∧ Q v H) := by
  intro value slice pins s σ H x y v u Q I rx ry h hs
  obtain ⟨a, es, n, z, vv, uu, rfl, rfl, hl, hk, he, rv, q⟩ := h
  cases rx
  obtain ⟨t, rfl⟩ := ry
  obtain ⟨m, F⟩ := I.fr
  exact PySem.W.topItem_K F I.mod.kin hl hk he ⟨vv, H, I.tok _, rv, q⟩ hs
end
end L2
end
section
namespace L2
open PySem PySem.Spec PyProof.Rows
def SetO (w : World) (a : Addr) (ns : List Int) : HO := .ext fun h => SetX.SetAt w h a ns
section
variable {X : Cx} {pins : List (Addr × Obj)} {σ : St} {H : Hp} {s : Shared} {h' : Heap}
theorem Inv.laidS {a : Addr} {o : HO} {s' : Shared} (I : Inv X pins σ H s) (ho : s'.os = s.os) (hg : s'.gens = s.gens) (k : ∀ b u, s.heap.get? b = some u → s'.heap.get? b = some u) (hp : s.heap.objs.size ≤ a) (new : ObjOk X.prog X.w (upd H a o) s'.heap a o) : Inv X pins σ (upd H a o) s' := by
  have u : Un (frs X.stack) [] H (upd H a o) s.heap s'.heap := Un.laid k hp (I.hok.fresh hp)
  exact I.call' (ch := []) ho u (I.hok.laid k hp new) (by rw [hg]; exact I.bare) fun b hb => nomatch hb
theorem setO_ok {w : World} {P : Program} {a : Addr} {ns : List Int} {H' : Hp} (S : SetX.SetAt w h' a ns) : ObjOk P w H' h' a (SetO w a ns) :=
  ⟨S, (let ⟨o, _, _, _, e, _⟩ := S; ⟨o, e⟩), fun _ _ q k => q.keeps k⟩
theorem Inv.setAt {a : Addr} {ns : List Int} (I : Inv X pins σ H s) (e : H a = some (SetO X.w a ns)) : SetX.SetAt X.w s.heap a ns := (I.hok a _ e).1
end
section
variable {X : Cx}
theorem call_setL (hc : X.calm = true) : CallR X (.type "set") (fun xs H Q => ∃ (l : Addr) (ns : List Int), xs = [.ref l] ∧ SqL X.K H l (ns.map V.int) ∧ ns.length ≤ 1000 ∧ ∀ (p : Addr) (ms : List Int), H p = none → (∀ y, y ∈ ms ↔ y ∈ ns) → ms.Nodup → Q (.ref p) (upd H p (SetO X.w p ms))) := by
  intro pins s σ H xs us Q I r h
  obtain ⟨l, ns, rfl, hq, hl, q⟩ := h
  obtain ⟨u, rfl, ru⟩ := vals1 r
  cases ru
  obtain ⟨its, rv, p, hz⟩ := I.list hq
  have hi : IntsAre its ns := intsAre_of rv
  have hn : its.length = ns.length := hi.length
  refine SetX.call_set_listX (I.ok.hd hc) p.isList (by simpa using hi) (by have : scanBound = 4096 := rfl; simp; omega) fun h1 tk ms S m2 k => ?_
  have nd : ms.Nodup := by obtain ⟨_, _, _, _, _, _, _, _, rfl, z, _⟩ := S; exact z
  exact ⟨.ref s.heap.objs.size, _, I.laidS (s' := { s with heap := h1, toks := tk }) rfl rfl (fun b u e => k b u (Heap.lt_size e) e) (Nat.le_refl _) (setO_ok S), rfl, q _ ms (I.hok.fresh (Nat.le_refl _)) m2 nd⟩
theorem op_andS : OpR X (binaryOp .BitAnd) (fun x y H Q => ∃ (a b : Addr) (ns ms : List Int), x = .ref a ∧ y = .ref b ∧ b ≠ a ∧ H a = some (SetO X.w a ns) ∧ H b = some (SetO X.w b ms) ∧ ∀ (p : Addr) (ks : List Int), H p = none → (∀ y, y ∈ ks ↔ y ∈ ns ∧ y ∈ ms) → Q (.ref p) (upd H p (SetO X.w p ks))) := by
  intro pins s σ H x y v u Q I rx ry h
  obtain ⟨a, b, ns, ms, rfl, rfl, hab, ha, hb, q⟩ := h
  cases rx
  cases ry
  refine SetX.and_setsX hab (I.setAt ha) (I.setAt hb) fun h1 d ks S m2 k => ?_
  exact ⟨.ref s.heap.objs.size, _, I.laidS (s' := { s with heap := h1, drawn := d }) rfl rfl (fun b u e => k b u e) (Nat.le_refl _) (setO_ok S), rfl, q _ ks (I.hok.fresh (Nat.le_refl _)) m2⟩
theorem call_lenS : CallR X (.builtin "len") (fun xs H Q => ∃ (a : Addr) (ns : List Int), xs = [V.ref a] ∧ H a = some (SetO X.w a ns) ∧ Q (.int ns.length) H) := by
  intro pins s σ H xs us Q I r h
  obtain ⟨a, ns, rfl, ha, q⟩ := h
  obtain ⟨u, rfl, ru⟩ := vals1 r
  cases ru
  exact SetX.len_setX (I.setAt ha) fun t tk => ⟨.int ns.length, H, I.tok tk, ⟨t, rfl⟩, q⟩
theorem call_sortedS (hc : X.calm = true) : CallR X (.builtin "sorted") (fun xs H Q => ∃ (a : Addr) (ns : List Int), xs = [V.ref a] ∧ H a = some (SetO X.w a ns) ∧ ns.length < 64 ∧ ∀ (p : Addr) (ms : List Int), H p = none → List.Perm ms ns → ms.Pairwise (· ≤ ·) → Q (.ref p) (upd H p (.lst (ms.map V.int)))) := by
  intro pins s σ H xs us Q I r h
  obtain ⟨a, ns, rfl, ha, hl, q⟩ := h
  obtain ⟨u, rfl, ru⟩ := vals1 r
  cases ru
  refine SetX.sorted_set (I.ok.hd hc) (I.setAt ha) hl fun s1 l vs ms n k g o hz e hi hp hs => ?_
  have hv : Vals (ms.map V.int) vs := vals_ints hi
  have new : ObjOk X.prog X.w (upd H l (.lst (ms.map V.int))) s1.heap l (.lst (ms.map V.int)) := ⟨by rw [List.length_map, hp.length_eq, sizeLine_eq]; omega, vs, n, hv, e⟩
  exact ⟨.ref l, _, I.laidS (s' := s1) o g k hz new, rfl, q _ ms (I.hok.fresh hz) hp hs⟩
def cntS (c : Nat) (z : Str) : Nat := z.cps.toList.count c
theorem cnt_count (c : Nat) : ∀ l : List Nat, PyProof.Rows.cnt c l = (l.count c : Int)
  | [] => rfl
  | n :: r => by
    rw [PyProof.Rows.cnt_cons, cnt_count c r, List.count_cons]
    by_cases e : n = c
    · subst e; simp; omega
    · simp [e]
theorem mt_count : MtR X "str.count" (fun x xs H Q => ∃ (z : Str) (c : Nat), x = .str z ∧ xs = [.str ⟨#[c]⟩] ∧ Q (.int (cntS c z)) H) := by
  intro pins s σ H x xs v us Q I rx rs h
  obtain ⟨z, c, rfl, rfl, q⟩ := h
  obtain ⟨t, rfl⟩ := rx
  obtain ⟨u, rfl, t', rfl⟩ := vals1 rs
  refine SC.count ⟨.int (cntS c z), H, I.tok _, ⟨s.toks, ?_⟩, q⟩
  have e : Txt.count z ⟨#[c]⟩ = PyProof.Rows.cnt c z.cps.toList := PyProof.Rows.count_is z c
  rw [e, cnt_count]; rfl
theorem mt_join : MtR X "str.join" (fun x xs H Q => ∃ (z : Str) (p : Addr) (ys : List Str), x = .str z ∧ xs = [.ref p] ∧ SqL X.K H p (ys.map V.str) ∧ (ys.map (·.length)).sum + ys.length * z.length ≤ 16777216 ∧ Q (.str (Txt.join z ys)) H) := by
  intro pins s σ H x xs v us Q I rx rs h
  obtain ⟨z, p, ys, rfl, rfl, hq, hz, q⟩ := h
  obtain ⟨t, rfl⟩ := rx
  obtain ⟨u, rfl, ru⟩ := vals1 rs
  cases ru
  obtain ⟨its, rv, pl, _⟩ := I.list hq
  have hs : StrsAre its ys := by
    have all : ∀ (ys : List Str) (its : List Value), Vals (ys.map V.str) its → StrsAre its ys := by
      intro ys
      induction ys with
      | nil => intro its r; cases r; exact .nil
      | cons y r ih =>
        intro its rr
        cases rr with
        | cons r1 r2 => obtain ⟨t, rfl⟩ := r1; exact .cons _ _ (ih _ r2)
    exact all ys its rv
  exact join_list pl.isList (by simpa using hs) hz fun t' k => ⟨.str (Txt.join z ys), H, I.tok _, ⟨t', rfl⟩, q⟩
theorem op_mulS : OpR X (binaryOp .Mult) (fun x y H Q => ∃ (z : Str) (n : Int), x = .str z ∧ y = .int n ∧ MulOk z n ∧ Q (.str (Txt.mul z n)) H) := by
  intro pins s σ H x y v u Q I rx ry h
  obtain ⟨z, n, rfl, rfl, hk, q⟩ := h
  obtain ⟨t, rfl⟩ := rx
  obtain ⟨t', rfl⟩ := ry
  exact SB.mul hk fun t1 k => ⟨.str (Txt.mul z n), H, I.tok _, ⟨t1, rfl⟩, q⟩
theorem sl_str : SlR X (fun x lo hi H Q => ∃ (z : Str), x = .str z ∧ z.length ≤ sizeLine ∧ Q (.str (Txt.slice z lo hi)) H) := by
  intro pins s σ H x v vl vu lo hi sl Q I rx hs pl pu h
  obtain ⟨z, rfl, hz, q⟩ := h
  obtain ⟨t, rfl⟩ := rx
  refine ⟨"str", _, F.slot_str_getitem.lookup, typeIs_str _ _ _, ?_⟩
  have fin : ∀ l u : Option (Int × Tok), s.heap.IsSlice sl l u none → l.map (·.1) = lo → u.map (·.1) = hi → wpAny (model X.prog X.w) X.A (getItem (.str z t) (.ref sl)) (EP X pins σ Q) X.xe s := by
    intro l u hS hl hu
    subst hl hu
    refine wpAny_getItem_str_slice (l := l) (u := u) (st := none) hS rfl ?_
    exact post_val_or_str ⟨Nat.le_trans (Txt.slice_le z _ _) hz, fun t' k => ⟨.str (Txt.slice z _ _), H, I.tok _, ⟨t', rfl⟩, q⟩⟩
  cases pl with
  | none => cases pu with
    | none => exact fin none none hs rfl rfl
    | int j u => exact fin none (some (j, u)) hs rfl rfl
  | int i u' => cases pu with
    | none => exact fin (some (i, u')) none hs rfl rfl
    | int j u => exact fin (some (i, u')) (some (j, u)) hs rfl rfl
end
end L2
end
section
namespace Mir
inductive P3 | L | R | E
  deriving DecidableEq
open P3
def other : P3 → P3 | L => R | R => L | E => E
def ce : Nat := 101
def ch : Nat := 104
def cl : Nat := 108
def cg : Nat := 103
def Sign (c : Nat) : Prop := c = 101 ∨ c = 104 ∨ c = 108 ∨ c = 103
def mayH (c : Nat) : Bool := c == 101 || c == 104
def mayL (c : Nat) : Bool := c == 101 || c == 108
def pl (l r : List Int) (k : Int) : P3 := if k ∈ r then R else if k ∈ l then L else E
def sb (c : Nat) (p o : P3) : Nat :=
  if mayH c && decide (p = o) then (if mayL c && decide (other p = o) then 101 else 104) else if mayL c && decide (other p = o) then 108 else 103
def c1 (c : Nat) (p o : P3) : Nat := (if mayH c && decide (p = o) then 1 else 0) + (if mayL c && decide (other p = o) then 1 else 0)
def aft (l r : List Int) (o : P3) : Nat → List Nat → List Nat
  | _, [] => []
  | i, c :: cs => sb c (pl l r i) o :: aft l r o (i + 1) cs
def cs1 (l r : List Int) (o : P3) : Nat → List Nat → Nat
  | _, [] => 0
  | i, c :: cs => c1 c (pl l r i) o + cs1 l r o (i + 1) cs
theorem sb_count {c : Nat} (h : Sign c) (p o : P3) : 2 * [sb c p o].count 101 + [sb c p o].count 104 + [sb c p o].count 108 = c1 c p o := by
  rcases h with rfl | rfl | rfl | rfl <;> cases p <;> cases o <;> rfl
theorem aft_count {l r : List Int} {o : P3} : ∀ {cs : List Nat} (i : Nat), (∀ c ∈ cs, Sign c) → 2 * (aft l r o i cs).count 101 + (aft l r o i cs).count 104 + (aft l r o i cs).count 108 = cs1 l r o i cs
  | [], _, _ => rfl
  | c :: cs, i, h => by
    have h1 := sb_count (h c List.mem_cons_self) (pl l r i) o
    have ih := aft_count (l := l) (r := r) (o := o) (i + 1) fun d hd => h d (List.mem_cons_of_mem _ hd)
    show 2 * (sb c (pl l r i) o :: aft l r o (i + 1) cs).count 101 + (sb c (pl l r i) o :: aft l r o (i + 1) cs).count 104 + (sb c (pl l r i) o :: aft l r o (i + 1) cs).count 108 = c1 c (pl l r i) o + cs1 l r o (i + 1) cs
    have e : ∀ d, (sb c (pl l r i) o :: aft l r o (i + 1) cs).count d = [sb c (pl l r i) o].count d + (aft l r o (i + 1) cs).count d := fun d => by
      rw [List.count_cons, List.count_cons, List.count_nil]; omega
    rw [e, e, e]
    omega
theorem sb_sign (c : Nat) (p o : P3) : Sign (sb c p o) := by
  unfold sb Sign
  split
  · split
    · exact .inl rfl
    · exact .inr (.inl rfl)
  · split
    · exact .inr (.inr (.inl rfl))
    · exact .inr (.inr (.inr rfl))
theorem aft_len {l r : List Int} {o : P3} : ∀ (cs : List Nat) (i : Nat), (aft l r o i cs).length = cs.length
  | [], _ => rfl
  | _ :: cs, i => by show _ + 1 = _ + 1; rw [aft_len cs (i + 1)]
theorem aft_get {l r : List Int} {o : P3} : ∀ (cs : List Nat) (i j : Nat) (c : Nat), cs[j]? = some c → (aft l r o i cs)[j]? = some (sb c (pl l r ((i + j : Nat) : Int)) o)
  | [], _, _, _, h => by simp at h
  | d :: cs, i, 0, c, h => by
    have e : d = c := by simpa using h
    subst e; rfl
  | d :: cs, i, j + 1, c, h => by
    have := aft_get (l := l) (r := r) (o := o) cs (i + 1) j c (by simpa using h)
    have e : i + 1 + j = i + (j + 1) := by omega
    rw [e] at this
    show (aft l r o (i + 1) cs)[j]? = _
    exact this
def lsb (c : Nat) (p o : P3) : Nat :=
  if o = E then (if p = E then c else 103)
  else if p = o then (if c = 101 ∨ c = 104 then 104 else 103)
  else if p = other o then (if c = 101 ∨ c = 108 then 108 else 103) else 103
theorem lsb_sb {c : Nat} (h : Sign c) (p o : P3) : lsb c p o = sb c p o := by
  rcases h with rfl | rfl | rfl | rfl <;> cases p <;> cases o <;> rfl
theorem cs1_snoc {l r : List Int} {o : P3} : ∀ (cs : List Nat) (i c : Nat), cs1 l r o i (cs ++ [c]) = cs1 l r o i cs + c1 c (pl l r ((i + cs.length : Nat) : Int)) o
  | [], i, c => by show c1 c (pl l r i) o + 0 = 0 + _; simp
  | d :: cs, i, c => by
    show c1 d _ o + cs1 l r o (i + 1) (cs ++ [c]) = c1 d _ o + cs1 l r o (i + 1) cs + _
    rw [cs1_snoc cs (i + 1) c]
    have e : i + 1 + cs.length = i + (d :: cs).length := by simp; omega
    rw [e]; omega
theorem aft_snoc {l r : List Int} {o : P3} : ∀ (cs : List Nat) (i c : Nat), aft l r o i (cs ++ [c]) = aft l r o i cs ++ [sb c (pl l r ((i + cs.length : Nat) : Int)) o]
  | [], i, c => by show [sb c (pl l r i) o] = [] ++ [_]; simp
  | d :: cs, i, c => by
    show sb d _ o :: aft l r o (i + 1) (cs ++ [c]) = sb d _ o :: (aft l r o (i + 1) cs ++ _)
    rw [aft_snoc cs (i + 1) c]
    have e : i + 1 + cs.length = i + (d :: cs).length := by simp; omega
    rw [e]
theorem c1_pos {c : Nat} {p o : P3} {hv : Bool} (h : if hv then mayH c = true ∧ p = o else mayL c = true ∧ other p = o) : 0 < c1 c p o := by
  cases hv with
  | true =>
    obtain ⟨h1, h2⟩ := (show mayH c = true ∧ p = o from h)
    unfold c1; rw [h1, h2]; simp; omega
  | false =>
    obtain ⟨h1, h2⟩ := (show mayL c = true ∧ other p = o from h)
    unfold c1; rw [h1, h2]; simp
theorem cs1_pos {l r : List Int} {o : P3} : ∀ (cs : List Nat) (i j c : Nat), cs[j]? = some c → 0 < c1 c (pl l r ((i + j : Nat) : Int)) o → 0 < cs1 l r o i cs
  | [], _, _, _, h, _ => by simp at h
  | d :: cs, i, 0, c, h, hp => by
    have e : d = c := by simpa using h
    subst e
    show 0 < c1 d (pl l r i) o + _
    have hp' : 0 < c1 d (pl l r i) o := hp
    omega
  | d :: cs, i, j + 1, c, h, hp => by
    have e : i + (j + 1) = i + 1 + j := by omega
    rw [e] at hp
    have := cs1_pos cs (i + 1) j c (by simpa using h) hp
    show 0 < c1 d (pl l r i) o + _
    omega
theorem sb_own {c : Nat} (h : Sign c) (p : P3) (hv : Bool) (hm : c = 101 ∨ c = (if hv then 104 else 108)) : sb c p (if hv then p else other p) = 101 ∨ sb c p (if hv then p else other p) = (if hv then 104 else 108) := by
  rcases h with rfl | rfl | rfl | rfl <;> cases p <;> cases hv <;> first | (left; rfl) | (right; rfl) | (rcases hm with h | h <;> exact absurd h (by decide))
structure Wg (n : Int) (l r : List Int) : Prop where
  risL : l.Pairwise (· < ·)
  risR : r.Pairwise (· < ·)
  inL : ∀ k ∈ l, 0 ≤ k ∧ k ≤ n
  inR : ∀ k ∈ r, 0 ≤ k ∧ k ≤ n
  len : l.length = r.length
  dis : ∀ k ∈ l, k ∉ r
theorem Wg.swap {n : Int} {l r : List Int} (h : Wg n l r) : Wg n r l := ⟨h.risR, h.risL, h.inR, h.inL, h.len.symm, fun k h1 h2 => h.dis k h2 h1⟩
theorem Wg.nil {n : Int} : Wg n [] [] := ⟨.nil, .nil, fun _ h => (nomatch h), fun _ h => (nomatch h), rfl, fun _ h => (nomatch h)⟩
theorem rise_ext : ∀ {l m : List Int}, l.Pairwise (· < ·) → m.Pairwise (· ≤ ·) → m.Nodup → (∀ y, y ∈ m ↔ y ∈ l) → m = l
  | [], [], _, _, _, _ => rfl
  | [], y :: m, _, _, _, h => absurd ((h y).mp List.mem_cons_self) (by simp)
  | x :: l, [], _, _, _, h => absurd ((h x).mpr List.mem_cons_self) (by simp)
  | x :: l, y :: m, hl, hm, hn, h => by
    obtain ⟨l1, l2⟩ := List.pairwise_cons.mp hl
    obtain ⟨m1, m2⟩ := List.pairwise_cons.mp hm
    obtain ⟨n1, n2⟩ := List.nodup_cons.mp hn
    have e : y = x := by
      have a : x ≤ y := by
        rcases List.mem_cons.mp ((h y).mp List.mem_cons_self) with z | z
        · omega
        · have := l1 y z; omega
      have b : y ≤ x := by
        rcases List.mem_cons.mp ((h x).mpr List.mem_cons_self) with z | z
        · omega
        · exact m1 x z
      omega
    subst e
    rw [rise_ext l2 m2 n2 fun z => ?_]
    constructor
    · intro hz
      rcases List.mem_cons.mp ((h z).mp (List.mem_cons_of_mem _ hz)) with q | q
      · exact absurd (q ▸ hz) n1
      · exact q
    · intro hz
      rcases List.mem_cons.mp ((h z).mpr (List.mem_cons_of_mem _ hz)) with q | q
      · exact absurd (l1 z hz) (by omega)
      · exact q
end Mir
end
section
namespace PySem.W
open PySem PySem.Spec PySem.Calls PyProof.Rows
section
variable {prog : Program} {w : World} {A : Around} {E : Value → Shared → Prop} {s : Shared} {K : Frag} {x D : Addr} {ox : Obj}
structure XCls (K : Frag) (D : Addr) : Prop where
  ga : findIn K (.ref D) "__getattribute__" = some (some (.builtin "BaseException.__getattribute__"))
  gn : findIn K (.ref D) "__getattr__" = some none
  fo : findObj K D none "__class__" = some (.bind (.builtin "getset_descriptor.__get__") (.builtin "object.__class__"))
  be : mroIn K D (.type "BaseException") = some true
  ob : mroIn K D (.type "object") = some true
  cl : (clsIn K D).isSome = true
theorem xc_class {Q : Option Value → Shared → Prop} (C : XCls K D) (X : K.In s.heap) (I : InstAt s.heap x ox D none) (h : Q (some (.ref D)) { s with toks := s.toks + 1 }) : wpAny (model prog w) A (getAttr? (.ref x) "__class__") Q E s := by
  obtain ⟨hh, g, d, t, os⟩ := s
  have L0 := I.type (M := model prog w)
  have L1 := looks_findIn (M := model prog w) X C.ga
  have L2 := looks_findIn (M := model prog w) X C.gn
  have L3 := looks_find (M := model prog w) X I C.fo
  have L4 := looks_mroIn (M := model prog w) X C.be
  have hk : builtinKind "BaseException.__getattribute__" = some .slot := by decide +kernel
  have hsp : splitId "BaseException.__getattribute__" = some ("BaseException", "__getattribute__") := by decide +kernel
  have hne : (Value.builtin "BaseException.__getattribute__" == Value.builtin "object.__getattribute__") = false := by decide +kernel
  unfold getAttr? getAttrBy? getAttrBy
  refine wpAny_bind (wpAny_mkText (wpAny_bind (wpAny_attempt (wpAny_holding (wpAny_bind (L0.at (wpAny_bind (L1.at ?_))))))))
  show wpAny _ _ (if (onTheHeap (Value.ref D) && Value.builtin "BaseException.__getattribute__" == Value.builtin "object.__getattribute__") = true then _ else getAttrByItsOwn _ _ _ _ _ _) _ _ _
  rw [hne, Bool.and_false, if_neg Bool.false_ne_true]
  unfold getAttrByItsOwn hookBefore
  show wpAny _ _ (typeLookup (.ref D) "__getattr__" >>= _) _ _ _
  refine wpAny_bind (L2.at ?_)
  unfold callGetattribute boundAndCalled
  rw [F.attr_ValueError.ga.bind (.ref x)]
  refine wpAny_bind (wpAny_attempt (wpAny_holding ?_))
  rw [if_neg (show ¬ ((false && onTheHeap (Value.builtin "BaseException.__getattribute__")) = true) from fun z => nomatch z)]
  refine wpAny_bind (wpAny_pure ?_)
  refine wpAny_call (codeAny_call_builtin F.attr_ValueError.ga.plain F.entry_bexc_ga ?_)
  have ar := F.args_bexc_ga (.ref x) (.str "__class__" t)
  simp only [checkBuiltinCall, hk, hsp]
  unfold isInstance
  have L5 : Looks (model prog w) hh (isSubtype (Value.ref D) (Value.type "BaseException") >>= fun b => pure b) true := L4.andThen .now
  show wpAny _ _ (isInstance (.ref x) (.type "BaseException") >>= _) _ _ _
  unfold isInstance
  refine wpAny_bind (wpAny_bind (L0.at (L4.at ?_)))
  simp only [Bool.not_true, Bool.false_eq_true, if_false]
  repeat (any_goals (first | assumption | wp_step))
  refine wpAny_loadPart I.at_ (wpAny_pure ?_)
  rw [I.cls]
  refine wpAny_bind (L3.at ?_)
  show wpAny _ _ (Builtin.ObjectAttr.bindTo (Value.builtin "getset_descriptor.__get__") (Value.builtin "object.__class__") (Value.ref x) (Value.ref D)) _ _ _
  unfold Builtin.ObjectAttr.bindTo
  repeat (any_goals (first | assumption | with_reducible refine class_get (ox := ox) (od := none) X I C.ob ?_ | wp_step))
theorem kitx_exc (C : XCls K D) : KitX K (.ref x) (.ref D) (fun h => InstAt h x ox D none) where
  ty := fun _ _ _ I => I.type
  it := fun _ _ X _ => by
    have z := C.cl; unfold clsIn at z
    split at z
    · rename_i c' d' cd' sl' ho; intro A' Q' E' s' k q; unfold isType loadHead; exact wpAny_bind (wpAny_loadPart (k _ _ (X _ _ ho)) (wpAny_pure q))
    · cases z
  ne := fun h tp dd its n sl X htp => by
    refine Bool.eq_false_iff.mpr fun q => ?_
    have e : D = tp := Value.ref.inj (beq_iff_eq.mp q)
    subst e; have z := C.cl; unfold clsIn at z
    split at z
    · rename_i c' d' cd' sl' ho; exact nomatch (X _ _ ho).symm.trans htp
    · cases z
  ca := fun X I k => xc_class C X I k
end
end PySem.W
end
section
namespace PySem
open Sem (wp)
def ExcSh (h : Heap) (e : Addr) (C t1 : Value) : Prop := ∃ oe vs, h.get? e = some oe ∧ oe.cls = C ∧ oe.dict = none ∧ oe.data = .fields vs ∧ vs[1]? = some t1 ∧ vs[2]? = some .none
def TbSh (h : Heap) (T : Addr) (fl : Value) : Prop := ∃ oT ts, h.get? T = some oT ∧ oT.data = .fields ts ∧ ts[3]? = some fl
def KeepX (fs ch : List Addr) (h h' : Heap) : Prop := (∀ b o, b ∉ ch → b ∉ fs → h.get? b = some o → h'.get? b = some o) ∧ ∀ b o, b ∉ ch → b ∈ fs → h.get? b = some o → ∃ sl, h'.get? b = some { o with slots := sl }
theorem KeepX.any {fs ch : List Addr} {h h' : Heap} (k : KeepX fs ch h h') {b : Addr} {o : Obj} (hb : b ∉ ch) (e : h.get? b = some o) : ∃ sl, h'.get? b = some { o with slots := sl } := by
  by_cases hf : b ∈ fs
  · exact k.2 b o hb hf e
  · exact ⟨o.slots, k.1 b o hb hf e⟩
theorem KeepX.trans {fs ch : List Addr} {h1 h2 h3 : Heap} (a : KeepX fs ch h1 h2) (b : KeepX fs ch h2 h3) : KeepX fs ch h1 h3 :=
  ⟨fun x o c f e => b.1 x o c f (a.1 x o c f e), fun x o c f e => by obtain ⟨sl, e1⟩ := a.2 x o c f e; obtain ⟨sl', e2⟩ := b.2 x _ c f e1; exact ⟨sl', e2⟩⟩
theorem KeepX.mono {fs ch ch' : List Addr} {h1 h2 : Heap} (a : KeepX fs ch h1 h2) (s : ∀ b ∈ ch, b ∈ ch') : KeepX fs ch' h1 h2 := ⟨fun x o c f e => a.1 x o (fun z => c (s x z)) f e, fun x o c f e => a.2 x o (fun z => c (s x z)) f e⟩
theorem dict_mapF (o : Obj) (f : Array Value → Array Value) : (o.mapFields f).dict = o.dict := by
  obtain ⟨c, d, dt, sl⟩ := o
  cases dt <;> rfl
section
variable {M : Model} {A : Around} {E : Value → Shared → Prop} {s : Shared}
theorem entryX {base : Heap} {env : Env} {outer : List Env} {L e : Addr} {C t1 head : Value} {hadNext : Bool} {Q : Unit → Shared → Prop} (hfr : A.frames = some (env :: outer)) (hl : s.heap.FunFrames base (env :: outer)) (hf : env.frame = some L) (he : ExcSh s.heap e C t1)
    (k : ∀ h' T, s.heap.objs.size ≤ T → T ≠ e → ExcSh h' e C (.ref T) → TbSh h' T (rawInt L) → KeepX ((env :: outer).filterMap (·.frame)) [e] s.heap h' → Q () { s with heap := h' }) :
    wpAny M A (do let a ← frameOf env; let pl ← entryPlaceOf L hadNext; let b ← EntryCells.newEntry head a .none (rawInt L) .none pl; setField (.ref e) 1 b) Q E s := by
  obtain ⟨oe, vs, h0, hc, hdc, hd, h1, h2⟩ := he
  have nf : e ∉ (env :: outer).filterMap (·.frame) := fun hm => by obtain ⟨_, o, ho, hn⟩ := hl.mem hm; rw [h0] at ho; cases ho; exact hn vs hd
  refine wpAny_bind (wpAny_frameOf_fun hfr hl hf fun g1 sg => wpAny_bind (wpAny_entryPlaceOf fun pl hpl => ?_))
  unfold EntryCells.newEntry newFields
  refine wpAny_bind (wpAny_newObj_type ?_ (hpl.sizeOk5 _ _ _ _ _))
  have a1 : g1.get? e = some oe := (sg.2.1 e nf).trans h0
  generalize hoT : ({ cls := .type "traceback", dict := none, data := .fields ([head, .ref L, .none, rawInt L, .none] ++ (if pl.isEmpty then List.replicate 6 Value.none else pl)).toArray } : Obj) = oT
  have hsz : 1 < vs.size := (Array.getElem?_eq_some_iff.mp h1).1
  have a2 := Heap.get?_push_of_some (h := g1) oT a1
  refine wpAny_setField a2 hd hsz ?_
  have ne : g1.objs.size ≠ e := Nat.ne_of_gt (Heap.lt_size a1)
  have d3 := Obj.data_mapFields hd (·.setIfInBounds 1 (Value.ref g1.objs.size))
  have fr0 : oT.isFreed = false := by subst hoT; rfl
  refine k _ g1.objs.size (by rw [sg.1]; exact Nat.le_refl _) ne ⟨_, _, Heap.get?_update_self _ a2 (Obj.isFreed_of_fields d3), (Obj.cls_mapFields _ _).trans hc, ?_, d3, by simp [hsz], ?_⟩ ⟨oT, _, ?_, by subst hoT; rfl, ?_⟩ ⟨fun b o hb hfs eb => ?_, fun b o hb hfs eb => ?_⟩
  · rw [dict_mapF]; exact hdc
  · rw [Array.getElem?_setIfInBounds_ne (by decide)]; exact h2
  · rw [Heap.get?_update_other _ _ (Ne.symm ne)]; exact Heap.get?_push_size g1 fr0
  · simp
  · have hbe : b ≠ e := fun z => hb (by simp [z])
    rw [Heap.get?_update_other _ _ (Ne.symm hbe)]
    exact Heap.get?_push_of_some _ ((sg.2.1 b hfs).trans eb)
  · have hbe : b ≠ e := fun z => hb (by simp [z])
    obtain ⟨sl, q⟩ := sg.2.2 b o eb
    exact ⟨sl, by rw [Heap.get?_update_other _ _ (Ne.symm hbe)]; exact Heap.get?_push_of_some _ q⟩
def NoFl (h : Heap) (e : Addr) (t1 : Value) : Prop := t1 = .none ∨ ∃ T, t1 = .ref T ∧ T ≠ e ∧ TbSh h T .none
theorem leaveX {base : Heap} {env : Env} {outer : List Env} {L e : Addr} {C t1 : Value} {ch : List Addr} {Q : Unit → Shared → Prop} (hfr : A.frames = some (env :: outer)) (hl : s.heap.FunFrames base (env :: outer)) (hf : env.frame = some L) (he : ExcSh s.heap e C t1) (ht : NoFl s.heap e t1)
    (hch : e ∈ ch) (hch' : ∀ T, t1 = .ref T → T ∈ ch)
    (k : ∀ h' T, s.heap.objs.size ≤ T → T ≠ e → ExcSh h' e C (.ref T) → TbSh h' T .none → KeepX ((env :: outer).filterMap (·.frame)) ch s.heap h' → Q () { s with heap := h' }) :
    wpAny M A (noteFrame (.ref e) env) (fun _ s2 => wpAny M A (setFlight (.ref e) none) Q E s2) E s := by
  have fl : ∀ (g : Heap) (T : Addr), s.heap.objs.size ≤ T → T ≠ e → ExcSh g e C (.ref T) → TbSh g T (rawInt L) → KeepX ((env :: outer).filterMap (·.frame)) ch s.heap g → wpAny M A (setFlight (.ref e) none) Q E { s with heap := g } := by
    intro g T n0 n2 x1 x2 x3
    have n1 : s.heap.get? T = none := Heap.get?_none_of_le n0
    obtain ⟨oe, vs, h0, hc, hdc, hd, h1, h2⟩ := x1
    obtain ⟨oT, ts, g0, gd, g3⟩ := x2
    unfold setFlight
    refine wpAny_bind (wpAny_field h0 hd h1 ?_)
    rw [if_pos (show (Value.ref T != Value.none) = true from by simp)]
    have sz : 3 < ts.size := (Array.getElem?_eq_some_iff.mp g3).1
    refine wpAny_setField g0 gd sz (k _ T n0 n2 ⟨oe, vs, by rw [Heap.get?_update_other _ _ n2]; exact h0, hc, hdc, hd, h1, h2⟩ ⟨_, _, Heap.get?_update_self _ g0 (Obj.isFreed_of_fields (Obj.data_mapFields gd _)), Obj.data_mapFields gd _, by simp [sz]⟩ ⟨fun b o hb hfs eb => ?_, fun b o hb hfs eb => ?_⟩)
    · have nb : b ≠ T := fun z => by rw [z, n1] at eb; cases eb
      show Heap.get? (Heap.update g T _) b = _
      rw [Heap.get?_update_other _ _ (Ne.symm nb)]; exact x3.1 b o hb hfs eb
    · have nb : b ≠ T := fun z => by rw [z, n1] at eb; cases eb
      obtain ⟨sl, q⟩ := x3.2 b o hb hfs eb
      exact ⟨sl, by show Heap.get? (Heap.update g T _) b = _; rw [Heap.get?_update_other _ _ (Ne.symm nb)]; exact q⟩
  obtain ⟨oe, vs, h0, hc, hdc, hd, h1, h2⟩ := id he
  unfold noteFrame
  simp only [hf]
  refine wpAny_bind (wpAny_field h0 hd h1 ?_)
  rcases ht with rfl | ⟨T, rfl, hTe, oT, ts, g0, gd, g3⟩
  · rw [if_neg (show ¬ ((Value.none != Value.none) = true) from by simp)]
    exact entryX hfr hl hf he fun g T n1 n2 x1 x2 x3 => fl g T n1 n2 x1 x2 (x3.mono fun b hb => by simp at hb; rw [hb]; exact hch)
  · rw [if_pos (show (Value.ref T != Value.none) = true from by simp)]
    refine wpAny_bind (wpAny_field g0 gd g3 ?_)
    rw [if_neg (show ¬ ((Value.none == rawInt L) = true) from by simp [rawInt])]
    have sz : 3 < ts.size := (Array.getElem?_eq_some_iff.mp g3).1
    refine wpAny_bind (wpAny_setField g0 gd sz ?_)
    have oth : ∀ b, b ≠ T → (s.heap.update T (Obj.mapFields (·.setIfInBounds 3 Value.none))).get? b = s.heap.get? b := fun b hb => Heap.get?_update_other _ _ (Ne.symm hb)
    have szU : (s.heap.update T (Obj.mapFields (·.setIfInBounds 3 Value.none))).objs.size = s.heap.objs.size := by simp
    have nfT : ∀ b, b ∈ (env :: outer).filterMap (·.frame) → b ≠ T := fun b hb z => by obtain ⟨_, o, ho, hn⟩ := hl.mem hb; rw [z, g0] at ho; cases ho; exact hn ts gd
    have he' : ExcSh (s.heap.update T (Obj.mapFields (·.setIfInBounds 3 Value.none))) e C (.ref T) := ⟨oe, vs, (oth e (Ne.symm hTe)).trans h0, hc, hdc, hd, h1, h2⟩
    have hl' : Heap.FunFrames (s.heap.update T (Obj.mapFields (·.setIfInBounds 3 Value.none))) base (env :: outer) := hl.of_keeps fun b o hb hn => ⟨o, (oth b fun z => by rw [z, g0] at hb; cases hb; exact hn ts gd).trans hb, rfl⟩
    refine entryX (s := { s with heap := s.heap.update T (Obj.mapFields (·.setIfInBounds 3 Value.none)) }) hfr hl' hf he' fun g T' n1 n2 x1 x2 x3 => fl g T' (by rw [← szU]; exact n1) n2 x1 x2 ⟨fun b o hb hfs eb => ?_, fun b o hb hfs eb => ?_⟩
    · have nb : b ≠ T := fun z => hb (z ▸ hch' T rfl)
      exact x3.1 b o (fun z => by simp at z; exact hb (z ▸ hch)) hfs ((oth b nb).trans eb)
    · exact x3.2 b o (fun z => by simp at z; exact hb (z ▸ hch)) hfs ((oth b (nfT b hfs)).trans eb)
end
end PySem
end
section
namespace L2
open PySem PySem.Spec PyProof.Rows
section
variable {P : Program} {w : World} {H H' : Hp} {h h' h0 : Heap} {a : Addr} {o : HO}
theorem ObjOk.there (x : ObjOk P w H h a o) : ∃ u, h.get? a = some u := by
  cases o with
  | lst xs => obtain ⟨_, _, _, _, e⟩ := x; exact ⟨_, e⟩
  | tup xs => obtain ⟨_, _, _, _, e, _⟩ := x; exact ⟨_, e⟩
  | dK kvs => obtain ⟨_, _, _, _, o, _, _, e, _⟩ := x; exact ⟨_, e⟩
  | dT kvs => obtain ⟨_, _, _, _, o, _, _, e, _⟩ := x; exact ⟨_, e⟩
  | set S n => obtain ⟨o, _, _, _, e, _⟩ := x; exact ⟨_, e⟩
  | ins C dx fs => obtain ⟨_, _, _, e, _⟩ := x; exact ⟨_, e⟩
  | own y => obtain ⟨_, e⟩ := x; exact ⟨_, e⟩
  | xd fs => obtain ⟨_, ⟨_, _, _, e, _⟩, _⟩ := x; exact ⟨_, e⟩
  | rng lo hi => obtain ⟨_, _, _, e⟩ := x; exact ⟨_, e⟩
  | frz ob u => obtain ⟨e, _⟩ := x; exact ⟨_, e⟩
  | tbl ps => exact ⟨_, (show h.get? a = some _ from x)⟩
  | met f y => exact ⟨_, (show h.get? a = some _ from x)⟩
  | ext φ => obtain ⟨_, ⟨_, e⟩, _⟩ := x; exact ⟨_, e⟩
theorem HOk.none_of (x : HOk P w H h) (e : h.get? a = none) : H a = none := by
  cases q : H a with
  | none => rfl
  | some u => obtain ⟨o, z⟩ := (x a u q).there; rw [e] at z; cases z
theorem HOk.leftX {fs ch : List Addr} (x : HOk P w H h) (k : KeepX fs ch h h') (hc : ∀ b ∈ ch, H b = none) (hf : ∀ b ∈ fs, H b = none) : HOk P w H h' := fun b u e => by
  refine (x b u e).stay (fun c v hc' q => k.1 c v (fun z => ?_) (fun z => ?_) q) (fun _ q => q) fun _ _ q => q
  · have n := hc c z
    rcases hc' with r | r
    · rw [r, e] at n; cases n
    · rw [r] at n; cases n
  · have n := hf c z
    rcases hc' with r | r
    · rw [r, e] at n; cases n
    · rw [r] at n; cases n
theorem Un.leftX {fs fs' ch : List Addr} {H0 : Hp} (u : Un fs [] H0 H h0 h) (k : KeepX fs' ch h h') (hc : ∀ b ∈ ch, h0.get? b = none) (hf : ∀ b o, h0.get? b = some o → b ∈ fs' → b ∈ fs) : Un fs [] H0 H h0 h' := by
  have nc : ∀ b o, h0.get? b = some o → b ∉ ch := fun b o e z => by rw [hc b z] at e; cases e
  refine ⟨fun b o e n hb hx => k.1 b o (nc b o e) (fun z => hb (hf b o e z)) (u.keep b o e n hb hx), fun b o e n hb hx => ?_, u.free, fun b o e hx => ?_, u.tups, u.frzs, u.tbls⟩
  · obtain ⟨sl, q⟩ := u.slot b o e n hb hx
    obtain ⟨sl', q'⟩ := k.any (nc b o e) q
    exact ⟨sl', q'⟩
  · obtain ⟨o', q⟩ := u.there b o e hx
    obtain ⟨sl', q'⟩ := k.any (nc b o e) q
    exact ⟨_, q'⟩
end
def FlX (h0 : Heap) (H : Hp) (a C : Addr) (h : Heap) : Prop := h0.get? a = none ∧ H a = none ∧ ∃ t1, ExcSh h a (.ref C) t1 ∧ NoFl h a t1 ∧ ∀ T, t1 = .ref T → h0.get? T = none ∧ H T = none
def CXE (P : Program) (w : World) : CXT := fun outer H s E e s' => ∃ a C H', e = .ref a ∧ s'.os = s.os ∧ AllBare s'.gens ∧ Un (frs outer) [] H H' s.heap s'.heap ∧ HOk P w H' s'.heap ∧ FlX s.heap H' a C s'.heap ∧ E (.ref C) none H'
def chX (a : Addr) (t1 : Value) : List Addr := a :: (match t1 with | .ref T => [T] | _ => [])
theorem chX_ref {a T : Addr} : T ∈ chX a (.ref T) := by simp [chX]
theorem chX_all {a : Addr} {t1 : Value} {p : Addr → Prop} (h1 : p a) (h2 : ∀ T, t1 = .ref T → p T) : ∀ b ∈ chX a t1, p b := fun b hb => by
  unfold chX at hb
  rcases List.mem_cons.mp hb with e | e
  · rw [e]; exact h1
  · cases t1 <;> simp at e
    rw [e]; exact h2 _ rfl
def Lv (X : Cx) (E : XK) : Prop := ∀ (pins : List (Addr × Obj)) (σ : St) (H' : Hp) (s' : Shared) (a C : Addr), Inv X pins σ H' s' → FlX X.s₀.heap H' a C s'.heap → E (.ref C) none H' → X.xe (.ref a) s'
theorem lv_of {P : Program} {w : World} {K : PySem.W.Frag} {mg : Str → Option Value} {base : Heap} {N : List Str} {qual : Str} {scope : Scope} {f : Addr} {cd : Value} {A : Around} {outer : List Env} {s : Shared} {H : Hp} {E : XK} :
    Lv (cxOf (CXE P w) P w K mg base N qual scope f cd A outer s H E) E := by
  intro pins σ H' s' a C I F q
  obtain ⟨n0, nH, t1, sh, nf, hT⟩ := F
  show wpAny (model P w) (A.deeper (envOfC qual scope s.heap.objs.size f cd)) (leaving (envOfC qual scope s.heap.objs.size f cd) (.ref a)) (fun _ s'' => CXE P w outer H s E (.ref a) s'') _ s'
  unfold leaving
  refine wpAny_bind (leaveX (base := base) (outer := outer) (ch := chX a t1) I.ok.frames I.stack rfl sh nf (by simp [chX]) (fun T e => by rw [e]; exact chX_ref) fun h' T zT neT sh' tb' kp => ?_)
  have hT0 : s.heap.get? T = none := by
    cases e : s.heap.get? T with
    | none => rfl
    | some o => obtain ⟨o', e'⟩ := I.base.there T o e (by simp [cxOf]); exact absurd (Nat.lt_of_lt_of_le (Heap.lt_size e') zT) (Nat.lt_irrefl _)
  have frs' : ∀ b ∈ frs (envOfC qual scope s.heap.objs.size f cd :: outer), H' b = none := fun b hb => I.stkFree b hb
  refine ⟨a, C, H', rfl, I.os, I.bare, Un.leftX I.base kp (chX_all n0 fun T e => (hT T e).1) fun b o e hb => ?_, I.hok.leftX kp (chX_all nH fun T e => (hT T e).2) frs', ⟨n0, nH, .ref T, sh', .inr ⟨T, rfl, neT, tb'⟩, fun T' e => ?_⟩, q⟩
  · rcases List.mem_cons.mp (I.stkSub b hb) with z | z
    · exfalso
      have e' : s.heap.get? b = some o := e
      have : b = s.heap.objs.size := z
      rw [this] at e'
      exact absurd (Heap.lt_size e') (Nat.lt_irrefl _)
    · exact z
  · cases e
    exact ⟨hT0, I.hok.fresh zT⟩
theorem Lv.pass {X : Cx} {E : XK} (L : Lv X E) (hx : X.ex = []) : Passes (CXE X.prog X.w) X E := by
  intro pins σ H s e s' I h
  obtain ⟨a, C, H', rfl, os, bare, un, hok, ⟨n0, nH, t1, sh, nf, hT⟩, q⟩ := h
  have I' : Inv X pins σ H' s' := I.call' os un hok bare (fun b z => absurd z (by simp))
  have old : ∀ b, s.heap.get? b = none → X.s₀.heap.get? b = none := fun b e => by
    cases z : X.s₀.heap.get? b with
    | none => rfl
    | some o => obtain ⟨o', z'⟩ := I.base.there b o z (by rw [hx]; simp); rw [e] at z'; cases z'
  exact L pins σ H' s' a C I' ⟨old a n0, nH, t1, sh, nf, fun T e => ⟨old T (hT T e).1, (hT T e).2⟩⟩ q
theorem Fun.okE {P : Program} {w : World} {K : PySem.W.Frag} {mg : Str → Option Value} {base : Heap} {x qual : Str} {st : Stmt} {f : Addr} {fd : FuncData} {N ps : List Str} {k : Nat} {sp : Sp} (F : Fun K x qual st f fd) (S : FnScope N ps (defScope st)) (len : ∀ vs H Q E, sp vs H Q E → vs.length = ps.length)
    (hbody : ∀ (cdv : Value) (A : Around) (outer : List Env) (s : Shared) (H : Hp) (vs : List V) (Q : VK) (E : XK), Room k (A.deeper (envOfC qual (defScope st) s.heap.objs.size f cdv)) → sp vs H Q E → Lv (cxOf (CXE P w) P w K mg base N qual (defScope st) f cdv A outer s H E) E → Passes (CXE P w) (cxOf (CXE P w) P w K mg base N qual (defScope st) f cdv A outer s H E) E →
      ∃ t, PSs (cxOf (CXE P w) P w K mg base N qual (defScope st) f cdv A outer s H E) (defBody st) t ∧ t { nx := fun _ H' => Q .non H', rt := Q } (start N vs) H) : FnOk P w K mg base (CXE P w) (k + 1) f fd ps sp := by
  obtain ⟨oc, od, kV, doc, pm, an, cdv, ct, osl, rfl, lk, hcd⟩ := F.ex
  exact fn_of lk hcd S len fun A outer s H vs Q E hr hsp => hbody cdv A outer s H vs Q E hr hsp lv_of (lv_of.pass rfl)
theorem FnOk.mayE {P : Program} {w : World} {K : PySem.W.Frag} {mg : Str → Option Value} {base : Heap} {k : Nat} {f : Addr} {fd : FuncData} {ps : List Str} {sp : Sp} (F : FnOk P w K mg base CX0 k f fd ps sp) : FnOk P w K mg base (CXE P w) k f fd ps sp :=
  ⟨F.len, fun A outer s H args us vs Q E hr e0 hb hv hs => codeAny_mono (F.run A outer s H args us vs Q E hr e0 hb hv hs) fun r s' h => by
    cases r with
    | error e => exact False.elim h
    | ok fl => cases fl <;> exact h⟩
theorem FnOk.never {P : Program} {w : World} {K : PySem.W.Frag} {mg : Str → Option Value} {base : Heap} {k : Nat} {f : Addr} {fd : FuncData} {ps : List Str} {sp : Sp} (F : FnOk P w K mg base (CXE P w) k f fd ps sp) : FnOk P w K mg base CX0 k f fd ps (fun vs H Q _ => sp vs H Q E0) :=
  ⟨fun vs H Q E h => F.len vs H Q E0 h, fun A outer s H args us vs Q E hr e0 hb hv hs => codeAny_mono (F.run A outer s H args us vs Q E0 hr e0 hb hv hs) fun r s' h => by
    cases r with
    | error e => obtain ⟨_, _, _, _, _, _, _, _, _, z⟩ := h; exact False.elim z
    | ok fl => cases fl <;> exact h⟩
end L2
end
section
namespace L2
open PySem PySem.Spec PyProof.Rows
abbrev vMro : List Value := [.type "ValueError", .type "Exception", .type "BaseException", .type "object"]
theorem exc_obj {K : PySem.W.Frag} {h : Heap} {C : Addr} (X : K.In h) (q : PySem.W.excIn K C vMro "ValueError.__new__" = true) :
    ∃ tl N nm qn bs hdct sn sub ab col dd k0 k1 k2 k3 k5 mN, h.get? C = some (excClassObj nm qn C N bs tl hdct sn sub ab col dd k0 k1 k2 k3 k5 "ValueError.__new__") ∧ h.Ns N mN ∧ mN "__init__" = none ∧ OwnTail h vMro tl := by
  unfold PySem.W.excIn at q
  split at q
  · rename_i dd cd sl ho
    split at q
    · rename_i C' bm k0 k1 k2 k3 n k5 hm hs
      simp only [Bool.and_eq_true, beq_iff_eq, Bool.not_eq_true'] at q
      obtain ⟨⟨⟨⟨⟨rfl, rfl⟩, hdel⟩, ht⟩, hok⟩, hni⟩ := q
      obtain ⟨nm, bs, mro, ns, qn, hd, sn, sub, ab, col, del⟩ := cd
      dsimp only at hm hdel hok hni; subst hm hdel
      have hsl : sl = #[k0, k1, k2, k3, some (.builtin "ValueError.__new__"), k5] := by obtain ⟨l⟩ := sl; simp only at hs; rw [hs]
      subst hsl
      exact ⟨bm, ns, nm, qn, bs, hd, sn, sub, ab, col, dd, k0, k1, k2, k3, k5, _, X _ _ ho, .of_isNs (PySem.W.isNs_of_in X hok), PySem.W.nsMap_none_of_in X hok hni, PySem.W.tail_of_in X ht⟩
    · cases q
  · cases q
section
variable {X : Cx}
def tRaise (E : XK) (C : Addr) : TS := fun _ _ H => E (.ref C) none H
theorem ps_raise {E : XK} {x z : Str} {C : Addr} {np cpos pos kp : Pos} {kj : Nat} (L : Lv X E) (hc : X.calm = true) (hxe : X.ex = []) (hg : Gl X x) (hm : X.mg x = some (.ref C)) (hx : PySem.W.excIn X.K C vMro "ValueError.__new__" = true)
    (hd : (x == ("__debug__" : Str)) = false := by decide) (he : starEach [.Constant (.str z) kj kp] X.env = (false, eval (.Constant (.str z) kj kp) X.env) :: starEach [] X.env := by rfl) :
    PS X (.Raise (some (.Call (.Name x np) [.Constant (.str z) kj kp] [] cpos)) none pos) (tRaise E C) := by
  intro pins s σ H D I h
  obtain ⟨tl, N, nm, qn, bs, hdct, sn, sub, ab, col, dd, k0, k1, k2, k3, k5, mN, hC, hN, hni, T⟩ := exc_obj I.kIn hx
  refine wpAny_Raise_call_subU (C := C) (nm := nm) (q := qn) (N := N) (bs := bs) (bm := tl) (hdct := hdct) (sn := sn) (sub := sub) (ab := ab) (col := col) (dd := dd) (k0 := k0) (k1 := k1) (k2 := k2) (k3 := k3) (k5 := k5) (mN := mN)
    F.excBase_ValueError (by decide +kernel) F.excBase_ValueError (T.hasType F.excBase_ValueError.hasBase) (I.ok.hd hc) (by rw [he]; rfl) hni (ld_glob I hg hm ⟨rfl, ?_⟩ hd)
  rw [he]
  show wpAny _ _ (evalArgs (.ref C) true ((false, eval (.Constant (.str z) kj kp) X.env) :: backTo cpos (starEach [] X.env)) []) _ _ _
  have e0 : backTo cpos (starEach [] X.env) = [] := by rfl
  rw [e0]
  refine Calls.evalArgs_plain (Calls.spliced_cons (Calls.Constant_str (Calls.spliced_nil ⟨rfl, (by show 1 ≤ sizeLine; decide), hC, hN, T, fun h' e hm => ?_⟩)))
  obtain ⟨t, ht, _, _⟩ := hm.there
  have old : ∀ b, s.heap.get? b = none → X.s₀.heap.get? b = none := fun b e => by
    cases z : X.s₀.heap.get? b with
    | none => rfl
    | some o => obtain ⟨o', z'⟩ := I.base.there b o z (by rw [hxe]; simp); rw [e] at z'; cases z'
  exact L pins σ H _ e C (I.kept (t' := s.toks + 1) hm.keeps) ⟨old e hm.new, I.hok.none_of hm.new, .none, ⟨_, _, ht, rfl, rfl, rfl, rfl, rfl⟩, .inl rfl, fun T q => nomatch q⟩ h
abbrev hX (X : Cx) (a : Addr) (oe : Obj) : Cx := { X with A := X.A.mark (some (.ref a)), calm := false, pn := (a, oe) :: X.pn, xe := fun _ _ => False }
abbrev tX (X : Cx) (pn : List (Addr × Obj)) (E : Value → Shared → Prop) : Cx := { X with pn := pn, xe := E }
theorem Cx.Ok.hX {X : Cx} (ok : X.Ok) (a : Addr) (oe : Obj) : (hX X a oe).Ok :=
  ⟨ok.mod, ok.kind, ok.glob, ok.blt, ok.above, ok.inj, ok.has, ok.cab, (fun z => nomatch z), ok.frames, ok.stk, ok.exf, ok.bs, ok.bsz, ok.noex, ok.exfs, ok.funs, ok.frf⟩
theorem Cx.Ok.tX {X : Cx} (ok : X.Ok) (pn : List (Addr × Obj)) (E : Value → Shared → Prop) : (tX X pn E).Ok :=
  ⟨ok.mod, ok.kind, ok.glob, ok.blt, ok.above, ok.inj, ok.has, ok.cab, ok.hd, ok.frames, ok.stk, ok.exf, ok.bs, ok.bsz, ok.noex, ok.exfs, ok.funs, ok.frf⟩
structure Held (oe : Obj) (C : Addr) : Prop where
  cls : oe.cls = .ref C
  dict : oe.dict = none
  fld : ∃ vs, oe.data = .fields vs ∧ vs[2]? = some .none
def FTry (X : Cx) (B : Addr) (okC : Addr → Prop) (th : Addr → Addr → TS) (D : Ends) (i : Nat) : XK := fun Cv _ H' => ∃ C, Cv = .ref C ∧ okC C ∧ PySem.W.exmOne X.K (.ref C) (.ref B) = some true ∧
  ∀ a, th a C { nx := fun _ _ => False, rt := D.rt } ((List.replicate X.N.length none).set i (some (.ref a))) H'
def tTry (X : Cx) (B : Addr) (okC : Addr → Prop) (tb : XK → TS) (th : Addr → Addr → TS) (i : Nat) : TS := fun D σ H => tb (FTry X B okC th D i) D σ H
end
end L2
end
section
namespace PySem
theorem setFlX {M : Model} {A : Around} {E : Value → Shared → Prop} {s : Shared} {e T : Addr} {C : Value} {fs : List Addr} {Q : Unit → Shared → Prop} (n : T ≠ e) (he : ExcSh s.heap e C (.ref T)) (ht : TbSh s.heap T .none)
    (k : ∀ h', (∀ o, s.heap.get? e = some o → h'.get? e = some o) → KeepX fs [T] s.heap h' → Q () { s with heap := h' }) : wpAny M A (setFlight (.ref e) none) Q E s := by
  obtain ⟨oe, vs, h0, hc, hdc, hd, h1, h2⟩ := he
  obtain ⟨oT, ts, g0, gd, g3⟩ := ht
  refine wpAny_setFlight_none h0 hd h1 g0 gd (Array.getElem?_eq_some_iff.mp g3).1 (k _ (fun o q => by rw [Heap.get?_update_other _ _ n]; exact q) ⟨fun b o hb _ q => ?_, fun b o hb _ q => ⟨o.slots, ?_⟩⟩)
  · rw [Heap.get?_update_other _ _ (fun z => hb (by simp [z]))]; exact q
  · rw [Heap.get?_update_other _ _ (fun z => hb (by simp [z]))]; exact q
end PySem
namespace L2
open PySem PySem.Spec PyProof.Rows
section
variable {X : Cx} {pins : List (Addr × Obj)} {σ : St} {H : Hp} {s : Shared}
theorem Inv.hold (I : Inv X pins σ H s) {a : Addr} {oe : Obj} (e : s.heap.get? a = some oe) (n : H a = none) (nl : a ≠ X.env.locals) (nf : a ∉ X.fs) (d : ∀ v, oe.data ≠ .cell v) : Inv (hX X a oe) pins σ H s :=
  ⟨I.ok.hX a oe, I.os, I.bare, I.base, I.loc, I.cell, I.free, I.freeC, fun p hp => by
    rcases List.mem_cons.mp hp with z | z
    · rw [z]; exact ⟨e, n, nl, nf, d⟩
    · exact I.pin p z, I.hok, I.len⟩
theorem Inv.loose {a : Addr} {oe : Obj} (I : Inv (hX X a oe) pins σ H s) (ok : X.Ok) : Inv X pins σ H s := ⟨ok, I.os, I.bare, I.base, I.loc, I.cell, I.free, I.freeC, fun p hp => I.pin p (List.mem_cons_of_mem _ hp), I.hok, I.len⟩
theorem Inv.goes {h' : Heap} {t' : Nat} {m' : Str → Option Value} (I : Inv X pins σ H s) (hs : Heap.SameBut X.env.locals s.heap h') (hn : h'.Ns X.env.locals m') : Inv X pins (List.replicate X.N.length none) H { s with heap := h', toks := t' } := by
  have ne : ∀ b o, X.s₀.heap.get? b = some o → b ≠ X.env.locals := fun b o e => Nat.ne_of_lt (Nat.lt_of_lt_of_le (Heap.lt_size e) I.ok.above)
  refine ⟨I.ok, I.os, I.bare, ⟨fun b o e n hb hx => (hs.2 b (ne b o e)).trans (I.base.keep b o e n hb hx), fun b o e n hb hx => ?_, I.base.free, fun b o e hx => ?_, I.base.tups, I.base.frzs, I.base.tbls⟩, ⟨m', hn, fun j y v e1 e2 e3 => ?_⟩, fun y c e => ?_, I.free, I.freeC, fun p hp => ?_, fun b ob e => ?_, by simp⟩
  · obtain ⟨sl, e1⟩ := I.base.slot b o e n hb hx; exact ⟨sl, (hs.2 b (ne b o e)).trans e1⟩
  · obtain ⟨o', e1⟩ := I.base.there b o e hx; exact ⟨o', (hs.2 b (ne b o e)).trans e1⟩
  · rw [List.getElem?_replicate] at e2; split at e2 <;> cases e2
  · obtain ⟨v, z⟩ := I.cell y c e; exact ⟨v, z.sameBut hs (I.cne y c e)⟩
  · obtain ⟨e, n, nl, nf, d⟩ := I.pin p hp; exact ⟨(hs.2 p.1 nl).trans e, n, nl, nf, d⟩
  · refine (I.hok b ob e).stay (fun c w' hc q => (hs.2 c ?_).trans q) (fun _ q => q) fun _ _ q => q
    rintro rfl
    rcases hc with z | z
    · rw [← z, I.free] at e; cases e
    · rw [I.free] at z; cases z
theorem Inv.blank (I : Inv X pins σ H s) : Inv X pins (List.replicate X.N.length none) H s := I.weak (by simp [I.len]) fun i v e => by rw [List.getElem?_replicate] at e; split at e <;> cases e
theorem ps_try (okC : Addr → Prop) {x n : Str} {B : Addr} {body : List Stmt} {b0 : Stmt} {suite : List Stmt} {np hp pos : Pos} {tb : XK → TS} {th : Addr → Addr → TS} {i : Nat} (hst : X.stack = X.env :: X.outer) (hfr : X.env.frame = some X.env.locals) (hg : Gl X x) (hm : X.mg x = some (.ref B))
    (hN : X.N.Nodup) (hi : X.N[i]? = some n) (hl : X.env.scope.names.lookup n = some .local)
    (hb : ∀ (F : XK) (pn : List (Addr × Obj)) (E : Value → Shared → Prop), Passes (CXE X.prog X.w) (tX X pn E) F → PSs (tX X pn E) body (tb F))
    (hs : ∀ (a : Addr) (oe : Obj) (C : Addr), okC C → Held oe C → PSs (hX X a oe) (b0 :: suite) (th a C)) (hd : (x == ("__debug__" : Str)) = false := by decide) :
    PS X (.Try body [.ExceptHandler (some (.Name x np)) (some n) (b0 :: suite) hp] [] [] pos) (tTry X B okC tb th i) := by
  intro pins s σ H D I h
  refine wpAny_Try_except ?_
  have pass : Passes (CXE X.prog X.w) (tX X (X.pn ++ pins) fun e s' => ∃ σ1 H0 s1, Inv X pins σ1 H0 s1 ∧ CXE X.prog X.w X.stack H0 s1 (FTry X B okC th D i) e s') (FTry X B okC th D i) := fun pins' σ1 H1 s1 e s' I1 q =>
    ⟨σ1, H1, s1, ⟨I.ok, I1.os, I1.bare, I1.base, I1.loc, I1.cell, I1.free, I1.freeC, fun p hp => I1.pin p (List.mem_append_left _ hp), I1.hok, I1.len⟩, q⟩
  have I0 : Inv (tX X (X.pn ++ pins) fun e s' => ∃ σ1 H0 s1, Inv X pins σ1 H0 s1 ∧ CXE X.prog X.w X.stack H0 s1 (FTry X B okC th D i) e s') [] σ H s := ⟨I.ok.tX _ _, I.os, I.bare, I.base, I.loc, I.cell, I.free, I.freeC, fun p hp => I.pin p (by simpa using hp), I.hok, I.len⟩
  have back : ∀ {σ' H' s'}, Inv (tX X (X.pn ++ pins) fun e s' => ∃ σ1 H0 s1, Inv X pins σ1 H0 s1 ∧ CXE X.prog X.w X.stack H0 s1 (FTry X B okC th D i) e s') [] σ' H' s' → Inv X pins σ' H' s' := fun {σ' H' s'} J => ⟨I.ok, J.os, J.bare, J.base, J.loc, J.cell, J.free, J.freeC, fun p hp => J.pin p (by simpa using hp), J.hok, J.len⟩
  refine wpAny_mono (hb _ _ _ pass [] s σ H D I0 h) (fun f s1 q => ?_) fun e s' q => ?_
  · cases f with
    | next => obtain ⟨σ', H', J, q⟩ := q; exact wpAny_execs_nil ⟨σ', H', back J, q⟩
    | brk => obtain ⟨σ', H', J, q⟩ := q; exact ⟨σ', H', back J, q⟩
    | cont => obtain ⟨σ', H', J, q⟩ := q; exact ⟨σ', H', back J, q⟩
    | ret u => obtain ⟨v, σ', H', J, r, q⟩ := q; exact ⟨v, σ', H', back J, r, q⟩
  · obtain ⟨σ1, H0, s1, I1, a, C, H1, rfl, os, bare, un, hok, ⟨n0, nH, t1, sh, nf, hT⟩, C', eC, hok', hex, rd⟩ := q
    cases eC
    have I2 : Inv X pins σ1 H1 s' := I1.call' os un hok bare (fun b z => absurd z (by simp))
    have hf2 : X.A.frames = some (X.env :: X.outer) := by rw [← hst]; exact I.ok.frames
    have st2 : s'.heap.FunFrames X.base (X.env :: X.outer) := by rw [← hst]; exact I2.stack
    refine leaveX (ch := chX a t1) hf2 st2 hfr sh nf (by simp [chX]) (fun T e => by rw [e]; exact chX_ref) fun h3 T zT neT sh3 tb3 kp3 => ?_
    rw [← hst] at kp3
    have u3 : Un (frs X.stack) [] H0 H1 s1.heap h3 := Un.leftX un kp3 (chX_all n0 fun T e => (hT T e).1) fun b o _ hb => hb
    have ok3 : HOk X.prog X.w H1 h3 := hok.leftX kp3 (chX_all nH fun T e => (hT T e).2) I2.stkFree
    have I3 : Inv X pins σ1 H1 { s' with heap := h3 } := I1.call' (s' := { s' with heap := h3 }) os u3 ok3 bare (fun b z => absurd z (by simp))
    have HT : H1 T = none := I2.hok.fresh zT
    have T1 : s1.heap.get? T = none := by
      cases e : s1.heap.get? T with
      | none => rfl
      | some o => obtain ⟨o', e'⟩ := un.there T o e (by simp); exact absurd (Nat.lt_of_lt_of_le (Heap.lt_size e') zT) (Nat.lt_irrefl _)
    have aL : a ≠ X.env.locals := fun z => by obtain ⟨m, ⟨o, _, _, e, _⟩, _⟩ := I1.loc; rw [← z, n0] at e; cases e
    have aF : a ∉ X.fs := fun z => by
      obtain ⟨_, o, e, _⟩ := I1.stack.mem (show a ∈ X.stack.filterMap (·.frame) by rw [hst, List.filterMap_cons, hfr]; exact List.mem_cons_of_mem _ z)
      rw [n0] at e; cases e
    obtain ⟨oe, vs, h0, hc, hdc, hdt, v1, v2⟩ := id sh3
    have ncell : ∀ v, oe.data ≠ .cell v := fun v z => by rw [hdt] at z; cases z
    have I3h : Inv (hX X a oe) pins σ1 H1 { s' with heap := h3 } := I3.hold h0 nH aL aF ncell
    refine wpAny_handleBy_cons (codeAny_handlers_test (ld_glob (X := hX X a oe) I3h hg hm ?_ hd)) (by intro q; cases q)
    have IA : PySem.W.InstAt h3 a oe C none := ⟨h0, hc, by unfold PySem.W.notCls; rw [hdt], by rw [hdc]; trivial⟩
    refine (PySem.W.exm_one (M := model X.prog X.w) I3.kIn IA.type hex).here ?_
    show codeAny _ _ _ _ _
    refine codeAny_handlers_suite_as (setFlX (fs := frs X.stack) neT sh3 tb3 fun h4 e4 kp4 => ?_)
    have u4 : Un (frs X.stack) [] H0 H1 s1.heap h4 := Un.leftX u3 kp4 (fun b hb => by simp at hb; rw [hb]; exact T1) fun b o _ hb => hb
    have ok4 : HOk X.prog X.w H1 h4 := ok3.leftX kp4 (fun b hb => by simp at hb; rw [hb]; exact HT) I2.stkFree
    have I4 : Inv X pins σ1 H1 { s' with heap := h4 } := I1.call' (s' := { s' with heap := h4 }) os u4 ok4 bare (fun b z => absurd z (by simp))
    have I4h : Inv (hX X a oe) pins σ1 H1 { s' with heap := h4 } := I4.hold (e4 _ h0) nH aL aF ncell
    refine store_ok (X := hX X a oe) (i := i) (v := .ref a) I4h hN hi (.inl hl) rfl (fun s5 I5 => ?_) (.inr hl)
    have iL : i < σ1.length := by rw [I1.len]; exact (List.getElem?_eq_some_iff.mp hi).1
    have I6 : Inv (hX X a oe) pins ((List.replicate X.N.length none).set i (some (.ref a))) H1 s5 := I5.weak (by simp [I1.len]) fun j v e => by
      by_cases hj : j = i
      · subst hj
        rw [List.getElem?_set_self (by rw [List.length_replicate, ← I1.len]; exact iL)] at e
        cases e
        exact List.getElem?_set_self iL
      · rw [List.getElem?_set_ne (Ne.symm hj), List.getElem?_replicate] at e
        split at e <;> cases e
    refine wpAny_mono (hs a oe C hok' ⟨hc, hdc, vs, hdt, v2⟩ pins s5 _ H1 _ I6 (rd a)) (fun f s7 q => ?_) fun _ _ z => False.elim z
    cases f with
    | next => obtain ⟨_, _, _, z⟩ := q; exact False.elim z
    | brk => obtain ⟨_, _, _, z⟩ := q; exact False.elim z
    | cont => obtain ⟨_, _, _, z⟩ := q; exact False.elim z
    | ret u =>
      obtain ⟨v, σ7, H7, I7, r7, q7⟩ := q
      obtain ⟨m7, hn7, _⟩ := id I7.loc
      refine wpAny_nameGoes hl hn7 (by rw [I.ok.kind]; rfl) fun h8 m8 hn8 sb8 => ?_
      exact ⟨v, _, H7, (I7.loose I.ok).goes sb8 hn8, r7, q7⟩
end
end L2
end
section
namespace PySem
open Sem (wp)
theorem entry_unchain : entryFor table "proto.unchain" = some Builtin.«proto.unchain» := entryFor_of_tree (by kernel_rfl)
section
variable {prog : Program} {w : World} {A : Around} {E : Value → Shared → Prop} {s : Shared}
theorem raiseNew_held {α : Type} {a e : Addr} {oa oe : Obj} {va vs : Array Value} {Q : α → Shared → Prop} (hh : A.handled = some (.ref e)) (ne : e ≠ a) (ha : s.heap.get? a = some oa) (hda : oa.data = .fields va) (hz : 2 < va.size)
    (he : s.heap.get? e = some oe) (hde : oe.data = .fields vs) (h2 : vs[2]? = some .none) (h : E (.ref a) { s with heap := s.heap.update a (Obj.mapFields (·.setIfInBounds 2 (.ref e))) }) : wpAny (model prog w) A (raiseNew (.ref a) : Sem α) Q E s := by
  unfold raiseNew
  refine wpAny_bind (wpAny_handled ?_)
  rw [hh]
  show wpAny _ _ (if ((Value.ref e != Value.ref a) = true) then _ else _) _ _ _
  rw [if_pos (show (Value.ref e != Value.ref a) = true by simp [bne_iff_ne]; exact ne)]
  refine wpAny_bind (wpAny_holding (wpAny_runValue (codeAny_builtin entry_unchain ?_)))
  show wpAny _ _ (field (.ref e) 2 >>= _) _ _ _
  refine wpAny_bind (wpAny_field he hde h2 ?_)
  rw [if_pos (show (Value.none == Value.none) = true from rfl)]
  refine wpAny_pure ?_
  show wpAny _ _ (updateField a 2 (Value.ref e) >>= fun _ => throw (Value.ref a)) _ _ _
  exact wpAny_bind (wpAny_setField (a := a) (i := 2) ha hda hz (wpAny_throw h))
theorem pyNext_list_endH {it l e : Addr} {i : Nat} {items : Array Value} {oe : Obj} {vs : Array Value} {Q : Option Value → Shared → Prop} (hh : A.handled = some (.ref e)) (hit : s.heap.IsListIter it l i) (hl : s.heap.IsList l items) (hx : items[i]? = none)
    (he : s.heap.get? e = some oe) (hde : oe.data = .fields vs) (h2 : vs[2]? = some .none) (hne : e ≠ it) (hQ : ∀ h', Heap.ExtBut it s.heap h' → Q none { s with heap := h' }) : wpAny (model prog w) A (pyNext (.ref it)) Q E s := by
  obtain ⟨o, ho, hc, hd⟩ := id hit
  obtain ⟨ol, hol, _, nl, hdl⟩ := hl
  unfold pyNext
  refine wpAny_bind (wpAny_attempt (wpAny_callSpecial?_slot (name := Str.ofString "__next__") hit.typeIs slot_listiter_next (wpAny_call_entry slot_listiter_next hit.typeIs entry_listiter_next ?_ (args_listiter_next _))))
  show wpAny _ _ (field (.ref it) 0 >>= _) _ _ s
  refine wpAny_bind (wpAny_field ho hd (x := .ref l) rfl ?_)
  show wpAny _ _ (if (Value.ref l == Value.none) = true then _ else _) _ _ s
  rw [if_neg (show ¬ ((Value.ref l == Value.none) = true) from Bool.false_ne_true)]
  show wpAny _ _ (field (.ref it) 1 >>= _) _ _ s; refine wpAny_bind (wpAny_field ho hd (x := .int i 0) rfl ?_)
  show wpAny _ _ (seqItems? (.ref l) >>= _) _ _ s; refine wpAny_bind (wpAny_seqItems hol hdl ?_); simp only [Int.toNat_natCast, hx]
  refine wpAny_bind (wpAny_rule (wpAny_bind (wpAny_setField ho hd (by simp) ?_)))
  show wpAny _ _ (newExc (.type "StopIteration") [] >>= _) _ _ _; refine wpAny_bind ?_; simp only [newExc, newTuple]
  refine wpAny_bind (wpAny_newObj_type ?_ (by size_fits))
  refine wpAny_bind (m := firstArgMember _ _) (wpAny_of_eq (a := Value.none) (by first | rfl | (simp only [firstArgMember]; rfl)) ?_)
  refine wpAny_newObj_type ?_ (by size_fits)
  have lt : e < s.heap.objs.size := Heap.lt_size he
  have he2 : Heap.get? ((s.heap.update it (Obj.mapFields (·.setIfInBounds 0 Value.none))).push { cls := .type "tuple", data := .seq ([] : List Value).toArray }) e = some oe := Heap.get?_push_of_some _ (by rw [Heap.get?_update_other _ _ (Ne.symm hne)]; exact he)
  refine raiseNew_held (A := A.in1) hh (Nat.ne_of_lt (Heap.lt_size he2)) (Heap.get?_push_size _ rfl) rfl ?_ (Heap.get?_push_of_some _ he2) hde h2 ?_
  · rw [Array.size_append]; exact Nat.lt_of_lt_of_le (by decide : 2 < 6) (Nat.le_add_right _ _)
  refine wpAny_bind (wpAny_isInstance (T := "StopIteration") (b := true) ⟨_, Heap.get?_update_self _ (Heap.get?_push_size _ rfl) rfl, rfl⟩ isSubtype_stop ?_)
  refine wpAny_pure (hQ _ fun b o hb eb => ?_)
  have h1 : Heap.get? ((s.heap.update it (Obj.mapFields (·.setIfInBounds 0 Value.none))).push { cls := .type "tuple", data := .seq ([] : List Value).toArray }) b = some o := Heap.get?_push_of_some _ (by rw [Heap.get?_update_other _ _ (Ne.symm hb)]; exact eb)
  rw [Heap.get?_update_other _ _ (Ne.symm (Nat.ne_of_lt (Heap.lt_size h1)))]
  exact Heap.get?_push_of_some _ h1
theorem Walks.listH (e : Addr) (oe : Obj) {vs : Array Value} (hh : A.handled = some (.ref e)) (hde : oe.data = .fields vs) (h2 : vs[2]? = some .none) (I ax : Addr) (hne : ax ≠ I) (hnI : e ≠ I) (items : Array Value) :
    Walks prog w A I [I, ax, e] [I] items.size (fun i v => items[i]? = some v) (fun i h => h.IsListIter I ax i ∧ h.IsList ax items ∧ h.get? e = some oe) where
  sub := fun b hb => by simp at hb; simp [hb]
  frame := fun _ _ _ st hk => ⟨st.1.at fun o q => hk I (by simp) o q, st.2.1.at fun o q => hk ax (by simp) o q, hk e (by simp) _ st.2.2⟩
  item := fun i s Q E hi st hQ => by
    refine wpAny_pyNext_list_item st.1 st.2.1 (x := items[i]) (by simp [hi]) fun h' hit' hs' => ?_
    exact hQ _ h' s.toks (by simp [hi]) ⟨hit', st.2.1.extBut hs'.extBut hne, hs'.extBut e oe hnI st.2.2⟩ fun b o hb q => hs'.extBut b o (fun h => hb (by simp [h])) q
  done := fun s Q E st hQ => pyNext_list_endH hh st.1 st.2.1 (by simp) st.2.2 hde h2 hnI fun h' he' => hQ h' s.toks fun b o hb q => he' b o (fun h => hb (by simp [h])) q
  self := fun _ _ _ _ st hQ => wpAny_pyIter_listiter st.1 hQ
end
end PySem
namespace L2
open PySem PySem.Spec PyProof.Rows
section
variable {X : Cx}
theorem call_anyH {a : Addr} {oe : Obj} {C : Addr} (hd : Held oe C) (hm : (a, oe) ∈ X.pn) (hA : X.A.handled = some (.ref a)) : CallR X (.builtin "any") (fun xs H Q => ∃ (p : Addr) (bs : List Bool), xs = [V.ref p] ∧ H p = some (.lst (bs.map V.bl)) ∧ Q (.bl (bs.any id)) H) := by
  intro pins s σ H xs us Q I r h
  obtain ⟨p, bs, rfl, hp, q⟩ := h
  obtain ⟨u, rfl, ru⟩ := vals1 r
  cases ru
  obtain ⟨its, rv, pl, hz⟩ := I.list (SqL.of (K := X.K) hp)
  have lt : p < s.heap.objs.size := by obtain ⟨o, n, e, _⟩ := pl; exact Heap.lt_size e
  obtain ⟨vs, hd1, hd2⟩ := hd.fld
  have pe := (I.pin (a, oe) (List.mem_append_left _ hm)).1
  have lta : a < s.heap.objs.size := Heap.lt_size pe
  refine call_any_walk (wpAny_pyIter_list pl.isList ⟨_, _, _, _, _, _, fun i => bs.getD i false, rfl, Walks.listH (A := X.A.in1) a oe hA hd1 hd2 _ p (Nat.ne_of_lt lt) (Nat.ne_of_lt lta) its.toArray, ⟨⟨_, Heap.get?_push_size _ rfl, rfl, rfl⟩, pl.isList.push _, Heap.get?_push_of_some _ pe⟩, truth_bools rv, fun h' tk k => ?_⟩)
  refine ⟨.bl (bs.any id), H, ?_, ?_, q⟩
  · exact I.kept (t' := tk) fun b o e => k b o (by simp; exact Nat.ne_of_lt (Heap.lt_size e)) (Heap.get?_push_of_some _ e)
  · show Value.bool _ = Value.bool _
    have e : its.toArray.size = bs.length := by have := rv.length; simp at this; simp [this]
    rw [e, range_any]
theorem call_isiH {K : PySem.W.Frag} {a : Addr} {oe : Obj} {C : Addr} (hK : X.K = K) (hd : Held oe C) (hc : PySem.W.XCls K C) (hm : (a, oe) ∈ X.pn) : CallR X (.builtin "isinstance") (fun xs H Q => ∃ c b, (xs = [.ref a, c]) ∧ ∃ cv, (∀ u, RelV c u → u = cv) ∧ PySem.W.kitOne K (.ref C) cv = some b ∧ Q (.bl b) H) := by
  subst hK
  intro pins s σ H xs us Q I r h
  obtain ⟨c, b, rfl, cv, hcv, e, q⟩ := h
  obtain ⟨u, c', rfl, r1, r2⟩ := vals2 r
  cases (show u = Value.ref a from r1)
  have := hcv _ r2
  subst this
  have pe := (I.pin (a, oe) (List.mem_append_left _ hm)).1
  obtain ⟨vs, hd1, _⟩ := hd.fld
  have IA : PySem.W.InstAt s.heap a oe C none := ⟨pe, hd.cls, by unfold PySem.W.notCls; rw [hd1], by rw [hd.dict]; trivial⟩
  refine PySem.W.kia_one (PySem.W.kitx_exc hc) I.kIn IA e (fun z => nomatch z) fun tk => ⟨.bl b, H, I.tok tk, rfl, q⟩
end
end L2
end
section
namespace L2
open PySem PySem.Spec PyProof.Rows
theorem tidx_loop {prog : Program} {w : World} {A : Around} {E : Value → Shared → Prop} {s : Shared} {its : List Value} {u : Value} {e : Value → Bool} {j : Nat} (he : ∀ y ∈ its, SeqAt.EqAt A s y u (e y)) (hj : ∃ z, its[j]? = some z ∧ e z = true) (hno : ∀ i z, i < j → its[i]? = some z → e z = false)
    {Q : Option Fin × Unit → Shared → Prop} (hQ : Q (some (.done (.ret (.int j s.toks))), ()) { s with toks := s.toks + 1 }) : ∀ (k i : Nat), i ≤ j → i + k = its.length →
    wpAny (model prog w) A (forIn (List.range' i k) ((none, ()) : Option Fin × Unit) fun (i : Nat) __s => match its.toArray[i]? with
      | some y => do
        let b ← eqBool y u
        if b = true then do
          let r ← retInt (i : Int)
          pure (ForInStep.done (some r, ()))
        else pure (ForInStep.yield (none, ()))
      | x => pure (ForInStep.yield (none, ()))) Q E s
  | 0, i, hij, hk => by
    obtain ⟨z, hz, _⟩ := hj
    have := (List.getElem?_eq_some_iff.mp hz).1
    omega
  | k + 1, i, hij, hk => by
    have hi : i < its.length := by omega
    have e1 : its.toArray[i]? = some its[i] := by simp [hi]
    rw [List.range'_succ, List.forIn_cons, e1]
    refine wpAny_bind (wpAny_bind (he its[i] (List.getElem_mem hi) prog w _ _ ?_))
    by_cases hij' : i = j
    · subst hij'
      obtain ⟨z, hz, ez⟩ := hj
      rw [List.getElem?_eq_getElem hi] at hz
      cases hz
      rw [ez, if_pos rfl]
      exact wpAny_bind (wpAny_bind (wpAny_mkInt (wpAny_pure (wpAny_pure (wpAny_pure hQ)))))
    · rw [hno i its[i] (by omega) (List.getElem?_eq_getElem hi), if_neg Bool.false_ne_true]
      exact wpAny_pure (tidx_loop he hj hno hQ k (i + 1) (by omega) (by omega))
section
variable {X : Cx}
theorem mt_tidx : MtR X "tuple.index" (fun x xs H Q => ∃ (a : Addr) (ys : List V) (y : V) (j : Nat), x = .ref a ∧ xs = [y] ∧ SqT X.K H a ys ∧ flatV y = true ∧ ys.all flatV = true ∧ (∃ z, ys[j]? = some z ∧ eqV z y = true) ∧ (∀ i z, i < j → ys[i]? = some z → eqV z y = false) ∧ Q (.int j) H) := by
  intro pins s σ H x xs v us Q I rx rs h
  obtain ⟨a, ys, y, j, rfl, rfl, hq, fy, fs, hit, hno, q⟩ := h
  cases rx
  obtain ⟨u, rfl, ru⟩ := vals1 rs
  obtain ⟨its, r, pl, hz⟩ := I.tuple hq
  obtain ⟨o, ho, hc, n, hd⟩ := id pl
  refine wpAny_call (codeAny_call_builtin PySem.F.slot_tuple_index.plain PySem.F.entry_tuple_index (PySem.F.slot_tuple_index.check _ _ _ _ _ _ _ _ (show s.TypeIs (.ref a) "tuple" from ⟨o, ho, hc⟩) (PySem.F.args_tuple_index_2 _ _) ?_))
  unfold Builtin.«tuple.index»
  obtain ⟨hp, g, d, tk, os⟩ := s
  refine wpAny_bind (wpAny_of_eq (a := (Value.ref a, [u])) (by rfl) ?_)
  dsimp only
  unfold PySem.Builtin.Tuple.tupleItemsOf
  refine wpAny_bind (wpAny_bind (wpAny_seqItems ho hd (wpAny_pure ?_)))
  refine wpAny_bind (wpAny_pure (wpAny_bind (wpAny_pure (wpAny_bind ?_))))
  rw [Std.Legacy.Range.forIn_eq_forIn_range']
  have hsz : (min its.toArray.size its.toArray.size - 0 + 1 - 1) / 1 = its.length := by simp
  show wpAny _ _ (forIn (List.range' 0 ((min its.toArray.size its.toArray.size - 0 + 1 - 1) / 1) 1) _ _) _ _ _
  rw [hsz]
  refine tidx_loop (e := eqU y) (j := j) (mem_eqAt ru fy r fs) ?_ ?_ ?_ its.length 0 (Nat.zero_le _) (by omega)
  · obtain ⟨z, hz1, hz2⟩ := hit
    obtain ⟨w', hw, rw'⟩ := r.get hz1
    refine ⟨w', hw, ?_⟩
    rw [eqU_of rw' (List.all_eq_true.mp fs z (List.mem_of_getElem? hz1))]; exact hz2
  · intro i w' hi hw
    have hl : i < ys.length := by rw [r.length]; exact (List.getElem?_eq_some_iff.mp hw).1
    obtain ⟨w2, hw2, rw'⟩ := r.get (List.getElem?_eq_getElem hl)
    rw [hw] at hw2; cases hw2
    rw [eqU_of rw' (List.all_eq_true.mp fs _ (List.getElem_mem hl))]
    exact hno i _ hi (List.getElem?_eq_getElem hl)
  · exact wpAny_pure ⟨.int j, H, I.tok _, ⟨_, rfl⟩, q⟩
end
end L2
end
section
namespace L2
open PySem PySem.Spec PyProof.Rows
theorem Same.put' {H H' : Hp} {p : PySem.Addr} {o : HO} (h : Same H H') (hp : H p = none) : Same H (L2.upd H' p o) := fun b u e => by rw [upd_ne (ne_of_none e hp)]; exact h b u e
theorem comp_gen {J : It} {g : TG} {te : TE} {H1 : Hp} {σ0 : St} {R : Hp → Prop} {p : Addr} (hp : H1 p = none) (n : Nat) (hz : n < sizeLine) (F : Nat → V) (Ps : St → Prop) (h0 : Ps σ0) (hstop : ∀ H', Same H1 H' → J.stop n H') (hgo : ∀ i H', i < n → Same H1 H' → J.go i H')
    (step : ∀ i σ' H' x H2, i < n → Ps σ' → Same H1 H' → J.yld i H' x H2 → ∀ K : V → St → Hp → Prop, (∀ σ2 H4, Ps σ2 → Same H' H4 → K (F i) σ2 H4) → g x σ' H2 fun σ2 H3 => te σ2 H3 fun v H4 => K v σ2 H4)
    (fin : ∀ H', Same H1 H' → H' p = some (.lst ((List.range n).map F)) → R H') :
    ∃ W : Nat → Nat → St → Hp → Prop, (∃ m, W 0 m σ0 (upd H1 p (.lst []))) ∧
      ∀ i m σ' H', W i m σ' H' → (J.stop i H' ∧ R H') ∨ (J.go i H' ∧ ∀ x H2, J.yld i H' x H2 → g x σ' H2 fun σ2 H3 => te σ2 H3 fun v H4 => ∃ ys, H4 p = some (.lst ys) ∧ ys.length < sizeLine ∧ ∃ m', m' < m ∧ W (i + 1) m' σ2 (upd H4 p (.lst (ys ++ [v])))) := by
  refine ⟨fun i m σ' H' => m = n - i ∧ i ≤ n ∧ Ps σ' ∧ Same H1 H' ∧ H' p = some (.lst ((List.range i).map F)), ⟨_, rfl, Nat.zero_le _, h0, (Same.refl H1).put' hp, upd_same⟩, ?_⟩
  rintro i m σ' H' ⟨rfl, hi, ps, sm, lp⟩
  by_cases hlt : i < n
  · refine .inr ⟨hgo i H' hlt sm, fun x H2 y => step i σ' H' x H2 hlt ps sm y _ fun σ2 H4 ps2 sm2 => ?_⟩
    refine ⟨_, sm2 _ _ lp, by simp; omega, n - (i + 1), by omega, rfl, hlt, ps2, (sm.trans sm2).put' hp, ?_⟩
    rw [upd_same, List.range_succ, List.map_append]; rfl
  · have e : i = n := by omega
    subst e
    exact .inl ⟨hstop H' sm, fin H' sm lp⟩
theorem comp_enumS {x : Str} {g : TG} {te : TE} {H1 : Hp} {σ0 : St} {R : Hp → Prop} {p : Addr} (hp : H1 p = none) (hz : x.cps.size < sizeLine) (F : Nat → V) (Ps : St → Prop) (h0 : Ps σ0)
    (step : ∀ i c t σ' H', x.cps[i]? = some c → H' t = none → Ps σ' → Same H1 H' → ∀ K : V → St → Hp → Prop, (∀ σ2 H4, Ps σ2 → Same H' H4 → K (F i) σ2 H4) → g (.ref t) σ' (upd H' t (.tup [.int i, .str ⟨#[c]⟩])) fun σ2 H3 => te σ2 H3 fun v H4 => K v σ2 H4)
    (fin : ∀ H', Same H1 H' → H' p = some (.lst ((List.range x.cps.size).map F)) → R H') :
    ∃ W : Nat → Nat → St → Hp → Prop, (∃ m, W 0 m σ0 (upd H1 p (.lst []))) ∧
      ∀ i m σ' H', W i m σ' H' → ((ItS x).stop i H' ∧ R H') ∨ ((ItS x).go i H' ∧ ∀ v H2, (ItS x).yld i H' v H2 → g v σ' H2 fun σ2 H3 => te σ2 H3 fun v H4 => ∃ ys, H4 p = some (.lst ys) ∧ ys.length < sizeLine ∧ ∃ m', m' < m ∧ W (i + 1) m' σ2 (upd H4 p (.lst (ys ++ [v])))) := by
  refine comp_gen (J := ItS x) hp x.cps.size hz F Ps h0 (fun _ _ => rfl) (fun i _ hi _ => hi) (fun i σ' H' v H2 hi ps sm y K k => ?_) fin
  obtain ⟨t, c, ht, hc, rfl, rfl⟩ := y
  exact step i c t σ' H' hc ht ps sm K k
theorem comp_list {KK : PySem.W.Frag} {a : Addr} {xs : List V} {g : TG} {te : TE} {H1 : Hp} {σ0 : St} {R : Hp → Prop} {p : Addr} (hp : H1 p = none) (ha : H1 a = some (.lst xs)) (hz : xs.length < sizeLine) (F : V → V) (Ps : St → Prop) (h0 : Ps σ0)
    (step : ∀ (i : Nat) x σ' H', xs[i]? = some x → Ps σ' → Same H1 H' → ∀ K : V → St → Hp → Prop, (∀ σ2 H4, Ps σ2 → Same H' H4 → K (F x) σ2 H4) → g x σ' H' fun σ2 H3 => te σ2 H3 fun v H4 => K v σ2 H4)
    (fin : ∀ H', Same H1 H' → H' p = some (.lst (xs.map F)) → R H') :
    ∃ W : Nat → Nat → St → Hp → Prop, (∃ m, W 0 m σ0 (upd H1 p (.lst []))) ∧
      ∀ i m σ' H', W i m σ' H' → ((Itl KK a).stop i H' ∧ R H') ∨ ((Itl KK a).go i H' ∧ ∀ v H2, (Itl KK a).yld i H' v H2 → g v σ' H2 fun σ2 H3 => te σ2 H3 fun v H4 => ∃ ys, H4 p = some (.lst ys) ∧ ys.length < sizeLine ∧ ∃ m', m' < m ∧ W (i + 1) m' σ2 (upd H4 p (.lst (ys ++ [v])))) := by
  refine comp_gen (J := Itl KK a) hp xs.length hz (fun i => F (xs.getD i .non)) Ps h0 (fun H' sm => ⟨xs, SqL.of (sm _ _ ha), Nat.le_refl _⟩) (fun i H' hi sm => ⟨xs, xs[i], SqL.of (sm _ _ ha), by simp [hi]⟩) (fun i σ' H' v H2 hi ps sm y K k => ?_) (fun H' sm hq => fin H' sm ?_)
  · obtain ⟨e, y⟩ := y
    subst e
    have hv := y xs (SqL.of (sm _ _ ha))
    refine step i v σ' _ hv ps sm K fun σ2 H4 p2 s2 => ?_
    have := k σ2 H4 p2 s2
    rw [show xs.getD i V.non = v by simp [List.getD, hv]] at this
    exact this
  · rw [hq]
    congr 2
    refine List.ext_getElem (by simp) fun i h1 h2 => ?_
    simp at h1 h2
    simp [List.getD, h2]
theorem comp_range {lo : Int} {n : Nat} {g : TG} {te : TE} {H1 : Hp} {σ0 : St} {R : Hp → Prop} {p : Addr} (hp : H1 p = none) (hz : n < sizeLine) (F : Nat → V) (Ps : St → Prop) (h0 : Ps σ0)
    (step : ∀ i σ' H', i < n → Ps σ' → Same H1 H' → ∀ K : V → St → Hp → Prop, (∀ σ2 H4, Ps σ2 → Same H' H4 → K (F i) σ2 H4) → g (.int (lo + i)) σ' H' fun σ2 H3 => te σ2 H3 fun v H4 => K v σ2 H4)
    (fin : ∀ H', Same H1 H' → H' p = some (.lst ((List.range n).map F)) → R H') :
    ∃ W : Nat → Nat → St → Hp → Prop, (∃ m, W 0 m σ0 (upd H1 p (.lst []))) ∧
      ∀ i m σ' H', W i m σ' H' → ((Itr lo n).stop i H' ∧ R H') ∨ ((Itr lo n).go i H' ∧ ∀ v H2, (Itr lo n).yld i H' v H2 → g v σ' H2 fun σ2 H3 => te σ2 H3 fun v H4 => ∃ ys, H4 p = some (.lst ys) ∧ ys.length < sizeLine ∧ ∃ m', m' < m ∧ W (i + 1) m' σ2 (upd H4 p (.lst (ys ++ [v])))) := by
  refine comp_gen (J := Itr lo n) hp n hz F Ps h0 (fun _ _ => Nat.le_refl _) (fun i _ hi _ => hi) (fun i σ' H' v H2 hi ps sm y K k => ?_) fin
  obtain ⟨e, y⟩ := y
  subst e y
  exact step i σ' _ hi ps sm K k
theorem comp_tup {KK : PySem.W.Frag} {a : Addr} {xs : List V} {g : TG} {te : TE} {H1 : Hp} {σ0 : St} {R : Hp → Prop} {p : Addr} (hp : H1 p = none) (ha : SqT KK H1 a xs) (hz : xs.length < sizeLine) (F : V → V) (Ps : St → Prop) (h0 : Ps σ0)
    (step : ∀ (i : Nat) x σ' H', xs[i]? = some x → Ps σ' → Same H1 H' → ∀ K : V → St → Hp → Prop, (∀ σ2 H4, Ps σ2 → Same H' H4 → K (F x) σ2 H4) → g x σ' H' fun σ2 H3 => te σ2 H3 fun v H4 => K v σ2 H4)
    (fin : ∀ H', Same H1 H' → H' p = some (.lst (xs.map F)) → R H') :
    ∃ W : Nat → Nat → St → Hp → Prop, (∃ m, W 0 m σ0 (upd H1 p (.lst []))) ∧
      ∀ i m σ' H', W i m σ' H' → ((Itt KK a).stop i H' ∧ R H') ∨ ((Itt KK a).go i H' ∧ ∀ v H2, (Itt KK a).yld i H' v H2 → g v σ' H2 fun σ2 H3 => te σ2 H3 fun v H4 => ∃ ys, H4 p = some (.lst ys) ∧ ys.length < sizeLine ∧ ∃ m', m' < m ∧ W (i + 1) m' σ2 (upd H4 p (.lst (ys ++ [v])))) := by
  have tp : ∀ H', Same H1 H' → SqT KK H' a xs := fun H' e => by
    rcases ha with (h | ⟨o, h⟩) | h
    · exact .inl (.inl (e _ _ h))
    · exact .inl (.inr ⟨o, e _ _ h⟩)
    · exact .inr h
  refine comp_gen (J := Itt KK a) hp xs.length hz (fun i => F (xs.getD i .non)) Ps h0 (fun H' sm => ⟨xs, tp H' sm, Nat.le_refl _⟩) (fun i H' hi sm => ⟨xs, xs[i], tp H' sm, by simp [hi]⟩) (fun i σ' H' v H2 hi ps sm y K k => ?_) (fun H' sm hq => fin H' sm ?_)
  · obtain ⟨e, y⟩ := y
    subst e
    have hv := y xs (tp _ sm)
    refine step i v σ' _ hv ps sm K fun σ2 H4 p2 s2 => ?_
    have := k σ2 H4 p2 s2
    rw [show xs.getD i V.non = v by simp [List.getD, hv]] at this
    exact this
  · rw [hq]
    congr 2
    refine List.ext_getElem (by simp) fun i h1 h2 => ?_
    simp at h1 h2
    simp [List.getD, h2]
end L2
end
section
namespace L2
open PySem PySem.Spec PyProof.Rows
section
variable {X : Cx} {K : PySem.W.Frag} {pos : Pos}
theorem pg_tupK {es : List Expr} {k : Nat} {t : TGs} {n : Nat} (hK : X.K = K) (hc : X.calm = true) (h : PGs X es t) (hn : (assignEach es X.env).length = n := by rfl) (hst : (assignEach es X.env).findIdx? (·.1) = none := by rfl) : PG X (.Tuple es k pos) (gTup K n t) := hK ▸ pg_tup hc h hn hst
theorem ix_listK (hK : X.K = K) : IxR X (rIxL K) := hK ▸ ix_list
theorem ix_tupK (hK : X.K = K) : IxR X (rIxT K) := hK ▸ ix_tup
theorem op_in_seqK (hK : X.K = K) : OpR X (compareOp .In) (rIn K false) := hK ▸ op_in_seq
theorem op_notIn_seqK (hK : X.K = K) : OpR X (compareOp .NotIn) (rIn K true) := hK ▸ op_notIn_seq
theorem call_len_seqK (hK : X.K = K) : CallR X (.builtin "len") (fun xs H Q => ∃ p ys, xs = [.ref p] ∧ (SqL K H p ys ∨ SqT K H p ys) ∧ Q (.int ys.length) H) := hK ▸ call_len_seq
theorem call_isiK (hK : X.K = K) : CallR X (.builtin "isinstance") (fun xs H Q => ∃ x n t b, xs = [x, .ty n] ∧ TyOf K H x t ∧ PySem.W.kitOne K t (.type n) = some b ∧ Q (.bl b) H) := hK ▸ call_isi
end
end L2
end
section
namespace L2
open PySem PySem.Spec PyProof.Rows
section
variable {X : Cx}
def tVs (vs : List V) : TA := fun _ H Q => Q vs H
def conV : Expr → Option V
  | .Constant (.int i) _ _ => some (.int i)
  | .Constant (.str x) _ _ => some (.str x)
  | .Constant (.bool b) _ _ => some (.bl b)
  | .Constant .none _ _ => some .non
  | _ => none
theorem pa_vs : ∀ (vs : List V) {es : List Expr}, es.map conV = vs.map some → PA X es (tVs vs)
  | [], [], _ => fun pos pins s σ H Q I h => pa_nil pos pins s σ H Q I h
  | [], e :: es, h => by simp at h
  | v :: vs, [], h => by simp at h
  | v :: vs, e :: es, h => by
    simp only [List.map_cons, List.cons.injEq] at h
    obtain ⟨h1, h2⟩ := h
    have ih := pa_vs vs h2
    intro pos pins s σ H Q I hq
    have step : ∀ {te : TE}, PE X e te → (∀ σ H Q, te σ H Q ↔ Q v H) → starEach (e :: es) X.env = (false, eval e X.env) :: starEach es X.env → wpAny (model X.prog X.w) X.A (spliced (backTo pos (starEach (e :: es) X.env))) (AP X pins σ Q) X.xe s := by
      intro te he ht hs
      exact pa_cons he ih hs pos pins s σ H Q I ((ht σ H _).mpr hq)
    cases e <;> simp only [conV, reduceCtorEq] at h1
    rename_i c k p
    cases c <;> simp only [conV, Option.some.injEq, reduceCtorEq] at h1
    all_goals subst h1
    · exact step pe_non (fun _ _ _ => Iff.rfl) rfl
    · exact step pe_bl (fun _ _ _ => Iff.rfl) rfl
    · exact step pe_int (fun _ _ _ => Iff.rfl) rfl
    · exact step pe_str (fun _ _ _ => Iff.rfl) rfl
end
end L2
end
section
namespace L2
open PySem PySem.Spec PyProof.Rows
section
variable {X : Cx} {K : PySem.W.Frag} {pos : Pos}
theorem pe_bmK {T id : String} {name : Str} {r : V → List V → Hp → VK → Prop} {o e : Expr} {es : List Expr} {to : TE} {t : TA} {apos cpos : Pos} (hK : X.K = K) (pa : PlainAttrs T) (slot : Slot T name id) (hty : typeOf (.builtin id) = pure (.type "method_descriptor")) (hm : MtR X id r) (ho : PE X o to) (ha : PA X (e :: es) t)
    (hbase : attributeBase o name X.env (eval o X.env) = eval o X.env := by rfl)
    (hfew : ((backTo cpos (starEach (e :: es) X.env)).all (fun x => !x.1) && (backToKw cpos (keywordEach [] X.env)).all (fun x => x.1.isSome) && decide ((e :: es).length + ([] : List Keyword).length + (if ([] : List Keyword).isEmpty then 0 else 1) < 30)) = true := by rfl)
    (hline : (apos.endLine == cpos.line) = true := by rfl) (hs : starEach (e :: es) X.env = (false, eval e X.env) :: starEach es X.env := by rfl) (hplain : (backTo cpos (starEach es X.env)).any (·.1) = false := by rfl) :
    PE X (.Call (.Attribute o name apos) (e :: es) [] cpos) (tBM K T r to t) := hK ▸ pe_bm pa slot hty hm ho ha hbase hfew hline hs hplain
end
end L2
end
section
namespace L2
open PySem PySem.Spec PyProof.Rows
def tCompIf (wi : TI) (g : TG) (tc : TT) (te : TE) (own : Nat) (js : List Nat) : TE := fun σ H Q => wi σ H fun J H1 => ∀ p, H1 p = none → ∃ W : Nat → Nat → St → Hp → Prop, (∃ m, W 0 m (stOf own js σ) (upd H1 p (.lst []))) ∧
  ∀ i m σ' H', W i m σ' H' → (J.stop i H' ∧ Q (.ref p) H') ∨ (J.go i H' ∧ ∀ x H2, J.yld i H' x H2 → g x σ' H2 fun σ2 H3 => tc σ2 H3 fun b H4 => if b = true then te σ2 H4 (fun v H5 => ∃ ys, H5 p = some (.lst ys) ∧ ys.length < sizeLine ∧ ∃ m', m' < m ∧ W (i + 1) m' σ2 (upd H5 p (.lst (ys ++ [v])))) else ∃ m', m' < m ∧ W (i + 1) m' σ2 H4)
theorem codeAny_compLoop_anyIf {prog : Program} {w : World} {A : Around} {s : Shared} {R : Result → Shared → Prop} {elt target iter cd : Expr} {scope : Scope} {pos : Pos} {it acc : Value} {env : Env} (I : Nat → Shared → Prop)
    (turn : ∀ n s, I n s → wpAny (model prog w) A (pyNext it) (fun r s₁ => match r with
      | none => R (.ok .next) s₁
      | some v => wpAny (model prog w) A (letOwnedTupleGo target it v) (fun _ s₁' => wpAny (model prog w) A (assign target env v) (fun _ s₂ => wpAny (model prog w) A (isTrue cd env (eval cd env)) (fun ok s₃ => if ok = true then wpAny (model prog w) A (eval elt env) (fun x s₃ =>
          wpAny (model prog w) A (call (.builtin "list.append") [acc, x]) (fun _ s₄ => ∃ m, m < n ∧ I m s₄) (fun _ _ => False) s₃) (fun _ _ => False) s₃ else ∃ m, m < n ∧ I m s₃)
          (fun _ _ => False) s₂) (fun _ _ => False) s₁') (fun _ _ => False) s₁) (fun _ _ => False) s)
    (n : Nat) (h : I n s) :
    codeAny (model prog w) A (.compLoop (.ListComp elt [⟨target, iter, [cd], 0⟩] scope pos) 0 it acc env) R s := by
  refine codeAny_loop rfl I (fun n s hI => ?_) n h
  show wpAny _ _ ((compTurn (.ListComp elt [⟨target, iter, [cd], 0⟩] scope pos) 0 it acc env).onRaise (fun x => do noteFrame x env; theTreesLotGoes x)) _ _ s
  refine wpAny_noted ?_
  rw [compTurn_list]
  refine wpAny_bind (wpAny_standAt (wpAny_bind (wpAny_mono (turn n s hI) (fun r s₁ h₁ => ?_) fun _ _ h' => h'.elim)))
  cases r with
  | none => exact wpAny_pure h₁
  | some v =>
    refine wpAny_bind (wpAny_mono h₁ (fun _ s₁' h₁' => wpAny_bind (wpAny_mono h₁' (fun _ s₂ h₂ => wpAny_bind (wpAny_tests_one (wpAny_mono h₂ (fun ok s₃ h₃ => ?_) fun _ _ h' => h'.elim))) fun _ _ h' => h'.elim)) fun _ _ h' => h'.elim)
    cases ok with
    | false => exact wpAny_pure ⟨rfl, h₃⟩
    | true => exact wpAny_bind (wpAny_bind (wpAny_mono h₃ (fun x s₄ h₄ => wpAny_bind (wpAny_mono h₄ (fun _ s₅ h₅ => wpAny_pure (wpAny_pure ⟨rfl, h₅⟩)) fun _ _ h' => h'.elim)) fun _ _ h' => h'.elim))
section
variable {X : Cx}
theorem pe_compIf {tg iter elt cd : Expr} {scope : Scope} {pos : Pos} {wi : TI} {g : TG} {tc : TT} {te : TE} (own fr : List Str) (js : List Nat) {sc0 : Scope} {N : List Str} (hc : X.calm = true) (hN : X.N = N) (hsc : X.env.scope = sc0) (S : CompSc N sc0 scope own fr js)
    (hi : PI X tg iter wi) (hg : ∀ s H fp C, PG (compX X scope (own ++ fr) s H fp C) tg g) (hcd : ∀ s H fp C, PT (compX X scope (own ++ fr) s H fp C) cd tc) (he : ∀ s H fp C, PE (compX X scope (own ++ fr) s H fp C) elt te)
    (hs : ∀ x, foldedSetIterable iter X.env x = pure x := by intro _; rfl) : PE X (.ListComp elt [⟨tg, iter, [cd], 0⟩] scope pos) (tCompIf wi g tc te own.length js) := by
  intro pins s σ H Q I h
  rw [eval_ListComp]
  have hclos : closureFor scope X.env = pure (clo X.env scope.names []) := closureFor_clo fun x hx e => by
    subst hsc
    exact I.ok.has x.1 (S.free x hx e)
  refine wpAny_comprehension_free (use := none) rfl hs hclos S.kind S.loc (thn (hi pins s σ H _ I h) fun xv s1 h1 => thn h1 fun itv s2 h2 => ?_)
  obtain ⟨it, fp, tn, J, H2, e, I2, T, st2, f2, rest⟩ := h2
  subst e
  refine wpAny_newObj_type ?_
  obtain ⟨W, ⟨m0, w0⟩, turn⟩ := rest s2.heap.objs.size (I2.hok.fresh (Nat.le_refl _))
  have I3 : Inv X pins σ (upd H2 s2.heap.objs.size (.lst [])) { s2 with heap := s2.heap.push { cls := .type "list", dict := none, data := .seq ([] : List Value).toArray } } :=
    I2.lnew (its := []) (t' := s2.toks) .nil (Nat.zero_le _)
  generalize hs3 : ({ s2 with heap := s2.heap.push { cls := .type "list", dict := none, data := .seq ([] : List Value).toArray } } : Shared) = s3 at I3 ⊢
  have ho3 : ∀ b o, s2.heap.get? b = some o → s3.heap.get? b = some o := fun b o e => by rw [← hs3]; exact Heap.get?_push_of_some _ e
  have f3 : ∀ b ∈ fp, FpOk X pins (upd H2 s2.heap.objs.size (.lst [])) b := fun b hb => by
    obtain ⟨o, e, _⟩ := T.obj _ _ st2 b hb
    exact ⟨by rw [upd_ne (Nat.ne_of_lt (Heap.lt_size e))]; exact (f2 b hb).1, (f2 b hb).2⟩
  have l3 : ∀ b ∈ fp, b < s3.heap.objs.size := fun b hb => by
    obtain ⟨o, e, _⟩ := T.obj _ _ st2 b hb
    exact Heap.lt_size (ho3 b o e)
  have st3 : tn 0 s3.heap := T.keep _ _ _ st2 fun b _ o e => ho3 b o e
  refine wpAny_newFunctionEnv S.cell (by intro y hy; simp at hy) (fun h4 hn4 sb4 => ?_) S.kind
  have ho4 : ∀ b o, s3.heap.get? b = some o → h4.get? b = some o := fun b o e => sb4.extBut b o (Nat.ne_of_lt (Heap.lt_size e)) (Heap.get?_push_of_some _ e)
  have hn4' : h4.Ns s3.heap.objs.size (fun _ => none) := hn4
  have J0 := comp_start (scope := scope) (own := own) (fr := fr) (js := js) (tk := s3.toks + ([] : List (Str × Value)).length) I3 hN hsc S f3 l3 hn4' ho4
  have st4 : tn 0 h4 := T.keep _ _ _ st3 fun b _ o e => ho4 b o e
  show codeAny (model X.prog X.w) X.A (.compStart (.ListComp elt [⟨tg, iter, [cd], 0⟩] scope pos) 0 (.ref it) (.ref s2.heap.objs.size) (compX X scope (own ++ fr) s3 (upd H2 s2.heap.objs.size (.lst [])) fp s3.heap.objs.size).env) (compPost (model X.prog X.w) X.A X.xe none (EP X pins σ Q) (.ref s2.heap.objs.size) s3.heap.objs.size) _
  generalize hX' : compX X scope (own ++ fr) s3 (upd H2 s2.heap.objs.size (.lst [])) fp s3.heap.objs.size = X' at J0 ⊢
  have hgX : PG X' tg g := hX' ▸ hg _ _ _ _
  have heX : PE X' elt te := hX' ▸ he _ _ _ _
  have hcX : PT X' cd tc := hX' ▸ hcd _ _ _ _
  have eP : X'.prog = X.prog := by rw [← hX']; rfl
  have eW : X'.w = X.w := by rw [← hX']; rfl
  have eK : X'.K = X.K := by rw [← hX']; rfl
  have eC : X'.calm = true := by rw [← hX']; exact hc
  have eA : X'.A = X.A := by rw [← hX']; rfl
  have eX : X'.xe = fun _ _ => False := by rw [← hX']; rfl
  have eEx : X'.ex = fp := by rw [← hX']; rfl
  have eL : X'.env.locals = s3.heap.objs.size := by rw [← hX']; rfl
  have eN : X'.N = own ++ fr := by rw [← hX']; rfl
  have cl' : ∀ x c, X'.env.cells.lookup x = some c → X.env.cells.lookup x = some c := fun x c h => clo_from (names := scope.names) (acc := []) (fun y d hy => by simp at hy) (by rw [← hX'] at h; exact h)
  have eFs : X'.fs = frs X.stack := by rw [← hX']; rfl
  have ePn : X'.pn = [] := by rw [← hX']; rfl
  have fp' : ∀ {H' : Hp}, (∀ b ∈ fp, H' b = none) → ∀ b ∈ fp, FpOk X' [] H' b := fun hn b hb => ⟨hn b hb, by rw [eL]; exact Nat.ne_of_lt (l3 b hb), by
      rw [eFs]; intro z
      rcases List.mem_cons.mp (I3.stkSub b z) with e | e
      · exact (f3 b hb).2.1 e
      · exact (f3 b hb).2.2.1 e, .inl (by rw [eEx]; exact hb), fun x c h => (f3 b hb).2.2.2.2.1 x c (cl' x c h), fun p hp => by rw [ePn] at hp; exact absurd (show p ∈ ([] : List (Addr × Obj)) from hp) (by simp)⟩
  have loop : ∀ s4 : Shared, s4 = { s3 with heap := h4, toks := s3.toks + ([] : List (Str × Value)).length } →
      codeAny (model X.prog X.w) X.A (.compLoop (.ListComp elt [⟨tg, iter, [cd], 0⟩] scope pos) 0 (.ref it) (.ref s2.heap.objs.size) X'.env) (compPost (model X.prog X.w) X.A X.xe none (EP X pins σ Q) (.ref s2.heap.objs.size) s3.heap.objs.size) s4 := by
    rintro s4 rfl
    refine codeAny_compLoop_anyIf (fun n s' => ∃ i σ' H', Inv X' [] σ' H' s' ∧ tn i s'.heap ∧ (∀ b ∈ fp, H' b = none) ∧ W i n σ' H') ?_ m0 ⟨0, _, _, J0, st4, fun b hb => (f3 b hb).1, w0⟩
    rintro n s5 ⟨i, σ5, H5, I5, st5, fr5, w5⟩
    rcases turn i n σ5 H5 w5 with ⟨stop, q⟩ | ⟨go, step⟩
    · have hd := T.done X' eP eW eK eC i [] s5 σ5 H5 (fun _ _ => False) I5 (fp' fr5) st5 stop
      rw [eA] at hd
      refine thn hd fun r s6 ⟨hr, I6⟩ => ?_
      subst hr
      obtain ⟨m6, hn6, _⟩ := I6.loc
      rw [eL] at hn6
      refine ⟨m6, hn6, fun h7 sb7 => ?_⟩
      have hC : H5 s3.heap.objs.size = none := by have := I6.free; rw [eL] at this; exact this
      have hok7 : HOk X.prog X.w H5 h7 := fun b ob e => by
        have e6 := I6.hok b ob e
        rw [eP, eW] at e6
        refine e6.stay (fun c w' hc q => (sb7.2 c ?_).trans q) (fun _ q => q) fun _ _ q => q
        rintro rfl
        rcases hc with z | z
        · rw [← z, hC] at e; cases e
        · rw [hC] at z; cases z
      have un : Un (frs X.stack) fp (upd H2 s2.heap.objs.size (.lst [])) H5 s3.heap h7 := by
        have b6 := I6.base
        have e0 : X'.H₀ = upd H2 s2.heap.objs.size (.lst []) := by rw [← hX']; rfl
        have e1 : X'.s₀ = s3 := by rw [← hX']; rfl
        rw [eFs, eEx, e0, e1] at b6
        have ne : ∀ b o, s3.heap.get? b = some o → b ≠ s3.heap.objs.size := fun b o e => Nat.ne_of_lt (Heap.lt_size e)
        exact ⟨fun b o e n hb hx => (sb7.2 b (ne b o e)).trans (b6.keep b o e n hb hx), fun b o e n hb hx => by
            obtain ⟨sl, z⟩ := b6.slot b o e n hb hx
            exact ⟨sl, (sb7.2 b (ne b o e)).trans z⟩, b6.free, fun b o e hx => by
            obtain ⟨o', z⟩ := b6.there b o e hx
            exact ⟨o', (sb7.2 b (ne b o e)).trans z⟩, b6.tups, b6.frzs, b6.tbls⟩
      have os7 : s6.os = s3.os := by have := I6.os; rw [← hX'] at this; exact this
      have I7 : Inv X pins σ H5 { s6 with heap := h7 } := I3.call' (s' := { s6 with heap := h7 }) (ch := fp) os7 un hok7 I6.bare fun b hb => ⟨(f3 b hb).2.2.2.1, (f3 b hb).2.1, (f3 b hb).2.2.2.2.1, (f3 b hb).2.2.2.2.2⟩
      exact ⟨.ref s2.heap.objs.size, H5, I7, rfl, q⟩
    · have hd := T.item X' eP eW eK eC i [] s5 σ5 H5 (fun _ _ => False) I5 (fp' fr5) st5 go
      rw [eA] at hd
      refine thn hd fun r s6 ⟨u, hr, h6⟩ => ?_
      subst hr
      refine thn h6 fun _ s7 ⟨x, H7, I7, r7, y7, st7, fr7⟩ => ?_
      have I7' := I7.pinned (fp' fr7) (T.obj _ _ st7)
      have hg7 := hgX _ s7 σ5 H7 x u _ I7' r7 (step x H7 y7)
      rw [eP, eW, eA, eX] at hg7
      refine thn hg7 fun _ s8 ⟨σ8, H8, I8, q8⟩ => ?_
      have hc8 := hcX _ s8 σ8 H8 _ I8 q8
      rw [eP, eW, eA, eX] at hc8
      have pinK : ∀ (pl : List (Addr × Obj)) (s10 : Shared) (H10 : Hp), Inv X' ([] ++ pl) σ8 H10 s10 → (∀ b ∈ fp, ∀ o, s7.heap.get? b = some o → s10.heap.get? b = some o ∧ H10 b = none) → ∀ m'', m'' < n → W (i + 1) m'' σ8 H10 → ∃ m, m < n ∧ ∃ i σ' H', Inv X' [] σ' H' s10 ∧ tn i s10.heap ∧ (∀ b ∈ fp, H' b = none) ∧ W i m σ' H' := fun pl s10 H10 I10 pin10 m'' hm'' w10 => by
        refine ⟨m'', hm'', i + 1, σ8, H10, I10.unpinned, T.keep _ _ _ st7 fun b hb o e => (pin10 b hb o e).1, fun b hb => ?_, w10⟩
        obtain ⟨o, e, _⟩ := T.obj _ _ st7 b hb
        exact (pin10 b hb o e).2
      refine thn hc8 fun bb s8' ⟨H8', I8', q8'⟩ => ?_
      cases bb with
      | false =>
        obtain ⟨m', hm', w9⟩ := q8'
        have pin10 : ∀ b ∈ fp, ∀ o, s7.heap.get? b = some o → s8'.heap.get? b = some o ∧ H8' b = none := fun b hb o e =>
          let z := I8'.pin (b, o) (List.mem_append_right _ (List.mem_append_right _ (mem_pinsAt hb e)))
          ⟨z.1, z.2.1⟩
        exact pinK _ s8' H8' I8' pin10 m' hm' w9
      | true =>
      have he8 := heX _ s8' σ8 H8' _ I8' q8'
      rw [eP, eW, eA, eX] at he8
      refine thn he8 fun v s9 ⟨z, H9, I9, r9, ys, hp9, hz9, m', hm', w9⟩ => ?_
      have ha := mt_append (X := X') _ s9 σ8 H9 (.ref s2.heap.objs.size) [z] (.ref s2.heap.objs.size) [v] (fun _ H' => ∃ m', m' < n ∧ W (i + 1) m' σ8 H') I9 rfl (.cons r9 .nil) ⟨_, ys, z, rfl, rfl, hp9, hz9, m', hm', w9⟩
      rw [eP, eW, eA, eX] at ha
      refine thn ha fun _ s10 ⟨_, H10, I10, _, m'', hm'', w10⟩ => ?_
      have pin10 : ∀ b ∈ fp, ∀ o, s7.heap.get? b = some o → s10.heap.get? b = some o ∧ H10 b = none := fun b hb o e =>
        let z := I10.pin (b, o) (List.mem_append_right _ (List.mem_append_right _ (mem_pinsAt hb e)))
        ⟨z.1, z.2.1⟩
      exact pinK _ s10 H10 I10 pin10 m'' hm'' w10
  have st4' : tn 0 ({ s3 with heap := h4, toks := s3.toks + ([] : List (Str × Value)).length } : Shared).heap := st4
  exact codeAny_compStart_list (loop _ rfl) (T.self X.A 0 _ _ _ st4' (loop _ rfl))
end
end L2
end
section
namespace L2
open PySem PySem.Spec PyProof.Rows
theorem comp_genIf {J : It} {g : TG} {tc : TT} {te : TE} {H1 : Hp} {σ0 : St} {R : Hp → Prop} {p : Addr} (hp : H1 p = none) (n : Nat) (hz : n < sizeLine) (b : Nat → Bool) (F : Nat → V) (Ps : St → Prop) (h0 : Ps σ0) (hstop : ∀ H', Same H1 H' → J.stop n H') (hgo : ∀ i H', i < n → Same H1 H' → J.go i H')
    (step : ∀ i σ' H' x H2, i < n → Ps σ' → Same H1 H' → J.yld i H' x H2 → ∀ (K1 : V → St → Hp → Prop) (K0 : St → Hp → Prop), (b i = true → ∀ σ2 H4, Ps σ2 → Same H' H4 → K1 (F i) σ2 H4) → (b i = false → ∀ σ2 H4, Ps σ2 → Same H' H4 → K0 σ2 H4) →
      g x σ' H2 fun σ2 H3 => tc σ2 H3 fun bb H4 => if bb = true then te σ2 H4 (fun v H5 => K1 v σ2 H5) else K0 σ2 H4)
    (fin : ∀ H', Same H1 H' → H' p = some (.lst (((List.range n).filter b).map F)) → R H') :
    ∃ W : Nat → Nat → St → Hp → Prop, (∃ m, W 0 m σ0 (upd H1 p (.lst []))) ∧
      ∀ i m σ' H', W i m σ' H' → (J.stop i H' ∧ R H') ∨ (J.go i H' ∧ ∀ x H2, J.yld i H' x H2 → g x σ' H2 fun σ2 H3 => tc σ2 H3 fun bb H4 => if bb = true then te σ2 H4 (fun v H5 => ∃ ys, H5 p = some (.lst ys) ∧ ys.length < sizeLine ∧ ∃ m', m' < m ∧ W (i + 1) m' σ2 (upd H5 p (.lst (ys ++ [v])))) else ∃ m', m' < m ∧ W (i + 1) m' σ2 H4) := by
  refine ⟨fun i m σ' H' => m = n - i ∧ i ≤ n ∧ Ps σ' ∧ Same H1 H' ∧ H' p = some (.lst (((List.range i).filter b).map F)), ⟨_, rfl, Nat.zero_le _, h0, (Same.refl H1).put' hp, upd_same⟩, ?_⟩
  rintro i m σ' H' ⟨rfl, hi, ps, sm, lp⟩
  by_cases hlt : i < n
  · refine .inr ⟨hgo i H' hlt sm, fun x H2 y => step i σ' H' x H2 hlt ps sm y _ _ (fun hb σ2 H4 ps2 sm2 => ?_) fun hb σ2 H4 ps2 sm2 => ?_⟩
    · refine ⟨_, sm2 _ _ lp, ?_, n - (i + 1), by omega, rfl, hlt, ps2, (sm.trans sm2).put' hp, ?_⟩
      · rw [List.length_map]
        have := List.length_filter_le b (List.range i)
        rw [List.length_range] at this
        omega
      · rw [upd_same, List.range_succ, List.filter_append, List.map_append]
        simp [hb]
    · refine ⟨n - (i + 1), by omega, rfl, hlt, ps2, sm.trans sm2, ?_⟩
      rw [sm2 _ _ lp, List.range_succ, List.filter_append]
      simp [hb]
  · have e : i = n := by omega
    subst e
    exact .inl ⟨hstop H' sm, fin H' sm lp⟩
theorem comp_enumIf {x : Str} {g : TG} {tc : TT} {te : TE} {H1 : Hp} {σ0 : St} {R : Hp → Prop} {p : Addr} (hp : H1 p = none) (hz : x.cps.size < sizeLine) (b : Nat → Bool) (F : Nat → V) (Ps : St → Prop) (h0 : Ps σ0)
    (step : ∀ i c t σ' H', x.cps[i]? = some c → H' t = none → Ps σ' → Same H1 H' → ∀ (K1 : V → St → Hp → Prop) (K0 : St → Hp → Prop), (b i = true → ∀ σ2 H4, Ps σ2 → Same H' H4 → K1 (F i) σ2 H4) → (b i = false → ∀ σ2 H4, Ps σ2 → Same H' H4 → K0 σ2 H4) →
      g (.ref t) σ' (upd H' t (.tup [.int i, .str ⟨#[c]⟩])) fun σ2 H3 => tc σ2 H3 fun bb H4 => if bb = true then te σ2 H4 (fun v H5 => K1 v σ2 H5) else K0 σ2 H4)
    (fin : ∀ H', Same H1 H' → H' p = some (.lst (((List.range x.cps.size).filter b).map F)) → R H') :
    ∃ W : Nat → Nat → St → Hp → Prop, (∃ m, W 0 m σ0 (upd H1 p (.lst []))) ∧
      ∀ i m σ' H', W i m σ' H' → ((ItS x).stop i H' ∧ R H') ∨ ((ItS x).go i H' ∧ ∀ v H2, (ItS x).yld i H' v H2 → g v σ' H2 fun σ2 H3 => tc σ2 H3 fun bb H4 => if bb = true then te σ2 H4 (fun v H5 => ∃ ys, H5 p = some (.lst ys) ∧ ys.length < sizeLine ∧ ∃ m', m' < m ∧ W (i + 1) m' σ2 (upd H5 p (.lst (ys ++ [v])))) else ∃ m', m' < m ∧ W (i + 1) m' σ2 H4) := by
  refine comp_genIf (J := ItS x) hp x.cps.size hz b F Ps h0 (fun _ _ => rfl) (fun i _ hi _ => hi) (fun i σ' H' v H2 hi ps sm y K1 K0 k1 k0 => ?_) fin
  obtain ⟨t, c, ht, hc, rfl, rfl⟩ := y
  exact step i c t σ' H' hc ht ps sm K1 K0 k1 k0
end L2
end
section
namespace PySem.StrLaws
open Builtin Builtin.Str
theorem occ_fullX (x y : Str) (hi : Nat) : ∀ (l : List Nat) (st : Array Nat × Nat), st.fst.size = 1 → (forIn l st (occBody x y hi 1)).run.fst = st.fst
  | [], _, _ => rfl
  | a :: l, st, h => by
    rw [List.forIn_cons]
    unfold occBody
    rw [if_neg fun z => by have := z.1.1.1; omega]
    exact occ_fullX x y hi l st h
theorem occ_firstX (x : Str) (c i : Nat) (hi : x.cps.toList[i]? = some c) (hno : ∀ j, j < i → x.cps.toList[j]? ≠ some c) : ∀ (k j : Nat), j ≤ i → j + k = x.length + 1 → (forIn (List.range' j k) ((#[] : Array Nat), 0) (occBody x ⟨#[c]⟩ x.length 1)).run.fst = #[i]
  | 0, j, hj, hk => by
    obtain ⟨hlt, _⟩ := List.getElem?_eq_some_iff.mp hi
    have e : x.length = x.cps.toList.length := by simp [Str.length]
    omega
  | k + 1, j, hj, hk => by
    rw [List.range'_succ, List.forIn_cons]
    unfold occBody
    by_cases e : j = i
    · subst e
      have h := (subAt_one x c j).mpr hi
      rw [if_pos ⟨⟨⟨by simp, Nat.zero_le _⟩, h.1⟩, h.2⟩]
      exact occ_fullX x ⟨#[c]⟩ x.length _ _ (by simp)
    · rw [if_neg fun z => hno j (by omega) ((subAt_one x c j).mp ⟨z.1.2, z.2⟩)]
      exact occ_firstX x c i hi hno k (j + 1) (by omega) (by omega)
end PySem.StrLaws
namespace L2
open PySem PySem.Spec PyProof.Rows
section
variable {X : Cx} {e : Expr} {te : TE} {lo hi stp : Option Expr} {tl th ts : TO} {pos p2 : Pos}
def SlR3 (X : Cx) (r : V → Option Int → Option Int → Option Int → Hp → VK → Prop) : Prop :=
  ∀ (pins : List (Addr × Obj)) (s : Shared) (σ : St) (H : Hp) (x : V) (v vl vu vs : Value) (lo hi st : Option Int) (sl : Addr) (Q : VK), Inv X pins σ H s → RelV x v → s.heap.IsSliceOf sl vl vu vs → IsPart vl lo → IsPart vu hi → IsPart vs st → r x lo hi st H Q →
    ∃ T id, typeLookup (.type T) "__getitem__" = pure (some (.builtin id)) ∧ s.TypeIs v T ∧ wpAny (model X.prog X.w) X.A (getItem v (.ref sl)) (EP X pins σ Q) X.xe s
def tSl3 (r : V → Option Int → Option Int → Option Int → Hp → VK → Prop) (te : TE) (tl th ts : TO) : TE := fun σ H Q => te σ H fun x H1 => tl σ H1 fun l H2 => th σ H2 fun u H3 => ts σ H3 fun st H4 => r x l u st H4 Q
theorem pe_slice3 {se : Expr} {r : V → Option Int → Option Int → Option Int → Hp → VK → Prop} (hr : SlR3 X r) (he : PE X e te) (hl : PO X lo tl) (hu : PO X hi th) (hst : PO X (some se) ts) : PE X (.Subscript e (.Slice lo hi (some se) p2) pos) (tSl3 r te tl th ts) := by
  intro pins s σ H Q I h
  refine Subscript_ (thn (he pins s σ H _ I h) fun v s1 ⟨x, H1, I1, r1, q1⟩ => ?_)
  refine wpAny_Slice (thn (hl pins s1 σ H1 _ I1 q1) fun vl s2 ⟨l, H2, I2, pl, q2⟩ => thn (hu pins s2 σ H2 _ I2 q2) fun vu s3 ⟨u, H3, I3, pu, q3⟩ => thn (hst pins s3 σ H3 _ I3 q3) fun vs s4 ⟨st, H4, I4, ps, q4⟩ => ?_)
  have I5 : Inv X pins σ H4 { s4 with heap := s4.heap.push { cls := .type "slice", data := .fields #[vl, vu, vs] } } := I4.kept (t' := s4.toks) fun b ob q => Heap.get?_push_of_some _ q
  obtain ⟨T, id, hT, ht, hg⟩ := hr pins { s4 with heap := s4.heap.push { cls := .type "slice", data := .fields #[vl, vu, vs] } } σ H4 x v vl vu vs l u st s4.heap.objs.size Q I5 r1 (Heap.IsSliceOf.new ..) pl pu ps q4
  show wpAny (model X.prog X.w) X.A (subscriptTail e (.Slice lo hi (some se) p2) v (.ref s4.heap.objs.size)) (EP X pins σ Q) X.xe { s4 with heap := s4.heap.push { cls := .type "slice", data := .fields #[vl, vu, vs] } }
  exact tail_any (ops := [v, .ref s4.heap.objs.size]) ht hT hg (by with_unfolding_all rfl)
theorem sl_ints3 : SlR3 X (fun x lo hi st H Q => ∃ (a : Addr) (ns : List Int), x = .ref a ∧ SqL X.K H a (ns.map V.int) ∧ st ≠ some 0 ∧ ∀ p, H p = none → Q (.ref p) (upd H p (.lst ((pickNums ns lo hi st).map V.int)))) := by
  intro pins s σ H x v vl vu vs lo hi st sl Q I rx hs pl pu ps h
  obtain ⟨a, ns, rfl, hx, h0, q⟩ := h
  cases rx
  obtain ⟨its, r, ht, hz⟩ := I.list hx
  have hI : IntsAre its ns := intsAre_of r
  refine ⟨"list", _, slot_list_getitem.lookup, ht.isList.typeIs, ?_⟩
  refine wpAny_getItem_list_slice ht.isList hs pl pu ps h0 ?_ (by rw [List.size_toArray, ← r.length]; exact hz)
  have hv : Vals ((pickNums ns lo hi st).map V.int) (slicePick its.toArray lo hi st).toList := vals_ints (hI.pick lo hi st)
  have hle : ((pickNums ns lo hi st).map V.int).length ≤ sizeLine := by
    rw [hv.length, Array.length_toList]
    refine Nat.le_trans (slicePick_size_le _ _ _ _) ?_
    rw [List.size_toArray, ← r.length]; exact hz
  refine ⟨.ref s.heap.objs.size, _, I.laid (t' := s.toks) (o := .lst ((pickNums ns lo hi st).map V.int)) (fun b ob q => Heap.get?_push_of_some _ q) (Nat.le_refl _) ?_, rfl, q _ (I.hok.fresh (Nat.le_refl _))⟩
  exact ⟨hle, _, 0, hv, by simpa using Heap.get?_push_size _ rfl⟩
theorem call_sortedL : CallR X (.builtin "sorted") (fun xs H Q => ∃ (a : Addr) (ns : List Int), xs = [V.ref a] ∧ SqL X.K H a (ns.map V.int) ∧ ns.length < 64 ∧ ∀ (p : Addr) (ms : List Int), H p = none → List.Perm ms ns → ms.Pairwise (· ≤ ·) → Q (.ref p) (upd H p (.lst (ms.map V.int)))) := by
  intro pins s σ H xs us Q I r h
  obtain ⟨a, ns, rfl, ha, hl, q⟩ := h
  obtain ⟨u, rfl, ru⟩ := vals1 r
  cases ru
  obtain ⟨its, rv, pl, hz⟩ := I.list ha
  have hI : IntsAre its ns := intsAre_of rv
  refine sorted_ints pl.isList hI (by rw [IntsAre.length hI]; exact hl) fun out ns' a1 a2 a3 => ?_
  obtain ⟨n1, e1⟩ := sortedAll_at s.heap its out
  have hv : Vals (ns'.map V.int) out.toList := vals_ints a1
  have new : ObjOk X.prog X.w (upd H (s.heap.objs.size + 1) (.lst (ns'.map V.int))) (sortedAll s.heap its out) (s.heap.objs.size + 1) (.lst (ns'.map V.int)) := ⟨by rw [List.length_map, a2.length_eq, sizeLine_eq]; omega, out.toList, n1, hv, by simpa using e1⟩
  exact ⟨.ref (s.heap.objs.size + 1), _, I.laid (t' := s.toks) (fun b o z => sortedAll_old z) (Nat.le_succ _) new, rfl, q _ ns' (I.hok.fresh (Nat.le_succ _)) a2 a3⟩
theorem mt_sindex : MtR X "str.index" (fun x xs H Q => ∃ (z : Str) (c i : Nat), x = .str z ∧ xs = [.str ⟨#[c]⟩] ∧ z.cps.toList[i]? = some c ∧ (∀ j, j < i → z.cps.toList[j]? ≠ some c) ∧ Q (.int i) H) := by
  intro pins s σ H x xs v us Q I rx rs h
  obtain ⟨z, c, i, rfl, rfl, hi, hno, q⟩ := h
  obtain ⟨t, rfl⟩ := rx
  obtain ⟨u, rfl, t', rfl⟩ := vals1 rs
  have ho : Builtin.Str.occurrences z ⟨#[c]⟩ 0 z.length 1 = i :: [] := by
    rw [StrLaws.occ_eq, StrLaws.occ_firstX z c i hi hno (z.length + 1 - 0) 0 (Nat.zero_le _) (by omega)]
  exact SC.index ho ⟨.int i, H, I.tok _, ⟨_, rfl⟩, q⟩
end
end L2
end
section
namespace L2
open PySem PySem.Spec PyProof.Rows
section
variable {X : Cx} {C : Addr} {x : Str} {p pos : Pos}
structure Mk0 (K : PySem.W.Frag) (C : Addr) : Prop where
  makes : PySem.W.makesIn K C = true
  init : PySem.W.findIn K (.ref C) "__init__" = some (some (.builtin "object.__init__"))
  kp : PySem.W.keepIn K (.ref C) = true
def tMake0 (C : Addr) : TE := fun _ H Q => ∀ a dx, H a = none → H dx = none → dx ≠ a → Q (.ref a) (upd (upd H dx (.own a)) a (.ins C dx []))
theorem run_make0 {pins : List (Addr × Obj)} {σ : St} {H : Hp} {s : Shared} {Q : VK} (M : Mk0 X.K C) (I : Inv X pins σ H s) (h : ∀ a dx, H a = none → H dx = none → dx ≠ a → Q (.ref a) (upd (upd H dx (.own a)) a (.ins C dx []))) :
    wpAny (model X.prog X.w) X.A (call (.ref C) []) (EP X pins σ Q) X.xe s := by
  have hq := h (s.heap.objs.size + 1) s.heap.objs.size (I.hok.fresh (Nat.le_succ _)) (I.hok.fresh (Nat.le_refl _)) (Nat.ne_of_lt (Nat.lt_succ_self _))
  have I2 := Inv.made (C := C) I
  refine wpAny_call (make_map0 I.kIn M.makes M.init (fun self => PySem.W.Looks.of_pure (PySem.W.oi_bind self)) ?_)
  have Y := PySem.W.makes_of (M := model X.prog X.w) I.kIn M.makes
  have gx : ((s.heap.push PySem.W.emptyDict).push (PySem.W.instObj C s.heap.objs.size)).get? (s.heap.objs.size + 1) = some (PySem.W.instObj C s.heap.objs.size) := by
    have := Heap.get?_push_size (s.heap.push PySem.W.emptyDict) (o := PySem.W.instObj C s.heap.objs.size) rfl
    rwa [Heap.size_push] at this
  have ty : PySem.W.Looks (model X.prog X.w) ((s.heap.push PySem.W.emptyDict).push (PySem.W.instObj C s.heap.objs.size)) (typeOf (.ref (s.heap.objs.size + 1))) (.ref C) :=
    (PySem.W.Looks.ld gx).andThen .now
  have io : PySem.W.Looks (model X.prog X.w) ((s.heap.push PySem.W.emptyDict).push (PySem.W.instObj C s.heap.objs.size)) (isInstance (.ref (s.heap.objs.size + 1)) (.type "object")) true :=
    ty.andThen (Y.top.keeps fun b o e => Heap.get?_push_of_some _ (Heap.get?_push_of_some _ e))
  refine codeAny_call_builtin PySem.W.oi_plain PySem.W.entry_oi ?_
  refine PySem.W.check_slot PySem.W.oi_kind PySem.W.oi_split io (PySem.W.oi_args _) ?_
  rw [PySem.W.oi_run]
  exact wpAny_pure ⟨rfl, ⟨V.ref (s.heap.objs.size + 1), _, I2, rfl, hq⟩⟩
theorem pe_make00 (M : Mk0 X.K C) (hg : Gl X x) (hm : X.mg x = some (.ref C)) (hdb : (x == ("__debug__" : Str)) = false := by decide) : PE X (.Call (.Name x p) [] [] pos) (tMake0 C) := by
  intro pins s σ H Q I h
  exact wpAny_Call_Name_kw (ld_glob I hg hm (PySem.W.callWith_K0 I.kIn M.kp (run_make0 M I h)) hdb)
theorem call_isiC {K : PySem.W.Frag} (hK : X.K = K) : CallR X (.builtin "isinstance") (fun xs H Q => ∃ v c t cv b, xs = [v, c] ∧ (∀ u, RelV c u → u = cv) ∧ TyOf K H v t ∧ PySem.W.kitOne K t cv = some b ∧ Q (.bl b) H) := by
  subst hK
  intro pins s σ H xs us Q I r h
  obtain ⟨v, c, t, cv, b, rfl, hcv, ty, e, q⟩ := h
  obtain ⟨u, c', rfl, r1, r2⟩ := vals2 r
  have := hcv _ r2
  subst this
  exact isinst_ok I r1 ty e fun tk => ⟨.bl b, H, I.tok tk, rfl, q⟩
end
end L2
end
section
namespace L2
open PySem PySem.Spec PyProof.Rows
section
variable {X : Cx}
theorem passE0 : Passes (CXE X.prog X.w) X E0 := fun _ _ _ _ _ _ _ h => by obtain ⟨_, _, _, _, _, _, _, _, _, q⟩ := h; exact q.elim
theorem pe_fldK {K : PySem.W.Frag} {e : Expr} {f : Str} {pos : Pos} {ta : TE} (hK : X.K = K) (he : PE X e ta) (hb : attributeBase e f X.env (eval e X.env) = eval e X.env) : PE X (.Attribute e f pos) (tFld K ta f) := hK ▸ pe_fld he hb
theorem ps_tryQ {body : List Stmt} {h0 : ExceptHandler} {hs : List ExceptHandler} {pos : Pos} {tb : TS} (hb : ∀ (pn : List (Addr × Obj)) (E : Value → Shared → Prop), PSs (tX X pn E) body tb) : PS X (.Try body (h0 :: hs) [] [] pos) tb := by
  intro pins s σ H D I h
  refine wpAny_Try_except ?_
  have I0 : Inv (tX X (X.pn ++ pins) fun _ _ => False) [] σ H s := ⟨I.ok.tX _ _, I.os, I.bare, I.base, I.loc, I.cell, I.free, I.freeC, fun p hp => I.pin p (by simpa using hp), I.hok, I.len⟩
  have back : ∀ {σ' H' s'}, Inv (tX X (X.pn ++ pins) fun _ _ => False) [] σ' H' s' → Inv X pins σ' H' s' := fun {σ' H' s'} J => ⟨I.ok, J.os, J.bare, J.base, J.loc, J.cell, J.free, J.freeC, fun p hp => J.pin p (by simpa using hp), J.hok, J.len⟩
  refine wpAny_mono (hb (X.pn ++ pins) (fun _ _ => False) [] s σ H D I0 h) (fun f s1 q => ?_) fun e s' q => q.elim
  cases f with
  | next => obtain ⟨σ', H', J, q⟩ := q; exact wpAny_execs_nil ⟨σ', H', back J, q⟩
  | brk => obtain ⟨σ', H', J, q⟩ := q; exact ⟨σ', H', back J, q⟩
  | cont => obtain ⟨σ', H', J, q⟩ := q; exact ⟨σ', H', back J, q⟩
  | ret u => obtain ⟨v, σ', H', J, r, q⟩ := q; exact ⟨v, σ', H', back J, r, q⟩
end
end L2
end
section
namespace L2
open PySem PySem.Spec PyProof.Rows
def ItL (K : PySem.W.Frag) (a : Addr) : It where
  go := fun i H => ∃ xs y, SqL K H a xs ∧ xs[i]? = some y
  yld := fun i H v H' => ∃ t y, H t = none ∧ (∀ xs, SqL K H a xs → xs[i]? = some y) ∧ v = .ref t ∧ H' = upd H t (.tup [.int i, y])
  stop := fun i H => ∃ xs, SqL K H a xs ∧ i = xs.length
def iEnumL (K : PySem.W.Frag) (ta : TE) : TI := fun σ H R => ta σ H fun v H1 => ∃ a, v = .ref a ∧ (∃ xs, SqL K H1 a xs) ∧ R (ItL K a) H1
theorem turn_enumL {P : Program} {w : World} {K : PySem.W.Frag} {elts : List Expr} {k : Nat} {pos : Pos} (a e it : Addr) (hei : e ≠ it) :
    Turn P w K (.Tuple elts k pos) (ItL K a) [e, it] e (fun i h => a ≠ it ∧ a ≠ e ∧ (∃ old, IsEnum h e it i old) ∧ h.IsListIter it a i) where
  mem := by simp
  obj := fun i h st b hb => by
    obtain ⟨_, _, ⟨old, he⟩, o, ho, hc, hd⟩ := st
    rcases List.mem_cons.mp hb with z | z
    · subst z; exact ⟨_, he, fun v z => by have z' : Data.fields _ = Data.cell v := z; cases z'⟩
    · have z' : b = it := by simpa using z
      subst z'; exact ⟨o, ho, fun v z => by rw [hd] at z; cases z⟩
  keep := fun i h h' st kk => by
    obtain ⟨n1, n2, ⟨old, he⟩, o, ho, r⟩ := st
    exact ⟨n1, n2, ⟨old, kk e (by simp) _ he⟩, o, kk it (by simp) o ho, r⟩
  item := by
    intro X hP hw hK hc i pins s σ H E I hf st hg
    subst hP hw hK
    obtain ⟨n1, n2, ⟨old, he⟩, hs⟩ := st
    have hh : X.A.in1.handled = none := I.ok.hd hc
    obtain ⟨xs, y, hq, hy⟩ := hg
    obtain ⟨its, rv, p, hz⟩ := I.list hq
    obtain ⟨u, hu, ru⟩ := rv.get hy
    have hlt' : i < its.toArray.size := by simpa using (List.getElem?_eq_some_iff.mp hu).1
    refine wpAny_pyNext_enum_itemD (Draws.list hh it a n1 its.toArray) he ⟨hs, p.isList⟩ hlt' hei (by simp [hei, Ne.symm n2]) fun v h1 tk hv ho hs1 hT hsz hk => ?_
    have hv' : v = u := by
      have hu' : its.toArray[i]? = some u := by simpa using hu
      have hv'' : its.toArray[i]? = some v := hv
      rw [hu'] at hv''
      exact (Option.some.inj hv'').symm
    subst hv'
    refine ⟨_, rfl, wpAny_letOwnedTupleGo_enum ho fun h2 he2 sb2 => ?_⟩
    have hlt : e < s.heap.objs.size := Heap.lt_size he
    have sb2' : Heap.SameBut e h1 h2 := sb2
    have hT2 : h2.get? s.heap.objs.size = some { cls := .type "tuple", data := .seq #[.int i tk, v] } := (sb2'.2 _ (Nat.ne_of_gt hlt)).trans hT
    refine ⟨.ref s.heap.objs.size, upd H s.heap.objs.size (.tup [.int i, y]), ?_, rfl, ⟨_, y, I.hok.fresh (Nat.le_refl _), fun ys hys => by rw [I.list_inj hys hq]; exact hy, rfl, rfl⟩, ⟨n1, n2, ⟨_, by simpa using he2⟩, ?_⟩, fun b hb => ?_⟩
    · refine I.turnedL (ch := [e, it]) (t' := tk + 1) hf (fun b o hb q => ?_) (Nat.le_refl _) ⟨by show 2 ≤ sizeLine; decide, [.int i tk, v], .cons ⟨_, rfl⟩ (.cons ru .nil), _, hT2, rfl, _, rfl⟩
      have h1' : b ≠ e := fun z => hb (by simp [z])
      have h2' : b ≠ it := fun z => hb (by simp [z])
      exact (sb2'.2 b h1').trans (hk b o h1' h2' q)
    · obtain ⟨⟨o, q, r⟩, _⟩ := hs1
      exact ⟨o, (sb2'.2 it (Ne.symm hei)).trans q, r⟩
    · have hb0 := hf b hb
      have ne : b ≠ s.heap.objs.size := by
        rcases List.mem_cons.mp hb with z | z
        · rw [z]; exact Nat.ne_of_lt hlt
        · have z' : b = it := by simpa using z
          obtain ⟨o, q, _⟩ := hs
          rw [z']; exact Nat.ne_of_lt (Heap.lt_size q)
      rw [upd_ne ne]; exact hb0.1
  done := by
    intro X hP hw hK hc i pins s σ H E I hf st hg
    subst hP hw hK
    obtain ⟨n1, n2, ⟨old, he⟩, hs⟩ := st
    have hh : X.A.in1.handled = none := I.ok.hd hc
    obtain ⟨xs, hq, hi⟩ := hg
    obtain ⟨its, rv, p, hz⟩ := I.list hq
    have hi' : i = its.toArray.size := by rw [hi, rv.length]; simp
    obtain ⟨f0, f1, f2, f3, f4, f5⟩ := hf it (by simp)
    refine wpAny_pyNext_enum_endD (Draws.list hh it a n1 its.toArray) he (by rw [← hi']; exact ⟨hs, p.isList⟩) fun h1 eb => ⟨rfl, I.turned (t' := s.toks) (fun b o hb q => eb b o hb q) f0 f1 f3 f4 f5⟩
  self := fun _ _ _ _ _ st h => by
    obtain ⟨_, _, ⟨old, he⟩, _⟩ := st
    exact wpAny_pyIter_enum he h
section
variable {X : Cx}
theorem pi_enumL {elts : List Expr} {k : Nat} {tp : Pos} {a : Expr} {ta : TE} {p pos : Pos} (hg : Gl X "enumerate") (hm : X.mg "enumerate" = none) (ha : PE X a ta) (hs : starEach [a] X.env = [(false, eval a X.env)] := by rfl) :
    PI X (.Tuple elts k tp) (.Call (.Name "enumerate" p) [a] [] pos) (iEnumL X.K ta) := by
  intro pins s σ H R I h
  refine Call_ (ld_blt I hg hm boot_enum (PyProof.Rows.callWith_type1 (thn (pa_cons ha pa_nil hs pos pins s σ H (fun vs H1 => ∃ x, vs = [.ref x] ∧ (∃ xs, SqL X.K H1 x xs) ∧ R (ItL X.K x) H1) I ?_) fun us s1 ⟨vs, H1, I1, r1, q1⟩ => ?_) hs rfl))
  · show ta σ H fun v H1 => ∃ x, [v] = [V.ref x] ∧ (∃ xs, SqL X.K H1 x xs) ∧ R (ItL X.K x) H1
    have h' : ta σ H fun v H1 => ∃ x, v = .ref x ∧ (∃ xs, SqL X.K H1 x xs) ∧ R (ItL X.K x) H1 := h
    have e : (fun (v : V) H1 => ∃ x, [v] = [V.ref x] ∧ (∃ xs, SqL X.K H1 x xs) ∧ R (ItL X.K x) H1) = fun v H1 => ∃ x, v = .ref x ∧ (∃ xs, SqL X.K H1 x xs) ∧ R (ItL X.K x) H1 := by
      funext v H1
      simp
    rw [e]; exact h'
  · obtain ⟨x, e, ⟨xs, hq⟩, q⟩ := q1
    subst e
    cases r1 with
    | cons r rr =>
      cases rr
      cases r
      obtain ⟨its, rv, pt, hz0⟩ := I1.list hq
      have ptl : x < s1.heap.objs.size := by obtain ⟨o, n, e, _⟩ := pt; exact Heap.lt_size e
      refine call_enumerate_list pt.isList fun h1 he hi hz hk => ?_
      have I2 : Inv X pins σ H1 { s1 with heap := h1 } := I1.kept (t' := s1.toks) hk
      refine wpAny_pyIter_enum he ⟨s1.heap.objs.size + 1, [s1.heap.objs.size + 1, s1.heap.objs.size], _, ItL X.K x, H1, rfl, I2, turn_enumL x _ _ (Nat.succ_ne_self _), ⟨Nat.ne_of_lt ptl, Nat.ne_of_lt (Nat.lt_succ_of_lt ptl), ⟨_, by simpa using he⟩, hi⟩, fun b hb => ?_, q⟩
      have hb' : s1.heap.objs.size ≤ b := by
        rcases List.mem_cons.mp hb with z | z
        · rw [z]; exact Nat.le_succ _
        · have z' : b = s1.heap.objs.size := by simpa using z
          rw [z']; exact Nat.le_refl _
      exact I1.fpOk hb' (I1.hok.fresh hb')
end
theorem for_enumL {K : PySem.W.Frag} {a : Addr} {xs : List V} {g : TG} {tb : TS} {D : Ends} {σ : St} {H : Hp} (Pv : Nat → St → Hp → Prop) (h0 : Pv 0 σ H) (hl : ∀ i σ H, i ≤ xs.length → Pv i σ H → SqL K H a xs)
    (hs : ∀ i y t σ H, xs[i]? = some y → H t = none → Pv i σ H → g (.ref t) σ (upd H t (.tup [.int i, y])) fun σ2 H2 => tb { D with nx := Pv (i + 1), ct := Pv (i + 1), bk := D.nx } σ2 H2) (hd : ∀ σ H, Pv xs.length σ H → D.nx σ H) :
    ∃ W : Nat → Nat → St → Hp → Prop, (∃ m, W 0 m σ H) ∧ ∀ i m σ H, W i m σ H →
      ((ItL K a).stop i H ∧ D.nx σ H) ∨ ((ItL K a).go i H ∧ ∃ N : St → Hp → Prop, (∀ σ' H', N σ' H' → ∃ m', m' < m ∧ W (i + 1) m' σ' H') ∧ ∀ v H', (ItL K a).yld i H v H' → g v σ H' fun σ2 H2 => tb { D with nx := N, ct := N, bk := D.nx } σ2 H2) := by
  refine ⟨fun i m σ H => m = xs.length - i ∧ i ≤ xs.length ∧ Pv i σ H, ⟨_, rfl, Nat.zero_le _, h0⟩, ?_⟩
  rintro i m σ H ⟨rfl, hi, p⟩
  have q := hl i σ H hi p
  by_cases hlt : i < xs.length
  · refine .inr ⟨⟨xs, xs[i], q, by simp [hlt]⟩, Pv (i + 1), fun σ' H' p' => ⟨xs.length - (i + 1), by omega, rfl, hlt, p'⟩, fun v H' y => ?_⟩
    obtain ⟨t, c, ht, hc, rfl, rfl⟩ := y
    exact hs i c t σ H (hc xs q) ht p
  · have e : i = xs.length := by omega
    subst e
    exact .inl ⟨⟨xs, q, rfl⟩, hd σ H p⟩
end L2
end
section
namespace Mir
open P3
theorem pl_same {l r l' r' : List Int} (h1 : ∀ k, k ∈ l' ↔ k ∈ l) (h2 : ∀ k, k ∈ r' ↔ k ∈ r) (k : Int) : pl l' r' k = pl l r k := by
  unfold pl
  by_cases a : k ∈ r
  · rw [if_pos a, if_pos ((h2 k).mpr a)]
  · rw [if_neg a, if_neg (fun z => a ((h2 k).mp z))]
    by_cases b : k ∈ l
    · rw [if_pos b, if_pos ((h1 k).mpr b)]
    · rw [if_neg b, if_neg (fun z => b ((h1 k).mp z))]
theorem pl_consL {l r : List Int} {x k : Int} (h : k ≠ x) : pl (x :: l) r k = pl l r k := by
  unfold pl; simp [List.mem_cons, h]
theorem pl_consR {l r : List Int} {x k : Int} (h : k ≠ x) : pl l (x :: r) k = pl l r k := by
  unfold pl; simp [List.mem_cons, h]
theorem pl_E {l r : List Int} {k : Int} (h1 : k ∉ l) (h2 : k ∉ r) : pl l r k = E := by
  unfold pl; simp [h1, h2]
theorem pl_L {l r : List Int} {k : Int} (h2 : k ∉ r) : pl (k :: l) r k = L := by
  unfold pl; simp [h2]
theorem pl_R {l r : List Int} {k : Int} : pl l (k :: r) k = R := by
  unfold pl; simp
theorem cs1_congr {l r l' r' : List Int} {o : P3} : ∀ (cs : List Nat) (i : Nat), (∀ k : Nat, i ≤ k → k < i + cs.length → pl l' r' k = pl l r k) → cs1 l' r' o i cs = cs1 l r o i cs
  | [], _, _ => rfl
  | c :: cs, i, h => by
    show c1 c (pl l' r' i) o + cs1 l' r' o (i+1) cs = c1 c (pl l r i) o + cs1 l r o (i+1) cs
    rw [h i (Nat.le_refl _) (by simp), cs1_congr cs (i+1) fun k h1 h2 => h k (by omega) (by simp; omega)]
def at1 (cs : List Nat) (j : Nat) (p o : P3) : Nat := match cs[j]? with | some c => c1 c p o | none => 0
theorem cs1_upd {l r l' r' : List Int} {o : P3} : ∀ (cs : List Nat) (i j : Nat), (∀ k : Nat, k ≠ i + j → pl l' r' k = pl l r k) →
    cs1 l' r' o i cs + at1 cs j (pl l r ((i + j : Nat) : Int)) o = cs1 l r o i cs + at1 cs j (pl l' r' ((i + j : Nat) : Int)) o
  | [], _, _, _ => by simp [cs1, at1]
  | c :: cs, i, 0, h => by
    have e := cs1_congr (o := o) cs (i+1) fun k h1 _ => h k (by omega)
    show c1 c (pl l' r' i) o + cs1 l' r' o (i+1) cs + c1 c (pl l r ((i : Nat) : Int)) o = c1 c (pl l r i) o + cs1 l r o (i+1) cs + c1 c (pl l' r' ((i : Nat) : Int)) o
    rw [e]; omega
  | c :: cs, i, j+1, h => by
    have ih := cs1_upd (o := o) cs (i+1) j fun k hk => h k (by omega)
    have e0 := h i (by omega)
    have e1 : i + (j+1) = i + 1 + j := by omega
    show c1 c (pl l' r' i) o + cs1 l' r' o (i+1) cs + at1 cs j (pl l r ((i+(j+1) : Nat) : Int)) o = c1 c (pl l r i) o + cs1 l r o (i+1) cs + at1 cs j (pl l' r' ((i+(j+1) : Nat) : Int)) o
    rw [e1, e0]; omega
def evs : List Int → List Int
  | [] => []
  | [x] => [x]
  | x :: _ :: t => x :: evs t
def ods : List Int → List Int
  | [] => []
  | [_] => []
  | _ :: y :: t => y :: ods t
theorem evs_ods : ∀ ps : List Int, List.Perm (evs ps ++ ods ps) ps
  | [] => .nil
  | [x] => .refl _
  | x :: y :: t => List.Perm.cons x (List.perm_middle.trans (List.Perm.cons y (evs_ods t)))
theorem evs_len : ∀ ps : List Int, (evs ps).length = (ps.length + 1) / 2
  | [] => rfl
  | [x] => by simp [evs]
  | x :: y :: t => by show (evs t).length + 1 = (t.length + 1 + 1 + 1) / 2; rw [evs_len t]; omega
theorem ods_len : ∀ ps : List Int, (ods ps).length = ps.length / 2
  | [] => rfl
  | [x] => by simp [ods]
  | x :: y :: t => by show (ods t).length + 1 = (t.length + 1 + 1) / 2; rw [ods_len t]; omega
theorem evs_mem {ps : List Int} {x : Int} (h : x ∈ evs ps) : x ∈ ps := (evs_ods ps).mem_iff.mp (List.mem_append_left _ h)
theorem ods_mem {ps : List Int} {x : Int} (h : x ∈ ods ps) : x ∈ ps := (evs_ods ps).mem_iff.mp (List.mem_append_right _ h)
theorem evs_pick : ∀ (ns : List Int) (b : Nat), b ≤ ns.length → (List.range ((b + 1) / 2)).filterMap (fun k => ns[2 * k]?) = evs (ns.take b)
  | [], b, h => by have e : b = 0 := by simpa using h
                   subst e; rfl
  | [x], 0, _ => rfl
  | [x], 1, _ => rfl
  | [x], b + 2, h => by simp at h
  | x :: y :: t, 0, _ => rfl
  | x :: y :: t, 1, _ => rfl
  | x :: y :: t, b + 2, h => by
    have ih := evs_pick t b (by simp at h; omega)
    have e : (b + 2 + 1) / 2 = (b + 1) / 2 + 1 := by omega
    rw [e, List.range_succ_eq_map, List.filterMap_cons]
    show x :: _ = x :: evs (t.take b)
    rw [← ih, List.filterMap_map]
    rfl
theorem ods_pick : ∀ (ns : List Int) (b : Nat), b ≤ ns.length → (List.range (b / 2)).filterMap (fun k => ns[2 * k + 1]?) = ods (ns.take b)
  | [], b, h => by have e : b = 0 := by simpa using h
                   subst e; rfl
  | [x], 0, _ => rfl
  | [x], 1, _ => rfl
  | [x], b + 2, h => by simp at h
  | x :: y :: t, 0, _ => rfl
  | x :: y :: t, 1, _ => rfl
  | x :: y :: t, b + 2, h => by
    have ih := ods_pick t b (by simp at h; omega)
    have e : (b + 2) / 2 = b / 2 + 1 := by omega
    rw [e, List.range_succ_eq_map, List.filterMap_cons]
    show y :: _ = y :: ods (t.take b)
    rw [← ih, List.filterMap_map]
    rfl
def gg (cs : List Nat) (o : P3) : List Int → Nat
  | [] => 0
  | [x] => at1 cs x.toNat L o
  | x :: y :: t => at1 cs x.toNat L o + at1 cs y.toNat R o + gg cs o t
def ge (cs : List Nat) (o : P3) : List Int → Nat
  | [] => 0
  | x :: t => at1 cs x.toNat E o + ge cs o t
theorem tally {cs : List Nat} {o : P3} : ∀ ps : List Int, ps.Nodup → (∀ x ∈ ps, 0 ≤ x) → cs1 (evs ps) (ods ps) o 0 cs + ge cs o ps = cs1 [] [] o 0 cs + gg cs o ps
  | [], _, _ => rfl
  | [x], _, h0 => by
    have hx := h0 x List.mem_cons_self
    have ex : ((0 + x.toNat : Nat) : Int) = x := by omega
    have u := cs1_upd (l := []) (r := []) (l' := [x]) (r' := []) (o := o) cs 0 x.toNat fun k hk => pl_consL (by omega)
    rw [ex, pl_L (by simp), pl_E (by simp) (by simp)] at u
    show cs1 [x] [] o 0 cs + (at1 cs x.toNat E o + 0) = _ + at1 cs x.toNat L o
    omega
  | x :: y :: t, hn, h0 => by
    obtain ⟨n1, n2⟩ := List.nodup_cons.mp hn
    obtain ⟨n3, n4⟩ := List.nodup_cons.mp n2
    have ih := tally (cs := cs) (o := o) t n4 fun z hz => h0 z (List.mem_cons_of_mem _ (List.mem_cons_of_mem _ hz))
    have hx := h0 x List.mem_cons_self
    have hy := h0 y (List.mem_cons_of_mem _ List.mem_cons_self)
    have ex : ((0 + x.toNat : Nat) : Int) = x := by omega
    have ey : ((0 + y.toNat : Nat) : Int) = y := by omega
    have xt : x ∉ t := fun z => n1 (List.mem_cons_of_mem _ z)
    have xy : y ≠ x := fun z => n1 (z ▸ List.mem_cons_self)
    have u := cs1_upd (l := evs t) (r := ods t) (l' := x :: evs t) (r' := ods t) (o := o) cs 0 x.toNat fun k hk => pl_consL (by omega)
    rw [ex, pl_L (fun z => xt (ods_mem z)), pl_E (fun z => xt (evs_mem z)) (fun z => xt (ods_mem z))] at u
    have v := cs1_upd (l := x :: evs t) (r := ods t) (l' := x :: evs t) (r' := y :: ods t) (o := o) cs 0 y.toNat fun k hk => pl_consR (by omega)
    rw [ey, pl_R, pl_E (fun z => by rcases List.mem_cons.mp z with q | q; exact xy q; exact n3 (evs_mem q)) (fun z => n3 (ods_mem z))] at v
    show cs1 (x :: evs t) (y :: ods t) o 0 cs + (at1 cs x.toNat E o + (at1 cs y.toNat E o + ge cs o t)) = _ + (at1 cs x.toNat L o + at1 cs y.toNat R o + gg cs o t)
    omega
theorem cs1_none {o : P3} : ∀ (cs : List Nat) (i : Nat), (∀ c ∈ cs, Sign c) → cs1 [] [] o i cs = if o = E then 2 * cs.count 101 + cs.count 104 + cs.count 108 else 0
  | [], _, _ => by cases o <;> rfl
  | c :: cs, i, h => by
    have ih := cs1_none (o := o) cs (i + 1) fun d hd => h d (List.mem_cons_of_mem _ hd)
    show c1 c (pl [] [] i) o + cs1 [] [] o (i + 1) cs = _
    rw [ih, pl_E (by simp) (by simp)]
    have e : ∀ d, (c :: cs).count d = [c].count d + cs.count d := fun d => by
      rw [List.count_cons, List.count_cons, List.count_nil]; omega
    rw [e, e, e]
    rcases h c List.mem_cons_self with rfl | rfl | rfl | rfl <;> cases o <;> simp [c1, mayH, mayL, other] <;> omega
def Prd (cs : List Nat) : List Int → Prop
  | [] => True
  | [_] => True
  | x :: y :: t => cs[x.toNat]? = cs[y.toNat]? ∧ Prd cs t
theorem at1_of {cs : List Nat} {j c : Nat} (h : cs[j]? = some c) (p o : P3) : at1 cs j p o = c1 c p o := by unfold at1; rw [h]
theorem gg_e {cs : List Nat} {o : P3} (ho : o ≠ E) : ∀ ps : List Int, (∀ x ∈ ps, cs[x.toNat]? = some 101) → gg cs o ps = ps.length
  | [], _ => rfl
  | [x], h => by
    show at1 cs x.toNat L o = 1
    rw [at1_of (h x List.mem_cons_self)]
    cases o <;> first | rfl | exact absurd rfl ho
  | x :: y :: t, h => by
    show at1 cs x.toNat L o + at1 cs y.toNat R o + gg cs o t = t.length + 1 + 1
    rw [gg_e ho t fun z hz => h z (List.mem_cons_of_mem _ (List.mem_cons_of_mem _ hz)), at1_of (h x List.mem_cons_self), at1_of (h y (List.mem_cons_of_mem _ List.mem_cons_self))]
    have e1 : c1 101 L o = 1 := by cases o <;> first | rfl | exact absurd rfl ho
    have e2 : c1 101 R o = 1 := by cases o <;> first | rfl | exact absurd rfl ho
    omega
theorem gg_E {cs : List Nat} : ∀ ps : List Int, gg cs E ps = 0
  | [] => rfl
  | [x] => by show at1 cs x.toNat L E = 0; unfold at1; split <;> simp [c1, other]
  | x :: y :: t => by
    show at1 cs x.toNat L E + at1 cs y.toNat R E + gg cs E t = 0
    rw [gg_E t]
    have e1 : at1 cs x.toNat L E = 0 := by unfold at1; split <;> simp [c1, other]
    have e2 : at1 cs y.toNat R E = 0 := by unfold at1; split <;> simp [c1, other]
    omega
theorem ge_no {cs : List Nat} {o : P3} (ho : o ≠ E) : ∀ ps : List Int, ge cs o ps = 0
  | [] => rfl
  | x :: t => by
    show at1 cs x.toNat E o + ge cs o t = 0
    rw [ge_no ho t]
    have e1 : at1 cs x.toNat E o = 0 := by unfold at1; split <;> cases o <;> simp [c1, other] at ho ⊢
    omega
theorem ge_e {cs : List Nat} : ∀ ps : List Int, (∀ x ∈ ps, cs[x.toNat]? = some 101) → ge cs E ps = 2 * ps.length
  | [], _ => rfl
  | x :: t, h => by
    show at1 cs x.toNat E E + ge cs E t = 2 * (t.length + 1)
    rw [ge_e t fun z hz => h z (List.mem_cons_of_mem _ hz), at1_of (h x List.mem_cons_self)]
    have : c1 101 E E = 2 := rfl
    omega
theorem ge_hl {cs : List Nat} : ∀ ps : List Int, (∀ x ∈ ps, cs[x.toNat]? = some 104 ∨ cs[x.toNat]? = some 108) → ge cs E ps = ps.length
  | [], _ => rfl
  | x :: t, h => by
    show at1 cs x.toNat E E + ge cs E t = t.length + 1
    rw [ge_hl t fun z hz => h z (List.mem_cons_of_mem _ hz)]
    have : at1 cs x.toNat E E = 1 := by
      rcases h x List.mem_cons_self with e | e
      · rw [at1_of e]; rfl
      · rw [at1_of e]; rfl
    omega
theorem gg_hl {cs : List Nat} {o : P3} (ho : o ≠ E) : ∀ ps : List Int, (∀ x ∈ ps, cs[x.toNat]? = some 104 ∨ cs[x.toNat]? = some 108) → Prd cs ps → gg cs o ps ≤ (ps.length + 1) / 2
  | [], _, _ => Nat.zero_le _
  | [x], h, _ => by
    have e1 : ([x].length + 1) / 2 = 1 := by simp
    rw [e1]
    show at1 cs x.toNat L o ≤ 1
    rcases h x List.mem_cons_self with e | e
    · rw [at1_of e]; cases o <;> decide
    · rw [at1_of e]; cases o <;> decide
  | x :: y :: t, h, p => by
    obtain ⟨p1, p2⟩ := p
    have ih := gg_hl ho t (fun z hz => h z (List.mem_cons_of_mem _ (List.mem_cons_of_mem _ hz))) p2
    show at1 cs x.toNat L o + at1 cs y.toNat R o + gg cs o t ≤ (t.length + 1 + 1 + 1) / 2
    have : at1 cs x.toNat L o + at1 cs y.toNat R o = 1 := by
      rcases h x List.mem_cons_self with e | e
      · rw [at1_of e, at1_of (p1 ▸ e)]; cases o <;> first | rfl | exact absurd rfl ho
      · rw [at1_of e, at1_of (p1 ▸ e)]; cases o <;> first | rfl | exact absurd rfl ho
    omega
theorem Prd.take {cs : List Nat} : ∀ (ps : List Int) (k : Nat), Prd cs ps → Prd cs (ps.take k)
  | [], k, _ => by rw [List.take_nil]; trivial
  | [x], 0, _ => trivial
  | [x], k + 1, _ => by rw [List.take_succ_cons, List.take_nil]; trivial
  | x :: y :: t, 0, _ => trivial
  | x :: y :: t, 1, _ => trivial
  | x :: y :: t, k + 2, h => ⟨h.1, Prd.take t k h.2⟩
theorem Prd.app {cs : List Nat} : ∀ (a b : List Int), a.length % 2 = 0 → Prd cs a → Prd cs b → Prd cs (a ++ b)
  | [], b, _, _, h => h
  | [x], b, h, _, _ => by simp at h
  | x :: y :: t, b, h, ha, hb => ⟨ha.1, Prd.app t b (by simp at h; omega) ha.2 hb⟩
theorem Prd.one {cs : List Nat} {c : Nat} : ∀ (a : List Int), (∀ x ∈ a, cs[x.toNat]? = some c) → Prd cs a
  | [], _ => trivial
  | [x], _ => trivial
  | x :: y :: t, h => ⟨by rw [h x List.mem_cons_self, h y (List.mem_cons_of_mem _ List.mem_cons_self)], Prd.one t fun z hz => h z (List.mem_cons_of_mem _ (List.mem_cons_of_mem _ hz))⟩
theorem open_e {cs : List Nat} {pf : List Int} {M on : Nat} (sg : ∀ c ∈ cs, Sign c) (nd : pf.Nodup) (h0 : ∀ x ∈ pf, 0 ≤ x) (hs : ∀ x ∈ pf, cs[x.toNat]? = some 101) (hl : pf.length = cs.count 101) (hh : cs.count 104 = 0) (hl2 : cs.count 108 = 0)
    (hM : M % 2 = 1) (h1 : M < 2 * cs.count 101 + 1) (h2 : 2 * cs.count 101 + 1 ≤ 3 * M) (ho : on = cs.count 101 - (M - 1) / 2) (o : P3) :
    cs1 (evs (pf.take on)) (ods (pf.take on)) o 0 cs + (if o = E then 1 else 0) ≤ M := by
  have sub : ∀ x ∈ pf.take on, x ∈ pf := fun x hx => List.mem_of_mem_take hx
  have t := tally (cs := cs) (o := o) (pf.take on) (nd.sublist (List.take_sublist _ _)) fun x hx => h0 x (sub x hx)
  rw [cs1_none cs 0 sg, hh, hl2] at t
  have len : (pf.take on).length = on := by rw [List.length_take, hl]; omega
  by_cases hE : o = E
  · subst hE
    rw [gg_E, ge_e _ fun x hx => hs x (sub x hx), len] at t
    simp at t ⊢
    omega
  · rw [gg_e hE _ fun x hx => hs x (sub x hx), ge_no hE, len, if_neg hE] at t
    rw [if_neg hE]
    omega
theorem open_hl {cs : List Nat} {pf : List Int} {M on : Nat} (sg : ∀ c ∈ cs, Sign c) (nd : pf.Nodup) (h0 : ∀ x ∈ pf, 0 ≤ x) (hs : ∀ x ∈ pf, cs[x.toNat]? = some 104 ∨ cs[x.toNat]? = some 108) (hl : pf.length = cs.count 104 + cs.count 108) (he : cs.count 101 = 0)
    (hM : 0 < M) (h1 : M < cs.count 104 + cs.count 108) (h2 : cs.count 104 + cs.count 108 ≤ 3 * M) (ho : on = cs.count 104 + cs.count 108 - M) (hp : ∀ k, k < pf.length → Prd cs (pf.take k)) (o : P3) :
    cs1 (evs (pf.take on)) (ods (pf.take on)) o 0 cs ≤ M := by
  have sub : ∀ x ∈ pf.take on, x ∈ pf := fun x hx => List.mem_of_mem_take hx
  have t := tally (cs := cs) (o := o) (pf.take on) (nd.sublist (List.take_sublist _ _)) fun x hx => h0 x (sub x hx)
  rw [cs1_none cs 0 sg, he] at t
  have len : (pf.take on).length = on := by rw [List.length_take, hl]; omega
  by_cases hE : o = E
  · subst hE
    rw [gg_E, ge_hl _ fun x hx => hs x (sub x hx), len] at t
    simp at t
    omega
  · have g := gg_hl (o := o) hE (pf.take on) (fun x hx => hs x (sub x hx)) (hp on (by omega))
    rw [ge_no hE, if_neg hE] at t
    rw [len] at g
    omega
end Mir
end
section
namespace L2
open PySem PySem.Spec PyProof.Rows
def Can (P : Program) (w : World) (K : PySem.W.Frag) (mg : Str → Option Value) (base : Heap) (CX : CXT) (k : Nat) (x : Str) (ps : List Str) (sp : Sp) : Prop :=
  ∃ f fd, mg x = some (.ref f) ∧ PySem.W.keepIn K (.ref f) = true ∧ Binds K fd ps [] ∧ FnOk P w K mg base CX k f fd ps sp
theorem pe_can {X : Cx} {CX : CXT} {k : Nat} {x : Str} {ps : List Str} {sp : Sp} {E : XK} {e : Expr} {es : List Expr} {t : TA} {p pos : Pos} (C : Can X.prog X.w X.K X.mg X.base CX k x ps sp) (hr : Room k X.A) (hx : Passes CX X E) (ha : PA X (e :: es) t) (hg : Gl X x := by rfl)
    (hdb : (x == ("__debug__" : Str)) = false := by decide) (he : starEach (e :: es) X.env = (false, eval e X.env) :: starEach es X.env := by rfl) (hpl : (backTo pos (starEach es X.env)).any (·.1) = false := by rfl) : PE X (.Call (.Name x p) (e :: es) [] pos) (tCall sp [] E t) := by
  obtain ⟨f, fd, h1, h2, h3, h4⟩ := C
  exact pe_call h4 hr hg h1 h2 h3 .nil hx ha hdb he hpl
theorem tru {b : Bool} (h : b = true) {A B : Prop} (a : A) : if b = true then A else B := by rw [if_pos h]; exact a
theorem fls {b : Bool} (h : b = false) {A B : Prop} (a : B) : if b = true then A else B := by rw [if_neg (by rw [h]; simp)]; exact a
theorem Same.upd {H H' : Hp} {p : Addr} {o : HO} (h : Same H H') (hp : H' p = none) : Same H (L2.upd H' p o) := fun b u e => by rw [upd_ne (ne_of_none (h b u e) hp)]; exact h b u e
theorem Same.upd0 {H : Hp} {p : Addr} {o : HO} (hp : H p = none) : Same H (L2.upd H p o) := (Same.refl H).upd hp
theorem Same.tup {K : PySem.W.Frag} {H H' : Hp} {a : Addr} {xs : List V} (e : Same H H') (h : SqT K H a xs) : SqT K H' a xs := by
  rcases h with (h | ⟨o, h⟩) | h
  · exact .inl (.inl (e _ _ h))
  · exact .inl (.inr ⟨o, e _ _ h⟩)
  · exact .inr h
end L2
namespace Ks
open PySem L2 Mir
abbrev ch1 (c : Nat) : Str := ⟨#[c]⟩
theorem s_e : ("e" : Str) = ch1 101 := by decide +kernel
theorem s_h : ("h" : Str) = ch1 104 := by decide +kernel
theorem s_l : ("l" : Str) = ch1 108 := by decide +kernel
theorem s_g : ("g" : Str) = ch1 103 := by decide +kernel
theorem ch1_inj {a b : Nat} : ch1 a = ch1 b ↔ a = b := by
  constructor
  · intro h
    have : (ch1 a).cps.toList = (ch1 b).cps.toList := by rw [h]
    simpa using this
  · intro h; rw [h]
def p3 : P3 → Str | .L => "left" | .R => "right" | .E => "even"
theorem p3_inj {a b : P3} : p3 a = p3 b ↔ a = b := by
  constructor
  · intro h
    cases a <;> cases b <;> first | rfl | exact absurd h (by decide +kernel)
  · intro h; rw [h]
structure Blt (mg : Str → Option Value) : Prop where
  isi : mg "isinstance" = none
  int : mg "int" = none
  bool : mg "bool" = none
  str : mg "str" = none
  list : mg "list" = none
  tuple : mg "tuple" = none
  len : mg "len" = none
  set : mg "set" = none
  enum : mg "enumerate" = none
  range : mg "range" = none
  any : mg "any" = none
  all : mg "all" = none
  sorted : mg "sorted" = none
  max : mg "max" = none
  min : mg "min" = none
structure Kit (K : PySem.W.Frag) : Prop where
  ii : PySem.W.kitOne K (.type "int") (.type "int") = some true
  ib : PySem.W.kitOne K (.type "int") (.type "bool") = some false
  bb : PySem.W.kitOne K (.type "bool") (.type "bool") = some true
  ss : PySem.W.kitOne K (.type "str") (.type "str") = some true
  ll : PySem.W.kitOne K (.type "list") (.type "list") = some true
  tt : PySem.W.kitOne K (.type "tuple") (.type "tuple") = some true
theorem boot_isi : bootBuiltins "isinstance" = some (.builtin "isinstance") := by decide +kernel
theorem boot_intT : bootBuiltins "int" = some (.type "int") := by decide +kernel
theorem boot_boolT : bootBuiltins "bool" = some (.type "bool") := by decide +kernel
theorem boot_strT : bootBuiltins "str" = some (.type "str") := by decide +kernel
theorem boot_listT : bootBuiltins "list" = some (.type "list") := by decide +kernel
theorem boot_tupT : bootBuiltins "tuple" = some (.type "tuple") := by decide +kernel
theorem boot_setT : bootBuiltins "set" = some (.type "set") := by decide +kernel
theorem boot_lenB : bootBuiltins "len" = some (.builtin "len") := by decide +kernel
theorem boot_sortedB : bootBuiltins "sorted" = some (.builtin "sorted") := by decide +kernel
theorem boot_maxB : bootBuiltins "max" = some (.builtin "max") := by decide +kernel
theorem boot_minB : bootBuiltins "min" = some (.builtin "min") := by decide +kernel
theorem inV_two (c a b : Nat) : inV (.str (ch1 c)) [.str (ch1 a), .str (ch1 b)] = (c == a || c == b) := by
  show ((ch1 a == ch1 c) || ((ch1 b == ch1 c) || false)) = _
  have e : ∀ x y : Nat, (ch1 x == ch1 y) = (y == x) := fun x y => by
    by_cases h : y = x
    · subst h; simp
    · have h' : ¬ ch1 x = ch1 y := fun z => h (ch1_inj.mp z).symm
      rw [beq_eq_false_iff_ne.mpr h', beq_eq_false_iff_ne.mpr h]
  rw [e, e]; simp
section
variable {P : Program} {w : World} {K : PySem.W.Frag} {mg : Str → Option Value} {base : Heap}
def spWhole : Sp := fun vs H Q _ => ∃ i, vs = [.int i] ∧ Q (.bl true) H
theorem scWhole : FnScope ["value"] ["value"] (defScope (top 10)) := ⟨rfl, rfl, rfl, by decide +kernel, rfl, by decide +kernel, by decide +kernel⟩
theorem ok_whole {f : Addr} {fd : FuncData} (F : Fun K "is_whole" "is_whole" (top 10) f fd) (B : Blt mg) (T : Kit K) : FnOk P w K mg base CX0 1 f fd ["value"] spWhole := by
  refine F.ok scWhole (fun vs H Q E h => ?_) (fun cdv A outer s H vs Q E hr h => ?_)
  · obtain ⟨i, rfl, _⟩ := h; rfl
  · obtain ⟨i, rfl, k⟩ := h
    refine ⟨_, pss_one (ps_ret (pe_and (pe_callB call_isi (by rfl) B.isi boot_isi (pa_cons (pv 0) (pa_cons (pe_bltn (v := .ty "int") (by rfl) B.int boot_intT rfl) pa_nil)))
      (pe_one (pe_not (pe_callB call_isi (by rfl) B.isi boot_isi (pa_cons (pv 0) (pa_cons (pe_bltn (v := .ty "bool") (by rfl) B.bool boot_boolT rfl) pa_nil))))))), ?_⟩
    refine ⟨_, rfl, _, _, _, _, rfl, .int i, T.ii, _, rfl, iteT ?_⟩
    exact ⟨_, rfl, _, _, _, _, rfl, .int i, T.ib, _, rfl, k⟩
def spMayH : Sp := fun vs H Q _ => ∃ c, vs = [.str (ch1 c)] ∧ ∀ H', Same H H' → Q (.bl (mayH c)) H'
theorem scMayH : FnScope ["sign"] ["sign"] (defScope (top 24)) := ⟨rfl, rfl, rfl, by decide +kernel, rfl, by decide +kernel, by decide +kernel⟩
theorem ok_mayH {f : Addr} {fd : FuncData} (F : Fun K "may_be_heavy" "may_be_heavy" (top 24) f fd) : FnOk P w K mg base CX0 1 f fd ["sign"] spMayH := by
  refine F.ok scMayH (fun vs H Q E h => ?_) (fun cdv A outer s H vs Q E hr h => ?_)
  · obtain ⟨i, rfl, _⟩ := h; rfl
  · obtain ⟨c, rfl, k⟩ := h
    refine ⟨_, pss_one (ps_ret (pe_cmpR op_in_seq (pv 0) (pe_tup (pa_cons pe_str (pa_cons pe_str pa_nil))) rfl)), ?_⟩
    refine ⟨_, rfl, by show 2 ≤ sizeLine; decide, fun p hp => ⟨p, _, rfl, .inr (SqT.of upd_same), rfl, rfl, ?_⟩⟩
    have e : inV (.str (ch1 c)) [.str "e", .str "h"] = mayH c := by rw [s_e, s_h, inV_two]; rfl
    show Q (.bl (inV (.str (ch1 c)) [.str "e", .str "h"])) _
    rw [e]
    exact k _ (Same.upd0 hp)
theorem scMayL : FnScope ["sign"] ["sign"] (defScope (top 25)) := ⟨rfl, rfl, rfl, by decide +kernel, rfl, by decide +kernel, by decide +kernel⟩
def spMayL : Sp := fun vs H Q _ => ∃ c, vs = [.str (ch1 c)] ∧ ∀ H', Same H H' → Q (.bl (mayL c)) H'
theorem ok_mayL {f : Addr} {fd : FuncData} (F : Fun K "may_be_light" "may_be_light" (top 25) f fd) : FnOk P w K mg base CX0 1 f fd ["sign"] spMayL := by
  refine F.ok scMayL (fun vs H Q E h => ?_) (fun cdv A outer s H vs Q E hr h => ?_)
  · obtain ⟨i, rfl, _⟩ := h; rfl
  · obtain ⟨c, rfl, k⟩ := h
    refine ⟨_, pss_one (ps_ret (pe_cmpR op_in_seq (pv 0) (pe_tup (pa_cons pe_str (pa_cons pe_str pa_nil))) rfl)), ?_⟩
    refine ⟨_, rfl, by show 2 ≤ sizeLine; decide, fun p hp => ⟨p, _, rfl, .inr (SqT.of upd_same), rfl, rfl, ?_⟩⟩
    have e : inV (.str (ch1 c)) [.str "e", .str "l"] = mayL c := by rw [s_e, s_l, inV_two]; rfl
    show Q (.bl (inV (.str (ch1 c)) [.str "e", .str "l"])) _
    rw [e]
    exact k _ (Same.upd0 hp)
def allG (z : Str) : Bool := !decide (104 ∈ z.cps.toList) && !decide (108 ∈ z.cps.toList)
theorem occ1 (c : Nat) (z : Str) : (!(!(Builtin.Str.occurrences z (ch1 c) 0 z.length 1).isEmpty)) = !decide (c ∈ z.cps.toList) := by
  rw [PySem.StrLaws.found_one]
theorem scAllG : FnScope ["marks"] ["marks"] (defScope (top 26)) := ⟨rfl, rfl, rfl, by decide +kernel, rfl, by decide +kernel, by decide +kernel⟩
def spAllG : Sp := fun vs H Q _ => ∃ z, vs = [.str z] ∧ Q (.bl (allG z)) H
theorem ok_allG {f : Addr} {fd : FuncData} (F : Fun K "may_all_be_good" "may_all_be_good" (top 26) f fd) : FnOk P w K mg base CX0 1 f fd ["marks"] spAllG := by
  refine F.ok scAllG (fun vs H Q E h => ?_) (fun cdv A outer s H vs Q E hr h => ?_)
  · obtain ⟨i, rfl, _⟩ := h; rfl
  · obtain ⟨z, rfl, k⟩ := h
    refine ⟨_, pss_one (ps_ret (pe_and (pe_cmpR op_notin_str pe_str (pv 0) rfl) (pe_one (pe_cmpR op_notin_str pe_str (pv 0) rfl)))), ?_⟩
    refine ⟨_, rfl, _, _, rfl, rfl, _, rfl, ?_⟩
    rw [s_h, occ1]
    have fin : ∀ b, b = (!decide (104 ∈ z.cps.toList)) → if b = true then tOp (fun x y H Q => ∃ i j, x = V.str i ∧ y = V.str j ∧ Q (.bl (!(!(Builtin.Str.occurrences j i 0 j.length 1).isEmpty))) H) (tC (.str "l")) (tVar 0) (start ["marks"] [V.str z]) H Q else Q (.bl false) H := by
      intro b hb
      by_cases hx : 104 ∈ z.cps.toList
      · refine fls (by rw [hb]; simp [hx]) ?_
        have e : allG z = false := by unfold allG; simp [hx]
        rw [← e]; exact k
      · refine tru (by rw [hb]; simp [hx]) ?_
        refine ⟨_, rfl, _, _, rfl, rfl, ?_⟩
        rw [s_l, occ1]
        have e : allG z = !decide (108 ∈ z.cps.toList) := by unfold allG; simp [hx]
        rw [← e]; exact k
    exact fin _ rfl
end
end Ks
end
section
namespace Ks
open PySem L2 Mir
theorem dec_p3 (a b : P3) : decide (V.str (p3 a) = V.str (p3 b)) = decide (a = b) := by
  by_cases h : a = b
  · subst h; simp
  · have h' : ¬ V.str (p3 a) = V.str (p3 b) := fun z => h (p3_inj.mp (V.str.inj z))
    rw [decide_eq_false h, decide_eq_false h']
theorem dec_ch (a b : Nat) : decide (V.str (ch1 a) = V.str (ch1 b)) = decide (a = b) := by
  by_cases h : a = b
  · subst h; simp
  · have h' : ¬ V.str (ch1 a) = V.str (ch1 b) := fun z => h (ch1_inj.mp (V.str.inj z))
    rw [decide_eq_false h, decide_eq_false h']
def Oth (K : PySem.W.Frag) (w : World) (mg : Str → Option Value) : Prop :=
  ∃ (d : Addr) (es : Array DictEntry) (n : Nat), mg "OTHER" = some (.ref d) ∧ K.lookup d = some ⟨.type "dict", none, .dict es n, #[]⟩ ∧ PySem.W.KeysLit w.params es.toList ∧ ∀ p : P3, ∃ u, PySem.W.nsIn K d (p3 p) = some (some u) ∧ RelV (.str (p3 (other p))) u
def Outs (K : PySem.W.Frag) (mg : Str → Option Value) : Prop := ∃ (d : Addr) (o : Obj) (its : Array Value) (n : Nat), mg "OUTCOMES" = some (.ref d) ∧ K.lookup d = some o ∧ o.cls = .type "tuple" ∧ o.dict = none ∧ o.data = .seq its n ∧ Vals [.str "left", .str "right", .str "even"] its.toList
section
variable {P : Program} {w : World} {K : PySem.W.Frag} {mg : Str → Option Value} {base : Heap}
def spOut : Sp := fun vs H Q _ => ∃ (p : P3) (hv : Bool), vs = [.str (p3 p), .bl hv] ∧ Q (.str (p3 (if hv then p else other p))) H
theorem scOut : FnScope ["place", "heavy"] ["place", "heavy"] (defScope (top 23)) := ⟨rfl, rfl, rfl, by decide +kernel, rfl, by decide +kernel, by decide +kernel⟩
theorem ok_out {f : Addr} {fd : FuncData} (F : Fun K "outcome_by" "outcome_by" (top 23) f fd) (O : Oth K w mg) : FnOk P w K mg base CX0 1 f fd ["place", "heavy"] spOut := by
  refine F.ok scOut (fun vs H Q E h => ?_) (fun cdv A outer s H vs Q E hr h => ?_)
  · obtain ⟨i, b, rfl, _⟩ := h; rfl
  · obtain ⟨p, hv, rfl, k⟩ := h
    obtain ⟨d, es, n, m1, m2, m3, m4⟩ := O
    obtain ⟨u, u1, u2⟩ := m4 p
    refine ⟨_, pss_one (ps_ret (pe_ifExp (pt_val (pv 1)) (pv 0) (pe_ix ix_kd (pe_glob (v := .ref d) (by rfl) m1 rfl) (pv 0) (fun _ _ => rfl)))), ?_⟩
    refine ⟨_, rfl, _, rfl, ?_⟩
    cases hv with
    | true => exact iteT ⟨_, rfl, k⟩
    | false => exact iteF ⟨_, rfl, d, es, n, _, _, u, rfl, rfl, m2, m3, u1, u2, k⟩
def spSB : Sp := fun vs H Q _ => ∃ (c : Nat) (p o : P3), vs = [.str (ch1 c), .str (p3 p), .str (p3 o)] ∧ ∀ H', Same H H' → Q (.str (ch1 (sb c p o))) H'
theorem scSB : FnScope ["sign", "place", "outcome", "heavy", "light"] ["sign", "place", "outcome"] (defScope (top 27)) := ⟨rfl, rfl, rfl, by decide +kernel, rfl, by decide +kernel, by decide +kernel⟩
theorem ok_sb {f : Addr} {fd : FuncData} (F : Fun K "sign_behind" "sign_behind" (top 27) f fd) (cH : Can P w K mg base CX0 1 "may_be_heavy" ["sign"] spMayH) (cL : Can P w K mg base CX0 1 "may_be_light" ["sign"] spMayL)
    (cO : Can P w K mg base CX0 1 "outcome_by" ["place", "heavy"] spOut) : FnOk P w K mg base CX0 2 f fd ["sign", "place", "outcome"] spSB := by
  refine F.ok scSB (fun vs H Q E h => ?_) (fun cdv A outer s H vs Q E hr h => ?_)
  · obtain ⟨c, p, o, rfl, _⟩ := h; rfl
  · obtain ⟨c, p, o, rfl, k⟩ := h
    refine ⟨_, pss_cons (ps_set (i := 3) scSB.nd rfl (Or.inl rfl) (pe_and (pe_can cH hr pass0 (pa_cons (pv 0) pa_nil)) (pe_one (pe_cmpR op_eq (pe_can cO hr pass0 (pa_cons (pv 1) (pa_cons pe_bl pa_nil))) (pv 2) (nomark _)))))
      (pss_cons (ps_set (i := 4) scSB.nd rfl (Or.inl rfl) (pe_and (pe_can cL hr pass0 (pa_cons (pv 0) pa_nil)) (pe_one (pe_cmpR op_eq (pe_can cO hr pass0 (pa_cons (pv 1) (pa_cons pe_bl pa_nil))) (pv 2) (nomark _)))))
      (pss_cons (ps_if (PW.pt (pw_and (pt_val (pv 3)) (pw_and1 (pt_val (pv 4))))) (pss_one (ps_ret pe_str)) pss_nil)
      (pss_cons (ps_if (pt_val (pv 3)) (pss_one (ps_ret pe_str)) pss_nil)
      (pss_cons (ps_if (pt_val (pv 4)) (pss_one (ps_ret pe_str)) pss_nil)
      (pss_one (ps_ret pe_str)))))), ?_⟩
    have fin : ∀ (hv lv : Bool) (H2 : Hp), Same H H2 → hv = (mayH c && decide (p = o)) → lv = (mayL c && decide (other p = o)) →
        tSeq (tIfS (tAnd (tB (tVar 3)) (tB (tVar 4))) (tRet (tC (.str "e"))) tNext) (tSeq (tIfS (tB (tVar 3)) (tRet (tC (.str "h"))) tNext) (tSeq (tIfS (tB (tVar 4)) (tRet (tC (.str "l"))) tNext) (tRet (tC (.str "g"))))) { nx := fun _ H' => Q .non H', rt := Q }
          [some (.str (ch1 c)), some (.str (p3 p)), some (.str (p3 o)), some (.bl hv), some (.bl lv)] H2 := by
      intro hv lv H2 s2 e1 e2
      have q := k H2 s2
      unfold sb at q
      rw [← e1, ← e2] at q
      cases hv with
      | true =>
        refine ⟨_, rfl, _, rfl, iteT ⟨_, rfl, _, rfl, ?_⟩⟩
        cases lv with
        | true => refine iteT ?_; show Q (.str "e") H2; rw [s_e]; simpa using q
        | false =>
          refine iteF ⟨_, rfl, _, rfl, iteT ?_⟩
          show Q (.str "h") H2; rw [s_h]; simpa using q
      | false =>
        refine ⟨_, rfl, _, rfl, iteF (iteF ⟨_, rfl, _, rfl, iteF ⟨_, rfl, _, rfl, ?_⟩⟩)⟩
        cases lv with
        | true => refine iteT ?_; show Q (.str "l") H2; rw [s_l]; simpa using q
        | false => refine iteF ?_; show Q (.str "g") H2; rw [s_g]; simpa using q
    have lgt : ∀ (hv : Bool) (H1 : Hp), Same H H1 → hv = (mayH c && decide (p = o)) →
        tSeq (tAsg (tAndV (tCall spMayL [] E0 (tCons (tVar 0) tNil)) (tOp rEq (tCall spOut [] E0 (tCons (tVar 1) (tCons (tC (.bl false)) tNil))) (tVar 2))) (gName 4)) (tSeq (tIfS (tAnd (tB (tVar 3)) (tB (tVar 4))) (tRet (tC (.str "e"))) tNext) (tSeq (tIfS (tB (tVar 3)) (tRet (tC (.str "h"))) tNext) (tSeq (tIfS (tB (tVar 4)) (tRet (tC (.str "l"))) tNext) (tRet (tC (.str "g")))))) { nx := fun _ H' => Q .non H', rt := Q }
          [some (.str (ch1 c)), some (.str (p3 p)), some (.str (p3 o)), some (.bl hv), none] H1 := by
      intro hv H1 s1 e1
      refine ⟨_, rfl, c, rfl, fun H2 s2 => ⟨_, rfl, ?_⟩⟩
      cases e2 : mayL c with
      | true =>
        refine iteT ⟨_, rfl, p, false, rfl, _, rfl, rfl, ?_⟩
        refine fin hv _ H2 (s1.trans s2) e1 ?_
        rw [e2]; show decide (V.str (p3 (other p)) = V.str (p3 o)) = _; rw [dec_p3]; simp
      | false =>
        refine iteF ?_
        exact fin hv false H2 (s1.trans s2) e1 (by rw [e2]; rfl)
    refine ⟨_, rfl, c, rfl, fun H1 s1 => ⟨_, rfl, ?_⟩⟩
    cases e2 : mayH c with
    | true =>
      refine iteT ⟨_, rfl, p, true, rfl, _, rfl, rfl, ?_⟩
      refine lgt _ H1 s1 ?_
      rw [e2]; show decide (V.str (p3 p) = V.str (p3 o)) = _; rw [dec_p3]; simp
    | false =>
      refine iteF ?_
      exact lgt false H1 s1 (by rw [e2]; rfl)
end
end Ks
end
section
namespace Ks
open PySem L2 Mir
structure MkOk (z : Str) : Prop where
  sg : ∀ c ∈ z.cps.toList, Sign c
  ex : 101 ∈ z.cps.toList → 104 ∉ z.cps.toList ∧ 108 ∉ z.cps.toList
  len : z.length ≤ 100
theorem signs_count : ∀ {l : List Nat}, (∀ c ∈ l, Sign c) → l.count 101 + (l.count 104 + l.count 108) + l.count 103 = l.length
  | [], _ => rfl
  | c :: l, h => by
    have ih := signs_count fun d hd => h d (List.mem_cons_of_mem _ hd)
    have e : ∀ d, (c :: l).count d = l.count d + [c].count d := fun d => by rw [List.count_cons, List.count_cons, List.count_nil]; omega
    rw [e, e, e, e, List.length_cons]
    have q : [c].count 101 + ([c].count 104 + [c].count 108) + [c].count 103 = 1 := by
      rcases h c List.mem_cons_self with rfl | rfl | rfl | rfl <;> rfl
    omega
theorem str_len (z : Str) : z.length = z.cps.toList.length := by rw [Array.length_toList]; rfl
section
variable {P : Program} {w : World} {K : PySem.W.Frag} {mg : Str → Option Value} {base : Heap}
def spCM : Sp := fun vs H Q _ => ∃ z, vs = [.str z] ∧ MkOk z ∧ Q .non H
theorem scCM : FnScope ["marks", "either", "one_way"] ["marks"] (defScope (top 11)) := ⟨rfl, rfl, rfl, by decide +kernel, rfl, by decide +kernel, by decide +kernel⟩
theorem ok_cm {f : Addr} {fd : FuncData} (F : Fun K "check_marks" "check_marks" (top 11) f fd) (B : Blt mg) (T : Kit K) : FnOk P w K mg base CX0 1 f fd ["marks"] spCM := by
  refine F.ok scCM (fun vs H Q E h => ?_) (fun cdv A outer s H vs Q E hr h => ?_)
  · obtain ⟨z, rfl, _⟩ := h; rfl
  · obtain ⟨z, rfl, M, k⟩ := h
    refine ⟨_, pss_cons (ps_if (pt_not (pt_val (pe_callB call_isi (by rfl) B.isi boot_isi (pa_cons (pv 0) (pa_cons (pe_bltn (v := .ty "str") (by rfl) B.str boot_strT rfl) pa_nil))))) pss_never pss_nil)
      (pss_cons (ps_set (i := 1) scCM.nd rfl (Or.inl rfl) (pe_bm PySem.F.plainAttrs_str PySem.F.slot_str_count PySem.F.type_str_count mt_count (pv 0) (pa_cons pe_str pa_nil)))
      (pss_cons (ps_set (i := 2) scCM.nd rfl (Or.inl rfl) (pe_op op_add (pe_bm PySem.F.plainAttrs_str PySem.F.slot_str_count PySem.F.type_str_count mt_count (pv 0) (pa_cons pe_str pa_nil)) (pe_bm PySem.F.plainAttrs_str PySem.F.slot_str_count PySem.F.type_str_count mt_count (pv 0) (pa_cons pe_str pa_nil))))
      (pss_cons (ps_if (pt_cmpR op_ne (pe_op op_add (pe_op op_add (pv 1) (pv 2)) (pe_bm PySem.F.plainAttrs_str PySem.F.slot_str_count PySem.F.type_str_count mt_count (pv 0) (pa_cons pe_str pa_nil))) (pe_callB call_len_str (by rfl) B.len boot_lenB (pa_cons (pv 0) pa_nil)) (nomark _)) pss_never pss_nil)
      (pss_one (ps_if (PW.pt (pw_and (pt_cmpR op_gt (pv 1) pe_int (nomark _)) (pw_and1 (pt_cmpR op_gt (pv 2) pe_int (nomark _))))) pss_never pss_nil))))), ?_⟩
    refine ⟨_, rfl, _, _, _, _, rfl, .str z, T.ss, _, rfl, iteF ?_⟩
    refine ⟨_, rfl, rfl, z, 101, rfl, by rw [s_e], ?_⟩
    refine ⟨_, rfl, rfl, z, 104, rfl, by rw [s_h], _, rfl, rfl, z, 108, rfl, by rw [s_l], _, _, rfl, rfl, ?_⟩
    have hz : z.length ≤ sizeLine := Nat.le_trans M.len (by decide)
    refine ⟨_, rfl, _, rfl, _, _, rfl, rfl, _, rfl, rfl, z, 103, rfl, by rw [s_g], _, _, rfl, rfl, _, rfl, z, rfl, hz, rfl, _, rfl, ?_⟩
    have hc := signs_count M.sg
    refine iteNS (by
      show V.int _ = V.int _
      refine congrArg V.int ?_
      rw [str_len]; unfold cntS; omega) ?_
    refine ⟨_, rfl, _, _, rfl, rfl, _, rfl, ?_⟩
    by_cases h1 : (0 : Int) < (cntS 101 z : Int)
    · refine tru (decide_eq_true h1) ⟨_, rfl, _, _, rfl, rfl, _, rfl, ?_⟩
      have hm : 101 ∈ z.cps.toList := List.count_pos_iff.mp (by unfold cntS at h1; omega)
      obtain ⟨q1, q2⟩ := M.ex hm
      have z1 : cntS 104 z = 0 := List.count_eq_zero_of_not_mem q1
      have z2 : cntS 108 z = 0 := List.count_eq_zero_of_not_mem q2
      refine fls (by rw [z1, z2]; rfl) ?_
      exact k
    · refine fls (decide_eq_false h1) (fls rfl ?_)
      exact k
def spSide : Sp := fun vs H Q _ => ∃ (n : Int) (a : Addr) (ks : List Int), vs = [.int n, .ref a] ∧ H a = some (.lst (ks.map V.int)) ∧ ks.Pairwise (· < ·) ∧ (∀ k ∈ ks, 0 ≤ k ∧ k ≤ n) ∧ Q .non H
theorem scSide : FnScope ["highest", "side", "last", "coin"] ["highest", "side"] (defScope (top 12)) := ⟨rfl, rfl, rfl, by decide +kernel, rfl, by decide +kernel, by decide +kernel⟩
theorem ints_at {ks : List Int} {i : Nat} {y : V} (h : (ks.map V.int)[i]? = some y) : ∃ z, ks[i]? = some z ∧ y = .int z := by
  rw [List.getElem?_map] at h
  cases e : ks[i]? with
  | none => rw [e] at h; cases h
  | some z => rw [e] at h; exact ⟨z, rfl, (Option.some.inj h).symm⟩
theorem ok_side {f : Addr} {fd : FuncData} (F : Fun K "check_side" "check_side" (top 12) f fd) (B : Blt mg) (T : Kit K) (cW : Can P w K mg base CX0 1 "is_whole" ["value"] spWhole) : FnOk P w K mg base CX0 2 f fd ["highest", "side"] spSide := by
  refine F.ok scSide (fun vs H Q E h => ?_) (fun cdv A outer s H vs Q E hr h => ?_)
  · obtain ⟨n, a, ks, rfl, _⟩ := h; rfl
  · obtain ⟨n, a, ks, rfl, ha, hris, hin, k⟩ := h
    refine ⟨_, pss_cons (ps_if (pt_not (pt_val (pe_callB call_isi (by rfl) B.isi boot_isi (pa_cons (pv 1) (pa_cons (pe_bltn (v := .ty "list") (by rfl) B.list boot_listT rfl) pa_nil))))) pss_never pss_nil)
      (pss_cons (ps_set (i := 2) scSide.nd rfl (Or.inl rfl) (pe_un un_neg pe_int))
      (pss_one (ps_for PassesOwn.never rfl (pi_list (pv 1)) (pg_name (i := 3) scSide.nd rfl (Or.inl rfl))
        (pss_cons (ps_if (pt_not (pt_val (pe_can cW hr pass0 (pa_cons (pv 3) pa_nil)))) pss_never pss_nil)
        (pss_cons (ps_if (pt_cmpR op_le (pv 3) (pv 2) (nomark _)) pss_never pss_nil)
        (pss_cons (ps_if (pt_cmpR op_gt (pv 3) (pv 0) (nomark _)) pss_never pss_nil)
        (pss_one (ps_set (i := 2) scSide.nd rfl (Or.inl rfl) (pv 3))))))))), ?_⟩
    refine ⟨_, rfl, _, _, _, _, rfl, .lst ha, T.ll, _, rfl, iteF ?_⟩
    refine ⟨_, rfl, ?_⟩
    refine ⟨_, rfl, a, rfl, ⟨_, SqL.of ha⟩, for_list (K := K) (a := a) (xs := ks.map V.int) (fun i σ H2 => H2 = H ∧ ∃ (last : Int) (v : Option V), σ = [some (.int n), some (.ref a), some (.int last), v] ∧ last = (if i = 0 then -1 else ks.getD (i - 1) 0))
      ⟨rfl, _, _, rfl, rfl⟩ (fun i σ H2 _ ⟨e, _⟩ => by rw [e]; exact SqL.of ha) ?_ ?_⟩
    · rintro i y σ H2 hi ⟨rfl, last, v, rfl, hl⟩
      obtain ⟨z, hz, rfl⟩ := ints_at hi
      have hil : i < ks.length := (List.getElem?_eq_some_iff.mp hz).1
      have hzv : ks[i] = z := by rw [List.getElem?_eq_getElem hil] at hz; exact Option.some.inj hz
      obtain ⟨h0, hn⟩ := hin z (hzv ▸ List.getElem_mem hil)
      have hlt : last < z := by
        rw [hl]
        split
        · omega
        · rename_i hne
          have hp : i - 1 < ks.length := by omega
          have e : ks.getD (i - 1) 0 = ks[i - 1] := by simp [List.getD, hp]
          rw [e, ← hzv]
          exact List.pairwise_iff_getElem.mp hris (i - 1) i hp hil (by omega)
      refine ⟨_, rfl, z, rfl, _, rfl, iteF ?_⟩
      refine ⟨_, rfl, _, rfl, _, _, rfl, rfl, _, rfl, fls (decide_eq_false (by omega)) ?_⟩
      refine ⟨_, rfl, _, rfl, _, _, rfl, rfl, _, rfl, fls (decide_eq_false (by omega)) ?_⟩
      refine ⟨_, rfl, rfl, z, _, rfl, ?_⟩
      simp [hz]
    · rintro σ H2 ⟨rfl, last, v, rfl, hl⟩
      exact k
def spCW : Sp := fun vs H Q _ => ∃ (n : Int) (a b : Addr) (l r : List Int), vs = [.int n, .ref a, .ref b] ∧ H a = some (.lst (l.map V.int)) ∧ H b = some (.lst (r.map V.int)) ∧ Wg n l r ∧ l.length ≤ 100 ∧ ∀ H', Same H H' → Q .non H'
theorem scCW : FnScope ["highest", "left", "right"] ["highest", "left", "right"] (defScope (top 13)) := ⟨rfl, rfl, rfl, by decide +kernel, rfl, by decide +kernel, by decide +kernel⟩
theorem ok_cw {f : Addr} {fd : FuncData} (F : Fun K "check_weighing" "check_weighing" (top 13) f fd) (B : Blt mg) (cS : Can P w K mg base CX0 2 "check_side" ["highest", "side"] spSide) : FnOk P w K mg base CX0 3 f fd ["highest", "left", "right"] spCW := by
  refine F.ok scCW (fun vs H Q E h => ?_) (fun cdv A outer s H vs Q E hr h => ?_)
  · obtain ⟨n, a, b, l, r, rfl, _⟩ := h; rfl
  · obtain ⟨n, a, b, l, r, rfl, ha, hb, W, hlen, k⟩ := h
    refine ⟨_, pss_cons (ps_expr (pe_can cS hr pass0 (pa_cons (pv 0) (pa_cons (pv 1) pa_nil))))
      (pss_cons (ps_expr (pe_can cS hr pass0 (pa_cons (pv 0) (pa_cons (pv 2) pa_nil))))
      (pss_cons (ps_if (pt_cmpR op_ne (pe_callB call_len_seq (by rfl) B.len boot_lenB (pa_cons (pv 1) pa_nil)) (pe_callB call_len_seq (by rfl) B.len boot_lenB (pa_cons (pv 2) pa_nil)) (nomark _)) pss_never pss_nil)
      (pss_one (ps_if (pt_cmpR op_gt (pe_callB call_lenS (by rfl) B.len boot_lenB (pa_cons (pe_op op_andS (pe_callTy (call_setL rfl) (by rfl) B.set boot_setT (pa_cons (pv 1) pa_nil)) (pe_callTy (call_setL rfl) (by rfl) B.set boot_setT (pa_cons (pv 2) pa_nil))) pa_nil)) pe_int (nomark _)) pss_never pss_nil)))), ?_⟩
    refine ⟨_, rfl, _, rfl, n, a, l, rfl, ha, W.risL, W.inL, ?_⟩
    refine ⟨_, rfl, _, rfl, n, b, r, rfl, hb, W.risR, W.inR, ?_⟩
    refine ⟨_, rfl, a, _, rfl, .inl (SqL.of ha), _, rfl, b, _, rfl, .inl (SqL.of hb), rfl, _, rfl, ?_⟩
    refine iteNS (by
      show V.int _ = V.int _
      rw [List.length_map, List.length_map, W.len]) ?_
    refine ⟨_, rfl, a, l, rfl, SqL.of ha, by omega, fun p1 m1 hp1 e1 n1 => ?_⟩
    have hb1 : upd H p1 (SetO w p1 m1) b = some (.lst (r.map V.int)) := by rw [upd_ne (ne_of_none hb hp1)]; exact hb
    refine ⟨_, rfl, b, r, rfl, SqL.of hb1, by rw [← W.len]; omega, fun p2 m2 hp2 e2 n2 => ?_⟩
    have h12 : p2 ≠ p1 := fun z => by rw [z, upd_same] at hp2; cases hp2
    have q1 : upd (upd H p1 (SetO w p1 m1)) p2 (SetO w p2 m2) p1 = some (SetO w p1 m1) := by rw [upd_ne (Ne.symm h12), upd_same]
    refine ⟨p1, p2, m1, m2, rfl, rfl, h12, q1, upd_same, fun p3' ks hp3 e3 => ?_⟩
    refine ⟨p3', ks, rfl, upd_same, _, _, rfl, rfl, _, rfl, ?_⟩
    have hk : ks = [] := by
      cases ks with
      | nil => rfl
      | cons y t =>
        have := (e3 y).mp List.mem_cons_self
        exact absurd ((e2 y).mp this.2) (W.dis y ((e1 y).mp this.1))
    subst hk
    refine iteF ?_
    have s1 : Same H (upd H p1 (SetO w p1 m1)) := Same.upd0 hp1
    exact k _ ((s1.upd hp2).upd hp3)
def spCO : Sp := fun vs H Q _ => ∃ o : P3, vs = [.str (p3 o)] ∧ Q .non H
theorem scCO : FnScope ["outcome"] ["outcome"] (defScope (top 14)) := ⟨rfl, rfl, rfl, by decide +kernel, rfl, by decide +kernel, by decide +kernel⟩
theorem inV_p3 (o : P3) : inV (.str (p3 o)) [.str "left", .str "right", .str "even"] = true := by cases o <;> decide +kernel
theorem outs_sq {H : Hp} {d : Addr} {o : Obj} {its : Array Value} {n : Nat} (h1 : K.lookup d = some o) (h2 : o.cls = .type "tuple") (h3 : o.data = .seq its n) (h4 : Vals [.str "left", .str "right", .str "even"] its.toList) : SqT K H d [.str "left", .str "right", .str "even"] :=
  .inr ⟨o, its, n, h1, h2, h3, by have := h4.length; simp at this; rw [← this]; decide, h4⟩
theorem ok_co {f : Addr} {fd : FuncData} (F : Fun K "check_outcome" "check_outcome" (top 14) f fd) (B : Blt mg) (T : Kit K) (O : Outs K mg) : FnOk P w K mg base CX0 1 f fd ["outcome"] spCO := by
  refine F.ok scCO (fun vs H Q E h => ?_) (fun cdv A outer s H vs Q E hr h => ?_)
  · obtain ⟨o, rfl, _⟩ := h; rfl
  · obtain ⟨o, rfl, k⟩ := h
    obtain ⟨d, ob, its, n, m1, m2, m3, m4, m5, m6⟩ := O
    refine ⟨_, pss_one (ps_if (PW.pt (pw_or (pt_not (pt_val (pe_callB call_isi (by rfl) B.isi boot_isi (pa_cons (pv 0) (pa_cons (pe_bltn (v := .ty "str") (by rfl) B.str boot_strT rfl) pa_nil)))))
      (pw_or1 (pt_cmpR op_notIn_seq (pv 0) (pe_glob (v := .ref d) (by rfl) m1 rfl) rfl)))) pss_never pss_nil), ?_⟩
    refine ⟨_, rfl, _, _, _, _, rfl, .str _, T.ss, _, rfl, iteF ?_⟩
    refine ⟨_, rfl, d, _, rfl, .inr (outs_sq m2 m3 m5 m6), rfl, rfl, _, rfl, ?_⟩
    rw [inV_p3]
    exact iteF k
def spOdd : Sp := fun vs H Q _ => ∃ (n k : Int) (b : Bool), vs = [.int n, .int k, .bl b] ∧ 0 ≤ n ∧ -1 ≤ k ∧ k < n ∧ Q .non H
theorem scOdd : FnScope ["coins", "odd", "heavy"] ["coins", "odd", "heavy"] (defScope (top 15)) := ⟨rfl, rfl, rfl, by decide +kernel, rfl, by decide +kernel, by decide +kernel⟩
theorem ok_odd {f : Addr} {fd : FuncData} (F : Fun K "check_odd" "check_odd" (top 15) f fd) (B : Blt mg) (T : Kit K) (cW : Can P w K mg base CX0 1 "is_whole" ["value"] spWhole) : FnOk P w K mg base CX0 2 f fd ["coins", "odd", "heavy"] spOdd := by
  refine F.ok scOdd (fun vs H Q E h => ?_) (fun cdv A outer s H vs Q E hr h => ?_)
  · obtain ⟨n, k, b, rfl, _⟩ := h; rfl
  · obtain ⟨n, k, b, rfl, h0, h1, h2, q⟩ := h
    refine ⟨_, pss_cons (ps_if (PW.pt (pw_or (pt_not (pt_val (pe_can cW hr pass0 (pa_cons (pv 0) pa_nil)))) (pw_or1 (pt_cmpR op_lt (pv 0) pe_int (nomark _))))) pss_never pss_nil)
      (pss_cons (ps_if (PW.pt (pw_or (pt_not (pt_val (pe_can cW hr pass0 (pa_cons (pv 1) pa_nil)))) (pw_or (pt_cmpR op_lt (pv 1) (pe_un un_neg pe_int) (nomark _)) (pw_or1 (pt_cmpR op_ge (pv 1) (pv 0) (nomark _)))))) pss_never pss_nil)
      (pss_one (ps_if (pt_not (pt_val (pe_callB call_isi (by rfl) B.isi boot_isi (pa_cons (pv 2) (pa_cons (pe_bltn (v := .ty "bool") (by rfl) B.bool boot_boolT rfl) pa_nil))))) pss_never pss_nil))), ?_⟩
    refine ⟨_, rfl, n, rfl, _, rfl, iteF ⟨_, rfl, _, _, rfl, rfl, _, rfl, fls (decide_eq_false (by omega)) ?_⟩⟩
    refine ⟨_, rfl, k, rfl, _, rfl, iteF ⟨_, rfl, _, rfl, _, _, rfl, rfl, _, rfl, fls (decide_eq_false (by omega)) ⟨_, rfl, _, rfl, _, _, rfl, rfl, _, rfl, fls (decide_eq_false (by omega)) ?_⟩⟩⟩
    exact ⟨_, rfl, _, _, _, _, rfl, .bl b, T.bb, _, rfl, iteF q⟩
def spPl : Sp := fun vs H Q _ => ∃ (a b : Addr) (l r : List Int), vs = [.ref a, .ref b] ∧ H a = some (.lst (l.map V.int)) ∧ H b = some (.lst (r.map V.int)) ∧ l.length ≤ 100 ∧ r.length ≤ 100 ∧
  ∀ (p : Addr) (kvs : List (Key × V)) (H' : Hp), H p = none → Same H H' → H' p = some (.dK kvs) → (∀ k : Int, ((valV kvs (Sum.inl k : Key)).getD (.str "even")) = .str (p3 (pl l r k))) → Q (.ref p) H'
theorem scPl : FnScope ["left", "right", "places", "coin"] ["left", "right"] (defScope (top 22)) := ⟨rfl, rfl, rfl, by decide +kernel, rfl, by decide +kernel, by decide +kernel⟩
theorem ok_pl {f : Addr} {fd : FuncData} (F : Fun K "placed" "placed" (top 22) f fd) : FnOk P w K mg base CX0 1 f fd ["left", "right"] spPl := by
  refine F.ok scPl (fun vs H Q E h => ?_) (fun cdv A outer s H vs Q E hr h => ?_)
  · obtain ⟨a, b, l, r, rfl, _⟩ := h; rfl
  · obtain ⟨a, b, l, r, rfl, ha, hb, hl, hrr, k⟩ := h
    have hu := hu_of hr
    refine ⟨_, pss_cons (ps_set (i := 2) scPl.nd rfl (Or.inl rfl) pe_dnewK)
      (pss_cons (ps_for PassesOwn.never rfl (pi_list (pv 0)) (pg_name (i := 3) scPl.nd rfl (Or.inl rfl)) (pss_one (ps_dput hu (pv 2) (pv 3) pe_str rfl)))
      (pss_cons (ps_for PassesOwn.never rfl (pi_list (pv 1)) (pg_name (i := 3) scPl.nd rfl (Or.inl rfl)) (pss_one (ps_dput hu (pv 2) (pv 3) pe_str rfl)))
      (pss_one (ps_ret (pv 2))))), ?_⟩
    intro p hp
    have na : a ≠ p := ne_of_none ha hp
    have nb : b ≠ p := ne_of_none hb hp
    refine ⟨_, rfl, a, rfl, ⟨_, SqL.of (by rw [upd_ne na]; exact ha)⟩, for_list (K := K) (a := a) (xs := l.map V.int) (fun i σ H2 => ∃ (kvs : List (Key × V)) (v : Option V), σ = [some (.ref a), some (.ref b), some (.ref p), v] ∧ H2 = upd H p (.dK kvs) ∧ kvs.length ≤ i ∧ ∀ k : Int, valV kvs (Sum.inl k : Key) = if k ∈ l.take i then some (.str "left") else none)
      ⟨[], none, rfl, rfl, Nat.le_refl _, fun k => by simp [valV_nil]⟩ (fun i σ H2 _ ⟨kvs, v, _, e, _⟩ => by rw [e]; exact SqL.of (by rw [upd_ne na]; exact ha)) ?_ ?_⟩
    · rintro i y σ H2 hi ⟨kvs, v, rfl, rfl, hk, hv⟩
      obtain ⟨z, hz, rfl⟩ := ints_at hi
      have hil : i < l.length := (List.getElem?_eq_some_iff.mp hz).1
      refine ⟨_, rfl, _, rfl, p, _, rfl, DPut.k (k := Sum.inl z) upd_same (small1000 (by omega)), ?_⟩
      refine ⟨_, _, rfl, by rw [upd_upd], Nat.le_trans (length_putK _ _ _) (by omega), fun k => ?_⟩
      rw [valV_put, hv k]
      have ht : l.take (i + 1) = l.take i ++ [z] := by rw [List.take_succ, hz]; rfl
      rw [ht]
      by_cases e : k = z
      · subst e; simp
      · have e' : ¬ (Sum.inl k : Key) = Sum.inl z := fun q => e (Sum.inl.inj q)
        rw [if_neg e']
        simp [e]
    · rintro σ H2 ⟨kvs0, v0, rfl, rfl, hk0, hv0⟩
      have hvL : ∀ k : Int, valV kvs0 (Sum.inl k : Key) = if k ∈ l then some (.str "left") else none := fun k => by
        have := hv0 k
        rw [List.length_map] at this
        rwa [List.take_length] at this
      rw [List.length_map] at hk0
      refine ⟨_, rfl, b, rfl, ⟨_, SqL.of (by rw [upd_ne nb]; exact hb)⟩, for_list (K := K) (a := b) (xs := r.map V.int) (fun i σ H2 => ∃ (kvs : List (Key × V)) (v : Option V), σ = [some (.ref a), some (.ref b), some (.ref p), v] ∧ H2 = upd H p (.dK kvs) ∧ kvs.length ≤ 100 + i ∧ ∀ k : Int, valV kvs (Sum.inl k : Key) = if k ∈ r.take i then some (.str "right") else if k ∈ l then some (.str "left") else none)
        ⟨kvs0, _, rfl, rfl, by omega, fun k => by rw [hvL]; simp⟩ (fun i σ H2 _ ⟨kvs, v, _, e, _⟩ => by rw [e]; exact SqL.of (by rw [upd_ne nb]; exact hb)) ?_ ?_⟩
      · rintro i y σ H2 hi ⟨kvs, v, rfl, rfl, hk, hv⟩
        obtain ⟨z, hz, rfl⟩ := ints_at hi
        have hil : i < r.length := (List.getElem?_eq_some_iff.mp hz).1
        refine ⟨_, rfl, _, rfl, p, _, rfl, DPut.k (k := Sum.inl z) upd_same (small1000 (by omega)), ?_⟩
        refine ⟨_, _, rfl, by rw [upd_upd], Nat.le_trans (length_putK _ _ _) (by omega), fun k => ?_⟩
        rw [valV_put, hv k]
        have ht : r.take (i + 1) = r.take i ++ [z] := by rw [List.take_succ, hz]; rfl
        rw [ht]
        by_cases e : k = z
        · subst e; simp
        · have e' : ¬ (Sum.inl k : Key) = Sum.inl z := fun q => e (Sum.inl.inj q)
          rw [if_neg e']
          simp [e]
      · rintro σ H2 ⟨kvs, v, rfl, rfl, hk, hv⟩
        refine ⟨_, rfl, k p kvs _ hp (Same.upd0 hp) upd_same fun k' => ?_⟩
        have := hv k'
        rw [List.length_map, List.take_length] at this
        rw [this]
        unfold pl
        by_cases h1 : k' ∈ r
        · simp [h1, p3]
        · by_cases h2 : k' ∈ l
          · simp [h1, h2, p3]
          · simp [h1, h2, p3]
end
end Ks
end
section
namespace L2
theorem Same.put {H H' : Hp} {p : PySem.Addr} {o : HO} (h : Same H H') (hp : H p = none) : Same H (L2.upd H' p o) := fun b u e => by rw [upd_ne (ne_of_none e hp)]; exact h b u e
end L2
namespace Ks
open PySem L2 Mir
def jd (z : Str) (l r : List Int) (o : P3) : Nat := cs1 l r o 0 z.cps.toList + (if o = .E ∧ allG z = true then 1 else 0)
def CSt (H : Hp) (pd cd : Addr) (pk : List (Key × V)) (f : P3 → Nat) (n : Nat) (H4 : Hp) : Prop :=
  Same H H4 ∧ H4 pd = some (.dK pk) ∧ ∃ kvs : List (Key × V), H4 cd = some (.dK kvs) ∧ kvs.length ≤ n ∧ ∀ o : P3, valV kvs (Sum.inr (p3 o) : Key) = some (.int (f o))
theorem CSt.same {H : Hp} {pd cd : Addr} {pk : List (Key × V)} {f : P3 → Nat} {n : Nat} {H4 H5 : Hp} (h : CSt H pd cd pk f n H4) (s : Same H4 H5) : CSt H pd cd pk f n H5 := by
  obtain ⟨s1, e1, kvs, e2, hl, hv⟩ := h
  exact ⟨s1.trans s, s _ _ e1, kvs, s _ _ e2, hl, hv⟩
theorem CSt.put {H : Hp} {pd cd : Addr} {pk : List (Key × V)} {f : P3 → Nat} {n : Nat} {H4 : Hp} {kvs : List (Key × V)} (hc : H cd = none) (ne : pd ≠ cd) (s1 : Same H H4) (e1 : H4 pd = some (.dK pk)) (hl : kvs.length ≤ n) (hv : ∀ o : P3, valV kvs (Sum.inr (p3 o) : Key) = some (.int (f o))) (q : P3) :
    CSt H pd cd pk (fun o => f o + if decide (q = o) then 1 else 0) (n + 1) (upd H4 cd (.dK (putK kvs (Sum.inr (p3 q)) (.int ((f q : Int) + 1))))) := by
  refine ⟨s1.put hc, by rw [upd_ne ne]; exact e1, _, upd_same, Nat.le_trans (length_putK _ _ _) (by omega), fun o => ?_⟩
  rw [valV_put]
  by_cases e : o = q
  · subst e; simp
  · have e' : ¬ (Sum.inr (p3 o) : Key) = Sum.inr (p3 q) := fun z => e (p3_inj.mp (Sum.inr.inj z))
    rw [if_neg e', hv o]
    have e2 : ¬ q = o := fun z => e z.symm
    simp [e2]
section
variable {P : Program} {w : World} {K : PySem.W.Frag} {mg : Str → Option Value} {base : Heap}
def spJd : Sp := fun vs H Q _ => ∃ (z : Str) (a b : Addr) (l r : List Int), vs = [.str z, .ref a, .ref b] ∧ MkOk z ∧ H a = some (.lst (l.map V.int)) ∧ H b = some (.lst (r.map V.int)) ∧ Wg z.length l r ∧ l.length ≤ 100 ∧
  ∀ (H' : Hp) (p : Addr), Same H H' → H p = none → H' p = some (.tup [.int (jd z l r .L), .int (jd z l r .R), .int (jd z l r .E)]) → Q (.ref p) H'
theorem scJd : FnScope ["marks", "left", "right", "places", "counts", "coin", "sign", "place", "outcome"] ["marks", "left", "right"] (defScope (top 28)) := ⟨rfl, rfl, rfl, by decide +kernel, rfl, by decide +kernel, by decide +kernel⟩
theorem p3L : p3 .L = "left" := rfl
theorem p3R : p3 .R = "right" := rfl
theorem p3E : p3 .E = "even" := rfl
theorem ok_jd {f : Addr} {fd : FuncData} (F : Fun K "judged" "judged" (top 28) f fd) (B : Blt mg) (cM : Can P w K mg base CX0 1 "check_marks" ["marks"] spCM) (cW : Can P w K mg base CX0 3 "check_weighing" ["highest", "left", "right"] spCW)
    (cP : Can P w K mg base CX0 1 "placed" ["left", "right"] spPl) (cH : Can P w K mg base CX0 1 "may_be_heavy" ["sign"] spMayH) (cL : Can P w K mg base CX0 1 "may_be_light" ["sign"] spMayL) (cO : Can P w K mg base CX0 1 "outcome_by" ["place", "heavy"] spOut)
    (cG : Can P w K mg base CX0 1 "may_all_be_good" ["marks"] spAllG) : FnOk P w K mg base CX0 4 f fd ["marks", "left", "right"] spJd := by
  refine F.ok scJd (fun vs H Q E h => ?_) (fun cdv A outer s H vs Q E hr h => ?_)
  · obtain ⟨z, a, b, l, r, rfl, _⟩ := h; rfl
  · obtain ⟨z, a, b, l, r, rfl, M, ha, hb, W, hlen, k⟩ := h
    have hu := hu_of hr
    have hr1 : Room 1 _ := hr.mono (by decide)
    refine ⟨_, pss_cons (ps_expr (pe_can cM hr1 pass0 (pa_cons (pv 0) pa_nil)))
      (pss_cons (ps_expr (pe_can cW hr pass0 (pa_cons (pe_callB call_len_str (by rfl) B.len boot_lenB (pa_cons (pv 0) pa_nil)) (pa_cons (pv 1) (pa_cons (pv 2) pa_nil)))))
      (pss_cons (ps_set (i := 3) scJd.nd rfl (Or.inl rfl) (pe_can cP hr1 pass0 (pa_cons (pv 1) (pa_cons (pv 2) pa_nil))))
      (pss_cons (ps_set (i := 4) scJd.nd rfl (Or.inl rfl) (pe_disp (pps_cons pe_str pe_int (pps_cons pe_str pe_int (pps_cons pe_str pe_int pps_nil))) rfl rfl (by simp) (by decide)))
      (pss_cons (ps_for PassesOwn.never rfl (pi_enumS (by rfl) B.enum (pv 0)) (pg_tup rfl (pgs_cons (pg_name (i := 5) scJd.nd rfl (Or.inl rfl)) (pgs_cons (pg_name (i := 6) scJd.nd rfl (Or.inl rfl)) pgs_nil)))
        (pss_cons (ps_set (i := 7) scJd.nd rfl (Or.inl rfl) (pe_dget2 hu (pv 3) (pv 5) pe_str ⟨rfl, rfl, rfl, rfl⟩))
        (pss_cons (ps_if (pt_val (pe_can cH hr1 pass0 (pa_cons (pv 6) pa_nil)))
          (pss_cons (ps_set (i := 8) scJd.nd rfl (Or.inl rfl) (pe_can cO hr1 pass0 (pa_cons (pv 7) (pa_cons pe_bl pa_nil))))
          (pss_one (ps_dput hu (pv 4) (pv 8) (pe_op op_add (pe_dget hu (pv 4) (pv 8) (fun _ _ => rfl)) pe_int) rfl))) pss_nil)
        (pss_one (ps_if (pt_val (pe_can cL hr1 pass0 (pa_cons (pv 6) pa_nil)))
          (pss_cons (ps_set (i := 8) scJd.nd rfl (Or.inl rfl) (pe_can cO hr1 pass0 (pa_cons (pv 7) (pa_cons pe_bl pa_nil))))
          (pss_one (ps_dput hu (pv 4) (pv 8) (pe_op op_add (pe_dget hu (pv 4) (pv 8) (fun _ _ => rfl)) pe_int) rfl))) pss_nil)))))
      (pss_cons (ps_if (pt_val (pe_can cG hr1 pass0 (pa_cons (pv 0) pa_nil))) (pss_one (ps_dput hu (pv 4) pe_str (pe_op op_add (pe_dget hu (pv 4) pe_str (fun _ _ => rfl)) pe_int) rfl)) pss_nil)
      (pss_one (ps_ret (pe_tup (pa_cons (pe_dget hu (pv 4) pe_str (fun _ _ => rfl)) (pa_cons (pe_dget hu (pv 4) pe_str (fun _ _ => rfl)) (pa_cons (pe_dget hu (pv 4) pe_str (fun _ _ => rfl)) pa_nil))))))))))), ?_⟩
    have hz : z.length ≤ sizeLine := Nat.le_trans M.len (by decide)
    refine ⟨_, rfl, z, rfl, M, ?_⟩
    refine ⟨_, rfl, z, rfl, hz, _, rfl, _, rfl, z.length, a, b, l, r, rfl, ha, hb, W, hlen, fun H1 s1 => ?_⟩
    refine ⟨_, rfl, _, rfl, a, b, l, r, rfl, s1 _ _ ha, s1 _ _ hb, hlen, by rw [← W.len]; exact hlen, fun pd pk H2 hpd s2 e2 hpl => ?_⟩
    have s02 := s1.trans s2
    have hpd0 : H pd = none := s1.free hpd
    intro cd hcd
    have hcd0 : H cd = none := s02.free hcd
    have ned : pd ≠ cd := ne_of_none e2 hcd
    refine ⟨upd_same, [(Sum.inr "left", .int 0), (Sum.inr "right", .int 0), (Sum.inr "even", .int 0)], rfl, by decide, ?_⟩
    have start0 : CSt H pd cd pk (fun _ => 0) 3 (upd (upd H2 cd (.dK [])) cd (.dK (mergeK [] [(Sum.inr "left", V.int 0), (Sum.inr "right", V.int 0), (Sum.inr "even", V.int 0)]))) := by
      rw [upd_upd]
      refine ⟨s02.put hcd0, by rw [upd_ne ned]; exact e2, _, upd_same, by decide +kernel, fun o => ?_⟩
      cases o <;> decide +kernel
    refine ⟨_, rfl, z, rfl, for_enumS (x := z) (fun i σ H4 => ∃ (v5 v6 v7 v8 : Option V), σ = [some (.str z), some (.ref a), some (.ref b), some (.ref pd), some (.ref cd), v5, v6, v7, v8] ∧ CSt H pd cd pk (fun o => cs1 l r o 0 (z.cps.toList.take i)) (3 + 2 * i) H4)
      ⟨none, none, none, none, rfl, start0⟩ ?_ ?_⟩
    · rintro i c t σ H4 hi ht ⟨v5, v6, v7, v8, rfl, C0⟩
      have hil : i < z.cps.size := (Array.getElem?_eq_some_iff.mp hi).1
      have hi100 : i < 100 := by have := M.len; have e : z.length = z.cps.size := rfl; omega
      have hic : z.cps.toList[i]? = some c := by simpa using hi
      refine ⟨t, _, rfl, SqT.of upd_same, rfl, _, _, rfl, _, _, rfl, rfl, ?_⟩
      have C1 := C0.same (Same.upd0 (o := .tup [V.int i, V.str ⟨#[c]⟩]) ht)
      obtain ⟨_, ep, _⟩ := id C1
      refine ⟨_, rfl, pd, rfl, .inl ⟨pk, .inl ep⟩, _, rfl, _, DGet.k (k := Sum.inl (i : Int)) ep, ?_⟩
      rw [show (valV pk (Sum.inl (i : Int) : Key)).getD (V.str "even") = V.str (p3 (pl l r i)) from hpl i]
      generalize hp : pl l r i = p
      have done : ∀ (v8' : Option V) (H7 : Hp), CSt H pd cd pk (fun o => cs1 l r o 0 (z.cps.toList.take i) + c1 c p o) (3 + 2 * i + 2) H7 →
          ∃ (v5 v6 v7 v8 : Option V), [some (V.str z), some (.ref a), some (.ref b), some (.ref pd), some (.ref cd), some (.int i), some (.str ⟨#[c]⟩), some (.str (p3 p)), v8'] = [some (.str z), some (.ref a), some (.ref b), some (.ref pd), some (.ref cd), v5, v6, v7, v8] ∧
            CSt H pd cd pk (fun o => cs1 l r o 0 (z.cps.toList.take (i + 1))) (3 + 2 * (i + 1)) H7 := by
        intro v8' H7 C7
        refine ⟨_, _, _, _, rfl, ?_⟩
        have ef : (fun o => cs1 l r o 0 (z.cps.toList.take (i + 1))) = fun o => cs1 l r o 0 (z.cps.toList.take i) + c1 c p o := by
          funext o
          have ht : z.cps.toList.take (i + 1) = z.cps.toList.take i ++ [c] := by rw [List.take_succ, hic]; rfl
          rw [ht, cs1_snoc]
          have hlen' : (z.cps.toList.take i).length = i := by rw [List.length_take]; simp; omega
          rw [hlen', Nat.zero_add, hp]
        rw [ef]
        exact C7
      have light : ∀ (v8' : Option V) (H5 : Hp) (g : P3 → Nat), CSt H pd cd pk g (3 + 2 * i + 1) H5 → (∀ o, g o + (if mayL c && decide (other p = o) then 1 else 0) = cs1 l r o 0 (z.cps.toList.take i) + c1 c p o) →
          tIfS (tB (tCall spMayL [] E0 (tCons (tVar 6) tNil))) (tSeq (tAsg (tCall spOut [] E0 (tCons (tVar 7) (tCons (tC (.bl false)) tNil))) (gName 8)) (sDPut (tVar 4) (tVar 8) (tOp (rI0 fun i j => .int (i + j)) (tDGet (tVar 4) (tVar 8)) (tC (.int 1))))) tNext
            { nx := fun σ H4 => ∃ (v5 v6 v7 v8 : Option V), σ = [some (.str z), some (.ref a), some (.ref b), some (.ref pd), some (.ref cd), v5, v6, v7, v8] ∧ CSt H pd cd pk (fun o => cs1 l r o 0 (z.cps.toList.take (i + 1))) (3 + 2 * (i + 1)) H4, rt := Q }
            [some (V.str z), some (.ref a), some (.ref b), some (.ref pd), some (.ref cd), some (.int i), some (.str ⟨#[c]⟩), some (.str (p3 p)), v8'] H5 := by
        intro v8' H5 g C5 hg
        refine ⟨_, rfl, c, rfl, fun H6 s6 => ⟨_, rfl, ?_⟩⟩
        have C6 := C5.same s6
        cases e2 : mayL c with
        | true =>
          refine iteT ⟨_, rfl, p, false, rfl, ?_⟩
          obtain ⟨q1, q2, kvs, q3, q4, q5⟩ := C6
          refine ⟨_, rfl, _, rfl, cd, _, rfl, by have := DGet.k (k := Sum.inr (p3 (other p))) q3; rw [q5] at this; exact this, _, _, rfl, rfl, ?_⟩
          refine ⟨_, rfl, _, rfl, cd, _, rfl, DPut.k (k := Sum.inr (p3 (other p))) q3 (small1000 (by omega)), ?_⟩
          refine done _ _ ?_
          have C7 := CSt.put (n := 3 + 2 * i + 1) hcd0 ned q1 q2 q4 q5 (other p)
          have eg : (fun o => g o + if decide (other p = o) then 1 else 0) = fun o => cs1 l r o 0 (z.cps.toList.take i) + c1 c p o := by
            funext o; rw [← hg o, e2]; rfl
          rw [eg] at C7
          exact C7
        | false =>
          refine iteF ?_
          refine done _ _ ?_
          have eg : g = fun o => cs1 l r o 0 (z.cps.toList.take i) + c1 c p o := by
            funext o; rw [← hg o, e2]; simp
          rw [← eg]
          obtain ⟨q1, q2, kvs, q3, q4, q5⟩ := C6
          exact ⟨q1, q2, kvs, q3, by omega, q5⟩
      refine ⟨_, rfl, c, rfl, fun H5 s5 => ⟨_, rfl, ?_⟩⟩
      have C2 := C1.same s5
      cases e1 : mayH c with
      | true =>
        refine iteT ⟨_, rfl, p, true, rfl, ?_⟩
        obtain ⟨q1, q2, kvs, q3, q4, q5⟩ := C2
        refine ⟨_, rfl, _, rfl, cd, _, rfl, by have := DGet.k (k := Sum.inr (p3 p)) q3; rw [q5] at this; exact this, _, _, rfl, rfl, ?_⟩
        refine ⟨_, rfl, _, rfl, cd, _, rfl, DPut.k (k := Sum.inr (p3 p)) q3 (small1000 (by omega)), ?_⟩
        refine light _ _ _ (CSt.put (n := 3 + 2 * i) hcd0 ned q1 q2 q4 q5 p) fun o => ?_
        unfold c1; rw [e1]; simp; omega
      | false =>
        refine iteF ?_
        obtain ⟨q1, q2, kvs, q3, q4, q5⟩ := C2
        refine light _ _ _ ⟨q1, q2, kvs, q3, by omega, q5⟩ fun o => ?_
        unfold c1; rw [e1]; simp
    · rintro σ H4 ⟨v5, v6, v7, v8, rfl, C0⟩
      have e0 : z.cps.toList.take z.cps.size = z.cps.toList := List.take_of_length_le (by simp)
      rw [e0] at C0
      have hsz : z.cps.size ≤ 100 := M.len
      have fin : ∀ (H5 : Hp) (n : Nat), CSt H pd cd pk (jd z l r) n H5 → n ≤ 500 →
          tRet (tTup (tCons (tDGet (tVar 4) (tC (.str "left"))) (tCons (tDGet (tVar 4) (tC (.str "right"))) (tCons (tDGet (tVar 4) (tC (.str "even"))) tNil)))) { nx := fun _ H' => Q .non H', rt := Q }
            [some (V.str z), some (.ref a), some (.ref b), some (.ref pd), some (.ref cd), v5, v6, v7, v8] H5 := by
        intro H5 n C5 _
        obtain ⟨q1, q2, kvs, q3, q4, q5⟩ := C5
        refine ⟨_, rfl, cd, .int (jd z l r .L), rfl, by have := DGet.k (k := Sum.inr "left") q3; rw [← p3L, q5] at this; exact this, ?_⟩
        refine ⟨_, rfl, cd, .int (jd z l r .R), rfl, by have := DGet.k (k := Sum.inr "right") q3; rw [← p3R, q5] at this; exact this, ?_⟩
        refine ⟨_, rfl, cd, .int (jd z l r .E), rfl, by have := DGet.k (k := Sum.inr "even") q3; rw [← p3E, q5] at this; exact this, ?_⟩
        refine ⟨by show 3 ≤ sizeLine; decide, fun t ht => ?_⟩
        exact k _ t (q1.upd ht) (q1.free ht) upd_same
      refine ⟨_, rfl, z, rfl, _, rfl, ?_⟩
      cases eG : allG z with
      | true =>
        refine iteT ?_
        obtain ⟨q1, q2, kvs, q3, q4, q5⟩ := C0
        refine ⟨_, rfl, cd, .int (cs1 l r .E 0 z.cps.toList), rfl, by have := DGet.k (k := Sum.inr "even") q3; rw [← p3E, q5] at this; exact this, _, _, rfl, rfl, ?_⟩
        refine ⟨_, rfl, cd, _, rfl, DPut.k (k := Sum.inr (p3 .E)) q3 (small1000 (by omega)), ?_⟩
        have C5 := CSt.put hcd0 ned q1 q2 q4 q5 .E
        have eg : (fun o => cs1 l r o 0 z.cps.toList + if decide (P3.E = o) then 1 else 0) = jd z l r := by
          funext o; unfold jd; rw [eG]; cases o <;> simp
        rw [eg] at C5
        exact fin _ _ C5 (by omega)
      | false =>
        refine iteF ?_
        have eg : (fun o => cs1 l r o 0 z.cps.toList) = jd z l r := by
          funext o; unfold jd; rw [eG]; simp
        rw [eg] at C0
        exact fin _ _ C0 (by omega)
end
end Ks
end
section
namespace Ks
open PySem L2 Mir
def bh (z : Str) (l r : List Int) (o : P3) : Str := ⟨(aft l r o 0 z.cps.toList).toArray⟩
def oix : P3 → Nat | .L => 0 | .R => 1 | .E => 2
theorem str_ext {a b : Str} (h : a.cps.toList = b.cps.toList) : a = b := by
  obtain ⟨⟨a⟩⟩ := a; obtain ⟨⟨b⟩⟩ := b; simp at h; rw [h]
theorem app_cps (a b : Str) : (a ++ b).cps.toList = a.cps.toList ++ b.cps.toList := by
  show (a.cps ++ b.cps).toList = _
  simp
theorem join0 : ∀ l : List Str, (Str.join "" l).cps.toList = (l.map fun x => x.cps.toList).flatten
  | [] => rfl
  | [x] => by simp [Str.join]
  | x :: y :: r => by
    rw [PyProof.Rows.join_cons_cons, app_cps, app_cps, join0 (y :: r)]
    simp; rfl
theorem join_ones (cs : List Nat) : Txt.join "" (cs.map ch1) = ⟨cs.toArray⟩ := by
  show Builtin.Str.glued "" (cs.map ch1) = _
  rw [PySem.StrLaws.glued_eq_join]
  refine str_ext ?_
  rw [join0]
  show _ = cs
  induction cs with
  | nil => rfl
  | cons c cs ih => simp at ih ⊢; exact ih
theorem sum_ones (cs : List Nat) : ((cs.map ch1).map (·.length)).sum = cs.length := by
  induction cs with
  | nil => rfl
  | cons c cs ih => simp at ih ⊢; rw [ih]; show 1 + _ = _; omega
theorem outs_hit (o : P3) : ∃ z : V, ([.str "left", .str "right", .str "even"] : List V)[oix o]? = some z ∧ eqV z (.str (p3 o)) = true := by
  cases o
  · exact ⟨_, rfl, by decide +kernel⟩
  · exact ⟨_, rfl, by decide +kernel⟩
  · exact ⟨_, rfl, by decide +kernel⟩
theorem outs_no (o : P3) : ∀ (i : Nat) (z : V), i < oix o → ([.str "left", .str "right", .str "even"] : List V)[i]? = some z → eqV z (.str (p3 o)) = false := by
  intro i z hi hz
  cases o with
  | L => exact absurd hi (by simp [oix])
  | R =>
    have e : i = 0 := by simp [oix] at hi; exact hi
    subst e; cases hz; decide +kernel
  | E =>
    have e : i = 0 ∨ i = 1 := by simp [oix] at hi; omega
    rcases e with rfl | rfl
    · cases hz; decide +kernel
    · cases hz; decide +kernel
theorem aft_eq {l r : List Int} {o : P3} (z : Str) : (List.range z.cps.size).map (fun i => ch1 (sb (z.cps.getD i 0) (pl l r i) o)) = (aft l r o 0 z.cps.toList).map ch1 := by
  refine List.ext_getElem? fun i => ?_
  rw [List.getElem?_map, List.getElem?_map]
  by_cases hi : i < z.cps.size
  · rw [List.getElem?_range hi, aft_get z.cps.toList 0 i (z.cps.getD i 0) (by simp [hi, Array.getD])]
    simp
  · rw [List.getElem?_eq_none (by simp; omega), List.getElem?_eq_none (by rw [aft_len]; simp; omega)]; rfl
section
variable {P : Program} {w : World} {K : PySem.W.Frag} {mg : Str → Option Value} {base : Heap}
def spBh (Cn : Addr) : Sp := fun vs H Q E => ∃ (z : Str) (a b : Addr) (l r : List Int) (o : P3), vs = [.str z, .ref a, .ref b, .str (p3 o)] ∧ MkOk z ∧ H a = some (.lst (l.map V.int)) ∧ H b = some (.lst (r.map V.int)) ∧ Wg z.length l r ∧ l.length ≤ 100 ∧
  (jd z l r o = 0 → ∀ H', Same H H' → E (.ref Cn) none H') ∧ (0 < jd z l r o → ∀ H', Same H H' → Q (.str (bh z l r o)) H')
theorem sc_behind : FnScope ["marks", "left", "right", "outcome", "counts", "places"] ["marks", "left", "right", "outcome"] (defScope (top 29)) := ⟨rfl, rfl, rfl, by decide +kernel, rfl, by decide +kernel, by decide +kernel⟩
theorem ok_behind {f : Addr} {fd : FuncData} {Cn : Addr} (F : Fun K "behind" "behind" (top 29) f fd) (B : Blt mg) (O : Outs K mg) (m_Never : mg "Never" = some (.ref Cn)) (x_Never : PySem.W.excIn K Cn vMro "ValueError.__new__" = true)
    (c_judged : Can P w K mg base CX0 4 "judged" ["marks", "left", "right"] spJd) (c_check_outcome : Can P w K mg base CX0 1 "check_outcome" ["outcome"] spCO) (c_placed : Can P w K mg base CX0 1 "placed" ["left", "right"] spPl)
    (c_sign_behind : Can P w K mg base CX0 2 "sign_behind" ["sign", "place", "outcome"] spSB) : FnOk P w K mg base (CXE P w) 5 f fd ["marks", "left", "right", "outcome"] (spBh Cn) := by
  refine F.okE sc_behind (fun vs H Q E h => ?_) (fun cdv A outer s H vs Q E hr h L pass => ?_)
  · obtain ⟨z, a, b, l, r, o, rfl, _⟩ := h; rfl
  · obtain ⟨z, a, b, l, r, o, rfl, M, ha, hb, W, hlen, k0, k1⟩ := h
    obtain ⟨d_OUTCOMES, ob, its, n, m_OUTCOMES, m2, m3, m4, m5, m6⟩ := O
    have hu := hu_of hr
    refine ⟨_, (pss_cons (ps_set (i := 4) sc_behind.nd rfl (Or.inl rfl) (pe_can c_judged (hr.mono (by decide)) pass0 (pa_cons (pv 0) (pa_cons (pv 1) (pa_cons (pv 2) pa_nil)))))
      (pss_cons (ps_expr (pe_can c_check_outcome (hr.mono (by decide)) pass0 (pa_cons (pv 3) pa_nil)))
      (pss_cons (ps_if (pt_cmpR op_eq (pe_ix ix_tup (pv 4) (pe_bm PySem.F.plainAttrs_tuple PySem.F.slot_tuple_index PySem.F.type_tuple_index mt_tidx (pe_glob (v := .ref d_OUTCOMES) (by rfl) m_OUTCOMES rfl) (pa_cons (pv 3) pa_nil)) (fun _ _ => rfl)) pe_int (nomark _)) (pss_one (ps_raise L rfl rfl (by rfl) m_Never x_Never)) pss_nil)
      (pss_cons (ps_set (i := 5) sc_behind.nd rfl (Or.inr rfl) (pe_can c_placed (hr.mono (by decide)) pass0 (pa_cons (pv 1) (pa_cons (pv 2) pa_nil))))
      (pss_one (ps_ret (pe_bm PySem.F.plainAttrs_str PySem.F.slot_str_join PySem.F.type_str_join mt_join pe_str (pa_cons (pe_comp (N := ["marks", "left", "right", "outcome", "counts", "places"]) (sc0 := defScope (top 29)) ["coin", "sign"] ["outcome", "places"] [3, 5] rfl rfl rfl ⟨rfl, by decide +kernel, by decide +kernel, by decide +kernel, rfl, by decide +kernel⟩ (pi_enumS (by rfl) B.enum (pv 0)) (fun _ _ _ _ => (pg_tupK (K := K) (n := 2) rfl rfl (pgs_cons (pg_name (i := 0) (by decide +kernel : (["coin", "sign", "outcome", "places"] : List Str).Nodup) rfl (Or.inl rfl) (.inr rfl)) (pgs_cons (pg_name (i := 1) (by decide +kernel : (["coin", "sign", "outcome", "places"] : List Str).Nodup) rfl (Or.inl rfl) (.inr rfl)) pgs_nil)))) (fun _ _ _ _ => (pe_can c_sign_behind (hr.mono (by decide)) pass0 (pa_cons (pv 1) (pa_cons (pe_dget2 hu (pv 3) (pv 0) pe_str ⟨rfl, rfl, rfl, rfl⟩) (pa_cons (pv 2) pa_nil)))))) pa_nil)))))))), ?_⟩
    refine ⟨_, rfl, _, rfl, _, rfl, z, a, b, l, r, rfl, M, ha, hb, W, hlen, fun H1 t s1 ht e1 => ?_⟩
    refine ⟨_, rfl, o, rfl, ?_⟩
    have e1' : H1 t = some (.tup [.int (jd z l r .L), .int (jd z l r .R), .int (jd z l r .E)]) := e1
    have at1 : atI [V.int (jd z l r .L), V.int (jd z l r .R), V.int (jd z l r .E)] (oix o) = some (V.int (jd z l r o)) := by cases o <;> rfl
    refine ⟨_, rfl, .inr (.inl ⟨rfl, ob, m2, m3, m4⟩), _, rfl, d_OUTCOMES, _, _, oix o, rfl, rfl, outs_sq m2 m3 m5 m6, rfl, rfl, outs_hit o, outs_no o, t, _, _, _, rfl, rfl, SqT.of e1', at1, rfl, _, rfl, ?_⟩
    by_cases hj : jd z l r o = 0
    · refine tru (by rw [hj]; rfl) ?_
      exact k0 hj H1 s1
    · refine fls (decide_eq_false fun q => hj (by have := V.int.inj q; omega)) ?_
      have k1' := k1 (Nat.pos_of_ne_zero hj)
      refine ⟨_, rfl, _, rfl, a, b, l, r, rfl, s1 _ _ ha, s1 _ _ hb, hlen, by rw [← W.len]; exact hlen, fun pd pk H2 hpd s2 e2 hpl => ?_⟩
      have s02 := s1.trans s2
      have hz : z.cps.size ≤ 100 := M.len
      refine ⟨rfl, _, rfl, z, rfl, fun p hp => comp_enumS hp (Nat.lt_of_le_of_lt hz (by decide)) (fun i => V.str (ch1 (sb (z.cps.getD i 0) (pl l r i) o))) (fun σ' => ∃ v0 v1, σ' = [v0, v1, some (.str (p3 o)), some (.ref pd)]) ?_ ?_ ?_⟩
      · exact ⟨none, none, rfl⟩
      · rintro i c t' σ' H' hc ht ⟨v0, v1, rfl⟩ sm KK kk
        refine ⟨t', _, rfl, SqT.of upd_same, rfl, _, _, rfl, _, _, rfl, rfl, ?_⟩
        have ep : upd H' t' (.tup [V.int i, V.str ⟨#[c]⟩]) pd = some (.dK pk) := by rw [upd_ne (ne_of_none (sm _ _ e2) ht)]; exact sm _ _ e2
        refine ⟨_, rfl, _, rfl, pd, rfl, .inl ⟨pk, .inl ep⟩, _, rfl, _, DGet.k (k := Sum.inl (i : Int)) ep, ?_⟩
        rw [show (valV pk (Sum.inl (i : Int) : Key)).getD (V.str "even") = V.str (p3 (pl l r i)) from hpl i]
        refine ⟨_, rfl, c, pl l r i, o, rfl, fun H4 s4 => ?_⟩
        have e : z.cps.getD i 0 = c := by obtain ⟨h1, h2⟩ := Array.getElem?_eq_some_iff.mp hc; simp [Array.getD, h1, h2]
        have := kk [some (.int i), some (.str ⟨#[c]⟩), some (.str (p3 o)), some (.ref pd)] H4 ⟨_, _, rfl⟩ ((Same.upd0 ht).trans s4)
        rw [e] at this
        exact this
      · intro H' sm hq
        have e3 : (List.range z.cps.size).map (fun i => V.str (ch1 (sb (z.cps.getD i 0) (pl l r i) o))) = ((aft l r o 0 z.cps.toList).map ch1).map V.str := by
          rw [← aft_eq, List.map_map]; rfl
        rw [e3] at hq
        refine ⟨_, p, _, rfl, rfl, SqL.of hq, ?_, ?_⟩
        · rw [sum_ones, List.length_map, aft_len]
          show _ + _ * 0 ≤ _
          have : z.cps.toList.length = z.cps.size := by simp
          omega
        · rw [join_ones]
          exact k1' H' (s02.trans sm)
end
end Ks
end
section
namespace Ks
open PySem L2 Mir
section
variable {P : Program} {w : World} {K : PySem.W.Frag} {mg : Str → Option Value} {base : Heap}
def spWd : Sp := fun vs H Q _ => ∃ (n k : Int) (hv : Bool) (a b : Addr) (l r : List Int), vs = [.int n, .int k, .bl hv, .ref a, .ref b] ∧ 0 ≤ n ∧ -1 ≤ k ∧ k < n ∧ H a = some (.lst (l.map V.int)) ∧ H b = some (.lst (r.map V.int)) ∧ Wg n l r ∧ l.length ≤ 100 ∧
  ∀ H', Same H H' → Q (.str (p3 (if hv then pl l r k else other (pl l r k)))) H'
theorem sc_weighed : FnScope ["coins", "odd", "heavy", "left", "right"] ["coins", "odd", "heavy", "left", "right"] (defScope (top 30)) := ⟨rfl, rfl, rfl, by decide +kernel, rfl, by decide +kernel, by decide +kernel⟩
theorem ok_weighed {f : Addr} {fd : FuncData} (F : Fun K "weighed" "weighed" (top 30) f fd) (c_check_odd : Can P w K mg base CX0 2 "check_odd" ["coins", "odd", "heavy"] spOdd) (c_check_weighing : Can P w K mg base CX0 3 "check_weighing" ["highest", "left", "right"] spCW)
    (c_outcome_by : Can P w K mg base CX0 1 "outcome_by" ["place", "heavy"] spOut) (c_placed : Can P w K mg base CX0 1 "placed" ["left", "right"] spPl) : FnOk P w K mg base CX0 4 f fd ["coins", "odd", "heavy", "left", "right"] spWd := by
  refine F.ok sc_weighed (fun vs H Q E h => ?_) (fun cdv A outer s H vs Q E hr h => ?_)
  · obtain ⟨n, k, hv, a, b, l, r, rfl, _⟩ := h; rfl
  · obtain ⟨n, k, hv, a, b, l, r, rfl, h0, h1, h2, ha, hb, W, hlen, q⟩ := h
    have hu := hu_of hr
    refine ⟨_, (pss_cons (ps_expr (pe_can c_check_odd (hr.mono (by decide)) pass0 (pa_cons (pv 0) (pa_cons (pv 1) (pa_cons (pv 2) pa_nil)))))
      (pss_cons (ps_expr (pe_can c_check_weighing (hr.mono (by decide)) pass0 (pa_cons (pv 0) (pa_cons (pv 3) (pa_cons (pv 4) pa_nil)))))
      (pss_one (ps_ret (pe_can c_outcome_by (hr.mono (by decide)) pass0 (pa_cons (pe_dget2 hu (pe_can c_placed (hr.mono (by decide)) pass0 (pa_cons (pv 3) (pa_cons (pv 4) pa_nil))) (pv 1) pe_str ⟨rfl, rfl, rfl, rfl⟩) (pa_cons (pv 2) pa_nil))))))), ?_⟩
    refine ⟨_, rfl, _, rfl, _, rfl, n, k, hv, rfl, h0, h1, h2, ?_⟩
    refine ⟨_, rfl, _, rfl, _, rfl, n, a, b, l, r, rfl, ha, hb, W, hlen, fun H1 s1 => ?_⟩
    refine ⟨_, rfl, _, rfl, a, b, l, r, rfl, s1 _ _ ha, s1 _ _ hb, hlen, by rw [← W.len]; exact hlen, fun pd pk H2 hpd s2 e2 hpl => ?_⟩
    refine ⟨pd, rfl, .inl ⟨pk, .inl e2⟩, _, rfl, _, DGet.k (k := Sum.inl k) e2, ?_⟩
    rw [show (valV pk (Sum.inl k : Key)).getD (V.str "even") = V.str (p3 (pl l r k)) from hpl k]
    exact ⟨_, rfl, pl l r k, hv, rfl, q H2 (s1.trans s2)⟩
def cellF (ns : List Int) (k : Int) : Int := ns.getD k.toNat 0
def spCell (K : PySem.W.Frag) : Sp := fun vs H Q _ => ∃ (a : Addr) (ns : List Int) (k : Int), vs = [.ref a, .int k] ∧ SqL K H a (ns.map V.int) ∧ 0 ≤ k ∧ Q (.int (cellF ns k)) H
theorem sc__law_cell_at : FnScope ["_law_script", "_law_k"] ["_law_script", "_law_k"] (defScope (top 44)) := ⟨rfl, rfl, rfl, by decide +kernel, rfl, by decide +kernel, by decide +kernel⟩
theorem ok_cell {f : Addr} {fd : FuncData} (F : Fun K "_law_cell_at" "_law_cell_at" (top 44) f fd) (B : Blt mg) : FnOk P w K mg base CX0 1 f fd ["_law_script", "_law_k"] (spCell K) := by
  refine F.ok sc__law_cell_at (fun vs H Q E h => ?_) (fun cdv A outer s H vs Q E hr h => ?_)
  · obtain ⟨a, ns, k, rfl, _⟩ := h; rfl
  · obtain ⟨a, ns, k, rfl, ha, hk, q⟩ := h
    refine ⟨_, (pss_cons (ps_if (pt_cmpR op_lt (pv 1) (pe_callB call_len_seq (by rfl) B.len boot_lenB (pa_cons (pv 0) pa_nil)) (nomark _)) (pss_one (ps_ret (pe_ix ix_list (pv 0) (pv 1) (fun _ _ => rfl)))) pss_nil)
      (pss_one (ps_ret pe_int))), ?_⟩
    refine ⟨_, rfl, _, rfl, a, _, rfl, .inl ha, _, _, rfl, rfl, _, rfl, ?_⟩
    by_cases h : k < ((ns.map V.int).length : Int)
    · refine tru (decide_eq_true h) ?_
      have hn : k.toNat < ns.length := by simp at h; omega
      have e : cellF ns k = ns[k.toNat] := by unfold cellF; simp [List.getD, hn]
      rw [e] at q
      refine ⟨_, rfl, _, rfl, a, _, _, .int ns[k.toNat], rfl, rfl, ha, ?_, q⟩
      have := atI_nat (xs := ns.map V.int) (j := k.toNat) (v := V.int ns[k.toNat]) (by simp [hn])
      rw [Int.toNat_of_nonneg hk] at this
      exact this
    · have e : cellF ns k = 0 := by unfold cellF; simp at h; simp [List.getD, show ns.length ≤ k.toNat by omega]
      rw [e] at q
      exact fls (decide_eq_false h) q
def primes : List Int := [1000003, 1000033, 1000037, 1000039, 1000081, 1000099, 1000117, 1000121, 1000133, 1000151, 1000159, 1000171, 1000183, 1000187, 1000193, 1000199]
def drawF (c k m : Int) : Int := (c * 48271 + k * 69621) % (primes.getD (k % 16).toNat 0) % m
theorem drawF_nonneg {c k m : Int} (h : 0 < m) : 0 ≤ drawF c k m := Int.emod_nonneg _ (by omega)
theorem drawF_lt {c k m : Int} (h : 0 < m) : drawF c k m < m := Int.emod_lt_of_pos _ h
def spDraw : Sp := fun vs H Q _ => ∃ (c k m : Int), vs = [.int c, .int k, .int m] ∧ 0 ≤ k ∧ 0 < m ∧ ∀ (H' : Hp), Same H H' → Q (.int (drawF c k m)) H'
theorem sc__law_draw : FnScope ["_law_cell", "_law_k", "_law_many", "_law_primes"] ["_law_cell", "_law_k", "_law_many"] (defScope (top 45)) := ⟨rfl, rfl, rfl, by decide +kernel, rfl, by decide +kernel, by decide +kernel⟩
def primesE : List Expr := [.Constant (.int 1000003) 0 ⟨198, 19, 198, 26⟩, .Constant (.int 1000033) 0 ⟨198, 28, 198, 35⟩, .Constant (.int 1000037) 0 ⟨198, 37, 198, 44⟩, .Constant (.int 1000039) 0 ⟨198, 46, 198, 53⟩, .Constant (.int 1000081) 0 ⟨198, 55, 198, 62⟩, .Constant (.int 1000099) 0 ⟨198, 64, 198, 71⟩, .Constant (.int 1000117) 0 ⟨198, 73, 198, 80⟩, .Constant (.int 1000121) 0 ⟨198, 82, 198, 89⟩, .Constant (.int 1000133) 0 ⟨198, 91, 198, 98⟩, .Constant (.int 1000151) 0 ⟨198, 100, 198, 107⟩, .Constant (.int 1000159) 0 ⟨198, 109, 198, 116⟩, .Constant (.int 1000171) 0 ⟨198, 118, 198, 125⟩, .Constant (.int 1000183) 0 ⟨198, 127, 198, 134⟩, .Constant (.int 1000187) 0 ⟨198, 136, 198, 143⟩, .Constant (.int 1000193) 0 ⟨198, 145, 198, 152⟩, .Constant (.int 1000199) 0 ⟨198, 154, 198, 161⟩]
theorem primesE_is : primesE.map conV = (primes.map V.int).map some := by kernel_rfl
theorem pa_primes {X : Cx} : PA X primesE (tVs (primes.map V.int)) := @pa_vs X (primes.map V.int) primesE primesE_is
theorem pe_primes {X : Cx} {k : Nat} {p : Pos} : PE X (.Tuple primesE k p) (tTup (tVs (primes.map V.int))) := by
  have h := @pa_primes X
  revert h
  generalize primesE = es
  intro h
  exact pe_tup h
theorem pss_primes {X : Cx} {rest : List Stmt} {u : TS} {k : Nat} {p p1 p2 : Pos} (hN : X.N.Nodup) (hi : X.N[3]? = some ("_law_primes" : Str)) (hx : X.env.scope.names.lookup ("_law_primes" : Str) = some .local) (hs : swapsWith (.Tuple primesE k p) (some (.Name "_law_primes" p1)) p2.line X.env = pure false) (hr : PSs X rest u) :
    PSs X (.Assign [.Name "_law_primes" p1] (.Tuple primesE k p) p2 :: rest) (tSeq (tAsg (tTup (tVs (primes.map V.int))) (gName 3)) u) := by
  have h := @pe_primes X k p
  revert h hs
  generalize primesE = es
  intro hs h
  exact pss_cons (ps_set hN hi (.inl hx) h hs (.inr hx)) hr
theorem primes_at (i : Nat) (h : i < 16) : (primes.map V.int)[i]? = some (.int (primes.getD i 0)) ∧ 0 < primes.getD i 0 := by
  have hl : i < primes.length := h
  have e : primes.getD i 0 = primes[i] := by simp [List.getD, hl]
  rw [e]
  refine ⟨by rw [List.getElem?_map, List.getElem?_eq_getElem hl]; rfl, ?_⟩
  have ha : primes.all (fun p => decide (0 < p)) = true := by decide +kernel
  exact of_decide_eq_true (List.all_eq_true.mp ha _ (List.getElem_mem hl))
theorem ok_draw {f : Addr} {fd : FuncData} (F : Fun K "_law_draw" "_law_draw" (top 45) f fd) : FnOk P w K mg base CX0 1 f fd ["_law_cell", "_law_k", "_law_many"] spDraw := by
  refine F.ok sc__law_draw (fun vs H Q E h => ?_) (fun cdv A outer s H vs Q E hr h => ?_)
  · obtain ⟨c, k, m, rfl, _⟩ := h; rfl
  · obtain ⟨c, k, m, rfl, hk, hm, q⟩ := h
    refine ⟨_, @pss_primes _ _ _ _ _ _ _ sc__law_draw.nd rfl rfl (by kernel_rfl) (pss_one (ps_ret (pe_op op_mod (pe_op op_mod (pe_op op_add (pe_op op_mul (pv 0) pe_int) (pe_op op_mul (pv 1) pe_int)) (pe_ix ix_tup (pv 3) (pe_op op_mod (pv 1) pe_int) (fun _ _ => rfl))) (pv 2)))), ?_⟩
    refine ⟨by show 16 ≤ sizeLine; decide, fun t ht => ?_⟩
    have h16 : 0 ≤ k % 16 ∧ k % 16 < 16 := ⟨Int.emod_nonneg _ (by decide), Int.emod_lt_of_pos _ (by decide)⟩
    obtain ⟨hp1, hp2⟩ := primes_at (k % 16).toNat (by omega)
    have hat := atI_nat hp1
    rw [Int.toNat_of_nonneg h16.1] at hat
    refine ⟨_, rfl, _, _, rfl, rfl, .inr ⟨by decide, by decide⟩, _, rfl, _, _, rfl, rfl, .inr ⟨by decide, by decide⟩, _, _, rfl, rfl, _, rfl, _, rfl, _, _, rfl, rfl, (by show (0 : Int) < 16; decide), t, primes.map V.int, _, _, rfl, rfl, SqT.of upd_same, hat, _, _, rfl, rfl, hp2, _, rfl, _, _, rfl, rfl, hm, ?_⟩
    exact q _ (Same.upd0 ht)
end
end Ks
end
section
namespace Ks
open PySem L2 Mir
def csF (z : Str) : Nat := if 0 < cntS 104 z + cntS 108 z then cntS 104 z + cntS 108 z else 2 * cntS 101 z + 1
def IsFew (n m : Nat) : Prop := n ≤ 3 ^ m ∧ ∀ j, j < m → 3 ^ j < n
theorem lt_pow3 (w : Nat) : w < 3 ^ w := by
  induction w with
  | zero => decide
  | succ w ih => rw [Nat.pow_succ]; omega
theorem IsFew.uniq {n m k : Nat} (h : IsFew n m) (g : IsFew n k) : m = k := by
  rcases Nat.lt_trichotomy m k with z | z | z
  · have := g.2 m z; have := h.1; omega
  · exact z
  · have := h.2 k z; have := g.1; omega
theorem IsFew.le {n m : Nat} (h : IsFew n m) : m ≤ n := by
  cases m with
  | zero => omega
  | succ m => have := h.2 m (by omega); have := lt_pow3 m; omega
theorem cs_pos (z : Str) : 0 < csF z := by unfold csF; split <;> omega
theorem cs_le {z : Str} (M : MkOk z) : csF z ≤ 201 := by
  have h := signs_count M.sg
  have hl := M.len
  rw [str_len] at hl
  unfold csF cntS
  split <;> omega
section
variable {P : Program} {w : World} {K : PySem.W.Frag} {mg : Str → Option Value} {base : Heap}
def spCases : Sp := fun vs H Q _ => ∃ z, vs = [.str z] ∧ MkOk z ∧ Q (.int (csF z)) H
theorem sc_cases : FnScope ["marks", "one_way"] ["marks"] (defScope (top 17)) := ⟨rfl, rfl, rfl, by decide +kernel, rfl, by decide +kernel, by decide +kernel⟩
theorem ok_cases {f : Addr} {fd : FuncData} (F : Fun K "cases" "cases" (top 17) f fd) (c_check_marks : Can P w K mg base CX0 1 "check_marks" ["marks"] spCM) : FnOk P w K mg base CX0 2 f fd ["marks"] spCases := by
  refine F.ok sc_cases (fun vs H Q E h => ?_) (fun cdv A outer s H vs Q E hr h => ?_)
  · obtain ⟨z, rfl, _⟩ := h; rfl
  · obtain ⟨z, rfl, M, k⟩ := h
    refine ⟨_, (pss_cons (ps_expr (pe_can c_check_marks (hr.mono (by decide)) pass0 (pa_cons (pv 0) pa_nil)))
      (pss_cons (ps_set (i := 1) sc_cases.nd rfl (Or.inl rfl) (pe_op op_add (pe_bm PySem.F.plainAttrs_str PySem.F.slot_str_count PySem.F.type_str_count mt_count (pv 0) (pa_cons pe_str pa_nil)) (pe_bm PySem.F.plainAttrs_str PySem.F.slot_str_count PySem.F.type_str_count mt_count (pv 0) (pa_cons pe_str pa_nil))))
      (pss_cons (ps_if (pt_cmpR op_gt (pv 1) pe_int (nomark _)) (pss_one (ps_ret (pv 1))) pss_nil)
      (pss_one (ps_ret (pe_op op_add (pe_op op_mul pe_int (pe_bm PySem.F.plainAttrs_str PySem.F.slot_str_count PySem.F.type_str_count mt_count (pv 0) (pa_cons pe_str pa_nil))) pe_int)))))), ?_⟩
    refine ⟨_, rfl, z, rfl, M, ?_⟩
    refine ⟨_, rfl, rfl, z, 104, rfl, by rw [s_h], _, rfl, rfl, z, 108, rfl, by rw [s_l], _, _, rfl, rfl, ?_⟩
    refine ⟨_, rfl, _, _, rfl, rfl, _, rfl, ?_⟩
    unfold csF at k
    by_cases h : 0 < cntS 104 z + cntS 108 z
    · rw [if_pos h] at k
      refine tru (decide_eq_true (by omega)) ⟨_, rfl, ?_⟩
      have e : ((cntS 104 z : Int) + (cntS 108 z : Int)) = ((cntS 104 z + cntS 108 z : Nat) : Int) := by push_cast; rfl
      show Q (.int ((cntS 104 z : Int) + (cntS 108 z : Int))) H
      rw [e]; exact k
    · rw [if_neg h] at k
      refine fls (decide_eq_false (by omega)) ⟨_, rfl, rfl, z, 101, rfl, by rw [s_e], _, _, rfl, rfl, .inl ⟨by decide, by decide⟩, _, _, rfl, rfl, ?_⟩
      have e : (2 * (cntS 101 z : Int) + 1) = ((2 * cntS 101 z + 1 : Nat) : Int) := by push_cast; rfl
      show Q (.int (2 * (cntS 101 z : Int) + 1)) H
      rw [e]; exact k
def spMost : Sp := fun vs H Q _ => ∃ k : Int, vs = [.int k] ∧ k ≤ 1000 ∧ -1000 ≤ k ∧ Q (.int ((3 ^ k.toNat : Nat) : Int)) H
theorem sc_most_cases : FnScope ["weighings", "most", "step"] ["weighings"] (defScope (top 18)) := ⟨rfl, rfl, rfl, by decide +kernel, rfl, by decide +kernel, by decide +kernel⟩
theorem ok_most {f : Addr} {fd : FuncData} (F : Fun K "most_cases" "most_cases" (top 18) f fd) (B : Blt mg) : FnOk P w K mg base CX0 1 f fd ["weighings"] spMost := by
  refine F.ok sc_most_cases (fun vs H Q E h => ?_) (fun cdv A outer s H vs Q E hr h => ?_)
  · obtain ⟨k, rfl, _⟩ := h; rfl
  · obtain ⟨k, rfl, h1, h2, q⟩ := h
    refine ⟨_, (pss_cons (ps_set (i := 1) sc_most_cases.nd rfl (Or.inl rfl) pe_int)
      (pss_cons (ps_for PassesOwn.never rfl (pi_range1 (by rfl) B.range (pa_cons (pv 0) pa_nil)) (pg_name (i := 2) sc_most_cases.nd rfl (Or.inl rfl)) (pss_one (ps_set (i := 1) sc_most_cases.nd rfl (Or.inl rfl) (pe_op op_mul (pv 1) pe_int))))
      (pss_one (ps_ret (pv 1))))), ?_⟩
    refine ⟨_, rfl, k, rfl, by omega, by omega, ?_⟩
    refine for_range (lo := 0) (n := k.toNat) (fun i σ H2 => H2 = H ∧ ∃ v, σ = [some (.int k), some (.int ((3 ^ i : Nat) : Int)), v]) ?_ ?_ ?_
    · exact ⟨rfl, none, rfl⟩
    · rintro i σ H2 hi ⟨rfl, v, rfl⟩
      refine ⟨_, rfl, _, _, rfl, rfl, .inr ⟨by decide, by decide⟩, ?_⟩
      refine ⟨rfl, some (.int (0 + (i : Int))), ?_⟩
      have e : ((3 ^ i : Nat) : Int) * 3 = ((3 ^ (i + 1) : Nat) : Int) := by rw [Nat.pow_succ]; push_cast; rfl
      show [some (V.int k), some (V.int (((3 ^ i : Nat) : Int) * 3)), some (.int (0 + (i : Int)))] = _
      rw [e]
    · rintro σ H2 ⟨rfl, v, rfl⟩
      exact ⟨_, rfl, q⟩
def spFew : Sp := fun vs H Q _ => ∃ z, vs = [.str z] ∧ MkOk z ∧ ∀ m, IsFew (csF z) m → Q (.int m) H
theorem sc_fewest : FnScope ["marks", "many", "weighings"] ["marks"] (defScope (top 19)) := ⟨rfl, rfl, rfl, by decide +kernel, rfl, by decide +kernel, by decide +kernel⟩
theorem ok_few {f : Addr} {fd : FuncData} (F : Fun K "fewest" "fewest" (top 19) f fd) (c_cases : Can P w K mg base CX0 2 "cases" ["marks"] spCases) (c_most_cases : Can P w K mg base CX0 1 "most_cases" ["weighings"] spMost) : FnOk P w K mg base CX0 3 f fd ["marks"] spFew := by
  refine F.ok sc_fewest (fun vs H Q E h => ?_) (fun cdv A outer s H vs Q E hr h => ?_)
  · obtain ⟨z, rfl, _⟩ := h; rfl
  · obtain ⟨z, rfl, M, q⟩ := h
    have hcs := cs_le M
    refine ⟨_, (pss_cons (ps_set (i := 1) sc_fewest.nd rfl (Or.inl rfl) (pe_can c_cases (hr.mono (by decide)) pass0 (pa_cons (pv 0) pa_nil)))
      (pss_cons (ps_set (i := 2) sc_fewest.nd rfl (Or.inl rfl) pe_int)
      (pss_cons (ps_while PassesOwn.never (pt_cmpR op_lt (pe_can c_most_cases (hr.mono (by decide)) pass0 (pa_cons (pv 2) pa_nil)) (pv 1) (nomark _)) (pss_one (ps_set (i := 2) sc_fewest.nd rfl (Or.inl rfl) (pe_op op_add (pv 2) pe_int))))
      (pss_one (ps_ret (pv 2)))))), ?_⟩
    refine ⟨_, rfl, z, rfl, M, ?_⟩
    refine while_by (fun σ H2 => H2 = H ∧ ∃ k : Nat, σ = [some (.str z), some (.int (csF z)), some (.int k)] ∧ ∀ j, j < k → 3 ^ j < csF z) (fun σ _ => match σ with | [_, _, some (.int k)] => csF z - k.toNat | _ => 0) ?_ ?_ ?_
    · exact ⟨rfl, 0, rfl, fun j h => by omega⟩
    · rintro σ H2 ⟨rfl, k, rfl, hk⟩
      have hkb : k ≤ 201 := by
        cases k with
        | zero => omega
        | succ k => have := hk k (by omega); have := lt_pow3 k; omega
      refine ⟨_, rfl, (k : Int), rfl, by omega, by omega, _, rfl, _, _, rfl, rfl, _, rfl, ?_⟩
      rw [Int.toNat_natCast]
      by_cases h : 3 ^ k < csF z
      · refine tru (decide_eq_true (by exact_mod_cast h)) ⟨_, rfl, _, _, rfl, rfl, ?_⟩
        refine ⟨⟨rfl, k + 1, rfl, fun j hj => ?_⟩, ?_⟩
        · rcases Nat.lt_succ_iff_lt_or_eq.mp hj with z | z
          · exact hk j z
          · rw [z]; exact h
        · have := lt_pow3 k
          show csF z - ((k : Int) + 1).toNat < csF z - (k : Int).toNat
          omega
      · refine fls (decide_eq_false (by intro z; exact h (by exact_mod_cast z))) ⟨_, rfl, ?_⟩
        exact q k ⟨by omega, hk⟩
    · rintro σ H2 Q1 Q2 mono ⟨v, h1, k, hv, hb1, hb2, v2, h3, i, j, e1, e2, c, e3, h4⟩
      exact ⟨v, h1, k, hv, hb1, hb2, v2, h3, i, j, e1, e2, c, e3, mono _ _ h4⟩
end
end Ks
end
section
namespace Ks
open PySem L2 Mir
def cw (z : Str) (c : Nat) : List Int := ((List.range z.cps.size).filter fun i => z.cps.getD i 0 == c).map fun (i : Nat) => (i : Int)
theorem cps_range (z : Str) : z.cps.toList = (List.range z.cps.size).map fun i => z.cps.getD i 0 := by
  refine List.ext_getElem? fun i => ?_
  rw [List.getElem?_map]
  by_cases hi : i < z.cps.size
  · rw [List.getElem?_range hi]; simp [hi, Array.getD]
  · rw [List.getElem?_eq_none (by simp; omega), List.getElem?_eq_none (by simp; omega)]; rfl
theorem cw_mem {z : Str} {c : Nat} {x : Int} : x ∈ cw z c ↔ 0 ≤ x ∧ z.cps.toList[x.toNat]? = some c := by
  unfold cw
  rw [List.mem_map]
  constructor
  · rintro ⟨i, hi, rfl⟩
    rw [List.mem_filter, List.mem_range] at hi
    obtain ⟨h1, h2⟩ := hi
    have h3 : z.cps.getD i 0 = c := by simpa using h2
    refine ⟨by omega, ?_⟩
    rw [Int.toNat_natCast, ← h3]; simp [h1, Array.getD]
  · rintro ⟨h0, h⟩
    have hlt : x.toNat < z.cps.size := by
      have := (List.getElem?_eq_some_iff.mp h).1
      simpa using this
    refine ⟨x.toNat, ?_, by omega⟩
    rw [List.mem_filter, List.mem_range]
    refine ⟨hlt, ?_⟩
    have : z.cps.getD x.toNat 0 = c := by
      have h' : some z.cps[x.toNat] = some c := by rw [← h]; simp [hlt]
      simp [Array.getD, hlt, Option.some.inj h']
    rw [this]; simp
theorem cw_len (z : Str) (c : Nat) : (cw z c).length = cntS c z := by
  unfold cw cntS
  rw [List.length_map, ← List.countP_eq_length_filter]
  conv => rhs; rw [cps_range z]
  rw [List.count_eq_countP, List.countP_map]
  rfl
theorem cw_nodup (z : Str) (c : Nat) : (cw z c).Nodup := by
  unfold cw
  refine List.Pairwise.map _ (fun a b (h : a ≠ b) => ?_) ((List.nodup_range).filter _)
  intro e; exact h (by exact_mod_cast e)
def prs (z : Str) (c : Nat) : List Int := (cw z c).take (2 * (cntS c z / 2))
def als (z : Str) (c : Nat) : List Int := (cw z c).drop (2 * (cntS c z / 2))
def pfF (z : Str) : List Int := (prs z 101 ++ (prs z 104 ++ prs z 108)) ++ (als z 101 ++ (als z 104 ++ als z 108))
theorem pf_perm (z : Str) : (pfF z).Perm (cw z 101 ++ (cw z 104 ++ cw z 108)) := by
  rw [List.perm_iff_count]
  intro a
  have e : ∀ c, (cw z c).count a = (prs z c).count a + (als z c).count a := fun c => by
    unfold prs als; rw [← List.count_append, List.take_append_drop]
  unfold pfF
  simp only [List.count_append]
  rw [e 101, e 104, e 108]; omega
theorem pf_nodup (z : Str) : (pfF z).Nodup := by
  refine (pf_perm z).nodup_iff.mpr ?_
  have d : ∀ {a b : Nat}, a ≠ b → ∀ x ∈ cw z a, x ∉ cw z b := fun {a b} ne x h1 h2 => by
    have e1 := (cw_mem.mp h1).2
    have e2 := (cw_mem.mp h2).2
    rw [e1] at e2
    exact ne (Option.some.inj e2)
  rw [List.nodup_append]
  refine ⟨cw_nodup z _, ?_, fun x hx y hy e => ?_⟩
  · rw [List.nodup_append]
    exact ⟨cw_nodup z _, cw_nodup z _, fun x hx y hy e => d (by decide) x hx (e ▸ hy)⟩
  · subst e
    rcases List.mem_append.mp hy with h | h
    · exact d (by decide) x hx h
    · exact d (by decide) x hx h
theorem pf_len (z : Str) : (pfF z).length = cntS 101 z + (cntS 104 z + cntS 108 z) := by
  rw [(pf_perm z).length_eq, List.length_append, List.length_append, cw_len, cw_len, cw_len]
theorem pf_mem {z : Str} {x : Int} (h : x ∈ pfF z) : 0 ≤ x ∧ x < z.length ∧ (z.cps.toList[x.toNat]? = some 101 ∨ z.cps.toList[x.toNat]? = some 104 ∨ z.cps.toList[x.toNat]? = some 108) := by
  have h1 := (pf_perm z).mem_iff.mp h
  have fin : ∀ c, x ∈ cw z c → 0 ≤ x ∧ x < z.length ∧ z.cps.toList[x.toNat]? = some c := fun c hc => by
    obtain ⟨a, b⟩ := cw_mem.mp hc
    refine ⟨a, ?_, b⟩
    have := (List.getElem?_eq_some_iff.mp b).1
    rw [str_len]; omega
  rcases List.mem_append.mp h1 with q | q
  · obtain ⟨a, b, c⟩ := fin _ q; exact ⟨a, b, .inl c⟩
  · rcases List.mem_append.mp q with q | q
    · obtain ⟨a, b, c⟩ := fin _ q; exact ⟨a, b, .inr (.inl c)⟩
    · obtain ⟨a, b, c⟩ := fin _ q; exact ⟨a, b, .inr (.inr c)⟩
theorem cnt0 {c : Nat} {z : Str} : cntS c z = 0 ↔ c ∉ z.cps.toList := by unfold cntS; exact List.count_eq_zero
theorem cntp {c : Nat} {z : Str} : 0 < cntS c z ↔ c ∈ z.cps.toList := by unfold cntS; exact List.count_pos_iff
theorem allG_iff {z : Str} : allG z = true ↔ cntS 104 z = 0 ∧ cntS 108 z = 0 := by
  rw [cnt0, cnt0]; unfold allG; simp
theorem prs_len (z : Str) (c : Nat) : (prs z c).length = 2 * (cntS c z / 2) := by
  unfold prs; rw [List.length_take, cw_len]; omega
theorem als_len (z : Str) (c : Nat) : (als z c).length = cntS c z % 2 := by
  unfold als; rw [List.length_drop, cw_len]; omega
theorem pf_prd {z : Str} (he : cntS 101 z = 0) (k : Nat) (hk : k < (pfF z).length) : Prd z.cps.toList ((pfF z).take k) := by
  have on1 : ∀ c, Prd z.cps.toList (prs z c) := fun c => Prd.one (c := c) _ fun x hx => (cw_mem.mp (List.mem_of_mem_take hx)).2
  have e0 : cw z 101 = [] := List.eq_nil_of_length_eq_zero (by rw [cw_len, he])
  have e1 : prs z 101 = [] := by unfold prs; rw [e0, List.take_nil]
  have e2 : als z 101 = [] := by unfold als; rw [e0, List.drop_nil]
  have P : Prd z.cps.toList (prs z 104 ++ prs z 108) := Prd.app _ _ (by rw [prs_len]; omega) (on1 _) (on1 _)
  have lp : (prs z 104 ++ prs z 108).length % 2 = 0 := by rw [List.length_append, prs_len, prs_len]; omega
  have la : (als z 104 ++ als z 108).length ≤ 2 := by rw [List.length_append, als_len, als_len]; omega
  unfold pfF at hk ⊢
  rw [e1, e2, List.nil_append, List.nil_append] at hk ⊢
  generalize prs z 104 ++ prs z 108 = p at *
  generalize als z 104 ++ als z 108 = a at *
  rw [List.length_append] at hk
  by_cases h : k ≤ p.length
  · rw [List.take_append_of_le_length h]; exact Prd.take _ _ P
  · have e : k = p.length + 1 := by omega
    rw [e, List.take_length_add_append]
    refine Prd.app _ _ lp P ?_
    cases a with
    | nil => trivial
    | cons x t => exact trivial
theorem pow3_odd (k : Nat) : 3 ^ k % 2 = 1 := by
  induction k with
  | zero => rfl
  | succ k ih => rw [Nat.pow_succ]; omega
end Ks
end
section
namespace Ks
open PySem L2 Mir PyProof.Rows
theorem pick_ev (ns : List Int) (b : Nat) (h : b ≤ ns.length) : pickNums ns (some 0) (some (b : Int)) (some 2) = evs (ns.take b) := by
  have e : sliceBounds (some 0) (some (b : Int)) (some 2) ns.length = (0, (b : Int), 2) := by
    simp [sliceBounds]; omega
  unfold pickNums
  rw [e, ← evs_pick ns b h]
  have e2 : sliceRange 0 (b : Int) 2 = (List.range ((b + 1) / 2)).map fun k => 2 * k := by
    unfold sliceRange
    have c : (if (2 : Int) > 0 then (if (0 : Int) < (b : Int) then ((b : Int) - 0 + 2 - 1) / 2 else 0) else (if (0 : Int) > (b : Int) then (0 - (b : Int) - 2 - 1) / (-2) else 0)).toNat = (b + 1) / 2 := by
      rw [if_pos (by decide)]; split <;> omega
    show (List.range _).map _ = _
    rw [c]
    refine List.map_congr_left fun k _ => ?_
    omega
  show List.filterMap (fun x => ns[x]?) (sliceRange 0 (b : Int) 2) = _
  rw [e2, List.filterMap_map]; rfl
theorem pick_od (ns : List Int) (b : Nat) (h : b ≤ ns.length) : pickNums ns (some 1) (some (b : Int)) (some 2) = ods (ns.take b) := by
  by_cases hn : ns.length = 0
  · have e := List.eq_nil_of_length_eq_zero hn
    subst e
    have : b = 0 := by simpa using h
    subst this; rfl
  have e : sliceBounds (some 1) (some (b : Int)) (some 2) ns.length = (1, (b : Int), 2) := by
    simp [sliceBounds]; omega
  unfold pickNums
  rw [e, ← ods_pick ns b h]
  have e2 : sliceRange 1 (b : Int) 2 = (List.range (b / 2)).map fun k => 2 * k + 1 := by
    unfold sliceRange
    have c : (if (2 : Int) > 0 then (if (1 : Int) < (b : Int) then ((b : Int) - 1 + 2 - 1) / 2 else 0) else (if (1 : Int) > (b : Int) then (1 - (b : Int) - 2 - 1) / (-2) else 0)).toNat = b / 2 := by
      rw [if_pos (by decide)]; split <;> omega
    show (List.range _).map _ = _
    rw [c]
    refine List.map_congr_left fun k _ => ?_
    omega
  show List.filterMap (fun x => ns[x]?) (sliceRange 1 (b : Int) 2) = _
  rw [e2, List.filterMap_map]; rfl
def keepF (z : Str) (M : Nat) : Nat := if 101 ∈ z.cps.toList then (M - 1) / 2 else M
theorem few_two {z : Str} {m : Nat} (F : IsFew (csF z) m) (h : 0 < m) : 3 ^ (m - 1) < csF z ∧ csF z ≤ 3 * 3 ^ (m - 1) := by
  refine ⟨F.2 (m - 1) (by omega), ?_⟩
  have := F.1
  have e : m = m - 1 + 1 := by omega
  rw [e, Nat.pow_succ] at this; omega
theorem first_jd {z : Str} {m on : Nat} (M : MkOk z) (F : IsFew (csF z) m) (h : 0 < m) (hon : on = (pfF z).length - keepF z (3 ^ (m - 1))) :
    0 < on ∧ on ≤ (pfF z).length ∧ keepF z (3 ^ (m - 1)) ≤ (pfF z).length ∧ ∀ o, jd z (evs ((pfF z).take on)) (ods ((pfF z).take on)) o ≤ 3 ^ (m - 1) := by
  obtain ⟨h1, h2⟩ := few_two F h
  have od := pow3_odd (m - 1)
  have ps := Nat.pos_of_ne_zero (show 3 ^ (m - 1) ≠ 0 by intro e; rw [e] at od; simp at od)
  generalize 3 ^ (m - 1) = T at *
  rw [pf_len] at hon ⊢
  unfold keepF at hon ⊢
  unfold csF at h1 h2
  by_cases he : 101 ∈ z.cps.toList
  · obtain ⟨n1, n2⟩ := M.ex he
    have c1 := cnt0.mpr n1
    have c2 := cnt0.mpr n2
    rw [if_pos he] at hon ⊢
    rw [if_neg (by omega)] at h1 h2
    refine ⟨by omega, by omega, by omega, fun o => ?_⟩
    have q := open_e (o := o) (cs := z.cps.toList) (pf := pfF z) (M := T) (on := on) M.sg (pf_nodup z) (fun x hx => (pf_mem hx).1) (fun x hx => ?_) (by rw [pf_len, c1, c2]; rfl) c1 c2 od h1 h2 (by rw [c1, c2] at hon; exact hon)
    · unfold jd
      have g : allG z = true := allG_iff.mpr ⟨c1, c2⟩
      rw [g]; simpa using q
    · rcases (pf_mem hx).2.2 with q | q | q
      · exact q
      · exact absurd (List.mem_of_getElem? q) n1
      · exact absurd (List.mem_of_getElem? q) n2
  · have c0 := cnt0.mpr he
    rw [if_neg he] at hon ⊢
    by_cases hp : 0 < cntS 104 z + cntS 108 z
    · rw [if_pos hp] at h1 h2
      refine ⟨by omega, by omega, by omega, fun o => ?_⟩
      have q := open_hl (o := o) (cs := z.cps.toList) (pf := pfF z) (M := T) (on := on) M.sg (pf_nodup z) (fun x hx => (pf_mem hx).1) (fun x hx => ?_) (by rw [pf_len, c0, Nat.zero_add]; rfl) c0 ps h1 h2 (by rw [c0, Nat.zero_add] at hon; exact hon) (pf_prd c0)
      · unfold jd
        have g : ¬ (allG z = true) := fun g => by have := allG_iff.mp g; omega
        rw [if_neg (fun z => g z.2)]; exact q
      · rcases (pf_mem hx).2.2 with q | q
        · exact absurd (List.mem_of_getElem? q) he
        · exact q
    · rw [if_neg hp, c0] at h1; omega
theorem jd_same {z : Str} {l r l' r' : List Int} {o : P3} (h : ∀ k : Nat, k < z.length → pl l' r' k = pl l r k) : jd z l' r' o = jd z l r o := by
  unfold jd
  rw [cs1_congr z.cps.toList 0 fun k _ hk => h k (by rw [str_len]; omega)]
theorem nodup_lt {l : List Int} (h : l.Pairwise (· ≤ ·)) (n : l.Nodup) : l.Pairwise (· < ·) := by
  refine (h.and n).imp fun {a b} ⟨x, y⟩ => ?_
  have : a ≠ b := y
  omega
theorem first_ok {z : Str} {m on : Nat} (M : MkOk z) (F : IsFew (csF z) m) (h : 0 < m) (hon : on = (pfF z).length - keepF z (3 ^ (m - 1))) {l r bes : List Int} (hl : l.Perm (evs ((pfF z).take on))) (sl : l.Pairwise (· ≤ ·)) (hr : r.Perm (ods ((pfF z).take on) ++ bes))
    (sr : r.Pairwise (· ≤ ·)) (hb : bes = if (ods ((pfF z).take on)).length < (evs ((pfF z).take on)).length then [(z.length : Int)] else []) : Wg z.length l r ∧ ∀ o, jd z l r o ≤ 3 ^ (m - 1) := by
  obtain ⟨h1, h2, _, h3⟩ := first_jd M F h hon
  have nd : ((pfF z).take on).Nodup := (pf_nodup z).sublist (List.take_sublist _ _)
  have mem : ∀ x ∈ (pfF z).take on, 0 ≤ x ∧ x < z.length := fun x hx => ⟨(pf_mem (List.mem_of_mem_take hx)).1, (pf_mem (List.mem_of_mem_take hx)).2.1⟩
  have nd2 := (evs_ods ((pfF z).take on)).nodup_iff.mpr nd
  generalize (pfF z).take on = ps at *
  rw [List.nodup_append] at nd2
  obtain ⟨a1, a2, a3⟩ := nd2
  have inb : ∀ k ∈ bes, k = z.length := fun k hk => by
    rw [hb] at hk; split at hk
    · simpa using hk
    · simp at hk
  have ndb : bes.Nodup := by rw [hb]; split <;> simp
  have ndr : (ods ps ++ bes).Nodup := by
    rw [List.nodup_append]
    refine ⟨a2, ndb, fun x hx y hy e => ?_⟩
    have := (mem x (ods_mem hx)).2
    have := inb y hy
    omega
  refine ⟨⟨nodup_lt sl (hl.nodup_iff.mpr a1), nodup_lt sr (hr.nodup_iff.mpr ndr), fun k hk => ?_, fun k hk => ?_, ?_, fun k hk hk2 => ?_⟩, fun o => ?_⟩
  · have := mem k (evs_mem (hl.mem_iff.mp hk)); omega
  · rcases List.mem_append.mp (hr.mem_iff.mp hk) with q | q
    · have := mem k (ods_mem q); omega
    · have := inb k q; omega
  · rw [hl.length_eq, hr.length_eq, List.length_append, hb]
    have := evs_len ps
    have := ods_len ps
    split
    · simp; omega
    · simp; omega
  · have q1 := hl.mem_iff.mp hk
    rcases List.mem_append.mp (hr.mem_iff.mp hk2) with q | q
    · exact a3 k q1 k q rfl
    · have := inb k q; have := mem k (evs_mem q1); omega
  · rw [jd_same (l := evs ps) (r := ods ps) fun k hk => ?_]
    · exact h3 o
    · refine (pl_same (l := evs ps) (r := ods ps ++ bes) (fun x => hl.mem_iff) (fun x => hr.mem_iff) k).trans ?_
      unfold pl
      have : (k : Int) ∉ bes := fun q => by have := inb _ q; omega
      simp [List.mem_append, this]
theorem aft_mem {l r : List Int} {o : P3} : ∀ (cs : List Nat) (i d : Nat), d ∈ aft l r o i cs → ∃ c ∈ cs, ∃ p, d = sb c p o
  | [], _, _, h => by simp [aft] at h
  | c :: cs, i, d, h => by
    rcases List.mem_cons.mp (show d ∈ sb c (pl l r i) o :: aft l r o (i + 1) cs from h) with q | q
    · exact ⟨c, List.mem_cons_self, _, q⟩
    · obtain ⟨c', h1, h2⟩ := aft_mem cs (i + 1) d q
      exact ⟨c', List.mem_cons_of_mem _ h1, h2⟩
theorem bh_len (z : Str) (l r : List Int) (o : P3) : (bh z l r o).length = z.length := by
  rw [str_len, str_len]; unfold bh; simp [aft_len]
theorem bh_mem {z : Str} {l r : List Int} {o : P3} {d : Nat} (h : d ∈ (bh z l r o).cps.toList) : ∃ c ∈ z.cps.toList, ∃ p, d = sb c p o := aft_mem z.cps.toList 0 d (by simpa [bh] using h)
theorem sb_LR {c : Nat} (h : Sign c) {o : P3} (ho : o ≠ .E) (p : P3) : sb c p o ≠ 101 := by
  rcases h with rfl | rfl | rfl | rfl <;> cases p <;> cases o <;> first | decide | exact absurd rfl ho
theorem sb_E {c : Nat} (h : Sign c) (p : P3) : sb c p .E = c ∨ sb c p .E = 103 := by
  rcases h with rfl | rfl | rfl | rfl <;> cases p <;> decide
theorem bh_ok {z : Str} (M : MkOk z) (l r : List Int) (o : P3) : MkOk (bh z l r o) := by
  refine ⟨fun c hc => ?_, fun h => ?_, by rw [bh_len]; exact M.len⟩
  · obtain ⟨d, _, p, rfl⟩ := bh_mem hc; exact sb_sign _ _ _
  · obtain ⟨c, hc, p, e⟩ := bh_mem h
    have ho : o = .E := by
      cases o with
      | E => rfl
      | L => exact absurd e.symm (sb_LR (M.sg c hc) (by decide) p)
      | R => exact absurd e.symm (sb_LR (M.sg c hc) (by decide) p)
    subst ho
    have c101 : c = 101 := by
      rcases sb_E (M.sg c hc) p with q | q
      · rw [← q, ← e]
      · rw [q] at e; exact absurd e (by decide)
    subst c101
    obtain ⟨n1, n2⟩ := M.ex hc
    refine ⟨fun h => ?_, fun h => ?_⟩
    · obtain ⟨c, hc, p, e⟩ := bh_mem h
      rcases sb_E (M.sg c hc) p with q | q
      · rw [q] at e; exact n1 (e ▸ hc)
      · rw [q] at e; exact absurd e (by decide)
    · obtain ⟨c, hc, p, e⟩ := bh_mem h
      rcases sb_E (M.sg c hc) p with q | q
      · rw [q] at e; exact n2 (e ▸ hc)
      · rw [q] at e; exact absurd e (by decide)
theorem bh_cnt {z : Str} (M : MkOk z) (l r : List Int) (o : P3) : 2 * cntS 101 (bh z l r o) + cntS 104 (bh z l r o) + cntS 108 (bh z l r o) = cs1 l r o 0 z.cps.toList := by
  have := aft_count (l := l) (r := r) (o := o) 0 M.sg
  unfold cntS bh
  rw [← this]
theorem bh_cs {z : Str} (M : MkOk z) {l r : List Int} {o : P3} (h : 0 < jd z l r o) : csF (bh z l r o) = jd z l r o := by
  have e := bh_cnt M l r o
  have N := bh_ok M l r o
  unfold jd at h ⊢
  rw [← e] at h ⊢
  have x1 : 0 < cntS 101 (bh z l r o) → cntS 104 (bh z l r o) = 0 ∧ cntS 108 (bh z l r o) = 0 := fun q => by
    obtain ⟨a, b⟩ := N.ex (cntp.mp q)
    exact ⟨cnt0.mpr a, cnt0.mpr b⟩
  unfold csF
  by_cases hc : o = .E ∧ allG z = true
  · rw [if_pos hc] at h ⊢
    obtain ⟨rfl, hg⟩ := hc
    obtain ⟨g1, g2⟩ := allG_iff.mp hg
    have n1 : cntS 104 (bh z l r .E) = 0 := cnt0.mpr fun q => by
      obtain ⟨c, hc, p, e⟩ := bh_mem q
      rcases sb_E (M.sg c hc) p with w | w
      · rw [w] at e; exact cnt0.mp g1 (e ▸ hc)
      · rw [w] at e; exact absurd e (by decide)
    have n2 : cntS 108 (bh z l r .E) = 0 := cnt0.mpr fun q => by
      obtain ⟨c, hc, p, e⟩ := bh_mem q
      rcases sb_E (M.sg c hc) p with w | w
      · rw [w] at e; exact cnt0.mp g2 (e ▸ hc)
      · rw [w] at e; exact absurd e (by decide)
    rw [if_neg (by omega)]; omega
  · rw [if_neg hc] at h ⊢
    have ne : cntS 101 (bh z l r o) = 0 := by
      cases Nat.eq_zero_or_pos (cntS 101 (bh z l r o)) with
      | inl q => exact q
      | inr q =>
        exfalso
        obtain ⟨c, hcm, p, e⟩ := bh_mem (cntp.mp q)
        have ho : o = .E := by
          cases o with
          | E => rfl
          | L => exact absurd e.symm (sb_LR (M.sg c hcm) (by decide) p)
          | R => exact absurd e.symm (sb_LR (M.sg c hcm) (by decide) p)
        subst ho
        have c101 : c = 101 := by
          rcases sb_E (M.sg c hcm) p with w | w
          · rw [← w, ← e]
          · rw [w] at e; exact absurd e (by decide)
        subst c101
        obtain ⟨a, b⟩ := M.ex hcm
        exact hc ⟨rfl, allG_iff.mpr ⟨cnt0.mpr a, cnt0.mpr b⟩⟩
    rw [if_pos (by omega)]; omega
def Alive (z : Str) (k : Int) (hv : Bool) : Prop := (k = -1 ∧ allG z = true) ∨ (0 ≤ k ∧ ∃ c, z.cps.toList[k.toNat]? = some c ∧ (c = 101 ∨ c = (if hv then 104 else 108)))
theorem alive_after {z : Str} {k : Int} {hv : Bool} {l r : List Int} (M : MkOk z) (W : Wg z.length l r) (A : Alive z k hv) :
    0 < jd z l r (if hv then pl l r k else other (pl l r k)) ∧ Alive (bh z l r (if hv then pl l r k else other (pl l r k))) k hv := by
  rcases A with ⟨rfl, g⟩ | ⟨h0, c, hc, hs⟩
  · have e : pl l r (-1) = .E := pl_E (fun q => by have := W.inL _ q; omega) (fun q => by have := W.inR _ q; omega)
    have e2 : (if hv then P3.E else other P3.E) = P3.E := by cases hv <;> rfl
    rw [e, e2]
    refine ⟨by unfold jd; rw [if_pos ⟨rfl, g⟩]; omega, .inl ⟨rfl, ?_⟩⟩
    obtain ⟨g1, g2⟩ := allG_iff.mp g
    refine allG_iff.mpr ⟨cnt0.mpr fun q => ?_, cnt0.mpr fun q => ?_⟩
    · obtain ⟨c, hc, p, e⟩ := bh_mem q
      rcases sb_E (M.sg c hc) p with w | w
      · rw [w] at e; exact cnt0.mp g1 (e ▸ hc)
      · rw [w] at e; exact absurd e (by decide)
    · obtain ⟨c, hc, p, e⟩ := bh_mem q
      rcases sb_E (M.sg c hc) p with w | w
      · rw [w] at e; exact cnt0.mp g2 (e ▸ hc)
      · rw [w] at e; exact absurd e (by decide)
  · have ek : ((0 + k.toNat : Nat) : Int) = k := by omega
    refine ⟨?_, .inr ⟨h0, _, ?_, sb_own (M.sg c (List.mem_of_getElem? hc)) (pl l r k) hv hs⟩⟩
    · unfold jd
      have := cs1_pos (l := l) (r := r) (o := if hv then pl l r k else other (pl l r k)) z.cps.toList 0 k.toNat c hc (by
        rw [ek]
        refine c1_pos (hv := hv) ?_
        cases hv with
        | true => rcases hs with rfl | rfl <;> exact ⟨rfl, rfl⟩
        | false => rcases hs with rfl | rfl <;> exact ⟨rfl, rfl⟩)
      omega
    · have := aft_get (l := l) (r := r) (o := if hv then pl l r k else other (pl l r k)) z.cps.toList 0 k.toNat c hc
      rw [ek] at this
      simpa [bh] using this
theorem count_uniq {c : Nat} : ∀ (cs : List Nat) (i j : Nat), cs.count c ≤ 1 → cs[i]? = some c → cs[j]? = some c → i = j
  | [], i, j, _, h, _ => by simp at h
  | d :: cs, 0, 0, _, _, _ => rfl
  | d :: cs, 0, j + 1, h, h1, h2 => by
    have e : d = c := by simpa using h1
    subst e
    have : d ∈ cs := List.mem_of_getElem? (i := j) (by simpa using h2)
    have := List.count_pos_iff.mpr this
    rw [List.count_cons_self] at h; omega
  | d :: cs, i + 1, 0, h, h1, h2 => by
    have e : d = c := by simpa using h2
    subst e
    have : d ∈ cs := List.mem_of_getElem? (i := i) (by simpa using h1)
    have := List.count_pos_iff.mpr this
    rw [List.count_cons_self] at h; omega
  | d :: cs, i + 1, j + 1, h, h1, h2 => by
    rw [count_uniq (c := c) cs i j (by rw [List.count_cons] at h; omega) (by simpa using h1) (by simpa using h2)]
end Ks
end
section
namespace Ks
open PySem L2 Mir PyProof.Rows
section
variable {P : Program} {w : World} {K : PySem.W.Frag} {mg : Str → Option Value} {base : Heap}
def spCoins : Sp := fun vs H Q _ => ∃ (z : Str) (c : Nat), vs = [.str z, .str (ch1 c)] ∧ z.length ≤ 1000 ∧ ∀ (p : Addr) (H' : Hp), H p = none → Same H H' → H' p = some (.lst ((cw z c).map V.int)) → Q (.ref p) H'
theorem sc_coins_with : FnScope ["marks", "wanted"] ["marks", "wanted"] (defScope (top 38)) := ⟨rfl, rfl, rfl, by decide +kernel, rfl, by decide +kernel, by decide +kernel⟩
theorem ok_coins {f : Addr} {fd : FuncData} (F : Fun K "coins_with" "coins_with" (top 38) f fd) (B : Blt mg) : FnOk P w K mg base CX0 1 f fd ["marks", "wanted"] spCoins := by
  refine F.ok sc_coins_with (fun vs H Q E h => ?_) (fun cdv A outer s H vs Q E hr h => ?_)
  · obtain ⟨z, c, rfl, _⟩ := h; rfl
  · obtain ⟨z, c, rfl, hz, k⟩ := h
    refine ⟨_, (pss_one (ps_ret (pe_compIf (N := ["marks", "wanted"]) (sc0 := defScope (top 38)) ["coin", "sign"] ["wanted"] [1] rfl rfl rfl ⟨rfl, by decide +kernel, by decide +kernel, by decide +kernel, rfl, by decide +kernel⟩ (pi_enumS (by rfl) B.enum (pv 0)) (fun _ _ _ _ => (pg_tupK (K := K) (n := 2) rfl rfl (pgs_cons (pg_name (i := 0) (by decide +kernel : (["coin", "sign", "wanted"] : List Str).Nodup) rfl (Or.inl rfl) (.inr rfl)) (pgs_cons (pg_name (i := 1) (by decide +kernel : (["coin", "sign", "wanted"] : List Str).Nodup) rfl (Or.inl rfl) (.inr rfl)) pgs_nil)))) (fun _ _ _ _ => (pt_cmpR op_eq (pv 1) (pv 2) (nomark _))) (fun _ _ _ _ => (pv 0))))), ?_⟩
    refine ⟨_, rfl, z, rfl, fun p hp => comp_enumIf hp (Nat.lt_of_le_of_lt hz (by decide)) (fun i => z.cps.getD i 0 == c) (fun i => V.int i) (fun σ' => ∃ v0 v1, σ' = [v0, v1, some (.str (ch1 c))]) ?_ ?_ ?_⟩
    · exact ⟨none, none, rfl⟩
    · rintro i d t' σ' H' hc ht ⟨v0, v1, rfl⟩ sm K1 K0 k1 k0
      refine ⟨t', _, rfl, SqT.of upd_same, rfl, _, _, rfl, _, _, rfl, rfl, ?_⟩
      have e : z.cps.getD i 0 = d := by obtain ⟨h1, h2⟩ := Array.getElem?_eq_some_iff.mp hc; simp [Array.getD, h1, h2]
      refine ⟨_, rfl, _, rfl, rfl, _, rfl, ?_⟩
      rw [e] at k1 k0
      by_cases h : d = c
      · refine tru (by show decide (V.str (ch1 d) = V.str (ch1 c)) = true; rw [dec_ch]; exact decide_eq_true h) ?_
        exact ⟨_, rfl, k1 (by simpa using h) _ _ ⟨_, _, rfl⟩ (Same.upd0 ht)⟩
      · refine fls (by show decide (V.str (ch1 d) = V.str (ch1 c)) = false; rw [dec_ch]; exact decide_eq_false h) ?_
        exact k0 (by simpa using h) _ _ ⟨_, _, rfl⟩ (Same.upd0 ht)
    · intro H' sm hq
      refine k p H' hp sm ?_
      rw [hq]; unfold cw; rw [List.map_map]; rfl
def prsI (z : Str) (i : Nat) : List Int := (([101, 104, 108] : List Nat).take i).flatMap fun c => prs z c
def alsI (z : Str) (i : Nat) : List Int := (([101, 104, 108] : List Nat).take i).flatMap fun c => als z c
theorem prsI_len (z : Str) (i : Nat) : (prsI z i).length ≤ 3 * z.length := by
  have q : ∀ c, (prs z c).length ≤ z.length := fun c => by rw [prs_len, str_len]; have : cntS c z ≤ z.cps.toList.length := List.count_le_length; omega
  have h : ∀ l : List Nat, (l.flatMap fun c => prs z c).length ≤ l.length * z.length := fun l => by
    induction l with
    | nil => simp
    | cons c l ih => rw [List.flatMap_cons, List.length_append, List.length_cons, Nat.add_mul, Nat.one_mul]; have := q c; omega
  refine Nat.le_trans (h _) (Nat.mul_le_mul_right _ ?_)
  rw [List.length_take]; simp; omega
theorem alsI_len (z : Str) (i : Nat) : (alsI z i).length ≤ 3 * z.length := by
  have q : ∀ c, (als z c).length ≤ z.length := fun c => by rw [als_len, str_len]; have : cntS c z ≤ z.cps.toList.length := List.count_le_length; omega
  have h : ∀ l : List Nat, (l.flatMap fun c => als z c).length ≤ l.length * z.length := fun l => by
    induction l with
    | nil => simp
    | cons c l ih => rw [List.flatMap_cons, List.length_append, List.length_cons, Nat.add_mul, Nat.one_mul]; have := q c; omega
  refine Nat.le_trans (h _) (Nat.mul_le_mul_right _ ?_)
  rw [List.length_take]; simp; omega
theorem three_s {i : Nat} {x : V} (h : ([.str "e", .str "h", .str "l"] : List V)[i]? = some x) : ∃ c, x = .str (ch1 c) ∧ (∀ z, prsI z (i + 1) = prsI z i ++ prs z c) ∧ ∀ z, alsI z (i + 1) = alsI z i ++ als z c := by
  match i, h with
  | 0, h => cases h; exact ⟨101, by rw [s_e], fun z => by simp [prsI], fun z => by simp [alsI]⟩
  | 1, h => cases h; exact ⟨104, by rw [s_h], fun z => by simp [prsI], fun z => by simp [alsI]⟩
  | 2, h => cases h; exact ⟨108, by rw [s_l], fun z => by simp [prsI], fun z => by simp [alsI]⟩
  | n + 3, h => simp at h
theorem cut_to (z : Str) (c : Nat) : cutV ((cw z c).map V.int) none (some ((cntS c z : Int) - (cntS c z : Int) % 2)) = (prs z c).map V.int := by
  have e : ((cntS c z : Int) - (cntS c z : Int) % 2) = ((2 * (cntS c z / 2) : Nat) : Int) := by omega
  rw [e]
  unfold cutV prs
  rw [HT.sIx_none, HT.sIx_nat, List.length_map, cw_len, List.drop_zero, List.map_take]
  congr 1; omega
theorem cut_from (z : Str) (c : Nat) : cutV ((cw z c).map V.int) (some ((cntS c z : Int) - (cntS c z : Int) % 2)) none = (als z c).map V.int := by
  have e : ((cntS c z : Int) - (cntS c z : Int) % 2) = ((2 * (cntS c z / 2) : Nat) : Int) := by omega
  rw [e]
  unfold cutV als
  rw [HT.sIx_none, HT.sIx_nat, List.length_map, cw_len, List.map_drop]
  have e2 : min (2 * (cntS c z / 2)) (cntS c z) = 2 * (cntS c z / 2) := by omega
  rw [e2, List.take_of_length_le]
  rw [List.length_drop, List.length_map, cw_len]; exact Nat.le_refl _
def spPf : Sp := fun vs H Q _ => ∃ (z : Str), vs = [.str z] ∧ z.length ≤ 300 ∧ ∀ (p : Addr) (H' : Hp), H p = none → Same H H' → H' p = some (.lst ((pfF z).map V.int)) → Q (.ref p) H'
theorem sc_paired_first : FnScope ["marks", "pairs", "alone", "sign", "coins", "even"] ["marks"] (defScope (top 39)) := ⟨rfl, rfl, rfl, by decide +kernel, rfl, by decide +kernel, by decide +kernel⟩
theorem ok_pf {f : Addr} {fd : FuncData} (F : Fun K "paired_first" "paired_first" (top 39) f fd) (B : Blt mg) (c_coins_with : Can P w K mg base CX0 1 "coins_with" ["marks", "wanted"] spCoins) : FnOk P w K mg base CX0 2 f fd ["marks"] spPf := by
  refine F.ok sc_paired_first (fun vs H Q E h => ?_) (fun cdv A outer s H vs Q E hr h => ?_)
  · obtain ⟨z, rfl, _⟩ := h; rfl
  · obtain ⟨z, rfl, hz, q⟩ := h
    refine ⟨_, (pss_cons (ps_set (i := 1) sc_paired_first.nd rfl (Or.inl rfl) (pe_lst pa_nil))
      (pss_cons (ps_set (i := 2) sc_paired_first.nd rfl (Or.inl rfl) (pe_lst pa_nil))
      (pss_cons (ps_for PassesOwn.never rfl (pi_tup (pe_tup (pa_cons pe_str (pa_cons pe_str (pa_cons pe_str pa_nil))))) (pg_name (i := 3) sc_paired_first.nd rfl (Or.inl rfl)) (pss_cons (ps_set (i := 4) sc_paired_first.nd rfl (Or.inl rfl) (pe_can c_coins_with (hr.mono (by decide)) pass0 (pa_cons (pv 0) (pa_cons (pv 3) pa_nil)))) (pss_cons (ps_set (i := 5) sc_paired_first.nd rfl (Or.inl rfl) (pe_op op_sub (pe_callB call_len_seq (by rfl) B.len boot_lenB (pa_cons (pv 4) pa_nil)) (pe_op op_mod (pe_callB call_len_seq (by rfl) B.len boot_lenB (pa_cons (pv 4) pa_nil)) pe_int))) (pss_cons (ps_expr (pe_bm PySem.F.plainAttrs_list PySem.F.slot_list_extend PySem.F.type_list_extend mt_extend (pv 1) (pa_cons (pe_slice sl_list (pv 4) po_none (po_some (pv 5))) pa_nil))) (pss_one (ps_expr (pe_bm PySem.F.plainAttrs_list PySem.F.slot_list_extend PySem.F.type_list_extend mt_extend (pv 2) (pa_cons (pe_slice sl_list (pv 4) (po_some (pv 5)) po_none) pa_nil))))))))
      (pss_one (ps_ret (pe_op op_cat (pv 1) (pv 2))))))), ?_⟩
    refine ⟨by show 0 ≤ sizeLine; decide, fun p hp => ⟨by show 0 ≤ sizeLine; decide, fun a ha => ⟨by show 3 ≤ sizeLine; decide, fun t ht => ⟨t, rfl, ⟨_, SqT.of upd_same⟩, ?_⟩⟩⟩⟩
    have hpa : p ≠ a := fun e => by rw [← e, upd_same] at ha; cases ha
    have hpt : p ≠ t := fun e => by rw [← e, upd_ne hpa, upd_same] at ht; cases ht
    have hat : a ≠ t := fun e => by rw [← e, upd_same] at ht; cases ht
    have Ha : H a = none := by rw [upd_ne (Ne.symm hpa)] at ha; exact ha
    have Ht : H t = none := by rw [upd_ne (Ne.symm hat), upd_ne (Ne.symm hpt)] at ht; exact ht
    have z1 : ∀ i, (prsI z i).length ≤ 900 := fun i => by have := prsI_len z i; omega
    have z2 : ∀ i, (alsI z i).length ≤ 900 := fun i => by have := alsI_len z i; omega
    refine for_tup (K := K) (a := t) (xs := [.str "e", .str "h", .str "l"]) (fun i σ H4 => Same H H4 ∧ H4 t = some (.tup [.str "e", .str "h", .str "l"]) ∧ H4 p = some (.lst ((prsI z i).map V.int)) ∧ H4 a = some (.lst ((alsI z i).map V.int)) ∧ ∃ v3 v4 v5, σ = [some (.str z), some (.ref p), some (.ref a), v3, v4, v5]) ?_ ?_ ?_ ?_
    · refine ⟨((Same.upd0 hp).upd ha).upd ht, upd_same, ?_, ?_, none, none, none, rfl⟩
      · rw [upd_ne hpt, upd_ne hpa, upd_same]; rfl
      · rw [upd_ne hat, upd_same]; rfl
    · rintro i σ H4 _ ⟨_, e, _⟩; exact SqT.of e
    · rintro i x σ H4 hx ⟨s4, et, ep, ea, v3, v4, v5, rfl⟩
      obtain ⟨c, rfl, h1, h2⟩ := three_s hx
      refine ⟨_, rfl, _, rfl, z, c, rfl, by omega, fun b H5 hb s5 eb => ?_⟩
      refine ⟨_, rfl, b, _, rfl, .inl (SqL.of eb), _, rfl, b, _, rfl, .inl (SqL.of eb), _, _, rfl, rfl, (by decide : (0 : Int) < 2), _, _, rfl, rfl, ?_⟩
      rw [List.length_map, cw_len]
      refine ⟨_, rfl, .inl ⟨rfl, _, SqL.of (s5 _ _ ep)⟩, _, rfl, _, rfl, _, rfl, b, _, rfl, SqL.of eb, fun d hd => ?_⟩
      rw [cut_to]
      have nb : ∀ {x : Addr} {u : HO}, H5 x = some u → x ≠ d := fun {x u} e => ne_of_none e hd
      have pd : p ≠ d := nb (s5 _ _ ep)
      have ad : a ≠ d := nb (s5 _ _ ea)
      have td : t ≠ d := nb (s5 _ _ et)
      have bd : b ≠ d := nb eb
      have pb : p ≠ b := ne_of_none ep hb
      have ab : a ≠ b := ne_of_none ea hb
      refine ⟨p, d, _, _, rfl, rfl, by rw [upd_ne pd]; exact s5 _ _ ep, upd_same, ?_, ?_⟩
      · rw [List.length_map, List.length_map]
        have := z1 i; have := z1 (i + 1); rw [h1, List.length_append] at this
        exact Nat.le_trans (show _ ≤ 900 by omega) (by decide)
      have H6a : upd (upd H5 d (.lst ((prs z c).map V.int))) p (.lst ((prsI z i).map V.int ++ (prs z c).map V.int)) a = some (.lst ((alsI z i).map V.int)) := by rw [upd_ne (Ne.symm hpa), upd_ne ad]; exact s5 _ _ ea
      have H6b : upd (upd H5 d (.lst ((prs z c).map V.int))) p (.lst ((prsI z i).map V.int ++ (prs z c).map V.int)) b = some (.lst ((cw z c).map V.int)) := by rw [upd_ne (Ne.symm pb), upd_ne bd]; exact eb
      have H6p : upd (upd H5 d (.lst ((prs z c).map V.int))) p (.lst ((prsI z i).map V.int ++ (prs z c).map V.int)) p = some (.lst ((prsI z (i + 1)).map V.int)) := by rw [upd_same, h1, List.map_append]
      have H6t : upd (upd H5 d (.lst ((prs z c).map V.int))) p (.lst ((prsI z i).map V.int ++ (prs z c).map V.int)) t = some (.tup [.str "e", .str "h", .str "l"]) := by rw [upd_ne (Ne.symm hpt), upd_ne td]; exact s5 _ _ et
      have H6s : Same H (upd (upd H5 d (.lst ((prs z c).map V.int))) p (.lst ((prsI z i).map V.int ++ (prs z c).map V.int))) := ((s4.trans s5).upd hd).put' hp
      generalize upd (upd H5 d (.lst ((prs z c).map V.int))) p (.lst ((prsI z i).map V.int ++ (prs z c).map V.int)) = H6 at *
      refine ⟨_, rfl, .inl ⟨rfl, _, SqL.of H6a⟩, _, rfl, _, rfl, _, rfl, b, _, rfl, SqL.of H6b, fun g hg => ?_⟩
      rw [cut_from]
      have pg : p ≠ g := ne_of_none H6p hg
      have ag : a ≠ g := ne_of_none H6a hg
      have tg : t ≠ g := ne_of_none H6t hg
      refine ⟨a, g, _, _, rfl, rfl, by rw [upd_ne ag]; exact H6a, upd_same, ?_, ?_⟩
      · rw [List.length_map, List.length_map]
        have := z2 i; have := z2 (i + 1); rw [h2, List.length_append] at this
        exact Nat.le_trans (show _ ≤ 900 by omega) (by decide)
      refine ⟨(H6s.upd hg).put' Ha, ?_, ?_, ?_, _, _, _, rfl⟩
      · rw [upd_ne (Ne.symm hat), upd_ne tg]; exact H6t
      · rw [upd_ne hpa, upd_ne pg]; exact H6p
      · rw [upd_same, h2, List.map_append]
    · rintro σ H4 ⟨s4, et, ep, ea, v3, v4, v5, rfl⟩
      refine ⟨_, rfl, _, rfl, p, a, _, _, rfl, rfl, ep, ea, ?_, fun g hg => ?_⟩
      · rw [List.length_map, List.length_map]
        have := z1 3; have := z2 3
        exact Nat.le_trans (show _ ≤ 1800 by simp at *; omega) (by decide)
      · refine q g _ ?_ (s4.upd hg) ?_
        · cases e : H g with
          | none => rfl
          | some u => rw [s4 _ _ e] at hg; cases hg
        · rw [upd_same, ← List.map_append]
          have e1 : prsI z 3 = prs z 101 ++ (prs z 104 ++ prs z 108) := by simp [prsI]
          have e2 : alsI z 3 = als z 101 ++ (als z 104 ++ als z 108) := by simp [alsI]
          show some (HO.lst ((prsI z 3 ++ alsI z 3).map V.int)) = _
          rw [e1, e2]; rfl
def spKept : Sp := fun vs H Q _ => ∃ (z : Str) (M : Nat), vs = [.str z, .int M] ∧ 0 < M ∧ Q (.int (keepF z M)) H
theorem sc_kept_off : FnScope ["marks", "most"] ["marks", "most"] (defScope (top 40)) := ⟨rfl, rfl, rfl, by decide +kernel, rfl, by decide +kernel, by decide +kernel⟩
theorem ok_kept {f : Addr} {fd : FuncData} (F : Fun K "kept_off" "kept_off" (top 40) f fd) : FnOk P w K mg base CX0 1 f fd ["marks", "most"] spKept := by
  refine F.ok sc_kept_off (fun vs H Q E h => ?_) (fun cdv A outer s H vs Q E hr h => ?_)
  · obtain ⟨z, M, rfl, _⟩ := h; rfl
  · obtain ⟨z, M, rfl, hM, q⟩ := h
    refine ⟨_, (pss_one (ps_ret (pe_ifExp (pt_cmpR op_in_str pe_str (pv 0) rfl) (pe_op op_fdiv (pe_op op_sub (pv 1) pe_int) pe_int) (pv 1)))), ?_⟩
    refine ⟨_, rfl, _, _, rfl, rfl, _, rfl, ?_⟩
    rw [s_e, PySem.StrLaws.found_one]
    unfold keepF at q
    by_cases h : 101 ∈ z.cps.toList
    · rw [if_pos h] at q
      refine tru (by simpa using h) ⟨_, rfl, _, _, rfl, rfl, _, _, rfl, rfl, ⟨by decide, by decide⟩, ?_⟩
      have e : ((M : Int) - 1) / 2 = (((M - 1) / 2 : Nat) : Int) := by omega
      show Q (.int (((M : Int) - 1) / 2)) H
      rw [e]; exact q
    · rw [if_neg h] at q
      exact fls (by simpa using h) ⟨_, rfl, q⟩
end
end Ks
end
section
namespace Ks
open PySem L2 Mir PyProof.Rows
structure AA where
  ans : Addr
  heavy : Addr
  light : Addr
  nothing : Addr
  opn : Addr
structure ACls (K : PySem.W.Frag) (C : Addr) : Prop where
  cl : Cls K C
  ha : PySem.W.findIn K (.ref C) "__class__" = some (some (.builtin "object.__class__"))
  hm : PySem.W.mroIn K C (.type "object") = some true
structure Anss (K : PySem.W.Frag) (mg : Str → Option Value) (e : AA) : Prop where
  m_Answer : mg "Answer" = some (.ref e.ans)
  m_Heavy : mg "Heavy" = some (.ref e.heavy)
  m_Light : mg "Light" = some (.ref e.light)
  m_Nothing : mg "Nothing" = some (.ref e.nothing)
  m_Open : mg "Open" = some (.ref e.opn)
  cH : ACls K e.heavy
  cL : ACls K e.light
  cN : ACls K e.nothing
  cO : ACls K e.opn
  nHc : NoAttr K e.heavy "coin"
  nLc : NoAttr K e.light "coin"
  nOl : NoAttr K e.opn "left"
  nOr : NoAttr K e.opn "right"
  nOm : NoAttr K e.opn "many"
  mN : Mk0 K e.nothing
  hn : PySem.W.specialIn K (.builtin "object.__class__") "__get__" = some (some (.builtin "getset_descriptor.__get__"))
  htk : PySem.W.takesIn K (.builtin "object.__class__") = some true
  k1 : PySem.W.kitOne K (.ref e.heavy) (.ref e.heavy) = some true
  k2 : PySem.W.kitOne K (.ref e.heavy) (.ref e.light) = some false
  k3 : PySem.W.kitOne K (.ref e.heavy) (.ref e.nothing) = some false
  k4 : PySem.W.kitOne K (.ref e.heavy) (.ref e.opn) = some false
  k5 : PySem.W.kitOne K (.ref e.light) (.ref e.heavy) = some false
  k6 : PySem.W.kitOne K (.ref e.light) (.ref e.light) = some true
  k7 : PySem.W.kitOne K (.ref e.light) (.ref e.nothing) = some false
  k8 : PySem.W.kitOne K (.ref e.light) (.ref e.opn) = some false
  k9 : PySem.W.kitOne K (.ref e.nothing) (.ref e.heavy) = some false
  ka : PySem.W.kitOne K (.ref e.nothing) (.ref e.light) = some false
  kb : PySem.W.kitOne K (.ref e.nothing) (.ref e.nothing) = some true
  kc : PySem.W.kitOne K (.ref e.nothing) (.ref e.opn) = some false
  kd : PySem.W.kitOne K (.ref e.opn) (.ref e.heavy) = some false
  ke : PySem.W.kitOne K (.ref e.opn) (.ref e.light) = some false
  kf : PySem.W.kitOne K (.ref e.opn) (.ref e.nothing) = some false
  kg : PySem.W.kitOne K (.ref e.opn) (.ref e.opn) = some true
theorem Anss.ty {K : PySem.W.Frag} {mg : Str → Option Value} {e : AA} (A : Anss K mg e) {C : Addr} (c : ACls K C) {H : Hp} {a dx : Addr} {fs : List (Str × V)} (h : H a = some (.ins C dx fs)) : TyOf K H (.ref a) (.ref C) := .ins h c.cl c.ha A.hn A.htk c.hm
theorem ref_only {a : Addr} : ∀ u, RelV (V.ref a) u → u = Value.ref a := fun u h => h
section
variable {P : Program} {w : World} {K : PySem.W.Frag} {mg : Str → Option Value} {base : Heap}
def spIni (C : Addr) : Sp := fun vs H Q _ => ∃ (x dx : Addr) (v : V), vs = [.ref x, v] ∧ H x = some (.ins C dx []) ∧ Q .non (upd H x (.ins C dx [("coin", v)]))
theorem sc_iniH : FnScope ["self", "coin"] ["self", "coin"] (defScope (inClass (top 33) 0)) := ⟨rfl, rfl, rfl, by decide +kernel, rfl, by decide +kernel, by decide +kernel⟩
theorem ok_iniH {f : Addr} {fd : FuncData} {C : Addr} (F : Fun K "__init__" "Heavy.__init__" (inClass (top 33) 0) f fd) (c : Cls K C) (n : NoAttr K C "coin") : FnOk P w K mg base CX0 1 f fd ["self", "coin"] (spIni C) := by
  refine F.ok sc_iniH (fun vs H Q E h => ?_) (fun cdv A outer s H vs Q E hr h => ?_)
  · obtain ⟨x, dx, v, rfl, _⟩ := h; rfl
  · obtain ⟨x, dx, v, rfl, hx, q⟩ := h
    refine ⟨_, pss_one (ps_fld (pv 0) (pv 1) rfl), ?_⟩
    exact ⟨_, rfl, _, rfl, x, C, dx, [], rfl, hx, c, n, by decide, q⟩
theorem sc_iniL : FnScope ["self", "coin"] ["self", "coin"] (defScope (inClass (top 34) 0)) := ⟨rfl, rfl, rfl, by decide +kernel, rfl, by decide +kernel, by decide +kernel⟩
theorem ok_iniL {f : Addr} {fd : FuncData} {C : Addr} (F : Fun K "__init__" "Light.__init__" (inClass (top 34) 0) f fd) (c : Cls K C) (n : NoAttr K C "coin") : FnOk P w K mg base CX0 1 f fd ["self", "coin"] (spIni C) := by
  refine F.ok sc_iniL (fun vs H Q E h => ?_) (fun cdv A outer s H vs Q E hr h => ?_)
  · obtain ⟨x, dx, v, rfl, _⟩ := h; rfl
  · obtain ⟨x, dx, v, rfl, hx, q⟩ := h
    refine ⟨_, pss_one (ps_fld (pv 0) (pv 1) rfl), ?_⟩
    exact ⟨_, rfl, _, rfl, x, C, dx, [], rfl, hx, c, n, by decide, q⟩
def opF (a b : Addr) (m : V) : List (Str × V) := [("left", .ref a), ("right", .ref b), ("many", m)]
def spIniO (C : Addr) : Sp := fun vs H Q _ => ∃ (x dx a b : Addr) (l r : List V) (m : V), vs = [.ref x, .ref a, .ref b, m] ∧ H x = some (.ins C dx []) ∧ H a = some (.lst l) ∧ H b = some (.lst r) ∧
  ∀ (c d : Addr) (H' : Hp), H c = none → H d = none → c ≠ d → (∀ y u, y ≠ x → H y = some u → H' y = some u) → H' c = some (.lst l) → H' d = some (.lst r) → H' x = some (.ins C dx (opF c d m)) → Q .non H'
theorem sc_iniO : FnScope ["self", "left", "right", "many"] ["self", "left", "right", "many"] (defScope (inClass (top 36) 0)) := ⟨rfl, rfl, rfl, by decide +kernel, rfl, by decide +kernel, by decide +kernel⟩
theorem ok_iniO {f : Addr} {fd : FuncData} {C : Addr} (F : Fun K "__init__" "Open.__init__" (inClass (top 36) 0) f fd) (B : Blt mg) (k : Cls K C) (n1 : NoAttr K C "left") (n2 : NoAttr K C "right") (n3 : NoAttr K C "many") : FnOk P w K mg base CX0 1 f fd ["self", "left", "right", "many"] (spIniO C) := by
  refine F.ok sc_iniO (fun vs H Q E h => ?_) (fun cdv A outer s H vs Q E hr h => ?_)
  · obtain ⟨x, dx, a, b, l, r, m, rfl, _⟩ := h; rfl
  · obtain ⟨x, dx, a, b, l, r, m, rfl, hx, ha, hb, q⟩ := h
    refine ⟨_, pss_cons (ps_fld (pv 0) (pe_callTy call_list_of (by rfl) B.list boot_listT (pa_cons (pv 1) pa_nil)) rfl) (pss_cons (ps_fld (pv 0) (pe_callTy call_list_of (by rfl) B.list boot_listT (pa_cons (pv 2) pa_nil)) rfl) (pss_one (ps_fld (pv 0) (pv 3) rfl))), ?_⟩
    refine ⟨_, rfl, a, _, rfl, .inl (SqL.of ha), fun c hc => ?_⟩
    have xc : x ≠ c := ne_of_none hx hc
    have bc : b ≠ c := ne_of_none hb hc
    have xb : b ≠ x := fun e => by rw [e, hx] at hb; cases hb
    refine ⟨_, rfl, x, C, dx, [], rfl, by rw [upd_ne xc]; exact hx, k, n1, by decide, ?_⟩
    refine ⟨_, rfl, b, _, rfl, .inl (SqL.of (by rw [upd_ne xb, upd_ne bc]; exact hb)), fun d hd => ?_⟩
    have xd : x ≠ d := fun e => by rw [← e, upd_same] at hd; cases hd
    have cd : c ≠ d := fun e => by rw [← e, upd_ne (Ne.symm xc), upd_same] at hd; cases hd
    have Hd : H d = none := by rw [upd_ne (Ne.symm xd), upd_ne (Ne.symm cd)] at hd; exact hd
    refine ⟨_, rfl, x, C, dx, _, rfl, by rw [upd_ne xd, upd_same], k, n2, by simp [putF], ?_⟩
    refine ⟨_, rfl, _, rfl, x, C, dx, _, rfl, upd_same, k, n3, by simp [putF]; split <;> simp, ?_⟩
    refine q c d _ hc Hd cd (fun y u hy e => ?_) ?_ ?_ ?_
    · rw [upd_ne hy, upd_ne hy, upd_ne (ne_of_none e Hd), upd_ne hy, upd_ne (ne_of_none e hc)]; exact e
    · rw [upd_ne (Ne.symm xc), upd_ne (Ne.symm xc), upd_ne cd, upd_ne (Ne.symm xc), upd_same]
    · rw [upd_ne (Ne.symm xd), upd_ne (Ne.symm xd), upd_same]
    · rw [upd_same]; rfl
end
end Ks
end
section
namespace L2
open PySem PySem.Spec PyProof.Rows
def CanM (P : Program) (w : World) (K : PySem.W.Frag) (mg : Str → Option Value) (base : Heap) (k : Nat) (x : Str) (C : Addr) (ps : List Str) (sp : Sp) : Prop :=
  ∃ f fd, mg x = some (.ref C) ∧ Mk K C f ∧ Binds K fd ps [] ∧ FnOk P w K mg base CX0 k f fd ps sp
theorem pe_canM {X : Cx} {k : Nat} {x : Str} {C : Addr} {ps : List Str} {sp : Sp} {e : Expr} {es : List Expr} {t : TA} {p pos : Pos} (M : CanM X.prog X.w X.K X.mg X.base k x C ps sp) (hr : Room (k + 1) X.A) (ha : PA X (e :: es) t) (hg : Gl X x := by rfl)
    (hdb : (x == ("__debug__" : Str)) = false := by decide) (he : starEach (e :: es) X.env = (false, eval e X.env) :: starEach es X.env := by rfl) (hpl : (backTo pos (starEach es X.env)).any (·.1) = false := by rfl) : PE X (.Call (.Name x p) (e :: es) [] pos) (tMake C sp [] E0 t) := by
  obtain ⟨f, fd, h1, h2, h3, h4⟩ := M
  exact pe_make h2 h4 hr hg h1 h3 .nil pass0 ha hdb he hpl
theorem Same.none {H H' : Hp} {a : Addr} (s : Same H H') (h : H' a = none) : H a = none := by
  cases e : H a with
  | none => rfl
  | some u => rw [s _ _ e] at h; cases h
end L2
namespace Ks
open PySem L2 Mir PyProof.Rows
section
variable {P : Program} {w : World} {K : PySem.W.Frag} {mg : Str → Option Value} {base : Heap}
structure OpenAns (e : AA) (z : Str) (m : Nat) (H H' : Hp) (x dx a b : Addr) (l r : List Int) : Prop where
  nx : H x = none
  na : H a = none
  nb : H b = none
  ab : a ≠ b
  ox : H' x = some (.ins e.opn dx (opF a b (.int m)))
  oa : H' a = some (.lst (l.map V.int))
  ob : H' b = some (.lst (r.map V.int))
  wg : Wg z.length l r
  ll : l.length < 64
  jd : ∀ o, jd z l r o ≤ 3 ^ (m - 1)
def spFirst (e : AA) : Sp := fun vs H Q _ => ∃ (z : Str) (m : Nat), vs = [.str z, .int m] ∧ MkOk z ∧ z.length < 64 ∧ IsFew (csF z) m ∧ 0 < m ∧
  ∀ (x dx a b : Addr) (l r : List Int) (H' : Hp), Same H H' → OpenAns e z m H H' x dx a b l r → Q (.ref x) H'
theorem sc_first_weighing : FnScope ["marks", "many", "coins", "on", "left", "right"] ["marks", "many"] (defScope (top 41)) := ⟨rfl, rfl, rfl, by decide +kernel, rfl, by decide +kernel, by decide +kernel⟩
theorem ok_first {f : Addr} {fd : FuncData} {e : AA} (F : Fun K "first_weighing" "first_weighing" (top 41) f fd) (B : Blt mg) (c_paired_first : Can P w K mg base CX0 2 "paired_first" ["marks"] spPf) (c_kept_off : Can P w K mg base CX0 1 "kept_off" ["marks", "most"] spKept)
    (c_most_cases : Can P w K mg base CX0 1 "most_cases" ["weighings"] spMost) (c_Open : CanM P w K mg base 1 "Open" e.opn ["self", "left", "right", "many"] (spIniO e.opn)) : FnOk P w K mg base CX0 3 f fd ["marks", "many"] (spFirst e) := by
  refine F.ok sc_first_weighing (fun vs H Q E h => ?_) (fun cdv A outer s H vs Q E hr h => ?_)
  · obtain ⟨z, m, rfl, _⟩ := h; rfl
  · obtain ⟨z, m, rfl, M, hz, Fw, hm, q⟩ := h
    refine ⟨_, (pss_cons (ps_set (i := 2) sc_first_weighing.nd rfl (Or.inl rfl) (pe_can c_paired_first (hr.mono (by decide)) pass0 (pa_cons (pv 0) pa_nil)))
      (pss_cons (ps_set (i := 3) sc_first_weighing.nd rfl (Or.inl rfl) (pe_op op_sub (pe_callB call_len_seq (by rfl) B.len boot_lenB (pa_cons (pv 2) pa_nil)) (pe_can c_kept_off (hr.mono (by decide)) pass0 (pa_cons (pv 0) (pa_cons (pe_can c_most_cases (hr.mono (by decide)) pass0 (pa_cons (pe_op op_sub (pv 1) pe_int) pa_nil)) pa_nil)))))
      (pss_cons (ps_set (i := 4) sc_first_weighing.nd rfl (Or.inl rfl) (pe_slice3 sl_ints3 (pv 2) (po_some pe_int) (po_some (pv 3)) (po_some pe_int)))
      (pss_cons (ps_set (i := 5) sc_first_weighing.nd rfl (Or.inl rfl) (pe_slice3 sl_ints3 (pv 2) (po_some pe_int) (po_some (pv 3)) (po_some pe_int)))
      (pss_cons (ps_if (pt_cmpR op_gt (pe_callB call_len_seq (by rfl) B.len boot_lenB (pa_cons (pv 4) pa_nil)) (pe_callB call_len_seq (by rfl) B.len boot_lenB (pa_cons (pv 5) pa_nil)) (nomark _)) (pss_one (ps_expr (pe_bm PySem.F.plainAttrs_list PySem.F.slot_list_append PySem.F.type_list_append mt_append (pv 5) (pa_cons (pe_callB call_len_str (by rfl) B.len boot_lenB (pa_cons (pv 0) pa_nil)) pa_nil)))) pss_nil)
      (pss_one (ps_ret (pe_canM c_Open (hr.mono (by decide)) (pa_cons (pe_callB call_sortedL (by rfl) B.sorted boot_sortedB (pa_cons (pv 4) pa_nil)) (pa_cons (pe_callB call_sortedL (by rfl) B.sorted boot_sortedB (pa_cons (pv 5) pa_nil)) (pa_cons (pv 1) pa_nil))))))))))), ?_⟩
    have mle : m ≤ 201 := Nat.le_trans Fw.le (cs_le M)
    refine ⟨_, rfl, z, rfl, by omega, fun p H1 hp s1 ep => ?_⟩
    refine ⟨_, rfl, p, _, rfl, .inl (SqL.of ep), _, rfl, _, rfl, _, _, rfl, rfl, _, rfl, by omega, by omega, z, _, rfl, Nat.pos_of_ne_zero (by have := pow3_odd ((m : Int) - 1).toNat; omega), _, _, rfl, rfl, ?_⟩
    obtain ⟨b1, b2, b3, b4⟩ := first_jd (on := (pfF z).length - keepF z (3 ^ (m - 1))) M Fw hm rfl
    have em : ((m : Int) - 1).toNat = m - 1 := by omega
    rw [em, List.length_map, show (fun i j : Int => V.int (i - j)) ((pfF z).length : Int) ((keepF z (3 ^ (m - 1)) : Nat) : Int) = V.int (((pfF z).length - keepF z (3 ^ (m - 1)) : Nat) : Int) from congrArg V.int (by omega)]
    generalize hon : (pfF z).length - keepF z (3 ^ (m - 1)) = on at *
    have pfl : (pfF z).length < 64 := by
      rw [pf_len]; have := signs_count M.sg; rw [str_len] at hz; unfold cntS; omega
    refine ⟨_, rfl, _, rfl, _, rfl, _, rfl, _, rfl, p, pfF z, rfl, SqL.of ep, by decide, fun a ha => ?_⟩
    rw [pick_ev _ _ b2]
    have pa' : p ≠ a := ne_of_none ep ha
    have ep2 : upd H1 a (.lst ((evs ((pfF z).take on)).map V.int)) p = some (.lst ((pfF z).map V.int)) := by rw [upd_ne pa']; exact ep
    refine ⟨_, rfl, _, rfl, _, rfl, _, rfl, _, rfl, p, pfF z, rfl, SqL.of ep2, by decide, fun b hb => ?_⟩
    rw [pick_od _ _ b2]
    have ab : a ≠ b := fun e => by rw [← e, upd_same] at hb; cases hb
    have Ha : H1 a = none := ha
    have Hb : H1 b = none := by rw [upd_ne (Ne.symm ab)] at hb; exact hb
    have l1 := evs_len ((pfF z).take on)
    have l2 := ods_len ((pfF z).take on)
    have l3 : ((pfF z).take on).length < 64 := by rw [List.length_take]; omega
    have ea : upd (upd H1 a (.lst ((evs ((pfF z).take on)).map V.int))) b (.lst ((ods ((pfF z).take on)).map V.int)) a = some (.lst ((evs ((pfF z).take on)).map V.int)) := by rw [upd_ne ab, upd_same]
    have fin : ∀ (bes : List Int) (H2 : Hp), bes = (if (ods ((pfF z).take on)).length < (evs ((pfF z).take on)).length then [(z.length : Int)] else []) → Same H1 H2 → H2 a = some (.lst ((evs ((pfF z).take on)).map V.int)) → H2 b = some (.lst ((ods ((pfF z).take on) ++ bes).map V.int)) →
        tMake e.opn (spIniO e.opn) [] E0 (tCons (tCB (fun xs H Q => ∃ (a : Addr) (ns : List Int), xs = [V.ref a] ∧ SqL K H a (ns.map V.int) ∧ ns.length < 64 ∧ ∀ (p : Addr) (ms : List Int), H p = none → List.Perm ms ns → ms.Pairwise (· ≤ ·) → Q (.ref p) (upd H p (.lst (ms.map V.int)))) (tCons (tVar 4) tNil)) (tCons (tCB (fun xs H Q => ∃ (a : Addr) (ns : List Int), xs = [V.ref a] ∧ SqL K H a (ns.map V.int) ∧ ns.length < 64 ∧ ∀ (p : Addr) (ms : List Int), H p = none → List.Perm ms ns → ms.Pairwise (· ≤ ·) → Q (.ref p) (upd H p (.lst (ms.map V.int)))) (tCons (tVar 5) tNil)) (tCons (tVar 1) tNil)))
          [some (.str z), some (.int m), some (.ref p), some (.int on), some (.ref a), some (.ref b)] H2 Q := by
      intro bes H2 hbes s2 e2a e2b
      have lb : bes.length ≤ 1 := by rw [hbes]; split <;> simp
      refine ⟨_, rfl, a, _, rfl, SqL.of e2a, by omega, fun c l hc pl' sl => ?_⟩
      have bc : b ≠ c := ne_of_none e2b hc
      refine ⟨_, rfl, b, _, rfl, SqL.of (by rw [upd_ne bc]; exact e2b), by rw [List.length_append]; omega, fun d r hd pr sr => ?_⟩
      have cd : c ≠ d := fun e => by rw [← e, upd_same] at hd; cases hd
      have Hd : H2 d = none := by rw [upd_ne (Ne.symm cd)] at hd; exact hd
      refine ⟨_, rfl, fun x dx hx hdx ne => ?_⟩
      have s3 : Same H2 (upd (upd H2 c (.lst (l.map V.int))) d (.lst (r.map V.int))) := (Same.upd0 hc).upd hd
      have e3c : upd (upd H2 c (.lst (l.map V.int))) d (.lst (r.map V.int)) c = some (.lst (l.map V.int)) := by rw [upd_ne cd, upd_same]
      have e3d : upd (upd H2 c (.lst (l.map V.int))) d (.lst (r.map V.int)) d = some (.lst (r.map V.int)) := upd_same
      generalize upd (upd H2 c (.lst (l.map V.int))) d (.lst (r.map V.int)) = H3 at *
      have k : ∀ y u, H3 y = some u → upd (upd H3 dx (.own x)) x (.ins e.opn dx []) y = some u := fun y u h => by rw [upd_ne (ne_of_none h hx), upd_ne (ne_of_none h hdx)]; exact h
      refine ⟨x, dx, c, d, _, _, _, rfl, upd_same, k _ _ e3c, k _ _ e3d, fun c' d' H' hc' hd' cd' keep ec' ed' ex => ⟨rfl, ?_⟩⟩
      have all : Same H H3 := (s1.trans s2).trans s3
      have nn : ∀ y, upd (upd H3 dx (.own x)) x (.ins e.opn dx []) y = none → H3 y = none := fun y h => by
        cases q3 : H3 y with
        | none => rfl
        | some u => rw [k y u q3] at h; cases h
      obtain ⟨W, J⟩ := first_ok (on := on) M Fw hm hon.symm pl' sl pr sr hbes
      refine q x dx c' d' l r H' (fun y u h => keep y u (ne_of_none (all _ _ h) hx) (k _ _ (all _ _ h))) ⟨all.none hx, all.none (nn _ hc'), all.none (nn _ hd'), cd', ex, ec', ed', W, ?_, J⟩
      rw [pl'.length_eq]; omega
    refine ⟨_, rfl, a, _, rfl, .inl (SqL.of ea), _, rfl, b, _, rfl, .inl (SqL.of upd_same), _, _, rfl, rfl, _, rfl, ?_⟩
    rw [List.length_map, List.length_map]
    by_cases hgt : (ods ((pfF z).take on)).length < (evs ((pfF z).take on)).length
    · refine tru (decide_eq_true (by omega)) ?_
      refine ⟨_, rfl, .inl ⟨rfl, _, SqL.of upd_same⟩, _, rfl, z, rfl, Nat.le_trans (Nat.le_of_lt hz) (by decide), b, _, _, rfl, rfl, upd_same, Nat.lt_of_le_of_lt (show _ ≤ 64 by rw [List.length_map]; omega) (by decide), ?_⟩
      refine fin [(z.length : Int)] _ (by rw [if_pos hgt]) (((Same.upd0 ha).upd hb).put' Hb) ?_ ?_
      · rw [upd_ne ab]; exact ea
      · rw [upd_same, List.map_append]; rfl
    · refine fls (decide_eq_false (by omega)) ?_
      refine fin [] _ (by rw [if_neg hgt]) ((Same.upd0 ha).upd hb) ea ?_
      rw [upd_same, List.append_nil]
end
end Ks
end
section
namespace Ks
open PySem L2 Mir PyProof.Rows
theorem first_ix {c : Nat} : ∀ (l : List Nat), c ∈ l → ∃ i : Nat, l[i]? = some c ∧ ∀ j : Nat, j < i → l[j]? ≠ some c
  | [], h => by simp at h
  | d :: l, h => by
    by_cases e : d = c
    · exact ⟨0, by rw [e]; rfl, fun j hj => by omega⟩
    · rcases List.mem_cons.mp h with q | q
      · exact absurd q.symm e
      · obtain ⟨i, h1, h2⟩ := first_ix l q
        refine ⟨i + 1, by simpa using h1, fun j hj => ?_⟩
        cases j with
        | zero => simpa using e
        | succ j => simpa using h2 j (by omega)
section
variable {P : Program} {w : World} {K : PySem.W.Frag} {mg : Str → Option Value} {base : Heap}
def coinF (i : Nat) : List (Str × V) := [("coin", .int i)]
structure TdAns (e : AA) (z : Str) (H : Hp) (Q : VK) : Prop where
  op : ∀ (m : Nat) (x dx a b : Addr) (l r : List Int) (H' : Hp), IsFew (csF z) m → 0 < m → Same H H' → OpenAns e z m H H' x dx a b l r → Q (.ref x) H'
  hv : ∀ (i : Nat) (x dx : Addr) (H' : Hp), csF z = 1 → z.cps.toList[i]? = some 104 → H x = none → Same H H' → H' x = some (.ins e.heavy dx (coinF i)) → Q (.ref x) H'
  lt : ∀ (i : Nat) (x dx : Addr) (H' : Hp), csF z = 1 → 104 ∉ z.cps.toList → z.cps.toList[i]? = some 108 → H x = none → Same H H' → H' x = some (.ins e.light dx (coinF i)) → Q (.ref x) H'
  no : ∀ (x dx : Addr) (H' : Hp), csF z = 1 → allG z = true → H x = none → Same H H' → H' x = some (.ins e.nothing dx []) → Q (.ref x) H'
def spTd (e : AA) : Sp := fun vs H Q _ => ∃ (z : Str), vs = [.str z] ∧ MkOk z ∧ z.length < 64 ∧ TdAns e z H Q
theorem sc_told : FnScope ["marks", "many"] ["marks"] (defScope (top 42)) := ⟨rfl, rfl, rfl, by decide +kernel, rfl, by decide +kernel, by decide +kernel⟩
theorem ok_td {f : Addr} {fd : FuncData} {e : AA} (F : Fun K "told" "told" (top 42) f fd) (An : Anss K mg e) (c_fewest : Can P w K mg base CX0 3 "fewest" ["marks"] spFew) (c_first_weighing : Can P w K mg base CX0 3 "first_weighing" ["marks", "many"] (spFirst e))
    (c_Heavy : CanM P w K mg base 1 "Heavy" e.heavy ["self", "coin"] (spIni e.heavy)) (c_Light : CanM P w K mg base 1 "Light" e.light ["self", "coin"] (spIni e.light)) : FnOk P w K mg base CX0 4 f fd ["marks"] (spTd e) := by
  refine F.ok sc_told (fun vs H Q E h => ?_) (fun cdv A outer s H vs Q E hr h => ?_)
  · obtain ⟨z, rfl, _⟩ := h; rfl
  · obtain ⟨z, rfl, M, hz, q⟩ := h
    refine ⟨_, (pss_cons (ps_set (i := 1) sc_told.nd rfl (Or.inl rfl) (pe_can c_fewest (hr.mono (by decide)) pass0 (pa_cons (pv 0) pa_nil)))
      (pss_cons (ps_if (pt_cmpR op_gt (pv 1) pe_int (nomark _)) (pss_one (ps_ret (pe_can c_first_weighing (hr.mono (by decide)) pass0 (pa_cons (pv 0) (pa_cons (pv 1) pa_nil))))) pss_nil)
      (pss_cons (ps_if (pt_cmpR op_in_str pe_str (pv 0) rfl) (pss_one (ps_ret (pe_canM c_Heavy (hr.mono (by decide)) (pa_cons (pe_bm PySem.F.plainAttrs_str PySem.F.slot_str_index PySem.F.type_str_index mt_sindex (pv 0) (pa_cons pe_str pa_nil)) pa_nil)))) pss_nil)
      (pss_cons (ps_if (pt_cmpR op_in_str pe_str (pv 0) rfl) (pss_one (ps_ret (pe_canM c_Light (hr.mono (by decide)) (pa_cons (pe_bm PySem.F.plainAttrs_str PySem.F.slot_str_index PySem.F.type_str_index mt_sindex (pv 0) (pa_cons pe_str pa_nil)) pa_nil)))) pss_nil)
      (pss_one (ps_ret (pe_make00 An.mN (by rfl) An.m_Nothing))))))), ?_⟩
    refine ⟨_, rfl, z, rfl, M, fun m Fw => ?_⟩
    refine ⟨_, rfl, _, _, rfl, rfl, _, rfl, ?_⟩
    by_cases hm : 0 < m
    · refine tru (decide_eq_true (by omega)) ?_
      exact ⟨_, rfl, _, rfl, z, m, rfl, M, hz, Fw, hm, fun x dx a b l r H' s' O => q.op m x dx a b l r H' Fw hm s' O⟩
    · have m0 : m = 0 := by omega
      subst m0
      have c1 : csF z = 1 := by have := Fw.1; have := cs_pos z; simp at *; omega
      refine fls (decide_eq_false (by omega)) ?_
      refine ⟨_, rfl, _, _, rfl, rfl, _, rfl, ?_⟩
      rw [s_h, PySem.StrLaws.found_one]
      by_cases h1 : 104 ∈ z.cps.toList
      · refine tru (by simpa using h1) ?_
        obtain ⟨i, i1, i2⟩ := first_ix _ h1
        refine ⟨_, rfl, rfl, z, 104, i, rfl, rfl, i1, i2, fun x dx hx hdx ne => ?_⟩
        refine ⟨x, dx, _, rfl, upd_same, rfl, ?_⟩
        exact q.hv i x dx _ c1 i1 hx (((Same.upd0 hdx).put' hx).put' hx) upd_same
      · refine fls (by simpa using h1) ?_
        refine ⟨_, rfl, _, _, rfl, rfl, _, rfl, ?_⟩
        rw [s_l, PySem.StrLaws.found_one]
        by_cases h2 : 108 ∈ z.cps.toList
        · refine tru (by simpa using h2) ?_
          obtain ⟨i, i1, i2⟩ := first_ix _ h2
          refine ⟨_, rfl, rfl, z, 108, i, rfl, rfl, i1, i2, fun x dx hx hdx ne => ?_⟩
          refine ⟨x, dx, _, rfl, upd_same, rfl, ?_⟩
          exact q.lt i x dx _ c1 h1 i1 hx (((Same.upd0 hdx).put' hx).put' hx) upd_same
        · refine fls (by simpa using h2) ?_
          intro x dx hx hdx ne
          exact q.no x dx _ c1 (allG_iff.mpr ⟨cnt0.mpr h1, cnt0.mpr h2⟩) hx ((Same.upd0 hdx).put' hx) upd_same
end
end Ks
end
section
namespace Ks
open PySem L2 Mir PyProof.Rows
section
variable {P : Program} {w : World} {K : PySem.W.Frag} {mg : Str → Option Value} {base : Heap}
def spAft (e : AA) : Sp := fun vs H Q _ => ∃ (z : Str) (m : Nat) (x dx a b : Addr) (l r : List Int) (o : P3), vs = [.str z, .ref x, .str (p3 o)] ∧ MkOk z ∧ H x = some (.ins e.opn dx (opF a b (.int m))) ∧ H a = some (.lst (l.map V.int)) ∧ H b = some (.lst (r.map V.int)) ∧
  Wg z.length l r ∧ l.length < 64 ∧ 0 < jd z l r o ∧ ∀ H', Same H H' → Q (.str (bh z l r o)) H'
theorem sc__law_after : FnScope ["_law_marks", "_law_found", "_law_outcome"] ["_law_marks", "_law_found", "_law_outcome"] (defScope (top 46)) := ⟨rfl, rfl, rfl, by decide +kernel, rfl, by decide +kernel, by decide +kernel⟩
theorem opF_l {a b : Addr} {v : V} : (opF a b v).lookup ("left" : Str) = some (.ref a) := by unfold opF; simp [List.lookup]
theorem opF_r {a b : Addr} {v : V} : (opF a b v).lookup ("right" : Str) = some (.ref b) := by
  have e : (("right" : Str) == ("left" : Str)) = false := by decide +kernel
  unfold opF; simp [List.lookup, e]
theorem opF_m {a b : Addr} {v : V} : (opF a b v).lookup ("many" : Str) = some v := by
  have e : (("many" : Str) == ("left" : Str)) = false := by decide +kernel
  have e2 : (("many" : Str) == ("right" : Str)) = false := by decide +kernel
  unfold opF; simp [List.lookup, e, e2]
theorem ok_after {f : Addr} {fd : FuncData} {e : AA} {Cn : Addr} (F : Fun K "_law_after" "_law_after" (top 46) f fd) (An : Anss K mg e) (c_behind : Can P w K mg base (CXE P w) 5 "behind" ["marks", "left", "right", "outcome"] (spBh Cn)) : FnOk P w K mg base CX0 6 f fd ["_law_marks", "_law_found", "_law_outcome"] (spAft e) := by
  refine F.ok sc__law_after (fun vs H Q E h => ?_) (fun cdv A outer s H vs Q E hr h => ?_)
  · obtain ⟨z, m, x, dx, a, b, l, r, o, rfl, _⟩ := h; rfl
  · obtain ⟨z, m, x, dx, a, b, l, r, o, rfl, M, hx, ha, hb, W, hl, hj, q⟩ := h
    refine ⟨_, pss_one (ps_tryQ fun pn E' => pss_one (ps_ret (pe_can c_behind (hr.mono (by decide)) passE0 (pa_cons (pv 0) (pa_cons (pe_fldK (K := K) rfl (pv 1) rfl) (pa_cons (pe_fldK (K := K) rfl (pv 1) rfl) (pa_cons (pv 2) pa_nil))))))), ?_⟩
    refine ⟨_, rfl, _, rfl, x, _, dx, _, _, rfl, hx, An.cO.cl, An.nOl, opF_l, _, rfl, x, _, dx, _, _, rfl, hx, An.cO.cl, An.nOr, opF_r, _, rfl, z, a, b, l, r, o, rfl, M, ha, hb, W, by omega, fun h0 => by omega, fun _ H' s' => q H' s'⟩
end
end Ks
end
section
namespace Ks
open PySem L2 Mir PyProof.Rows
theorem mul_one (c : Nat) (n : Nat) : (Txt.mul (ch1 c) (n : Int)).cps.toList = List.replicate n c := by
  unfold Txt.mul
  split
  · have : n = 0 := by omega
    subst this; rfl
  · split
    · rename_i h1 h2
      have h2' : ((n : Int) == 1) = true := by
        rcases Bool.or_eq_true_iff.mp h2 with z | z
        · exact z
        · have z' : (ch1 c).length = 0 := by simpa using z
          exact absurd z' (show ¬ (1 = 0) by decide)
      have : n = 1 := by have := beq_iff_eq.mp h2'; omega
      subst this; rfl
    · rw [Int.toNat_natCast]
      have go : ∀ (k : Nat) (acc : Array Nat), (List.foldl (fun x1 x2 => x1 ++ x2) acc (List.replicate k (ch1 c).cps)).toList = acc.toList ++ List.replicate k c := by
        intro k
        induction k with
        | zero => intro acc; simp
        | succ k ih =>
          intro acc
          rw [List.replicate_succ, List.foldl_cons, ih, Array.toList_append, List.append_assoc]
          rfl
      have := go n #[]
      simpa using this
theorem mulOk_1 {x : Str} (hx : x.length = 1) (n : Nat) (h : n ≤ 1000) : MulOk x (n : Int) := by
  refine ⟨by simp; omega, fun h1 _ h2 => ?_, fun h1 _ => ?_⟩
  · rw [hx] at h2
    have : (1 : Int) ≤ (2 ^ 63 - 1) / (n : Int) := by
      rw [Int.le_ediv_iff_mul_le (by omega)]; omega
    omega
  · rw [hx, Nat.one_mul, Int.toNat_natCast]
    unfold Builtin.Str.tooLong
    refine decide_eq_false ?_
    have : (1000 : Nat) ≤ sizeLine := by decide
    omega
theorem e_all (n : Nat) (h : n ≤ 100) : MkOk (Txt.mul (ch1 101) n) ∧ (Txt.mul (ch1 101) n).length = n ∧ ∀ (k : Int) (hv : Bool), -1 ≤ k → k < n → Alive (Txt.mul (ch1 101) n) k hv := by
  have key := mul_one 101 n
  have hl : (Txt.mul (ch1 101) (n : Int)).length = n := by rw [str_len, key]; simp
  refine ⟨⟨fun c hc => ?_, fun _ => ⟨fun hc => ?_, fun hc => ?_⟩, by rw [hl]; exact h⟩, hl, fun k hv h1 h2 => ?_⟩
  · rw [key] at hc; exact .inl (List.eq_of_mem_replicate hc)
  · rw [key] at hc; exact absurd (List.eq_of_mem_replicate hc) (by decide)
  · rw [key] at hc; exact absurd (List.eq_of_mem_replicate hc) (by decide)
  · by_cases hk : k = -1
    · refine .inl ⟨hk, allG_iff.mpr ⟨cnt0.mpr fun hc => ?_, cnt0.mpr fun hc => ?_⟩⟩
      · rw [key] at hc; exact absurd (List.eq_of_mem_replicate hc) (by decide)
      · rw [key] at hc; exact absurd (List.eq_of_mem_replicate hc) (by decide)
    · refine .inr ⟨by omega, 101, ?_, .inl rfl⟩
      rw [key, List.getElem?_replicate, if_pos (by omega)]
def Fnd (e : AA) (z : Str) (B : Nat) (x : Addr) (H : Hp) : Prop :=
  (∃ (m : Nat) (dx a b : Addr) (l r : List Int), 0 < m ∧ m ≤ B ∧ H x = some (.ins e.opn dx (opF a b (.int m))) ∧ H a = some (.lst (l.map V.int)) ∧ H b = some (.lst (r.map V.int)) ∧ Wg z.length l r ∧ l.length < 64 ∧ ∀ o, jd z l r o ≤ 3 ^ (m - 1)) ∨
  (csF z = 1 ∧ ∃ (i : Nat) (dx : Addr), z.cps.toList[i]? = some 104 ∧ H x = some (.ins e.heavy dx (coinF i))) ∨
  (csF z = 1 ∧ 104 ∉ z.cps.toList ∧ ∃ (i : Nat) (dx : Addr), z.cps.toList[i]? = some 108 ∧ H x = some (.ins e.light dx (coinF i))) ∨
  (csF z = 1 ∧ allG z = true ∧ ∃ dx : Addr, H x = some (.ins e.nothing dx []))
theorem one_case {z : Str} (M : MkOk z) (h : csF z = 1) : cntS 101 z = 0 ∧ cntS 104 z + cntS 108 z ≤ 1 := by
  unfold csF at h
  by_cases hp : 0 < cntS 104 z + cntS 108 z
  · rw [if_pos hp] at h
    refine ⟨?_, by omega⟩
    cases Nat.eq_zero_or_pos (cntS 101 z) with
    | inl q => exact q
    | inr q =>
      obtain ⟨a, b⟩ := M.ex (cntp.mp q)
      have := cnt0.mpr a; have := cnt0.mpr b; omega
  · rw [if_neg hp] at h; omega
theorem few_le {n m k : Nat} (h : IsFew n m) (h2 : n ≤ 3 ^ k) : m ≤ k := by
  rcases Nat.lt_or_ge k m with q | q
  · have := h.2 k q; omega
  · exact q
theorem flat_is (l : List Int) : (l.map V.int).all flatV = true := by
  rw [List.all_eq_true]; intro x hx
  obtain ⟨k, _, rfl⟩ := List.mem_map.mp hx; rfl
theorem inV_is (k : Int) : ∀ (l : List Int), inV (.int k) (l.map V.int) = decide (k ∈ l)
  | [] => by simp [inV]
  | x :: l => by
    have ih := inV_is k l
    unfold inV at ih ⊢
    simp only [List.map_cons, List.any_cons]
    rw [ih]
    show ((x == k) || _) = _
    by_cases h : k = x
    · subst h; simp
    · have : (x == k) = false := beq_eq_false_iff_ne.mpr fun z => h z.symm
      rw [this]; simp [h]
theorem share {α : Sort _} {A : α → Prop} {C : α → Prop} {G : Prop} (h1 : (∀ a, A a → C a) → G) (h2 : ∀ a, A a → C a) : G := h1 h2
theorem Fnd.of {e : AA} {z : Str} {H : Hp} {Q : VK} (M : MkOk z) (h : ∀ (x : Addr) (H' : Hp) (m : Nat), Same H H' → IsFew (csF z) m → Fnd e z m x H' → Q (.ref x) H') : TdAns e z H Q := by
  have one : csF z = 1 → IsFew (csF z) 0 := fun h => by rw [h]; exact ⟨by decide, fun j hj => by omega⟩
  refine ⟨fun m x dx a b l r H' F h0 s O => h x H' m s F (.inl ⟨m, dx, a, b, l, r, h0, Nat.le_refl _, O.ox, O.oa, O.ob, O.wg, O.ll, O.jd⟩), fun i x dx H' h1 hi _ s ex => h x H' 0 s (one h1) (.inr (.inl ⟨h1, i, dx, hi, ex⟩)),
    fun i x dx H' h1 hn hi _ s ex => h x H' 0 s (one h1) (.inr (.inr (.inl ⟨h1, hn, i, dx, hi, ex⟩))), fun x dx H' h1 hg _ s ex => h x H' 0 s (one h1) (.inr (.inr (.inr ⟨h1, hg, dx, ex⟩)))⟩
section
variable {P : Program} {w : World} {K : PySem.W.Frag} {mg : Str → Option Value} {base : Heap}
theorem coinF_c {i : Nat} : (coinF i).lookup ("coin" : Str) = some (.int i) := by unfold coinF; simp [List.lookup]
def spLed : Sp := fun vs H Q _ => ∃ (n : Nat) (k : Int) (hv : Bool), vs = [.int n, .int k, .bl hv] ∧ n < 64 ∧ -1 ≤ k ∧ k < n ∧ ∀ H', Same H H' → Q (.bl true) H'
theorem sc__law_led : FnScope ["_law_coins", "_law_odd", "_law_heavy", "_law_marks", "_law_found", "_law_many", "_law_turn", "_law_outcome"] ["_law_coins", "_law_odd", "_law_heavy"] (defScope (top 47)) := ⟨rfl, rfl, rfl, by decide +kernel, rfl, by decide +kernel, by decide +kernel⟩
theorem ok_led {f : Addr} {fd : FuncData} {e : AA} (F : Fun K "_law_led" "_law_led" (top 47) f fd) (B : Blt mg) (An : Anss K mg e) (c_told : Can P w K mg base CX0 4 "told" ["marks"] (spTd e)) (c_weighed : Can P w K mg base CX0 4 "weighed" ["coins", "odd", "heavy", "left", "right"] spWd)
    (c__law_after : Can P w K mg base CX0 6 "_law_after" ["_law_marks", "_law_found", "_law_outcome"] (spAft e)) : FnOk P w K mg base CX0 7 f fd ["_law_coins", "_law_odd", "_law_heavy"] spLed := by
  refine F.ok sc__law_led (fun vs H Q E h => ?_) (fun cdv A outer s H vs Q E hr h => ?_)
  · obtain ⟨n, k, hv, rfl, _⟩ := h; rfl
  · obtain ⟨n, k, hv, rfl, hn, hk1, hk2, q⟩ := h
    refine ⟨_, (pss_cons (ps_set (i := 3) sc__law_led.nd rfl (Or.inl rfl) (pe_op op_mulS pe_str (pv 0)))
      (pss_cons (ps_set (i := 4) sc__law_led.nd rfl (Or.inl rfl) (pe_can c_told (hr.mono (by decide)) pass0 (pa_cons (pv 3) pa_nil)))
      (pss_cons (ps_set (i := 5) sc__law_led.nd rfl (Or.inl rfl) (pe_ifExp (pt_val (pe_callB (call_isiC rfl) (by rfl) B.isi boot_isi (pa_cons (pv 4) (pa_cons (pe_glob (v := .ref e.opn) (by rfl) An.m_Open rfl) pa_nil)))) (pe_fld (pv 4) rfl) pe_int))
      (pss_cons (ps_for PassesOwn.never rfl (pi_range1 (by rfl) B.range (pa_cons (pv 5) pa_nil)) (pg_name (i := 6) sc__law_led.nd rfl (Or.inl rfl)) (pss_one (ps_if (pt_val (pe_callB (call_isiC rfl) (by rfl) B.isi boot_isi (pa_cons (pv 4) (pa_cons (pe_glob (v := .ref e.opn) (by rfl) An.m_Open rfl) pa_nil)))) (pss_cons (ps_if (pt_cmpR op_gt (pe_fld (pv 4) rfl) (pe_op op_sub (pv 5) (pv 6)) (nomark _)) (pss_one (ps_ret pe_bl)) pss_nil) (pss_cons (ps_set (i := 7) sc__law_led.nd rfl (Or.inl rfl) pe_str) (pss_cons (ps_if (pt_cmpR op_in_seq (pv 1) (pe_fld (pv 4) rfl) rfl) (pss_one (ps_set (i := 7) sc__law_led.nd rfl (Or.inl rfl) (pe_ifExp (pt_val (pv 2)) pe_str pe_str))) pss_nil) (pss_cons (ps_if (pt_cmpR op_in_seq (pv 1) (pe_fld (pv 4) rfl) rfl) (pss_one (ps_set (i := 7) sc__law_led.nd rfl (Or.inl rfl) (pe_ifExp (pt_val (pv 2)) pe_str pe_str))) pss_nil) (pss_cons (ps_if (pt_cmpR op_ne (pe_can c_weighed (hr.mono (by decide)) pass0 (pa_cons (pv 0) (pa_cons (pv 1) (pa_cons (pv 2) (pa_cons (pe_fld (pv 4) rfl) (pa_cons (pe_fld (pv 4) rfl) pa_nil)))))) (pv 7) (nomark _)) (pss_one (ps_ret pe_bl)) pss_nil) (pss_cons (ps_set (i := 3) sc__law_led.nd rfl (Or.inl rfl) (pe_can c__law_after (hr.mono (by decide)) pass0 (pa_cons (pv 3) (pa_cons (pv 4) (pa_cons (pv 7) pa_nil))))) (pss_cons (ps_if (pt_cmpR op_isN (pv 3) pe_non (nomark _)) (pss_one (ps_ret pe_bl)) pss_nil) (pss_one (ps_set (i := 4) sc__law_led.nd rfl (Or.inl rfl) (pe_can c_told (hr.mono (by decide)) pass0 (pa_cons (pv 3) pa_nil))))))))))) pss_nil)))
      (pss_cons (ps_if (pt_cmpR op_lt (pv 1) pe_int (nomark _)) (pss_one (ps_ret (pe_callB (call_isiC rfl) (by rfl) B.isi boot_isi (pa_cons (pv 4) (pa_cons (pe_glob (v := .ref e.nothing) (by rfl) An.m_Nothing rfl) pa_nil))))) pss_nil)
      (pss_cons (ps_if (pt_val (pv 2)) (pss_one (ps_ret (pe_and (pe_callB (call_isiC rfl) (by rfl) B.isi boot_isi (pa_cons (pv 4) (pa_cons (pe_glob (v := .ref e.heavy) (by rfl) An.m_Heavy rfl) pa_nil))) (pe_one (pe_cmpR op_eq (pe_fld (pv 4) rfl) (pv 1) (nomark _)))))) pss_nil)
      (pss_one (ps_ret (pe_and (pe_callB (call_isiC rfl) (by rfl) B.isi boot_isi (pa_cons (pv 4) (pa_cons (pe_glob (v := .ref e.light) (by rfl) An.m_Light rfl) pa_nil))) (pe_one (pe_cmpR op_eq (pe_fld (pv 4) rfl) (pv 1) (nomark _)))))))))))), ?_⟩
    obtain ⟨M0, L0, A0⟩ := e_all n (by omega)
    refine ⟨_, rfl, _, _, rfl, rfl, mulOk_1 (by rw [s_e]; rfl) n (by omega), ?_⟩
    rw [s_e]
    generalize Txt.mul (ch1 101) (n : Int) = z0 at M0 L0 A0 ⊢
    have A0 := A0 k hv hk1 hk2
    refine ⟨_, rfl, z0, rfl, M0, by omega, Fnd.of M0 fun x H1 mm s1 Fw fnd => ?_⟩
    have mm3 : mm ≤ 201 := Nat.le_trans Fw.le (cs_le M0)
    apply share (A := fun m0 : Nat => m0 ≤ mm ∧ Fnd e z0 m0 x H1)
    · intro key
      have fnd1 := fnd
      rcases fnd1 with ⟨m, dx, a, b, l, r, h0, hB, ox, oa, ob, W, ll, J⟩ | fnd
      · refine ⟨_, rfl, _, _, _, _, _, rfl, ref_only, An.ty An.cO ox, An.kg, _, rfl, iteT ?_⟩
        refine ⟨_, rfl, x, _, dx, _, _, rfl, ox, An.cO.cl, An.nOm, opF_m, ?_⟩
        exact key m ⟨hB, .inl ⟨m, dx, a, b, l, r, h0, Nat.le_refl _, ox, oa, ob, W, ll, J⟩⟩
      · have k0 := key 0 ⟨Nat.zero_le _, .inr fnd⟩
        rcases fnd with ⟨h1, i, dx, hi, ox⟩ | ⟨h1, hn', i, dx, hi, ox⟩ | ⟨h1, hg, dx, ox⟩
        · exact ⟨_, rfl, _, _, _, _, _, rfl, ref_only, An.ty An.cH ox, An.k4, _, rfl, fls rfl k0⟩
        · exact ⟨_, rfl, _, _, _, _, _, rfl, ref_only, An.ty An.cL ox, An.k8, _, rfl, fls rfl k0⟩
        · exact ⟨_, rfl, _, _, _, _, _, rfl, ref_only, An.ty An.cN ox, An.kc, _, rfl, fls rfl k0⟩
    · rintro m0 ⟨hm0, fnd0⟩
      refine ⟨_, rfl, (m0 : Int), rfl, by omega, by omega, ?_⟩
      refine for_range (lo := 0) (n := (m0 : Int).toNat) (fun i σ H2 => Same H H2 ∧ ∃ (z : Str) (x : Addr) (v6 v7 : Option V), MkOk z ∧ z.length = n ∧ Alive z k hv ∧ Fnd e z (m0 - i) x H2 ∧ σ = [some (.int n), some (.int k), some (.bl hv), some (.str z), some (.ref x), some (.int m0), v6, v7]) ?_ ?_ ?_
      · exact ⟨s1, z0, x, none, none, M0, L0, A0, fnd0, rfl⟩
      · rintro i σ H2 hi ⟨s2, z, x, v6, v7, M, hz, Al, fnd, rfl⟩
        have hi' : i < m0 := by omega
        rcases fnd with ⟨m, dx, a, b, l, r, h0, hB, ox, oa, ob, W, ll, J⟩ | fnd
        · refine ⟨_, rfl, _, _, _, _, _, rfl, ref_only, An.ty An.cO ox, An.kg, _, rfl, iteT ?_⟩
          refine ⟨_, rfl, x, _, dx, _, _, rfl, ox, An.cO.cl, An.nOm, opF_m, _, rfl, _, rfl, _, _, rfl, rfl, _, _, rfl, rfl, _, rfl, ?_⟩
          refine fls (decide_eq_false (by simp; omega)) ?_
          obtain ⟨a1, a2⟩ := alive_after M W Al
          apply share (A := fun v : V => v = .str (p3 (if hv then pl l r k else other (pl l r k))))
          · intro key
            have inl : ∀ {Q : VK}, Q (.bl (decide (k ∈ l))) H2 → tOp (rIn K false) (tVar 1) (tFld K (tVar 4) "left") [some (.int n), some (.int k), some (.bl hv), some (.str z), some (.ref x), some (.int m0), some (.int (0 + i)), some (.str "even")] H2 Q := fun {Q} q => by
              refine ⟨_, rfl, _, rfl, x, _, dx, _, _, rfl, ox, An.cO.cl, An.nOl, opF_l, a, _, rfl, .inl (SqL.of oa), rfl, flat_is l, ?_⟩
              show Q (.bl (inV (.int k) (l.map V.int))) H2
              rw [inV_is]; exact q
            have inr : ∀ {Q : VK} (v : Option V), Q (.bl (decide (k ∈ r))) H2 → tOp (rIn K false) (tVar 1) (tFld K (tVar 4) "right") [some (.int n), some (.int k), some (.bl hv), some (.str z), some (.ref x), some (.int m0), some (.int (0 + i)), v] H2 Q := fun {Q} v q => by
              refine ⟨_, rfl, _, rfl, x, _, dx, _, _, rfl, ox, An.cO.cl, An.nOr, opF_r, b, _, rfl, .inl (SqL.of ob), rfl, flat_is r, ?_⟩
              show Q (.bl (inV (.int k) (r.map V.int))) H2
              rw [inV_is]; exact q
            refine inl ⟨_, rfl, ?_⟩
            by_cases h1 : k ∈ l
            · have h2 : k ∉ r := W.dis k h1
              have e1 : pl l r k = .L := by unfold pl; rw [if_neg h2, if_pos h1]
              refine tru (decide_eq_true h1) ?_
              by_cases ht : hv = true
              · refine ⟨_, rfl, _, rfl, tru ht ?_⟩
                refine inr _ ⟨_, rfl, fls (decide_eq_false h2) ?_⟩
                generalize hv7 : V.str "left" = v
                exact key v (by rw [← hv7, e1, if_pos ht]; rfl)
              · refine ⟨_, rfl, _, rfl, fls (by simpa using ht) ?_⟩
                refine inr _ ⟨_, rfl, fls (decide_eq_false h2) ?_⟩
                exact key (V.str "right") (by rw [e1, if_neg ht]; rfl)
            · refine fls (decide_eq_false h1) ?_
              by_cases h2 : k ∈ r
              · have e1 : pl l r k = .R := by unfold pl; rw [if_pos h2]
                refine inr _ ⟨_, rfl, tru (decide_eq_true h2) ?_⟩
                by_cases ht : hv = true
                · refine ⟨_, rfl, _, rfl, tru ht ?_⟩
                  exact key (V.str "right") (by rw [e1, if_pos ht]; rfl)
                · refine ⟨_, rfl, _, rfl, fls (by simpa using ht) ?_⟩
                  exact key (V.str "left") (by rw [e1, if_neg ht]; rfl)
              · have e1 : pl l r k = .E := by unfold pl; rw [if_neg h2, if_neg h1]
                refine inr _ ⟨_, rfl, fls (decide_eq_false h2) ?_⟩
                refine key (V.str "even") ?_
                rw [e1]
                by_cases ht : hv = true
                · rw [if_pos ht]; rfl
                · rw [if_neg ht]; rfl
          · rintro v rfl
            have Wn : Wg n l r := by rw [← hz]; exact W
            refine ⟨_, rfl, _, rfl, _, rfl, _, rfl, x, _, dx, _, _, rfl, ox, An.cO.cl, An.nOl, opF_l, _, rfl, x, _, dx, _, _, rfl, ox, An.cO.cl, An.nOr, opF_r, n, k, hv, a, b, l, r, rfl, by omega, hk1, hk2, oa, ob, Wn, by omega, fun H3 s3 => ?_⟩
            refine ⟨_, rfl, rfl, _, rfl, ?_⟩
            refine fls (by simp) ?_
            generalize (if hv then pl l r k else other (pl l r k)) = o at a1 a2 ⊢
            refine ⟨_, rfl, _, rfl, _, rfl, z, m, x, dx, a, b, l, r, o, rfl, M, s3 _ _ ox, s3 _ _ oa, s3 _ _ ob, W, ll, a1, fun H4 s4 => ?_⟩
            refine ⟨_, rfl, rfl, _, rfl, fls (by simp) ?_⟩
            have hz2 : (bh z l r o).length = n := by rw [bh_len]; exact hz
            refine ⟨_, rfl, bh z l r o, rfl, bh_ok M l r o, by omega, Fnd.of (bh_ok M l r o) fun x' H5 m' s5 Fw' fnd' => ?_⟩
            have ml : m' ≤ m - 1 := few_le Fw' (by rw [bh_cs M a1]; exact J o)
            refine ⟨((s2.trans s3).trans s4).trans s5, bh z l r o, x', _, _, bh_ok M l r o, hz2, a2, ?_, rfl⟩
            rcases fnd' with ⟨m2, dx', a', b', l', r', h0', hB', rest⟩ | fnd'
            · exact .inl ⟨m2, dx', a', b', l', r', h0', by omega, rest⟩
            · exact .inr fnd'
        · have go := (show Same H H2 ∧ ∃ (z' : Str) (x' : Addr) (v6 v7' : Option V), MkOk z' ∧ z'.length = n ∧ Alive z' k hv ∧ Fnd e z' (m0 - (i + 1)) x' H2 ∧ ([some (.int n), some (.int k), some (.bl hv), some (.str z), some (.ref x), some (.int m0), some (.int (0 + i)), v7] : L2.St) = [some (.int n), some (.int k), some (.bl hv), some (.str z'), some (.ref x'), some (.int m0), v6, v7'] from ⟨s2, z, x, _, _, M, hz, Al, .inr fnd, rfl⟩)
          rcases fnd with ⟨h1, j, dx, hj, ox⟩ | ⟨h1, hn', j, dx, hj, ox⟩ | ⟨h1, hg, dx, ox⟩
          · exact ⟨_, rfl, _, _, _, _, _, rfl, ref_only, An.ty An.cH ox, An.k4, _, rfl, fls rfl go⟩
          · exact ⟨_, rfl, _, _, _, _, _, rfl, ref_only, An.ty An.cL ox, An.k8, _, rfl, fls rfl go⟩
          · exact ⟨_, rfl, _, _, _, _, _, rfl, ref_only, An.ty An.cN ox, An.kc, _, rfl, fls rfl go⟩
      · rintro σ H2 ⟨s2, z, x, v6, v7, M, hz, Al, fnd, rfl⟩
        have fnd : (csF z = 1 ∧ ∃ (i : Nat) (dx : Addr), z.cps.toList[i]? = some 104 ∧ H2 x = some (.ins e.heavy dx (coinF i))) ∨ (csF z = 1 ∧ 104 ∉ z.cps.toList ∧ ∃ (i : Nat) (dx : Addr), z.cps.toList[i]? = some 108 ∧ H2 x = some (.ins e.light dx (coinF i))) ∨ (csF z = 1 ∧ allG z = true ∧ ∃ dx : Addr, H2 x = some (.ins e.nothing dx [])) := by
          rcases fnd with ⟨m, dx, a, b, l, r, h0, hB, _⟩ | fnd
          · omega
          · exact fnd
        have Q1 := q H2 s2
        refine ⟨_, rfl, _, _, rfl, rfl, _, rfl, ?_⟩
        by_cases hk : k < 0
        · refine tru (decide_eq_true hk) ?_
          have hg : allG z = true := by
            rcases Al with ⟨_, g⟩ | ⟨g, _⟩
            · exact g
            · omega
          obtain ⟨g1, g2⟩ := allG_iff.mp hg
          rcases fnd with ⟨h1, j, dx, hj, ox⟩ | ⟨h1, hn', j, dx, hj, ox⟩ | ⟨h1, hg, dx, ox⟩
          · exact absurd (List.mem_of_getElem? hj) (cnt0.mp g1)
          · exact absurd (List.mem_of_getElem? hj) (cnt0.mp g2)
          · exact ⟨_, rfl, _, _, _, _, _, rfl, ref_only, An.ty An.cN ox, An.kb, Q1⟩
        · refine fls (decide_eq_false hk) ?_
          obtain ⟨hk0, c, hc, hcs⟩ : 0 ≤ k ∧ ∃ c, z.cps.toList[k.toNat]? = some c ∧ (c = 101 ∨ c = (if hv then 104 else 108)) := by
            rcases Al with ⟨g, _⟩ | g
            · omega
            · exact g
          have hcm := cntp.mpr (List.mem_of_getElem? hc)
          refine ⟨_, rfl, _, rfl, ?_⟩
          by_cases ht : hv = true
          · refine tru ht ?_
            rw [if_pos ht] at hcs
            rcases fnd with ⟨h1, j, dx, hj, ox⟩ | ⟨h1, hn', j, dx, hj, ox⟩ | ⟨h1, hg, dx, ox⟩
            · obtain ⟨o1, o2⟩ := one_case M h1
              have c4 : c = 104 := by
                rcases hcs with g | g
                · subst g; omega
                · exact g
              subst c4
              have ej : j = k.toNat := count_uniq (c := 104) z.cps.toList j k.toNat (show cntS 104 z ≤ 1 by omega) hj hc
              refine ⟨_, rfl, _, _, _, _, _, rfl, ref_only, An.ty An.cH ox, An.k1, _, rfl, iteT ?_⟩
              refine ⟨_, rfl, x, _, dx, _, _, rfl, ox, An.cH.cl, An.nHc, coinF_c, _, rfl, rfl, ?_⟩
              have ek : ((j : Nat) : Int) = k := by omega
              rw [ek, decide_eq_true rfl]; exact Q1
            · obtain ⟨o1, o2⟩ := one_case M h1
              rcases hcs with g | g
              · subst g; omega
              · subst g; exact absurd (cntp.mp hcm) hn'
            · obtain ⟨o1, o2⟩ := one_case M h1
              obtain ⟨g1, g2⟩ := allG_iff.mp hg
              rcases hcs with g | g
              · subst g; omega
              · subst g; omega
          · refine fls (by simpa using ht) ?_
            rw [if_neg ht] at hcs
            rcases fnd with ⟨h1, j, dx, hj, ox⟩ | ⟨h1, hn', j, dx, hj, ox⟩ | ⟨h1, hg, dx, ox⟩
            · obtain ⟨o1, o2⟩ := one_case M h1
              have := cntp.mpr (List.mem_of_getElem? hj)
              rcases hcs with g | g
              · subst g; omega
              · subst g; omega
            · obtain ⟨o1, o2⟩ := one_case M h1
              have c4 : c = 108 := by
                rcases hcs with g | g
                · subst g; omega
                · exact g
              subst c4
              have ej : j = k.toNat := count_uniq (c := 108) z.cps.toList j k.toNat (show cntS 108 z ≤ 1 by omega) hj hc
              refine ⟨_, rfl, _, _, _, _, _, rfl, ref_only, An.ty An.cL ox, An.k6, _, rfl, iteT ?_⟩
              refine ⟨_, rfl, x, _, dx, _, _, rfl, ox, An.cL.cl, An.nLc, coinF_c, _, rfl, rfl, ?_⟩
              have ek : ((j : Nat) : Int) = k := by omega
              rw [ek, decide_eq_true rfl]; exact Q1
            · obtain ⟨o1, o2⟩ := one_case M h1
              obtain ⟨g1, g2⟩ := allG_iff.mp hg
              rcases hcs with g | g
              · subst g; omega
              · subst g; omega
end
end Ks
end
section
namespace Ks
open PySem L2 Mir PyProof.Rows
section
variable {P : Program} {w : World} {K : PySem.W.Frag} {mg : Str → Option Value} {base : Heap}
def spLaw (K : PySem.W.Frag) : Sp := fun vs H Q _ => ∃ (a : Addr) (ns : List Int), vs = [.ref a] ∧ SqL K H a (ns.map V.int) ∧ ns.length ≤ 63 ∧ ∀ H', Same H H' → Q (.bl true) H'
theorem SqL.same {K : PySem.W.Frag} {H H' : Hp} {a : Addr} {xs : List V} (e : Same H H') (h : SqL K H a xs) : SqL K H' a xs := by
  rcases h with (h | ⟨o, h⟩) | h
  · exact .inl (.inl (e _ _ h))
  · exact .inl (.inr ⟨o, e _ _ h⟩)
  · exact .inr h
theorem sc_law : FnScope ["_law_script", "_law_coins", "_law_odds", "_law_k", "_law_odd", "_law_heavy"] ["_law_script"] (defScope (top 48)) := ⟨rfl, rfl, rfl, by decide +kernel, rfl, by decide +kernel, by decide +kernel⟩
theorem ok_law {f : Addr} {fd : FuncData} (F : Fun K "law" "law" (top 48) f fd) (B : Blt mg) (c__law_cell_at : Can P w K mg base CX0 1 "_law_cell_at" ["_law_script", "_law_k"] (spCell K)) (c__law_draw : Can P w K mg base CX0 1 "_law_draw" ["_law_cell", "_law_k", "_law_many"] spDraw)
    (c__law_led : Can P w K mg base CX0 7 "_law_led" ["_law_coins", "_law_odd", "_law_heavy"] spLed) : FnOk P w K mg base CX0 8 f fd ["_law_script"] (spLaw K) := by
  refine F.ok sc_law (fun vs H Q E h => ?_) (fun cdv A outer s H vs Q E hr h => ?_)
  · obtain ⟨a, ns, rfl, _⟩ := h; rfl
  · obtain ⟨a, ns, rfl, ha, hn, q⟩ := h
    refine ⟨_, (pss_cons (ps_set (i := 1) sc_law.nd rfl (Or.inl rfl) (pe_callB call_len_seq (by rfl) B.len boot_lenB (pa_cons (pv 0) pa_nil)))
      (pss_cons (ps_set (i := 2) sc_law.nd rfl (Or.inl rfl) (pe_lst (pa_cons (pe_un un_neg pe_int) (pa_cons pe_int (pa_cons (pe_op op_sub (pv 1) pe_int) pa_nil)))))
      (pss_cons (ps_for PassesOwn.never rfl (pi_range1 (by rfl) B.range (pa_cons pe_int pa_nil)) (pg_name (i := 3) sc_law.nd rfl (Or.inl rfl)) (pss_one (ps_expr (pe_bm PySem.F.plainAttrs_list PySem.F.slot_list_append PySem.F.type_list_append mt_append (pv 2) (pa_cons (pe_op op_sub (pe_can c__law_draw (hr.mono (by decide)) pass0 (pa_cons (pe_can c__law_cell_at (hr.mono (by decide)) pass0 (pa_cons (pv 0) (pa_cons (pv 3) pa_nil))) (pa_cons (pe_op op_add (pv 3) pe_int) (pa_cons (pe_op op_add (pv 1) pe_int) pa_nil)))) pe_int) pa_nil)))))
      (pss_cons (ps_for PassesOwn.never rfl (pi_enumL (by rfl) B.enum (pv 2)) (pg_tup rfl (pgs_cons (pg_name (i := 3) sc_law.nd rfl (Or.inl rfl)) (pgs_cons (pg_name (i := 4) sc_law.nd rfl (Or.inl rfl)) pgs_nil))) (pss_cons (ps_set (i := 5) sc_law.nd rfl (Or.inl rfl) (pe_cmpR op_eq (pe_can c__law_draw (hr.mono (by decide)) pass0 (pa_cons (pe_can c__law_cell_at (hr.mono (by decide)) pass0 (pa_cons (pv 0) (pa_cons (pv 3) pa_nil))) (pa_cons pe_int (pa_cons pe_int pa_nil)))) pe_int (nomark _))) (pss_one (ps_if (PW.pt (pw_and (pt_cmpR op_lt (pv 4) (pv 1) (nomark _)) (pw_and1 (pt_not (pt_val (pe_can c__law_led (hr.mono (by decide)) pass0 (pa_cons (pv 1) (pa_cons (pv 4) (pa_cons (pv 5) pa_nil))))))))) (pss_one (ps_ret pe_bl)) pss_nil))))
      (pss_one (ps_ret pe_bl)))))), ?_⟩
    refine ⟨_, rfl, a, _, rfl, .inl ha, ?_⟩
    rw [List.length_map]
    refine ⟨_, rfl, _, rfl, _, _, rfl, rfl, by show 3 ≤ sizeLine; decide, fun p hp => ?_⟩
    have s1 : Same H (upd H p (.lst [.int (-1), .int 0, .int ((ns.length : Int) - 1)])) := Same.upd0 hp
    refine ⟨2, rfl, by decide, by decide, ?_⟩
    refine for_range (lo := 0) (n := (2 : Int).toNat) (fun i σ H2 => Same H H2 ∧ ∃ (od : List Int) (v3 v4 v5 : Option V), od.length = 3 + i ∧ (∀ o ∈ od, -1 ≤ o) ∧ H2 p = some (.lst (od.map V.int)) ∧ σ = [some (.ref a), some (.int ns.length), some (.ref p), v3, v4, v5]) ?_ ?_ ?_
    · refine ⟨s1, [-1, 0, (ns.length : Int) - 1], none, none, none, rfl, fun o ho => ?_, upd_same, rfl⟩
      simp at ho
      rcases ho with h | h | h <;> omega
    · rintro i σ H2 hi ⟨s2, od, v3, v4, v5, hl, hb, e2, rfl⟩
      have hi' : i < 2 := hi
      refine ⟨_, rfl, .inl ⟨rfl, _, SqL.of e2⟩, _, rfl, _, rfl, a, ns, _, rfl, SqL.same s2 ha, by omega, _, rfl, _, _, rfl, rfl, _, rfl, _, _, rfl, rfl, _, _, _, rfl, by omega, by omega, fun H3 s3 => ?_⟩
      refine ⟨_, _, rfl, rfl, p, _, _, rfl, rfl, s3 _ _ e2, Nat.lt_of_le_of_lt (show _ ≤ 10 by rw [List.length_map]; omega) (by decide), ?_⟩
      refine ⟨(s2.trans s3).put' hp, od ++ [drawF (cellF ns (0 + (i : Int))) (0 + (i : Int) + 1) ((ns.length : Int) + 1) - 1], _, _, _, ?_, fun o ho => ?_, ?_, rfl⟩
      · rw [List.length_append, hl]; rfl
      · rcases List.mem_append.mp ho with h | h
        · exact hb o h
        · have h' := List.mem_singleton.mp h
          rw [h']
          have := drawF_nonneg (c := cellF ns (0 + (i : Int))) (k := 0 + (i : Int) + 1) (m := (ns.length : Int) + 1) (by omega)
          omega
      · rw [upd_same, List.map_append]; rfl
    · rintro σ H2 ⟨s2, od, v3, v4, v5, hl, hb, e2, rfl⟩
      refine ⟨_, rfl, p, rfl, ⟨_, SqL.of e2⟩, ?_⟩
      refine for_enumL (K := K) (a := p) (xs := od.map V.int) (fun i σ H3 => Same H2 H3 ∧ ∃ (v3 v4 v5 : Option V), σ = [some (.ref a), some (.int ns.length), some (.ref p), v3, v4, v5]) ?_ ?_ ?_ ?_
      · exact ⟨Same.refl _, _, _, _, rfl⟩
      · rintro i σ H3 _ ⟨s3, _⟩; exact SqL.of (s3 _ _ e2)
      · rintro i y t σ H3 hy ht ⟨s3, v3, v4, v5, rfl⟩
        obtain ⟨o, ho, rfl⟩ := ints_at hy
        have ob := hb o (List.mem_of_getElem? ho)
        have s4 : Same H2 (upd H3 t (.tup [.int i, .int o])) := s3.trans (Same.upd0 ht)
        refine ⟨t, _, rfl, SqT.of upd_same, rfl, _, _, rfl, _, _, rfl, rfl, ?_⟩
        refine ⟨_, rfl, _, rfl, a, ns, _, rfl, SqL.same (s2.trans s4) ha, by omega, _, _, _, rfl, by decide, by decide, fun H4 s5 => ?_⟩
        refine ⟨rfl, ?_⟩
        refine ⟨_, rfl, _, rfl, _, _, rfl, rfl, _, rfl, ?_⟩
        by_cases h : o < ns.length
        · refine tru (decide_eq_true h) ?_
          refine ⟨_, rfl, _, rfl, _, rfl, ns.length, o, _, rfl, by omega, ob, h, fun H5 s6 => ?_⟩
          exact ⟨_, rfl, fls rfl ⟨(s4.trans s5).trans s6, _, _, _, rfl⟩⟩
        · refine fls (decide_eq_false h) ?_
          exact fls rfl ⟨s4.trans s5, _, _, _, rfl⟩
      · rintro σ H3 ⟨s3, v3, v4, v5, rfl⟩
        exact q H3 (s2.trans s3)
end
end Ks
end
section
namespace Ks
open PySem L2 Mir
def DefIn (K : PySem.W.Frag) (x : Str) (st : Stmt) : Prop := ∃ f fd, PySem.W.nsIn K mainGlobals x = some (some (.ref f)) ∧ Fun K x x st f fd
theorem def_mk {K : PySem.W.Frag} {x : Str} {st : Stmt} {f : Addr} {oc : Value} {od an : Option Addr} {osl : Array (Option Value)} {kV doc pm cdv ct : Value} (a : PySem.W.nsIn K mainGlobals x = some (some (.ref f)))
    (l : K.lookup f = some ⟨oc, od, .func (PySem.W.fnOf x x (defArgs st) (defBody st) (defScope st) .none kV doc pm an cdv ct), osl⟩) (c : PySem.W.codeIn K cdv x = true) (k : PySem.W.keepIn K (.ref f) = true) : DefIn K x st := ⟨f, _, a, fun_mk l c k⟩
theorem can_of {P : Program} {w : World} {K : PySem.W.Frag} {mg : Str → Option Value} {base h : Heap} {CX : CXT} {k : Nat} {x : Str} {st : Stmt} {ps : List Str} {sp : Sp} (X : K.In h) (G : h.Ns mainGlobals mg) (D : DefIn K x st)
    (hb : ∀ (kV doc pm : Value) (an : Option Addr) (cdv ct : Value) (us : List Value), us.length = ps.length → bindArgs (PySem.W.fnOf x x (defArgs st) (defBody st) (defScope st) .none kV doc pm an cdv ct) ⟨us, []⟩ = pure (ps.zip us))
    (ok : ∀ f fd, Fun K x x st f fd → FnOk P w K mg base CX k f fd ps sp) : Can P w K mg base CX k x ps sp := by
  obtain ⟨f, fd, a, F⟩ := D
  exact ⟨f, fd, PySem.W.mg_of X G a, F.kp, F.binds hb, ok f fd F⟩
theorem oth_mk {K : PySem.W.Frag} {w : World} {h : Heap} {mg : Str → Option Value} (X : K.In h) (G : h.Ns mainGlobals mg) {d : Addr} {es : Array DictEntry} {n : Nat} {t1 t2 t3 : Tok} (a : PySem.W.nsIn K mainGlobals "OTHER" = some (some (.ref d))) (l : K.lookup d = some ⟨.type "dict", none, .dict es n, #[]⟩)
    (b1 : PySem.W.nsIn K d "left" = some (some (.str "right" t1))) (b2 : PySem.W.nsIn K d "right" = some (some (.str "left" t2))) (b3 : PySem.W.nsIn K d "even" = some (some (.str "even" t3))) (kl : PySem.W.KeysLit w.params es.toList) : Oth K w mg :=
  ⟨d, es, n, PySem.W.mg_of X G a, l, kl, fun p => match p with | .L => ⟨_, b1, ⟨t1, rfl⟩⟩ | .R => ⟨_, b2, ⟨t2, rfl⟩⟩ | .E => ⟨_, b3, ⟨t3, rfl⟩⟩⟩
theorem outs_mk {K : PySem.W.Frag} {h : Heap} {mg : Str → Option Value} (X : K.In h) (G : h.Ns mainGlobals mg) {d : Addr} {n : Nat} {t1 t2 t3 : Tok} {sl : Array (Option Value)} (a : PySem.W.nsIn K mainGlobals "OUTCOMES" = some (some (.ref d))) (l : K.lookup d = some ⟨.type "tuple", none, .seq #[.str "left" t1, .str "right" t2, .str "even" t3] n, sl⟩) : Outs K mg :=
  ⟨d, _, _, n, PySem.W.mg_of X G a, l, rfl, rfl, rfl, .cons ⟨t1, rfl⟩ (.cons ⟨t2, rfl⟩ (.cons ⟨t3, rfl⟩ .nil))⟩
def clsB (K : PySem.W.Frag) (C : Addr) : Bool := PySem.W.plainGet K C Str.empty && PySem.W.hasDictIn K C && PySem.W.plainOver K C && (PySem.W.findIn K (.ref C) "__setattr__" == some (some (.builtin "object.__setattr__"))) &&
  (PySem.W.findIn K (.ref C) "__class__" == some (some (.builtin "object.__class__"))) && (PySem.W.mroIn K C (.type "object") == some true)
theorem acls_mk {K : PySem.W.Frag} {C : Addr} (h : clsB K C = true) : ACls K C := by
  unfold clsB at h
  simp only [Bool.and_eq_true, beq_iff_eq] at h
  obtain ⟨⟨⟨⟨⟨a1, a2⟩, a3⟩, a4⟩, a5⟩, a6⟩ := h
  exact ⟨⟨a1, a2, a3, a4⟩, a5, a6⟩
def fieldB (K : PySem.W.Frag) (C : Addr) (fs : List Str) : Bool := fs.all fun f => PySem.W.findIn K (.ref C) f == some none
def kitB (K : PySem.W.Frag) (cs : List Addr) : Bool := cs.all fun c => cs.all fun d => PySem.W.kitOne K (.ref c) (.ref d) == some (decide (c = d))
def makeB (K : PySem.W.Frag) (C : Addr) (v : Value) : Bool := PySem.W.makesIn K C && (PySem.W.findIn K (.ref C) "__init__" == some (some v)) && PySem.W.keepIn K (.ref C)
theorem anss_mk {K : PySem.W.Frag} {h : Heap} {mg : Str → Option Value} (X : K.In h) (G : h.Ns mainGlobals mg) {c0 c1 c2 c3 c4 : Addr} (n0 : PySem.W.nsIn K mainGlobals "Answer" = some (some (.ref c0))) (n1 : PySem.W.nsIn K mainGlobals "Heavy" = some (some (.ref c1)))
    (n2 : PySem.W.nsIn K mainGlobals "Light" = some (some (.ref c2))) (n3 : PySem.W.nsIn K mainGlobals "Nothing" = some (some (.ref c3))) (n4 : PySem.W.nsIn K mainGlobals "Open" = some (some (.ref c4)))
    (sp : PySem.W.specialIn K (.builtin "object.__class__") "__get__" = some (some (.builtin "getset_descriptor.__get__"))) (tk : PySem.W.takesIn K (.builtin "object.__class__") = some true) (nd : [c1, c2, c3, c4].Nodup)
    (b1 : clsB K c1 = true) (b2 : clsB K c2 = true) (b3 : clsB K c3 = true) (b4 : clsB K c4 = true) (f1 : fieldB K c1 ["coin"] = true) (f2 : fieldB K c2 ["coin"] = true) (f4 : fieldB K c4 ["left", "right", "many"] = true)
    (m3 : makeB K c3 (.builtin "object.__init__") = true) (kt : kitB K [c1, c2, c3, c4] = true) : Anss K mg ⟨c0, c1, c2, c3, c4⟩ := by
  unfold makeB at m3
  simp only [Bool.and_eq_true, beq_iff_eq] at m3
  obtain ⟨⟨x1, x2⟩, x3⟩ := m3
  unfold fieldB at f1 f2 f4
  simp only [List.all_cons, List.all_nil, Bool.and_true, Bool.and_eq_true, beq_iff_eq] at f1 f2 f4
  have k : ∀ c ∈ [c1, c2, c3, c4], ∀ d ∈ [c1, c2, c3, c4], PySem.W.kitOne K (.ref c) (.ref d) = some (decide (c = d)) := fun c hc d hd => by
    have := List.all_eq_true.mp (List.all_eq_true.mp kt c hc) d hd
    exact beq_iff_eq.mp this
  simp only [List.nodup_cons, List.mem_cons, List.not_mem_nil, not_or, or_false] at nd
  obtain ⟨⟨d12, d13, d14⟩, ⟨d23, d24⟩, d34, _⟩ := nd
  have t : ∀ c ∈ [c1, c2, c3, c4], PySem.W.kitOne K (.ref c) (.ref c) = some true := fun c hc => by rw [k c hc c hc, decide_eq_true rfl]
  have n : ∀ c ∈ [c1, c2, c3, c4], ∀ d ∈ [c1, c2, c3, c4], c ≠ d → PySem.W.kitOne K (.ref c) (.ref d) = some false := fun c hc d hd ne => by rw [k c hc d hd, decide_eq_false ne]
  have i1 : c1 ∈ [c1, c2, c3, c4] := by simp
  have i2 : c2 ∈ [c1, c2, c3, c4] := by simp
  have i3 : c3 ∈ [c1, c2, c3, c4] := by simp
  have i4 : c4 ∈ [c1, c2, c3, c4] := by simp
  exact ⟨PySem.W.mg_of X G n0, PySem.W.mg_of X G n1, PySem.W.mg_of X G n2, PySem.W.mg_of X G n3, PySem.W.mg_of X G n4, acls_mk b1, acls_mk b2, acls_mk b3, acls_mk b4, f1, f2, f4.1, f4.2.1, f4.2.2, ⟨x1, x2, x3⟩, sp, tk,
    t _ i1, n _ i1 _ i2 d12, n _ i1 _ i3 d13, n _ i1 _ i4 d14, n _ i2 _ i1 (Ne.symm d12), t _ i2, n _ i2 _ i3 d23, n _ i2 _ i4 d24, n _ i3 _ i1 (Ne.symm d13), n _ i3 _ i2 (Ne.symm d23), t _ i3, n _ i3 _ i4 d34, n _ i4 _ i1 (Ne.symm d14), n _ i4 _ i2 (Ne.symm d24), n _ i4 _ i3 (Ne.symm d34), t _ i4⟩
def IniIn (K : PySem.W.Frag) (C : Addr) (qual : Str) (st : Stmt) : Prop := ∃ f fd, Mk K C f ∧ Fun K "__init__" qual st f fd
theorem ini_mk {K : PySem.W.Frag} {C : Addr} {qual : Str} {st : Stmt} {f : Addr} {oc : Value} {od an : Option Addr} {osl : Array (Option Value)} {kV doc pm cdv ct : Value} (a : PySem.W.findIn K (.ref C) "__init__" = some (some (.ref f)))
    (l : K.lookup f = some ⟨oc, od, .func (PySem.W.fnOf "__init__" qual (defArgs st) (defBody st) (defScope st) .none kV doc pm an cdv ct), osl⟩) (c : PySem.W.codeIn K cdv qual = true) (k : PySem.W.keepIn K (.ref f) = true)
    (m : PySem.W.makesIn K C = true) (i : PySem.W.isFn K (.ref f) = true) (k2 : PySem.W.keepIn K (.ref C) = true) : IniIn K C qual st := ⟨f, _, ⟨m, a, i, k2⟩, fun_mk l c k⟩
theorem canM_of {P : Program} {w : World} {K : PySem.W.Frag} {mg : Str → Option Value} {base : Heap} {k : Nat} {x : Str} {C : Addr} {qual : Str} {st : Stmt} {ps : List Str} {sp : Sp} (hm : mg x = some (.ref C)) (D : IniIn K C qual st)
    (hb : ∀ (kV doc pm : Value) (an : Option Addr) (cdv ct : Value) (us : List Value), us.length = ps.length → bindArgs (PySem.W.fnOf "__init__" qual (defArgs st) (defBody st) (defScope st) .none kV doc pm an cdv ct) ⟨us, []⟩ = pure (ps.zip us))
    (ok : ∀ f fd, Fun K "__init__" qual st f fd → FnOk P w K mg base CX0 k f fd ps sp) : CanM P w K mg base k x C ps sp := by
  obtain ⟨f, fd, M, F⟩ := D
  exact ⟨f, fd, hm, M, F.binds hb, ok f fd F⟩
theorem all_mk {P : Program} {w : World} {K : PySem.W.Frag} {h : Heap} {mg : Str → Option Value} {fa : Addr} (X : K.In h) (G : h.Ns mainGlobals mg) (hfa : mg "law" = some (.ref fa)) (B : Blt mg) (T : Kit K) (O1 : Oth K w mg) (O2 : Outs K mg) {cn : Addr} (ncn : PySem.W.nsIn K mainGlobals "Never" = some (some (.ref cn))) (xcn : PySem.W.excIn K cn vMro "ValueError.__new__" = true)
    {e : AA} (An : Anss K mg e) (IH : IniIn K e.heavy "Heavy.__init__" (inClass (top 33) 0)) (IL : IniIn K e.light "Light.__init__" (inClass (top 34) 0)) (IO : IniIn K e.opn "Open.__init__" (inClass (top 36) 0))
    (Dis_whole : DefIn K "is_whole" (top 10))
    (Dcheck_marks : DefIn K "check_marks" (top 11))
    (Dcheck_side : DefIn K "check_side" (top 12))
    (Dcheck_weighing : DefIn K "check_weighing" (top 13))
    (Dcheck_outcome : DefIn K "check_outcome" (top 14))
    (Dcheck_odd : DefIn K "check_odd" (top 15))
    (Dcases : DefIn K "cases" (top 17))
    (Dmost_cases : DefIn K "most_cases" (top 18))
    (Dfewest : DefIn K "fewest" (top 19))
    (Dplaced : DefIn K "placed" (top 22))
    (Doutcome_by : DefIn K "outcome_by" (top 23))
    (Dmay_be_heavy : DefIn K "may_be_heavy" (top 24))
    (Dmay_be_light : DefIn K "may_be_light" (top 25))
    (Dmay_all_be_good : DefIn K "may_all_be_good" (top 26))
    (Dsign_behind : DefIn K "sign_behind" (top 27))
    (Djudged : DefIn K "judged" (top 28))
    (Dbehind : DefIn K "behind" (top 29))
    (Dweighed : DefIn K "weighed" (top 30))
    (Dcoins_with : DefIn K "coins_with" (top 38))
    (Dpaired_first : DefIn K "paired_first" (top 39))
    (Dkept_off : DefIn K "kept_off" (top 40))
    (Dfirst_weighing : DefIn K "first_weighing" (top 41))
    (Dtold : DefIn K "told" (top 42))
    (D_law_cell_at : DefIn K "_law_cell_at" (top 44))
    (D_law_draw : DefIn K "_law_draw" (top 45))
    (D_law_after : DefIn K "_law_after" (top 46))
    (D_law_led : DefIn K "_law_led" (top 47))
    (Dlaw : DefIn K "law" (top 48))
    : ∃ fd : FuncData, (∀ (s : Shared) (v : Value), BindsTo s fd ⟨[v], []⟩ [("_law_script", v)]) ∧ ∀ base : Heap, K.In base → base.Ns mainGlobals mg → FnOk P w K mg base CX0 8 fa fd ["_law_script"] (spLaw K) := by
  have mcn := PySem.W.mg_of X G ncn
  obtain ⟨f, fd, a, F0⟩ := Dlaw
  have e0 := hfa.symm.trans (PySem.W.mg_of X G a)
  cases e0
  obtain ⟨oc, od, kV, doc, pm, an, cdv, ct, osl, rfl, lk, hcd⟩ := id F0.ex
  refine ⟨PySem.W.fnOf "law" "law" (defArgs (top 48)) (defBody (top 48)) (defScope (top 48)) .none kV doc pm an cdv ct, fun s v => .of_eq rfl, fun base _ _ => ?_⟩
  have m_Heavy : CanM P w K mg base 1 "Heavy" e.heavy ["self", "coin"] (spIni e.heavy) := canM_of An.m_Heavy IH (fun _ _ _ _ _ _ us hl => match us, hl with | [_, _], _ => rfl) fun f fd F => ok_iniH F An.cH.cl An.nHc
  have m_Light : CanM P w K mg base 1 "Light" e.light ["self", "coin"] (spIni e.light) := canM_of An.m_Light IL (fun _ _ _ _ _ _ us hl => match us, hl with | [_, _], _ => rfl) fun f fd F => ok_iniL F An.cL.cl An.nLc
  have m_Open : CanM P w K mg base 1 "Open" e.opn ["self", "left", "right", "many"] (spIniO e.opn) := canM_of An.m_Open IO (fun _ _ _ _ _ _ us hl => match us, hl with | [_, _, _, _], _ => rfl) fun f fd F => ok_iniO F B An.cO.cl An.nOl An.nOr An.nOm
  have c_is_whole : Can P w K mg base CX0 1 "is_whole" ["value"] spWhole := can_of X G Dis_whole (fun _ _ _ _ _ _ us hl => match us, hl with | [_], _ => rfl) fun f fd F => ok_whole F B T
  have c_check_marks : Can P w K mg base CX0 1 "check_marks" ["marks"] spCM := can_of X G Dcheck_marks (fun _ _ _ _ _ _ us hl => match us, hl with | [_], _ => rfl) fun f fd F => ok_cm F B T
  have c_check_side : Can P w K mg base CX0 2 "check_side" ["highest", "side"] spSide := can_of X G Dcheck_side (fun _ _ _ _ _ _ us hl => match us, hl with | [_, _], _ => rfl) fun f fd F => ok_side F B T c_is_whole
  have c_check_weighing : Can P w K mg base CX0 3 "check_weighing" ["highest", "left", "right"] spCW := can_of X G Dcheck_weighing (fun _ _ _ _ _ _ us hl => match us, hl with | [_, _, _], _ => rfl) fun f fd F => ok_cw F B c_check_side
  have c_check_outcome : Can P w K mg base CX0 1 "check_outcome" ["outcome"] spCO := can_of X G Dcheck_outcome (fun _ _ _ _ _ _ us hl => match us, hl with | [_], _ => rfl) fun f fd F => ok_co F B T O2
  have c_check_odd : Can P w K mg base CX0 2 "check_odd" ["coins", "odd", "heavy"] spOdd := can_of X G Dcheck_odd (fun _ _ _ _ _ _ us hl => match us, hl with | [_, _, _], _ => rfl) fun f fd F => ok_odd F B T c_is_whole
  have c_cases : Can P w K mg base CX0 2 "cases" ["marks"] spCases := can_of X G Dcases (fun _ _ _ _ _ _ us hl => match us, hl with | [_], _ => rfl) fun f fd F => ok_cases F c_check_marks
  have c_most_cases : Can P w K mg base CX0 1 "most_cases" ["weighings"] spMost := can_of X G Dmost_cases (fun _ _ _ _ _ _ us hl => match us, hl with | [_], _ => rfl) fun f fd F => ok_most F B
  have c_fewest : Can P w K mg base CX0 3 "fewest" ["marks"] spFew := can_of X G Dfewest (fun _ _ _ _ _ _ us hl => match us, hl with | [_], _ => rfl) fun f fd F => ok_few F c_cases c_most_cases
  have c_placed : Can P w K mg base CX0 1 "placed" ["left", "right"] spPl := can_of X G Dplaced (fun _ _ _ _ _ _ us hl => match us, hl with | [_, _], _ => rfl) fun f fd F => ok_pl F
  have c_outcome_by : Can P w K mg base CX0 1 "outcome_by" ["place", "heavy"] spOut := can_of X G Doutcome_by (fun _ _ _ _ _ _ us hl => match us, hl with | [_, _], _ => rfl) fun f fd F => ok_out F O1
  have c_may_be_heavy : Can P w K mg base CX0 1 "may_be_heavy" ["sign"] spMayH := can_of X G Dmay_be_heavy (fun _ _ _ _ _ _ us hl => match us, hl with | [_], _ => rfl) fun f fd F => ok_mayH F
  have c_may_be_light : Can P w K mg base CX0 1 "may_be_light" ["sign"] spMayL := can_of X G Dmay_be_light (fun _ _ _ _ _ _ us hl => match us, hl with | [_], _ => rfl) fun f fd F => ok_mayL F
  have c_may_all_be_good : Can P w K mg base CX0 1 "may_all_be_good" ["marks"] spAllG := can_of X G Dmay_all_be_good (fun _ _ _ _ _ _ us hl => match us, hl with | [_], _ => rfl) fun f fd F => ok_allG F
  have c_sign_behind : Can P w K mg base CX0 2 "sign_behind" ["sign", "place", "outcome"] spSB := can_of X G Dsign_behind (fun _ _ _ _ _ _ us hl => match us, hl with | [_, _, _], _ => rfl) fun f fd F => ok_sb F c_may_be_heavy c_may_be_light c_outcome_by
  have c_judged : Can P w K mg base CX0 4 "judged" ["marks", "left", "right"] spJd := can_of X G Djudged (fun _ _ _ _ _ _ us hl => match us, hl with | [_, _, _], _ => rfl) fun f fd F => ok_jd F B c_check_marks c_check_weighing c_placed c_may_be_heavy c_may_be_light c_outcome_by c_may_all_be_good
  have c_behind : Can P w K mg base (CXE P w) 5 "behind" ["marks", "left", "right", "outcome"] (spBh cn) := can_of X G Dbehind (fun _ _ _ _ _ _ us hl => match us, hl with | [_, _, _, _], _ => rfl) fun f fd F => ok_behind F B O2 mcn xcn c_judged c_check_outcome c_placed c_sign_behind
  have c_weighed : Can P w K mg base CX0 4 "weighed" ["coins", "odd", "heavy", "left", "right"] spWd := can_of X G Dweighed (fun _ _ _ _ _ _ us hl => match us, hl with | [_, _, _, _, _], _ => rfl) fun f fd F => ok_weighed F c_check_odd c_check_weighing c_outcome_by c_placed
  have c_coins_with : Can P w K mg base CX0 1 "coins_with" ["marks", "wanted"] spCoins := can_of X G Dcoins_with (fun _ _ _ _ _ _ us hl => match us, hl with | [_, _], _ => rfl) fun f fd F => ok_coins F B
  have c_paired_first : Can P w K mg base CX0 2 "paired_first" ["marks"] spPf := can_of X G Dpaired_first (fun _ _ _ _ _ _ us hl => match us, hl with | [_], _ => rfl) fun f fd F => ok_pf F B c_coins_with
  have c_kept_off : Can P w K mg base CX0 1 "kept_off" ["marks", "most"] spKept := can_of X G Dkept_off (fun _ _ _ _ _ _ us hl => match us, hl with | [_, _], _ => rfl) fun f fd F => ok_kept F
  have c_first_weighing : Can P w K mg base CX0 3 "first_weighing" ["marks", "many"] (spFirst e) := can_of X G Dfirst_weighing (fun _ _ _ _ _ _ us hl => match us, hl with | [_, _], _ => rfl) fun f fd F => ok_first F B c_paired_first c_kept_off c_most_cases m_Open
  have c_told : Can P w K mg base CX0 4 "told" ["marks"] (spTd e) := can_of X G Dtold (fun _ _ _ _ _ _ us hl => match us, hl with | [_], _ => rfl) fun f fd F => ok_td F An c_fewest c_first_weighing m_Heavy m_Light
  have c__law_cell_at : Can P w K mg base CX0 1 "_law_cell_at" ["_law_script", "_law_k"] (spCell K) := can_of X G D_law_cell_at (fun _ _ _ _ _ _ us hl => match us, hl with | [_, _], _ => rfl) fun f fd F => ok_cell F B
  have c__law_draw : Can P w K mg base CX0 1 "_law_draw" ["_law_cell", "_law_k", "_law_many"] spDraw := can_of X G D_law_draw (fun _ _ _ _ _ _ us hl => match us, hl with | [_, _, _], _ => rfl) fun f fd F => ok_draw F
  have c__law_after : Can P w K mg base CX0 6 "_law_after" ["_law_marks", "_law_found", "_law_outcome"] (spAft e) := can_of X G D_law_after (fun _ _ _ _ _ _ us hl => match us, hl with | [_, _, _], _ => rfl) fun f fd F => ok_after F An c_behind
  have c__law_led : Can P w K mg base CX0 7 "_law_led" ["_law_coins", "_law_odd", "_law_heavy"] spLed := can_of X G D_law_led (fun _ _ _ _ _ _ us hl => match us, hl with | [_, _, _], _ => rfl) fun f fd F => ok_led F B An c_told c_weighed c__law_after
  exact ok_law F0 B c__law_cell_at c__law_draw c__law_led
end Ks
end
section
namespace Ks
open PySem L2 Mir
theorem walk {l : PySem.W.OpenLaw} {q : Program} {loose : List Str} {XP : (Str → Option Value) → Heap → Prop} {YP : World → Heap → Prop} {d : DefRec} {K : Params → PySem.W.Frag} (hn : l.most = some 63) (hdf : d.params.defaults = [])
    (hY : ∀ (w : World) (h : Heap), YP w h → (K w.params).In h)
    (F : ∀ (w : World) (mg : Str → Option Value) (fa : Addr) (h : Heap), (K w.params).In h → h.Ns mainGlobals mg → mg d.name = some (.ref fa) →
      ∃ fd : FuncData, (∀ (s : Shared) (u : Value), BindsTo s fd ⟨[u], []⟩ [("_law_script", u)]) ∧ ∀ base : Heap, (K w.params).In base → base.Ns mainGlobals mg → FnOk l.prog w (K w.params) mg base CX0 8 fa fd ["_law_script"] (spLaw (K w.params))) :
    PySem.W.WalkO q loose XP YP l.row.toRowW d [] (fun f vs => PySem.call f vs) :=
  L2.walk_of (n := 63) (k := 8) (x := "_law_script") (CX := fun _ => CX0) (sp := fun w => spLaw (K w.params)) hn (by decide) hdf ⟨rfl, by decide, by decide⟩ hY F (fun _ _ a ns hl _ hS => ⟨a, ns, rfl, hS, hl, fun _ _ => rfl⟩) fun _ _ _ _ _ z => z
end Ks
open PySem PySem.W PyProof.Rows
set_option maxRecDepth 100000 in
set_option maxHeartbeats 0 in
theorem PySem.Challenge.cw_oddcoin_k02_whole_found_holds : PySem.Challenge.rw_oddcoin_k02_whole_found.Holds := by
  w_on
  refine holds_law (by decide +kernel) fun said => ?_
  refine holds_open (q := Ks.view) (loose := ["OTHER"]) (Xt := fun s => xlAt Ks.view [] s && recOk (RowW.records (OpenRow.toRowW (PySem.Challenge.rw_oddcoin_k02_whole_found).row)) s) (XP := XL Ks.view []) (Yf := Hook.obs (kHook Ks.KK Ks.keysK Ks.keysK_is)) (Ya := Hook.val (kHook Ks.KK Ks.keysK Ks.keysK_is)) (YP := Hook.says (kHook Ks.KK Ks.keysK Ks.keysK_is)) (N := 7226) ?hl (Hook.of (kHook Ks.KK Ks.keysK Ks.keysK_is)) (Hook.keeps (kHook Ks.KK Ks.keysK Ks.keysK_is)) (fun s e => xl_of s (Bool.and_eq_true_iff.mp e).1) XL.keeps (by rfl) (by rfl) (by rfl) (fun s e => recFacts_of (Bool.and_eq_true_iff.mp e).2) (by rfl) (by first | assumption | decide +kernel) (by decide +kernel) ⟨rfl, rfl, rfl, rfl, rfl, by decide +kernel⟩ ?hw ?hc
  case hl => exact Ks.leftO
  case hw => w_witness2
  k_fill
  refine Ks.walk (l := PySem.Challenge.rw_oddcoin_k02_whole_found) rfl rfl (fun w h Y => PySem.W.kIn_of Y) ?F
  case F =>
    intro w mg fa h KX G hmg
    refine' Ks.all_mk KX G hmg ?B ?T ?O1 ?O2 ?ncn ?xcn ?An ?IH ?IL ?IO ?Dis_whole ?Dcheck_marks ?Dcheck_side ?Dcheck_weighing ?Dcheck_outcome ?Dcheck_odd ?Dcases ?Dmost_cases ?Dfewest ?Dplaced ?Doutcome_by ?Dmay_be_heavy ?Dmay_be_light ?Dmay_all_be_good ?Dsign_behind ?Djudged ?Dbehind ?Dweighed ?Dcoins_with ?Dpaired_first ?Dkept_off ?Dfirst_weighing ?Dtold ?D_law_cell_at ?D_law_draw ?D_law_after ?D_law_led ?Dlaw
    case B =>
      refine' ⟨PySem.W.mg_none_of KX G ?b0, PySem.W.mg_none_of KX G ?b1, PySem.W.mg_none_of KX G ?b2, PySem.W.mg_none_of KX G ?b3, PySem.W.mg_none_of KX G ?b4, PySem.W.mg_none_of KX G ?b5, PySem.W.mg_none_of KX G ?b6, PySem.W.mg_none_of KX G ?b7, PySem.W.mg_none_of KX G ?b8, PySem.W.mg_none_of KX G ?b9, PySem.W.mg_none_of KX G ?b10, PySem.W.mg_none_of KX G ?b11, PySem.W.mg_none_of KX G ?b12, PySem.W.mg_none_of KX G ?b13, PySem.W.mg_none_of KX G ?b14⟩
      (case b0 => k_is)
      (case b1 => k_is)
      (case b2 => k_is)
      (case b3 => k_is)
      (case b4 => k_is)
      (case b5 => k_is)
      (case b6 => k_is)
      (case b7 => k_is)
      (case b8 => k_is)
      (case b9 => k_is)
      (case b10 => k_is)
      (case b11 => k_is)
      (case b12 => k_is)
      (case b13 => k_is)
      (case b14 => k_is)
    case T => refine' ⟨?t1, ?t2, ?t3, ?t4, ?t5, ?t6⟩ <;> kernel_rfl
    case O1 =>
      refine' Ks.oth_mk KX G ?a ?l ?b1 ?b2 ?b3 ?kl
      (case a => k_is); (case l => k_is); (case b1 => k_is); (case b2 => k_is); (case b3 => k_is)
      exact ⟨⟨_, _, rfl, rfl⟩, ⟨_, _, rfl, rfl⟩, ⟨_, _, rfl, rfl⟩, trivial⟩
    case O2 =>
      refine' Ks.outs_mk KX G ?a ?l
      (case a => k_is); (case l => k_is)
    case ncn => k_is
    case xcn => kernel_rfl
    case An =>
      refine' Ks.anss_mk KX G ?n0 ?n1 ?n2 ?n3 ?n4 ?sp ?tk ?nd ?b1 ?b2 ?b3 ?b4 ?f1 ?f2 ?f4 ?m3 ?kt
      (case n0 => k_is); (case n1 => k_is); (case n2 => k_is); (case n3 => k_is); (case n4 => k_is); (case sp => k_is); (case tk => k_is)
      (case nd => decide)
      (case b1 => kernel_rfl); (case b2 => kernel_rfl); (case b3 => kernel_rfl); (case b4 => kernel_rfl); (case f1 => kernel_rfl); (case f2 => kernel_rfl); (case f4 => kernel_rfl); (case m3 => kernel_rfl); (case kt => kernel_rfl)
    case IH =>
      refine' Ks.ini_mk ?a ?l ?c ?k ?m ?i ?k2
      (case a => k_is); (case l => k_is); (case c => k_is); (case k => k_is)
      (case m => kernel_rfl); (case i => kernel_rfl); (case k2 => k_is)
    case IL =>
      refine' Ks.ini_mk ?a ?l ?c ?k ?m ?i ?k2
      (case a => k_is); (case l => k_is); (case c => k_is); (case k => k_is)
      (case m => kernel_rfl); (case i => kernel_rfl); (case k2 => k_is)
    case IO =>
      refine' Ks.ini_mk ?a ?l ?c ?k ?m ?i ?k2
      (case a => k_is); (case l => k_is); (case c => k_is); (case k => k_is)
      (case m => kernel_rfl); (case i => kernel_rfl); (case k2 => k_is)
    case Dis_whole => refine' Ks.def_mk ?a ?l ?c ?k; (case a => k_is); (case l => k_is); (case c => k_is); (case k => k_is)
    case Dcheck_marks => refine' Ks.def_mk ?a ?l ?c ?k; (case a => k_is); (case l => k_is); (case c => k_is); (case k => k_is)
    case Dcheck_side => refine' Ks.def_mk ?a ?l ?c ?k; (case a => k_is); (case l => k_is); (case c => k_is); (case k => k_is)
    case Dcheck_weighing => refine' Ks.def_mk ?a ?l ?c ?k; (case a => k_is); (case l => k_is); (case c => k_is); (case k => k_is)
    case Dcheck_outcome => refine' Ks.def_mk ?a ?l ?c ?k; (case a => k_is); (case l => k_is); (case c => k_is); (case k => k_is)
    case Dcheck_odd => refine' Ks.def_mk ?a ?l ?c ?k; (case a => k_is); (case l => k_is); (case c => k_is); (case k => k_is)
    case Dcases => refine' Ks.def_mk ?a ?l ?c ?k; (case a => k_is); (case l => k_is); (case c => k_is); (case k => k_is)
    case Dmost_cases => refine' Ks.def_mk ?a ?l ?c ?k; (case a => k_is); (case l => k_is); (case c => k_is); (case k => k_is)
    case Dfewest => refine' Ks.def_mk ?a ?l ?c ?k; (case a => k_is); (case l => k_is); (case c => k_is); (case k => k_is)
    case Dplaced => refine' Ks.def_mk ?a ?l ?c ?k; (case a => k_is); (case l => k_is); (case c => k_is); (case k => k_is)
    case Doutcome_by => refine' Ks.def_mk ?a ?l ?c ?k; (case a => k_is); (case l => k_is); (case c => k_is); (case k => k_is)
    case Dmay_be_heavy => refine' Ks.def_mk ?a ?l ?c ?k; (case a => k_is); (case l => k_is); (case c => k_is); (case k => k_is)
    case Dmay_be_light => refine' Ks.def_mk ?a ?l ?c ?k; (case a => k_is); (case l => k_is); (case c => k_is); (case k => k_is)
    case Dmay_all_be_good => refine' Ks.def_mk ?a ?l ?c ?k; (case a => k_is); (case l => k_is); (case c => k_is); (case k => k_is)
    case Dsign_behind => refine' Ks.def_mk ?a ?l ?c ?k; (case a => k_is); (case l => k_is); (case c => k_is); (case k => k_is)
    case Djudged => refine' Ks.def_mk ?a ?l ?c ?k; (case a => k_is); (case l => k_is); (case c => k_is); (case k => k_is)
    case Dbehind => refine' Ks.def_mk ?a ?l ?c ?k; (case a => k_is); (case l => k_is); (case c => k_is); (case k => k_is)
    case Dweighed => refine' Ks.def_mk ?a ?l ?c ?k; (case a => k_is); (case l => k_is); (case c => k_is); (case k => k_is)
    case Dcoins_with => refine' Ks.def_mk ?a ?l ?c ?k; (case a => k_is); (case l => k_is); (case c => k_is); (case k => k_is)
    case Dpaired_first => refine' Ks.def_mk ?a ?l ?c ?k; (case a => k_is); (case l => k_is); (case c => k_is); (case k => k_is)
    case Dkept_off => refine' Ks.def_mk ?a ?l ?c ?k; (case a => k_is); (case l => k_is); (case c => k_is); (case k => k_is)
    case Dfirst_weighing => refine' Ks.def_mk ?a ?l ?c ?k; (case a => k_is); (case l => k_is); (case c => k_is); (case k => k_is)
    case Dtold => refine' Ks.def_mk ?a ?l ?c ?k; (case a => k_is); (case l => k_is); (case c => k_is); (case k => k_is)
    case D_law_cell_at => refine' Ks.def_mk ?a ?l ?c ?k; (case a => k_is); (case l => k_is); (case c => k_is); (case k => k_is)
    case D_law_draw => refine' Ks.def_mk ?a ?l ?c ?k; (case a => k_is); (case l => k_is); (case c => k_is); (case k => k_is)
    case D_law_after => refine' Ks.def_mk ?a ?l ?c ?k; (case a => k_is); (case l => k_is); (case c => k_is); (case k => k_is)
    case D_law_led => refine' Ks.def_mk ?a ?l ?c ?k; (case a => k_is); (case l => k_is); (case c => k_is); (case k => k_is)
    case Dlaw => refine' Ks.def_mk ?a ?l ?c ?k; (case a => k_is); (case l => k_is); (case c => k_is); (case k => k_is)
end
