import PyProof.Rows.All
import Wide.All
import OpenK.KLine
import OpenK.KWalk
import OpenK.KMore
import KE.KTryMore
import KE.KItem
import KE.KxBytes
import KE.KDictOf
import Wide.FinOn
import PyProof.EqAt
import PyProof.EqKinds
import PyProof.TupleCall
import PyProof.Rows.SetFrom
import PyProof.CollectIter
import PyProof.DictWalks
import PyProof.Rows.SortShell
import PyProof.MinMaxWalk
import PyProof.SeqI3
import PyProof.WalkInts
import PySem.Challenge.RW_oddcoin_k06_refused
set_option Elab.async false
set_option linter.all false
set_option maxRecDepth 100000
set_option maxHeartbeats 4000000
section
namespace L2
open PySem PySem.Spec PyProof.Rows
abbrev Key := Sum Int Str
def keyIs : Key → Value → Bool
  | .inl k, v => Value.isInt k v
  | .inr x, v => Value.isStrOf x v
def keyH (w : World) : Key → Int
  | .inl k => hashInt k
  | .inr x => hashStr w x
theorem keyIs_shape : ∀ {k : Key} {v : Value}, keyIs k v = true → (∃ i t, k = Sum.inl i ∧ v = Value.int i t) ∨ (∃ x t, k = Sum.inr x ∧ v = Value.str x t)
  | .inl i, v, h => by
    obtain ⟨t, e⟩ := Value.isInt_shape (k := i) (v := v) h
    exact .inl ⟨i, t, rfl, e⟩
  | .inr x, v, h => by
    obtain ⟨t, e⟩ := Value.isStrOf_shape (x := x) (v := v) h
    exact .inr ⟨x, t, rfl, e⟩
theorem keyIs_int (i : Int) (t : Tok) : keyIs (.inl i) (.int i t) = true := by simp [keyIs, Value.isInt]
theorem keyIs_str (x : Str) (t : Tok) : keyIs (.inr x) (.str x t) = true := by simp [keyIs, Value.isStrOf]
theorem key_ll (a b : Int) : decide ((Sum.inl a : Key) = Sum.inl b) = (a == b) := by
  by_cases e : a = b
  · subst e; simp
  · have h : ¬ (Sum.inl a : Key) = Sum.inl b := fun q => e (Sum.inl.inj q)
    rw [decide_eq_false h]
    exact (beq_eq_false_iff_ne.mpr e).symm
theorem key_rr (a b : Str) : decide ((Sum.inr a : Key) = Sum.inr b) = decide (a = b) := by
  by_cases e : a = b
  · subst e; simp
  · have h : ¬ (Sum.inr a : Key) = Sum.inr b := fun q => e (Sum.inr.inj q)
    rw [decide_eq_false h, decide_eq_false e]
theorem key_lr (a : Int) (b : Str) : decide ((Sum.inl a : Key) = Sum.inr b) = false := decide_eq_false (fun q => nomatch q)
theorem key_rl (a : Str) (b : Int) : decide ((Sum.inr a : Key) = Sum.inl b) = false := decide_eq_false (fun q => nomatch q)
def mixKind (prog : Program) (w : World) : PySem.KeyKind prog w Key where
  is := keyIs
  hash := keyH w
  inj := fun v a b ha hb => by
    rcases keyIs_shape ha with ⟨i, t, rfl, rfl⟩ | ⟨x, t, rfl, rfl⟩
    · rcases keyIs_shape hb with ⟨j, u, rfl, e⟩ | ⟨y, u, rfl, e⟩
      · injection e with e1 _; rw [e1]
      · exact nomatch e
    · rcases keyIs_shape hb with ⟨j, u, rfl, e⟩ | ⟨y, u, rfl, e⟩
      · exact nomatch e
      · injection e with e1 _; rw [e1]
  byValue := fun k v h => by
    rcases keyIs_shape h with ⟨i, t, rfl, rfl⟩ | ⟨x, t, rfl, rfl⟩ <;> rfl
  pyHash := fun hv h => by
    rcases keyIs_shape hv with ⟨i, t, rfl, rfl⟩ | ⟨x, t, rfl, rfl⟩
    · exact wpAny_pyHash_int h
    · exact wpAny_pyHash_str h
  eqBool := fun hu hv h => by
    rcases keyIs_shape hu with ⟨i, t, rfl, rfl⟩ | ⟨x, t, rfl, rfl⟩
    · rcases keyIs_shape hv with ⟨j, u, rfl, rfl⟩ | ⟨y, u, rfl, rfl⟩
      · rw [key_ll] at h; exact wpAny_eqBool_int h
      · rw [key_lr] at h; exact SeqAt.EqAt.int_str i t y u _ _ _ _ h
    · rcases keyIs_shape hv with ⟨j, u, rfl, rfl⟩ | ⟨y, u, rfl, rfl⟩
      · rw [key_rl] at h; exact SeqAt.EqAt.str_int x t j u _ _ _ _ h
      · rw [key_rr] at h; exact wpAny_eqBool_str h
  «strs» := fun k x t v h => by
    rcases keyIs_shape h with ⟨i, u, rfl, e⟩ | ⟨y, u, rfl, e⟩
    · exact nomatch e
    · injection e with e1 _
      subst e1
      cases v <;> rfl
theorem mixKind_int (prog : Program) (w : World) (i : Int) (t : Tok) : (mixKind prog w).is (.inl i) (.int i t) = true := keyIs_int i t
theorem mixKind_str (prog : Program) (w : World) (x : Str) (t : Tok) : (mixKind prog w).is (.inr x) (.str x t) = true := keyIs_str x t
end L2
namespace L2
open PySem PySem.Spec PyProof.Rows
inductive V where
  | non | bl (b : Bool) | int (i : Int) | str (x : Str) | byt (b : Array UInt8) | flt (b : UInt64) | ref (a : Addr) | ty (n : String)
  deriving DecidableEq
def RelV : V → Value → Prop
  | .non, u => u = Value.none
  | .bl b, u => u = Value.bool b
  | .int i, u => ∃ t, u = Value.int i t
  | .str x, u => ∃ t, u = Value.str x t
  | .byt b, u => ∃ t, u = Value.bytes b t
  | .flt b, u => ∃ t, u = Value.float b t
  | .ref a, u => u = Value.ref a
  | .ty n, u => u = Value.type n
abbrev Vals : List V → List Value → Prop := Paired RelV
theorem Vals.length {xs : List V} {us : List Value} (r : Vals xs us) : xs.length = us.length := Paired.length r
theorem Vals.get : ∀ {xs : List V} {us : List Value} {i : Nat} {x : V}, Vals xs us → xs[i]? = some x → ∃ u, us[i]? = some u ∧ RelV x u
  | _, _, _, _, .nil, e => by simp at e
  | _, _, 0, _, .cons r _, e => by simp at e; subst e; exact ⟨_, rfl, r⟩
  | _, _, i + 1, x, .cons _ t, e => by
    obtain ⟨u, h1, h2⟩ := Vals.get (i := i) (x := x) t (by simpa using e)
    exact ⟨u, by simpa using h1, h2⟩
theorem Vals.append : ∀ {xs ys : List V} {us ws : List Value}, Vals xs us → Vals ys ws → Vals (xs ++ ys) (us ++ ws)
  | _, _, _, _, .nil, s => s
  | _, _, _, _, .cons r t, s => .cons r (Vals.append t s)
def RelO : Option V → Option Value → Prop
  | some v, some u => RelV v u
  | none, none => True
  | _, _ => False
def KV {κ : Type} : List (κ × V) → List (κ × Value) → Prop := Paired fun (p : κ × V) (q : κ × Value) => p.1 = q.1 ∧ RelV p.2 q.2
def kV : Key → V
  | .inl i => .int i
  | .inr x => .str x
inductive HO where
    | lst (xs : List V)
    | tup (xs : List V)
    | dK (kvs : List (Key × V)) | dT (kvs : List (List Key × V))
    | set (S : Int → Bool) (n : Nat)
    | ins (C dx : Addr) (fs : List (Str × V))
    | own (x : Addr)
    | xd (fs : List (Str × V))
    | met (f x : Addr)
    | rng (lo hi : Int)
    | frz (o : Obj) (u : HO)
    | tbl (ps : Array Value)
    | ext (φ : Heap → Prop)
abbrev Hp := Addr → Option HO
def upd (H : Hp) (a : Addr) (o : HO) : Hp := fun b => if b = a then some o else H b
theorem upd_same {H : Hp} {a : Addr} {o : HO} : upd H a o a = some o := by unfold upd; rw [if_pos rfl]
theorem upd_ne {H : Hp} {a b : Addr} {o : HO} (h : b ≠ a) : upd H a o b = H b := by unfold upd; rw [if_neg h]
theorem upd_upd {H : Hp} {a : Addr} {o u : HO} : upd (upd H a o) a u = upd H a u := by
  funext b; unfold upd; split <;> rfl
theorem ne_of {H : Hp} {a b : Addr} {o u : HO} (h : H a = some o) (h' : H b = some u) (d : o ≠ u) : a ≠ b := by
  intro e; subst e; rw [h] at h'; exact d (Option.some.inj h')
theorem ne_of_none {H : Hp} {a b : Addr} {o : HO} (h : H a = some o) (h' : H b = none) : a ≠ b := by
  intro e; subst e; rw [h] at h'; cases h'
section
variable (P : Program) (w : World)
def ObjOk (H : Hp) (h : Heap) (a : Addr) : HO → Prop
  | .lst xs => xs.length ≤ sizeLine ∧ ∃ (its : List Value) (n : Nat), Vals xs its ∧ h.get? a = some { cls := .type "list", data := .seq its.toArray n }
  | .tup xs => xs.length ≤ sizeLine ∧ ∃ its : List Value, Vals xs its ∧ IsTup h a its.toArray
  | .dK kvs => kvs.length ≤ sizeLine ∧ (a == sysModules) = false ∧ ∃ vs, KV kvs vs ∧ h.DictOf (mixKind P w) a vs
  | .dT kvs => kvs.length ≤ sizeLine ∧ (a == sysModules) = false ∧ ∃ xs : List (List Key × Addr × Value),
      Paired (fun (p : List Key × V) (q : List Key × Addr × Value) => p.1 = q.1 ∧ H q.2.1 = some (.tup (p.1.map kV)) ∧ RelV p.2 q.2.2) kvs xs ∧
      ∃ o es ep, h.get? a = some o ∧ o.ExactDict ∧ o.data = .dict es ep ∧ es.toList = xs.map (entryOfKey (tupleKind (mixKind P w))) ∧ (xs.map (·.1)).Nodup
  | .set S n => h.SetOf (intKind P w) a S n
  | .ins C dx fs => H dx = some (.own a) ∧ fs.length ≤ 1000 ∧ dx ≠ a ∧ h.get? a = some (PySem.W.instObj C dx) ∧
      ∃ mA, h.Ns1 dx mA ∧ (∀ f, RelO (fs.lookup f) (mA f)) ∧ PySem.Within mA (fs.map (·.1))
  | .own _ => ∃ o, h.get? a = some o
  | .xd fs => ∃ mA, h.Ns1 a mA ∧ ∀ f, RelO (fs.lookup f) (mA f)
  | .rng lo hi => ∃ t u v, h.get? a = some { cls := .type "range", data := .fields #[.int lo t, .int hi u, .int 1 v] }
  | .frz o u => h.get? a = some o ∧ ObjOk H h a u
  | .tbl ps => h.get? a = some { cls := .none, data := .fields ps }
  | .met f x => h.get? a = some (PySem.W.methodObj (.ref f) (.ref x))
  | .ext φ => φ h ∧ (∃ o, h.get? a = some o) ∧ ∀ h1 h2 : Heap, φ h1 → (∀ o, h1.get? a = some o → h2.get? a = some o) → φ h2
def HOk (H : Hp) (h : Heap) : Prop := ∀ a o, H a = some o → ObjOk P w H h a o
end
section
variable {P : Program} {w : World} {H H' : Hp} {h h' : Heap} {a : Addr} {o : HO}
theorem ObjOk.lt (x : ObjOk P w H h a o) : a < h.objs.size := by
  cases o with
  | lst xs => obtain ⟨_, _, _, _, e⟩ := x; exact Heap.lt_size e
  | tup xs => obtain ⟨_, _, _, p⟩ := x; exact p.lt
  | dK kvs => obtain ⟨_, _, _, _, o, _, _, e, _⟩ := x; exact Heap.lt_size e
  | dT kvs => obtain ⟨_, _, _, _, o, _, _, e, _⟩ := x; exact Heap.lt_size e
  | set S n => obtain ⟨o, _, _, _, e, _⟩ := x; exact Heap.lt_size e
  | ins C dx fs => obtain ⟨_, _, _, e, _⟩ := x; exact Heap.lt_size e
  | own y => obtain ⟨_, e⟩ := x; exact Heap.lt_size e
  | xd fs => obtain ⟨_, ⟨_, _, _, e, _⟩, _⟩ := x; exact Heap.lt_size e
  | rng lo hi => obtain ⟨_, _, _, e⟩ := x; exact Heap.lt_size e
  | frz ob u => obtain ⟨e, _⟩ := x; exact Heap.lt_size e
  | tbl ps => exact Heap.lt_size (show h.get? a = some _ from x)
  | met f y => exact Heap.lt_size (show h.get? a = some _ from x)
  | ext φ => obtain ⟨_, ⟨_, e⟩, _⟩ := x; exact Heap.lt_size e
theorem Paired.mapP {α β : Type} {F G : α → β → Prop} : ∀ {l₁ : List α} {l₂ : List β}, Paired F l₁ l₂ → (∀ a b, F a b → G a b) → Paired G l₁ l₂
  | _, _, .nil, _ => .nil
  | _, _, .cons r t, f => .cons (f _ _ r) (Paired.mapP t f)
theorem ObjOk.stay (x : ObjOk P w H h a o) (k : ∀ b u, (b = a ∨ H b = some (.own a)) → h.get? b = some u → h'.get? b = some u)
    (ho : ∀ b, H b = some (.own a) → H' b = some (.own a)) (ht : ∀ b xs, H b = some (.tup xs) → H' b = some (.tup xs)) : ObjOk P w H' h' a o := by
  induction o with
  | lst xs => obtain ⟨z, its, n, r, e⟩ := x; exact ⟨z, its, n, r, k _ _ (.inl rfl) e⟩
  | tup xs => obtain ⟨z, its, r, ob, e, c⟩ := x; exact ⟨z, its, r, ob, k _ _ (.inl rfl) e, c⟩
  | dK kvs => obtain ⟨z, y, vs, r, ob, es, ep, e, c⟩ := x; exact ⟨z, y, vs, r, ob, es, ep, k _ _ (.inl rfl) e, c⟩
  | dT kvs =>
    obtain ⟨z, y, xs, r, ob, es, ep, e, c⟩ := x
    exact ⟨z, y, xs, Paired.mapP r fun p q z => ⟨z.1, ht _ _ z.2.1, z.2.2⟩, ob, es, ep, k _ _ (.inl rfl) e, c⟩
  | set S n => obtain ⟨ob, es, ep, t, e, c⟩ := x; exact ⟨ob, es, ep, t, k _ _ (.inl rfl) e, c⟩
  | ins C dx fs =>
    obtain ⟨d, z, ne, e, mA, ⟨od, es, ep, e2, c⟩, r⟩ := x
    exact ⟨ho _ d, z, ne, k _ _ (.inl rfl) e, mA, ⟨od, es, ep, k _ _ (.inr d) e2, c⟩, r⟩
  | own y => obtain ⟨ob, e⟩ := x; exact ⟨ob, k _ _ (.inl rfl) e⟩
  | xd fs => obtain ⟨mA, ⟨od, es, ep, e, c⟩, r⟩ := x; exact ⟨mA, ⟨od, es, ep, k _ _ (.inl rfl) e, c⟩, r⟩
  | rng lo hi => obtain ⟨t, u, v, e⟩ := x; exact ⟨t, u, v, k _ _ (.inl rfl) e⟩
  | frz ob u ih => obtain ⟨e, q⟩ := x; exact ⟨k _ _ (.inl rfl) e, ih q⟩
  | tbl ps =>
    have e : h.get? a = some { cls := .none, data := .fields ps } := x
    show h'.get? a = some { cls := .none, data := .fields ps }
    exact k a _ (.inl rfl) e
  | met f y =>
    have e : h.get? a = some (PySem.W.methodObj (.ref f) (.ref y)) := x
    show h'.get? a = some (PySem.W.methodObj (.ref f) (.ref y))
    exact k a _ (.inl rfl) e
  | ext φ => obtain ⟨p, ⟨o, e⟩, st⟩ := x; exact ⟨st _ _ p fun o q => k _ _ (.inl rfl) q, ⟨o, k _ _ (.inl rfl) e⟩, st⟩
theorem HOk.lt (x : HOk P w H h) (e : H a = some o) : a < h.objs.size := (x a o e).lt
theorem HOk.fresh (x : HOk P w H h) (e : h.objs.size ≤ a) : H a = none := by
  cases q : H a with
  | none => rfl
  | some u => exact absurd (Nat.lt_of_lt_of_le (x.lt q) e) (Nat.lt_irrefl _)
theorem HOk.kept (x : HOk P w H h) (k : ∀ b u, h.get? b = some u → h'.get? b = some u) : HOk P w H h' := fun a o e =>
  (x a o e).stay (fun b u _ q => k b u q) (fun _ q => q) fun _ _ q => q
theorem HOk.laid (x : HOk P w H h) (k : ∀ b u, h.get? b = some u → h'.get? b = some u) (hp : h.objs.size ≤ a) (new : ObjOk P w (upd H a o) h' a o) : HOk P w (upd H a o) h' := fun b u e => by
  have hn := x.fresh hp
  by_cases hb : b = a
  · subst hb; rw [upd_same] at e; cases e; exact new
  · rw [upd_ne hb] at e
    exact (x b u e).stay (fun c v _ q => k c v q) (fun c q => by rw [upd_ne (ne_of_none q hn)]; exact q) fun c xs q => by rw [upd_ne (ne_of_none q hn)]; exact q
end
def Rd (H : Hp) (a : Addr) (u : HO) : Prop := H a = some u ∨ ∃ o, H a = some (.frz o u)
theorem Rd.ok {P : Program} {w : World} {H : Hp} {h : Heap} {a : Addr} {u : HO} (r : Rd H a u) (x : HOk P w H h) : ObjOk P w H h a u := by
  rcases r with r | ⟨o, r⟩
  · exact x a u r
  · obtain ⟨_, q⟩ := x a _ r
    exact q
def Mut : Option HO → Prop
  | some (.lst _) => True
  | some (.dK _) => True
  | some (.dT _) => True
  | some (.set _ _) => True
  | some (.ins _ _ _) => True
  | some (.ext _) => True
  | _ => False
section
variable {P : Program} {w : World} {H : Hp} {h h' : Heap} {x e : Addr} {o' : HO}
theorem HOk.write (ok : HOk P w H h) (mu : Mut (H x)) (he : e = x ∨ H e = some (.own x)) (k : ∀ b u, b ≠ e → h.get? b = some u → h'.get? b = some u) (heo : ∃ u, h'.get? e = some u)
    (new : ObjOk P w (upd H x o') h' x o') : HOk P w (upd H x o') h' := fun b u q => by
  have nown : ∀ c y, H c = some (.own y) → c ≠ x := fun c y r z => by subst z; rw [r] at mu; exact mu
  have ntup : ∀ c xs, H c = some (.tup xs) → c ≠ x := fun c xs r z => by subst z; rw [r] at mu; exact mu
  by_cases hb : b = x
  · subst hb; rw [upd_same] at q; cases q; exact new
  · rw [upd_ne hb] at q
    by_cases hbe : b = e
    · have q' : H b = some (.own x) := by
        rcases he with z | z
        · exact absurd (hbe.trans z) hb
        · rw [hbe]; exact z
      rw [q] at q'; cases q'
      obtain ⟨v, hv⟩ := heo
      exact ⟨v, by rw [hbe]; exact hv⟩
    · refine (ok b u q).stay (fun c v hc r => k c v ?_ r) (fun c r => by rw [upd_ne (nown c b r)]; exact r) fun c xs r => by rw [upd_ne (ntup c xs r)]; exact r
      rcases hc with rfl | hc
      · exact hbe
      · rintro rfl
        rcases he with z | z
        · exact nown c b hc z
        · rw [hc] at z; cases z; exact hb rfl
end
structure Un (fs ex : List Addr) (H H' : Hp) (h h' : Heap) : Prop where
  keep : ∀ b o, h.get? b = some o → H b = none → b ∉ fs → b ∉ ex → h'.get? b = some o
  slot : ∀ b o, h.get? b = some o → H b = none → b ∈ fs → b ∉ ex → ∃ sl, h'.get? b = some { o with slots := sl }
  free : ∀ b o, h.get? b = some o → H b = none → b ∉ ex → H' b = none
  there : ∀ b o, h.get? b = some o → b ∉ ex → ∃ o', h'.get? b = some o'
  tups : ∀ b xs, H b = some (.tup xs) → H' b = some (.tup xs)
  frzs : ∀ b o u, H b = some (.frz o u) → H' b = some (.frz o u)
  tbls : ∀ b ps, H b = some (.tbl ps) → ∃ more, H' b = some (.tbl (ps ++ more))
section
variable {fs fs' ex ex' : List Addr} {H H1 H2 : Hp} {h h1 h2 h' : Heap} {a x e : Addr} {o : HO}
theorem Un.any (u : Un fs ex H H1 h h1) {b : Addr} {ob : Obj} (q : h.get? b = some ob) (n : H b = none) (hx : b ∉ ex) : ∃ sl, h1.get? b = some { ob with slots := sl } := by
  by_cases hb : b ∈ fs
  · exact u.slot b ob q n hb hx
  · exact ⟨ob.slots, u.keep b ob q n hb hx⟩
theorem Un.kept (k : ∀ b u, h.get? b = some u → h'.get? b = some u) : Un fs ex H H h h' :=
  ⟨fun b ob q _ _ _ => k b ob q, fun b ob q _ _ _ => ⟨ob.slots, k b ob q⟩, fun _ _ _ n _ => n, fun b ob q _ => ⟨ob, k b ob q⟩, fun _ _ q => q, fun _ _ _ q => q, fun _ ps q => ⟨#[], by rw [q]; simp⟩⟩
theorem Un.refl : Un fs ex H H h h := Un.kept fun _ _ q => q
theorem Un.laid (k : ∀ b u, h.get? b = some u → h'.get? b = some u) (hp : h.objs.size ≤ a) (hn : H a = none) : Un fs ex H (upd H a o) h h' where
  keep := fun b u q _ _ _ => k b u q
  slot := fun b u q _ _ _ => ⟨u.slots, k b u q⟩
  free := fun b u q n _ => by rw [upd_ne (Nat.ne_of_lt (Nat.lt_of_lt_of_le (Heap.lt_size q) hp))]; exact n
  there := fun b u q _ => ⟨u, k b u q⟩
  tups := fun b xs q => by rw [upd_ne (ne_of_none q hn)]; exact q
  frzs := fun b u xs q => by rw [upd_ne (ne_of_none q hn)]; exact q
  tbls := fun b ps q => ⟨#[], by rw [upd_ne (ne_of_none q hn), q]; simp⟩
theorem Un.write (mu : Mut (H x)) (he : e = x ∨ H e = some (.own x)) (k : ∀ b u, b ≠ e → h.get? b = some u → h'.get? b = some u) (heo : ∃ u, h'.get? e = some u) : Un fs ex H (upd H x o) h h' := by
  have hx : ∀ b, H b = none → b ≠ x := fun b n z => by subst z; rw [n] at mu; exact mu
  have hb : ∀ b, H b = none → b ≠ e := fun b n z => by
    subst z
    rcases he with r | r
    · exact hx b n r
    · rw [n] at r; cases r
  have hm : ∀ b u, H b = some u → ¬ Mut (some u) → b ≠ x := fun b u q nm z => by subst z; rw [q] at mu; exact nm mu
  refine ⟨fun b u q n _ _ => k b u (hb b n) q, fun b u q n _ _ => ⟨u.slots, k b u (hb b n) q⟩, fun b u q n _ => by rw [upd_ne (hx b n)]; exact n, fun b u q _ => ?_,
    fun b xs q => by rw [upd_ne (hm b _ q fun z => z)]; exact q, fun b u xs q => by rw [upd_ne (hm b _ q fun z => z)]; exact q, fun b ps q => ⟨#[], by rw [upd_ne (hm b _ q fun z => z), q]; simp⟩⟩
  by_cases hbe : b = e
  · subst hbe; exact heo
  · exact ⟨u, k b u hbe q⟩
end
def trk (h : Heap) (H : Hp) : List Addr := (List.range h.objs.size).filter fun a => (H a).isSome
def hidT (h : Heap) (H : Hp) : Heap := PySem.W.hideAll h (trk h H)
theorem hidT_size (h : Heap) (H : Hp) : (hidT h H).objs.size = h.objs.size := PySem.W.hideAll_size _ _
theorem hidT_get {h : Heap} {H : Hp} {b : Addr} {o : Obj} (e : h.get? b = some o) (n : H b = none) : (hidT h H).get? b = some o :=
  PySem.W.hideAll_get _ e fun hm => by
    have q : (H b).isSome = true := (List.mem_filter.mp hm).2
    rw [n] at q; simp at q
theorem of_hidT {h : Heap} {H : Hp} {b : Addr} {o : Obj} (e : (hidT h H).get? b = some o) : h.get? b = some o ∧ H b = none := by
  have e' : h.get? b = some o := PySem.W.of_hideAll (trk h H) e
  refine ⟨e', ?_⟩
  cases q : H b with
  | none => rfl
  | some x =>
    have hm : b ∈ trk h H := List.mem_filter.mpr ⟨List.mem_range.mpr (Heap.lt_size e'), by simp [q]⟩
    have z : (hidT h H).get? b = none := PySem.W.hideAll_none (trk h H) hm
    rw [z] at e; cases e
end L2
namespace L2
open PySem PySem.Spec PyProof.Rows
structure Mod (K : PySem.W.Frag) (mg : Str → Option Value) (base : Heap) : Prop where
  kin : K.In base
  glob : base.Ns mainGlobals mg
  blt : ∃ mb, base.Ns builtinsNs mb ∧ ∀ x : Str, x ≠ "__name__" → mb x = bootBuiltins x
  nolimit : base.NoLimit
structure Cx where
  prog : Program
  w : World
  K : PySem.W.Frag
  mg : Str → Option Value
  base : Heap
  A : Around
  N : List Str
  s₀ : Shared
  H₀ : Hp
  env : Env
  outer : List Env
  stack : List Env
  ex : List Addr
  fn : Str → Bool
  calm : Bool
  pn : List (Addr × Obj)
  xe : Value → Shared → Prop
def frs (l : List Env) : List Addr := l.filterMap (·.frame)
abbrev Cx.fs (X : Cx) : List Addr := frs X.outer
def Vis (sc : Scope) (x : Str) : Prop := sc.names.lookup x = some .local ∨ sc.names.lookup x = some .cell ∨ sc.names.lookup x = some .free
def Loc (sc : Scope) (x : Str) : Prop := sc.names.lookup x = some .local ∨ sc.names.lookup x = some .cell
def Look (env : Env) (h : Heap) (m : Str → Option Value) (x : Str) (u : Value) : Prop :=
  (env.kindOf x = some .local ∧ m x = some u) ∨ ((env.kindOf x = some .cell ∨ env.kindOf x = some .free) ∧ ∃ c, env.cells.lookup x = some c ∧ h.IsCell c (some u))
structure Cx.Ok (X : Cx) : Prop where
  mod : Mod X.K X.mg X.base
  kind : X.env.scope.kind = .function
  glob : X.env.globals = mainGlobals
  blt : X.env.builtins = builtinsNs
  above : X.s₀.heap.objs.size ≤ X.env.locals
  inj : ∀ x y c, X.env.cells.lookup x = some c → X.env.cells.lookup y = some c → x = y
  has : ∀ x, (X.env.kindOf x = some .cell ∨ X.env.kindOf x = some .free) → ∃ c, X.env.cells.lookup x = some c
  cab : ∀ x c, X.fn x = true → X.env.cells.lookup x = some c → X.s₀.heap.objs.size ≤ c
  hd : X.calm = true → X.A.handled = none
  frames : X.A.frames = some X.stack
  stk : X.stack = X.outer ∨ (X.stack = X.env :: X.outer ∧ X.env.frame = some X.env.locals)
  exf : ∀ b ∈ X.ex, b ≠ X.env.locals ∧ ∀ x c, X.env.cells.lookup x = some c → c ≠ b
  bs : ∀ b o, X.base.get? b = some o → X.s₀.heap.get? b = some o ∧ X.H₀ b = none
  bsz : X.base.objs.size ≤ X.s₀.heap.objs.size
  noex : ∀ b o, X.base.get? b = some o → b ∉ X.ex
  exfs : ∀ b ∈ X.ex, b ∉ X.fs
  funs : X.s₀.heap.FunFrames X.base X.outer
  frf : ∀ b ∈ X.fs, X.H₀ b = none
structure Inv (X : Cx) (pins : List (Addr × Obj)) (σ : List (Option V)) (H : Hp) (s : Shared) : Prop where
  ok : X.Ok
  os : s.os = X.s₀.os
  bare : AllBare s.gens
  base : Un X.fs X.ex X.H₀ H X.s₀.heap s.heap
  loc : ∃ m, s.heap.Ns X.env.locals m ∧ ∀ (i : Nat) (x : Str) (v : V), X.N[i]? = some x → σ[i]? = some (some v) → Vis X.env.scope x → ∃ u, RelV v u ∧ Look X.env s.heap m x u
  cell : ∀ x c, X.env.cells.lookup x = some c → ∃ v, s.heap.IsCell c v
  free : H X.env.locals = none
  freeC : ∀ x c, X.env.cells.lookup x = some c → H c = none
  pin : ∀ p ∈ X.pn ++ pins, s.heap.get? p.1 = some p.2 ∧ H p.1 = none ∧ p.1 ≠ X.env.locals ∧ p.1 ∉ X.fs ∧ ∀ v, p.2.data ≠ .cell v
  hok : HOk X.prog X.w H s.heap
  len : σ.length = X.N.length
section
variable {X : Cx} {pins : List (Addr × Obj)} {σ : List (Option V)} {H H' : Hp} {s : Shared} {h' : Heap}
theorem Cx.Ok.nofr (ok : X.Ok) {b : Addr} {o : Obj} (e : X.base.get? b = some o) : b ∉ X.fs := fun hb => by
  have := (ok.funs.mem hb).1
  rw [e] at this; cases this
theorem Inv.bs (I : Inv X pins σ H s) : ∀ b o, X.base.get? b = some o → s.heap.get? b = some o ∧ H b = none := fun b o e =>
  ⟨I.base.keep b o (I.ok.bs b o e).1 (I.ok.bs b o e).2 (I.ok.nofr e) (I.ok.noex b o e), I.base.free b o (I.ok.bs b o e).1 (I.ok.bs b o e).2 (I.ok.noex b o e)⟩
theorem Inv.bk (I : Inv X pins σ H s) : ∀ b o, X.base.get? b = some o → s.heap.get? b = some o := fun b o e => (I.bs b o e).1
theorem Inv.mod (I : Inv X pins σ H s) : Mod X.K X.mg X.base := I.ok.mod
theorem Inv.kIn (I : Inv X pins σ H s) : X.K.In s.heap := I.ok.mod.kin.keeps I.bk
theorem Inv.fr (I : Inv X pins σ H s) : ∃ m, Fr X.base X.env.locals s.heap m :=
  let ⟨m, hn, _⟩ := I.loc
  ⟨m, hn, I.bk, Nat.le_trans I.ok.bsz I.ok.above⟩
theorem Inv.lt (I : Inv X pins σ H s) : X.env.locals < s.heap.objs.size := let ⟨_, hn, _⟩ := I.loc; hn.lt
theorem Inv.sz (I : Inv X pins σ H s) : X.s₀.heap.objs.size ≤ s.heap.objs.size := Nat.le_trans I.ok.above (Nat.le_of_lt I.lt)
theorem Inv.nofs (I : Inv X pins σ H s) {a : Addr} (h : s.heap.objs.size ≤ a) : a ∉ X.fs := fun hb => by
  obtain ⟨_, o, ho, _⟩ := I.ok.funs.mem hb
  exact absurd (Nat.lt_of_lt_of_le (Heap.lt_size ho) (Nat.le_trans I.sz h)) (Nat.lt_irrefl _)
theorem Inv.cne (I : Inv X pins σ H s) : ∀ x c, X.env.cells.lookup x = some c → c ≠ X.env.locals := fun x c e z => by
  obtain ⟨v, o, ho, hd⟩ := I.cell x c e
  obtain ⟨m, ⟨o', es, ep, ho', hd', _⟩, _⟩ := I.loc
  rw [z, ho'] at ho; cases ho; rw [hd'] at hd; cases hd
theorem Inv.funs (I : Inv X pins σ H s) : s.heap.FunFrames X.base X.outer := by
  have all : ∀ (l : List Env), (∀ b ∈ frs l, b ∈ X.fs) → X.s₀.heap.FunFrames X.base l → s.heap.FunFrames X.base l := by
    intro l
    induction l with
    | nil => intro _ _; trivial
    | cons env r ih =>
      intro hs hl
      obtain ⟨hk, ⟨L, o, hf, hn, ho, hd⟩, hr⟩ := hl
      have hL : L ∈ X.fs := hs L (by unfold frs; rw [List.filterMap_cons, hf]; exact List.mem_cons_self)
      obtain ⟨sl, e⟩ := I.base.slot L o ho (I.ok.frf L hL) hL fun z => I.ok.exfs L z hL
      exact ⟨hk, ⟨L, _, hf, hn, e, hd⟩, ih (fun b hb => hs b (by unfold frs; rw [List.filterMap_cons, hf]; exact List.mem_cons_of_mem _ hb)) hr⟩
  exact all X.outer (fun _ hb => hb) I.ok.funs
theorem Inv.stack (I : Inv X pins σ H s) : s.heap.FunFrames X.base X.stack := by
  rcases I.ok.stk with e | ⟨e, hf⟩
  · rw [e]; exact I.funs
  · rw [e]
    obtain ⟨m, hn, _⟩ := I.loc
    refine .cons (by rw [I.ok.kind]; decide) hf hn ?_ I.funs
    exact Heap.get?_none_of_le (Nat.le_trans I.ok.bsz I.ok.above)
theorem Inv.stkSub (I : Inv X pins σ H s) : ∀ b ∈ frs X.stack, b ∈ X.env.locals :: X.fs := fun b hb => by
  rcases I.ok.stk with e | ⟨e, hf⟩
  · rw [e] at hb; exact List.mem_cons_of_mem _ hb
  · rw [e] at hb
    unfold frs at hb
    rw [List.filterMap_cons, hf] at hb
    exact hb
theorem Inv.stkFree (I : Inv X pins σ H s) : ∀ b ∈ frs X.stack, H b = none := fun b hb => by
  rcases List.mem_cons.mp (I.stkSub b hb) with e | hb
  · rw [e]; exact I.free
  · obtain ⟨_, o, ho, _⟩ := I.ok.funs.mem hb
    exact I.base.free b o ho (I.ok.frf b hb) fun z => I.ok.exfs b z hb
theorem Inv.step {g' : Array GenState} {t' : Nat} {d' : Drawn} {ch : List Addr} (I : Inv X pins σ H s)
    (hch : ∀ b ∈ ch, (b ∈ X.ex ∨ X.s₀.heap.objs.size ≤ b) ∧ b ≠ X.env.locals ∧ (∀ x c, X.env.cells.lookup x = some c → c ≠ b) ∧ ∀ p ∈ X.pn ++ pins, p.1 ≠ b)
    (keep : ∀ b o, b ≠ X.env.locals → b ∉ X.fs → b ∉ ch → s.heap.get? b = some o → H b = none → h'.get? b = some o)
    (slot : ∀ b o, b ≠ X.env.locals → b ∈ X.fs → b ∉ ch → s.heap.get? b = some o → H b = none → ∃ sl, h'.get? b = some { o with slots := sl }) (free : ∀ b o, b ∉ ch → s.heap.get? b = some o → H b = none → H' b = none)
    (there : ∀ b o, b ∉ ch → s.heap.get? b = some o → ∃ o', h'.get? b = some o')
    (tups : ∀ b xs, H b = some (.tup xs) → H' b = some (.tup xs)) (frzs : ∀ b o u, H b = some (.frz o u) → H' b = some (.frz o u)) (tbls : ∀ b ps, H b = some (.tbl ps) → ∃ more, H' b = some (.tbl (ps ++ more)))
    (ns : ∀ m, s.heap.Ns X.env.locals m → h'.Ns X.env.locals m) (hok : HOk X.prog X.w H' h') (hg : AllBare g') :
    Inv X pins σ H' { s with heap := h', gens := g', drawn := d', toks := t' } := by
  have neL : ∀ b o, X.s₀.heap.get? b = some o → b ≠ X.env.locals := fun b o e => Nat.ne_of_lt (Nat.lt_of_lt_of_le (Heap.lt_size e) I.ok.above)
  have neC : ∀ b o, X.s₀.heap.get? b = some o → b ∉ X.ex → b ∉ ch := fun b o e hx hb => by
    rcases (hch b hb).1 with z | z
    · exact hx z
    · exact absurd (Nat.lt_of_lt_of_le (Heap.lt_size e) z) (Nat.lt_irrefl _)
  have cellK : ∀ x c, X.env.cells.lookup x = some c → ∀ v, s.heap.IsCell c v → h'.IsCell c v := fun x c e v ⟨o, ho, hd⟩ => by
    have nch : c ∉ ch := fun z => (hch c z).2.2.1 x c e rfl
    by_cases hc : c ∈ X.fs
    · obtain ⟨sl, q⟩ := slot c o (I.cne x c e) hc nch ho (I.freeC x c e)
      exact ⟨_, q, hd⟩
    · exact ⟨o, keep c o (I.cne x c e) hc nch ho (I.freeC x c e), hd⟩
  refine ⟨I.ok, I.os, hg, ⟨fun b o e n hb hx => ?_, fun b o e n hb hx => ?_, fun b o e n hx => ?_, fun b o e hx => ?_, fun b xs e => tups b xs (I.base.tups b xs e), fun b o xs e => frzs b o xs (I.base.frzs b o xs e), fun b ps e => ?_⟩, ?_, fun x c e => ?_, ?_, fun x c e => ?_, fun p hp => ?_, hok, I.len⟩
  · exact keep b o (neL b o e) hb (neC b o e hx) (I.base.keep b o e n hb hx) (I.base.free b o e n hx)
  · obtain ⟨sl, e1⟩ := I.base.slot b o e n hb hx
    obtain ⟨sl', e2⟩ := slot b _ (neL b o e) hb (neC b o e hx) e1 (I.base.free b o e n hx)
    exact ⟨sl', e2⟩
  · obtain ⟨o', e1⟩ := I.base.there b o e hx
    exact free b o' (neC b o e hx) e1 (I.base.free b o e n hx)
  · obtain ⟨o', e1⟩ := I.base.there b o e hx
    exact there b o' (neC b o e hx) e1
  · obtain ⟨m1, e1⟩ := I.base.tbls b ps e
    obtain ⟨m2, e2⟩ := tbls b _ e1
    exact ⟨m1 ++ m2, by rw [e2, Array.append_assoc]⟩
  · obtain ⟨m, hn, hl⟩ := I.loc
    refine ⟨m, ns m hn, fun i x v e1 e2 e3 => ?_⟩
    obtain ⟨u, r, l⟩ := hl i x v e1 e2 e3
    refine ⟨u, r, ?_⟩
    rcases l with l | ⟨k, c, e, z⟩
    · exact .inl l
    · exact .inr ⟨k, c, e, cellK x c e _ z⟩
  · obtain ⟨v, z⟩ := I.cell x c e
    exact ⟨v, cellK x c e v z⟩
  · obtain ⟨m, ⟨o, _, _, ho, _⟩, _⟩ := I.loc
    exact free _ o (fun z => (hch _ z).2.1 rfl) ho I.free
  · obtain ⟨v, o, ho, hd⟩ := I.cell x c e
    exact free c o (fun z => (hch c z).2.2.1 x c e rfl) ho (I.freeC x c e)
  · obtain ⟨e, n, ne, nf, d⟩ := I.pin p hp
    have nch : p.1 ∉ ch := fun z => (hch p.1 z).2.2.2 p hp rfl
    exact ⟨keep p.1 p.2 ne nf nch e n, free p.1 p.2 nch e n, ne, nf, d⟩
theorem Inv.un {t' : Nat} (I : Inv X pins σ H s) (u : Un X.fs [] H H' s.heap h') (hok : HOk X.prog X.w H' h') : Inv X pins σ H' { s with heap := h', toks := t' } := by
  obtain ⟨m, ⟨o, es, ep, ho, r⟩, _⟩ := id I.loc
  obtain ⟨sl, hL⟩ := u.any ho I.free (by simp)
  exact I.step (g' := s.gens) (d' := s.drawn) (ch := []) (fun _ z => nomatch z) (fun b o _ hb _ e n => u.keep b o e n hb (by simp)) (fun b o _ hb _ e n => u.slot b o e n hb (by simp)) (fun b o _ e n => u.free b o e n (by simp)) (fun b o _ e => u.there b o e (by simp)) u.tups u.frzs u.tbls (fun m' hm => by
    obtain ⟨o', es', ep', ho', r'⟩ := hm
    rw [ho] at ho'; cases ho'
    exact ⟨_, es', ep', hL, r'⟩) hok I.bare
theorem Inv.call {g' : Array GenState} {t' : Nat} {d' : Drawn} {ch : List Addr} (I : Inv X pins σ H s) (u : Un (frs X.stack) ch H H' s.heap h') (hok : HOk X.prog X.w H' h') (hg : AllBare g')
    (hch : ∀ b ∈ ch, (b ∈ X.ex ∨ X.s₀.heap.objs.size ≤ b) ∧ b ≠ X.env.locals ∧ (∀ x c, X.env.cells.lookup x = some c → c ≠ b) ∧ ∀ p ∈ X.pn ++ pins, p.1 ≠ b) :
    Inv X pins σ H' { s with heap := h', gens := g', drawn := d', toks := t' } := by
  obtain ⟨m, ⟨o, es, ep, ho, r⟩, _⟩ := id I.loc
  obtain ⟨sl, hL⟩ := u.any ho I.free fun z => (hch _ z).2.1 rfl
  exact I.step (ch := ch) hch (fun b o hL hb hc e n => u.keep b o e n (fun z => (List.mem_cons.mp (I.stkSub b z)).elim hL hb) hc) (fun b o _ _ hc e n => u.any e n hc) (fun b o hc e n => u.free b o e n hc) (fun b o hc e => u.there b o e hc) u.tups u.frzs u.tbls (fun m' hm => by
    obtain ⟨o', es', ep', ho', r'⟩ := hm
    rw [ho] at ho'; cases ho'
    exact ⟨_, es', ep', hL, r'⟩) hok hg
theorem Inv.turned {t' : Nat} {it : Addr} (I : Inv X pins σ H s) (k : ∀ b o, b ≠ it → s.heap.get? b = some o → h'.get? b = some o) (hn : H it = none) (hL : it ≠ X.env.locals)
    (h1 : it ∈ X.ex ∨ X.s₀.heap.objs.size ≤ it) (h2 : ∀ x c, X.env.cells.lookup x = some c → c ≠ it) (h3 : ∀ p ∈ X.pn ++ pins, p.1 ≠ it) : Inv X pins σ H { s with heap := h', toks := t' } := by
  have nit : ∀ b u, H b = some u → b ≠ it := fun b u e z => by rw [z, hn] at e; cases e
  refine I.step (g' := s.gens) (d' := s.drawn) (ch := [it]) (fun b hb => ?_) (fun b o _ _ hc e _ => k b o (fun z => hc (by simp [z])) e) (fun b o _ _ hc e _ => ⟨o.slots, k b o (fun z => hc (by simp [z])) e⟩) (fun _ _ _ _ n => n)
    (fun b o hc e => ⟨o, k b o (fun z => hc (by simp [z])) e⟩) (fun _ _ e => e) (fun _ _ _ e => e) (fun b ps e => ⟨#[], by rw [e]; simp⟩) (fun m hm => ?_) (fun b u e => ?_) I.bare
  · have e : b = it := by simpa using hb
    subst e
    exact ⟨h1, hL, h2, h3⟩
  · obtain ⟨o, es, ep, ho, r⟩ := hm
    exact ⟨o, es, ep, k _ o (Ne.symm hL) ho, r⟩
  · refine (I.hok b u e).stay (fun c v hc q => k c v ?_ q) (fun _ q => q) fun _ _ q => q
    rcases hc with z | z
    · rw [z]; exact nit b u e
    · exact nit c _ z
theorem Inv.tok (I : Inv X pins σ H s) (t : Nat) : Inv X pins σ H { s with toks := t } := I.un (h' := s.heap) (t' := t) Un.refl I.hok
theorem Inv.kept {t' : Nat} (I : Inv X pins σ H s) (k : ∀ b u, s.heap.get? b = some u → h'.get? b = some u) : Inv X pins σ H { s with heap := h', toks := t' } := I.un (Un.kept k) (I.hok.kept k)
theorem Inv.laid {a : Addr} {o : HO} {t' : Nat} (I : Inv X pins σ H s) (k : ∀ b u, s.heap.get? b = some u → h'.get? b = some u) (hp : s.heap.objs.size ≤ a) (new : ObjOk X.prog X.w (upd H a o) h' a o) :
    Inv X pins σ (upd H a o) { s with heap := h', toks := t' } := I.un (Un.laid k hp (I.hok.fresh hp)) (I.hok.laid k hp new)
theorem Inv.write {x e : Addr} {o : HO} {t' : Nat} (I : Inv X pins σ H s) (mu : Mut (H x)) (he : e = x ∨ H e = some (.own x)) (k : ∀ b u, b ≠ e → s.heap.get? b = some u → h'.get? b = some u) (heo : ∃ u, h'.get? e = some u)
    (new : ObjOk X.prog X.w (upd H x o) h' x o) : Inv X pins σ (upd H x o) { s with heap := h', toks := t' } := I.un (Un.write mu he k heo) (I.hok.write mu he k heo new)
theorem Inv.weak {σ' : List (Option V)} (I : Inv X pins σ H s) (hl : σ'.length = σ.length) (w : ∀ (i : Nat) v, σ'[i]? = some (some v) → σ[i]? = some (some v)) : Inv X pins σ' H s :=
  ⟨I.ok, I.os, I.bare, I.base, let ⟨m, hn, hl'⟩ := I.loc; ⟨m, hn, fun i x v e1 e2 e3 => hl' i x v e1 (w i v e2) e3⟩, I.cell, I.free, I.freeC, I.pin, I.hok, hl.trans I.len⟩
theorem Inv.pins_of {pins' : List (Addr × Obj)} (I : Inv X pins σ H s) (h : ∀ p ∈ pins', s.heap.get? p.1 = some p.2 ∧ H p.1 = none ∧ p.1 ≠ X.env.locals ∧ p.1 ∉ X.fs ∧ ∀ v, p.2.data ≠ .cell v) : Inv X pins' σ H s :=
  ⟨I.ok, I.os, I.bare, I.base, I.loc, I.cell, I.free, I.freeC, fun p hp => (List.mem_append.mp hp).elim (fun z => I.pin p (List.mem_append_left _ z)) (h p), I.hok, I.len⟩
theorem nodup_ix {N : List Str} (hN : N.Nodup) {i j : Nat} {x : Str} (a : N[i]? = some x) (b : N[j]? = some x) : i = j := by
  obtain ⟨h1, e1⟩ := List.getElem?_eq_some_iff.mp a
  obtain ⟨h2, e2⟩ := List.getElem?_eq_some_iff.mp b
  exact (List.getElem_inj hN).mp (e1.trans e2.symm)
theorem store_ok2 {M : Model} {A : Around} {E : Value → Shared → Prop} {i : Nat} {x : Str} {v : V} {u : Value} {Q : Unit → Shared → Prop} (I : Inv X pins σ H s) (hN : X.N.Nodup) (hi : X.N[i]? = some x) (hx : Loc X.env.scope x) (r : RelV v u)
    (h : ∀ s', Inv X pins (σ.set i (some v)) H s' → (∃ a, Heap.SameBut a s.heap s'.heap ∧ (a = X.env.locals ∨ X.env.cells.lookup x = some a)) → Q () s') (hf : X.fn x = true ∨ X.env.scope.names.lookup x = some .local := by first | exact .inl rfl | exact .inr rfl | assumption) : wpAny M A (storeName X.env x u) Q E s := by
  obtain ⟨m, hn, hl⟩ := id I.loc
  have hcls : (X.env.scope.kind == .class || (X.env.scope.kind == .module && X.env.locals != X.env.globals)) = false := by rw [I.ok.kind]; rfl
  have hiσ : i < σ.length := by rw [I.len]; exact (List.getElem?_eq_some_iff.mp hi).1
  have cne := I.cne
  have tracked : ∀ {a : Addr} {h' : Heap}, (∃ o, s.heap.get? a = some o ∧ H a = none) → Heap.SameBut a s.heap h' → HOk X.prog X.w H h' := fun {a h'} ha hs b ob e => by
    obtain ⟨_, _, hfree⟩ := ha
    refine (I.hok b ob e).stay (fun c w' hc q => (hs.2 c ?_).trans q) (fun _ q => q) fun _ _ q => q
    rintro rfl
    rcases hc with rfl | hc
    · rw [hfree] at e; cases e
    · rw [hfree] at hc; cases hc
  rcases hx with hk | hk
  · refine wpAny_storeName_local hk hn (fun h' hn' hs => ?_) hcls
    obtain ⟨oL, _, _, hoL, _⟩ := id hn
    refine h _ ⟨I.ok, I.os, I.bare, ⟨fun b o e n hb hx => ?_, fun b o e n hb hx => ?_, I.base.free, fun b o e hx => ?_, I.base.tups, I.base.frzs, I.base.tbls⟩, ⟨_, hn', fun j y v' e1 e2 e3 => ?_⟩, fun y c e => ?_, I.free, I.freeC, fun p hp => ?_, tracked ⟨oL, hoL, I.free⟩ hs, by simpa using I.len⟩ ⟨_, hs, .inl rfl⟩
    · exact (hs.2 b (Nat.ne_of_lt (Nat.lt_of_lt_of_le (Heap.lt_size e) I.ok.above))).trans (I.base.keep b o e n hb hx)
    · obtain ⟨sl, e1⟩ := I.base.slot b o e n hb hx
      exact ⟨sl, (hs.2 b (Nat.ne_of_lt (Nat.lt_of_lt_of_le (Heap.lt_size e) I.ok.above))).trans e1⟩
    · obtain ⟨o', e1⟩ := I.base.there b o e hx
      exact ⟨o', (hs.2 b (Nat.ne_of_lt (Nat.lt_of_lt_of_le (Heap.lt_size e) I.ok.above))).trans e1⟩
    · by_cases hj : j = i
      · subst hj
        rw [hi] at e1; cases e1
        rw [List.getElem?_set_self hiσ] at e2
        cases e2
        exact ⟨u, r, .inl ⟨hk, by simp⟩⟩
      · rw [List.getElem?_set_ne (Ne.symm hj)] at e2
        obtain ⟨u', r', q⟩ := hl j y v' e1 e2 e3
        refine ⟨u', r', ?_⟩
        rcases q with ⟨k, e⟩ | ⟨k, c, e, z⟩
        · refine .inl ⟨k, ?_⟩
          have : y ≠ x := fun e => hj (nodup_ix hN e1 (e ▸ hi))
          simp [this, e]
        · exact .inr ⟨k, c, e, z.sameBut hs (cne y c e)⟩
    · obtain ⟨w', z⟩ := I.cell y c e
      exact ⟨w', z.sameBut hs (cne y c e)⟩
    · obtain ⟨e, n, ne, nf, d⟩ := I.pin p hp
      exact ⟨(hs.2 p.1 ne).trans e, n, ne, nf, d⟩
  · have hfn : X.fn x = true := by
      rcases hf with z | z
      · exact z
      · rw [z] at hk; cases hk
    obtain ⟨c, hc⟩ := I.ok.has x (.inl hk)
    obtain ⟨w', z⟩ := I.cell x c hc
    refine wpAny_storeName_cell I.ok.kind hk hc z (fun h' hc' hs => ?_)
    obtain ⟨oc, hoc, hocd⟩ := id z
    refine h { s with heap := h' } ⟨I.ok, I.os, I.bare, ⟨fun b o e n hb hx => ?_, fun b o e n hb hx => ?_, I.base.free, fun b o e hx => ?_, I.base.tups, I.base.frzs, I.base.tbls⟩, ⟨m, hn.sameBut hs (Ne.symm (cne x c hc)), fun j y v' e1 e2 e3 => ?_⟩, fun y c' e => ?_, I.free, I.freeC, fun p hp => ?_, tracked ⟨oc, hoc, I.freeC x c hc⟩ hs, by simpa using I.len⟩ ⟨c, hs, .inr hc⟩
    · exact (hs.2 b (Nat.ne_of_lt (Nat.lt_of_lt_of_le (Heap.lt_size e) (I.ok.cab x c hfn hc)))).trans (I.base.keep b o e n hb hx)
    · obtain ⟨sl, e1⟩ := I.base.slot b o e n hb hx
      exact ⟨sl, (hs.2 b (Nat.ne_of_lt (Nat.lt_of_lt_of_le (Heap.lt_size e) (I.ok.cab x c hfn hc)))).trans e1⟩
    · obtain ⟨o', e1⟩ := I.base.there b o e hx
      exact ⟨o', (hs.2 b (Nat.ne_of_lt (Nat.lt_of_lt_of_le (Heap.lt_size e) (I.ok.cab x c hfn hc)))).trans e1⟩
    · by_cases hj : j = i
      · subst hj
        rw [hi] at e1; cases e1
        rw [List.getElem?_set_self hiσ] at e2
        cases e2
        exact ⟨u, r, .inr ⟨.inl hk, c, hc, hc'⟩⟩
      · rw [List.getElem?_set_ne (Ne.symm hj)] at e2
        obtain ⟨u', r', q⟩ := hl j y v' e1 e2 e3
        refine ⟨u', r', ?_⟩
        rcases q with q | ⟨k, c', e, z'⟩
        · exact .inl q
        · refine .inr ⟨k, c', e, z'.sameBut hs ?_⟩
          rintro rfl
          exact hj (nodup_ix hN e1 (I.ok.inj _ _ _ e hc ▸ hi))
    · by_cases hcc : c' = c
      · subst hcc; exact ⟨_, hc'⟩
      · obtain ⟨w2, z2⟩ := I.cell y c' e
        exact ⟨w2, z2.sameBut hs hcc⟩
    · obtain ⟨e, n, ne, nf, d⟩ := I.pin p hp
      refine ⟨(hs.2 p.1 ?_).trans e, n, ne, nf, d⟩
      intro q
      rw [q, hoc] at e
      have q' : oc = p.2 := Option.some.inj e
      exact d w' (by rw [← q']; exact hocd)
theorem store_ok {M : Model} {A : Around} {E : Value → Shared → Prop} {i : Nat} {x : Str} {v : V} {u : Value} {Q : Unit → Shared → Prop} (I : Inv X pins σ H s) (hN : X.N.Nodup) (hi : X.N[i]? = some x) (hx : Loc X.env.scope x) (r : RelV v u)
    (h : ∀ s', Inv X pins (σ.set i (some v)) H s' → Q () s') (hf : X.fn x = true ∨ X.env.scope.names.lookup x = some .local := by first | exact .inl rfl | exact .inr rfl | assumption) : wpAny M A (storeName X.env x u) Q E s :=
  store_ok2 I hN hi hx r (fun s' I' _ => h s' I') hf
theorem Inv.call' {s' : Shared} {ch : List Addr} (I : Inv X pins σ H s) (ho : s'.os = s.os) (u : Un (frs X.stack) ch H H' s.heap s'.heap) (hok : HOk X.prog X.w H' s'.heap) (hg : AllBare s'.gens)
    (hch : ∀ b ∈ ch, (b ∈ X.ex ∨ X.s₀.heap.objs.size ≤ b) ∧ b ≠ X.env.locals ∧ (∀ x c, X.env.cells.lookup x = some c → c ≠ b) ∧ ∀ p ∈ X.pn ++ pins, p.1 ≠ b) : Inv X pins σ H' s' := by
  obtain ⟨h', g', d', t', o'⟩ := s'
  have e : o' = s.os := ho
  subst e
  exact I.call (g' := g') (t' := t') (d' := d') u hok hg hch
end
abbrev XK := Value → Option Addr → Hp → Prop
abbrev St := List (Option V)
abbrev VK := V → Hp → Prop
abbrev TE := St → Hp → VK → Prop
abbrev TT := St → Hp → (Bool → Hp → Prop) → Prop
abbrev TA := St → Hp → (List V → Hp → Prop) → Prop
structure Ends where
  nx : St → Hp → Prop
  rt : VK
  bk : St → Hp → Prop := fun _ _ => False
  ct : St → Hp → Prop := fun _ _ => False
abbrev TS := Ends → St → Hp → Prop
def EP (X : Cx) (pins : List (Addr × Obj)) (σ : St) (Q : VK) (u : Value) (s' : Shared) : Prop := ∃ v H', Inv X pins σ H' s' ∧ RelV v u ∧ Q v H'
def TP (X : Cx) (pins : List (Addr × Obj)) (σ : St) (Q : Bool → Hp → Prop) (b : Bool) (s' : Shared) : Prop := ∃ H', Inv X pins σ H' s' ∧ Q b H'
def AP (X : Cx) (pins : List (Addr × Obj)) (σ : St) (Q : List V → Hp → Prop) (us : List Value) (s' : Shared) : Prop := ∃ vs H', Inv X pins σ H' s' ∧ Vals vs us ∧ Q vs H'
def SP (X : Cx) (pins : List (Addr × Obj)) (D : Ends) (f : Flow) (s' : Shared) : Prop :=
  match f with
  | .next => ∃ σ' H', Inv X pins σ' H' s' ∧ D.nx σ' H'
  | .brk => ∃ σ' H', Inv X pins σ' H' s' ∧ D.bk σ' H'
  | .cont => ∃ σ' H', Inv X pins σ' H' s' ∧ D.ct σ' H'
  | .ret u => ∃ v σ' H', Inv X pins σ' H' s' ∧ RelV v u ∧ D.rt v H'
def PE (X : Cx) (e : Expr) (t : TE) : Prop :=
  ∀ (pins : List (Addr × Obj)) (s : Shared) (σ : St) (H : Hp) (Q : VK), Inv X pins σ H s → t σ H Q → wpAny (model X.prog X.w) X.A (eval e X.env) (EP X pins σ Q) X.xe s
def PT (X : Cx) (e : Expr) (t : TT) : Prop :=
  ∀ (pins : List (Addr × Obj)) (s : Shared) (σ : St) (H : Hp) (Q : Bool → Hp → Prop), Inv X pins σ H s → t σ H Q → wpAny (model X.prog X.w) X.A (isTrue e X.env (eval e X.env)) (TP X pins σ Q) X.xe s
def PW (X : Cx) (e : Expr) (t : TT) : Prop :=
  ∀ (whole : Sem Value) (pins : List (Addr × Obj)) (s : Shared) (σ : St) (H : Hp) (Q : Bool → Hp → Prop), Inv X pins σ H s → t σ H Q → wpAny (model X.prog X.w) X.A (isTrue e X.env whole) (TP X pins σ Q) X.xe s
theorem PW.pt {X : Cx} {e : Expr} {t : TT} (h : PW X e t) : PT X e t := h _
def PA (X : Cx) (es : List Expr) (t : TA) : Prop :=
  ∀ (pos : Pos) (pins : List (Addr × Obj)) (s : Shared) (σ : St) (H : Hp) (Q : List V → Hp → Prop), Inv X pins σ H s → t σ H Q → wpAny (model X.prog X.w) X.A (spliced (backTo pos (starEach es X.env))) (AP X pins σ Q) X.xe s
def PS (X : Cx) (st : Stmt) (t : TS) : Prop :=
  ∀ (pins : List (Addr × Obj)) (s : Shared) (σ : St) (H : Hp) (D : Ends), Inv X pins σ H s → t D σ H → wpAny (model X.prog X.w) X.A (exec st X.env) (SP X pins D) X.xe s
def PSs (X : Cx) (st : List Stmt) (t : TS) : Prop :=
  ∀ (pins : List (Addr × Obj)) (s : Shared) (σ : St) (H : Hp) (D : Ends), Inv X pins σ H s → t D σ H → wpAny (model X.prog X.w) X.A (execs st X.env) (SP X pins D) X.xe s
theorem thn {α : Type} {t : Sem α} {Q Q' : α → Shared → Prop} {M : Model} {A : Around} {E : Value → Shared → Prop} {s : Shared} (h : wpAny M A t Q E s) (hQ : ∀ a s, Q a s → Q' a s) : wpAny M A t Q' E s := wpAny_mono h hQ fun _ _ x => x
end L2
namespace L2
open PySem PySem.Spec PyProof.Rows
section
variable {X : Cx}
theorem bin {a b : Expr} {ta tb : TE} (ha : PE X a ta) (hb : PE X b tb) {pins : List (Addr × Obj)} {s : Shared} {σ : St} {H : Hp} {R : V → V → Hp → Prop} (I : Inv X pins σ H s) (h : ta σ H fun x H1 => tb σ H1 fun y H2 => R x y H2)
    {α : Type} {Q : α → Shared → Prop} {f : Value → Value → Sem α}
    (hf : ∀ v u s2 x y H2, Inv X pins σ H2 s2 → RelV x v → RelV y u → R x y H2 → wpAny (model X.prog X.w) X.A (f v u) Q X.xe s2) :
    wpAny (model X.prog X.w) X.A (eval a X.env) (fun v s₁ => wpAny (model X.prog X.w) X.A (eval b X.env) (fun u s₂ => wpAny (model X.prog X.w) X.A (f v u) Q X.xe s₂) X.xe s₁) X.xe s := by
  refine thn (ha pins s σ H _ I h) fun v s1 ⟨x, H1, I1, r1, q1⟩ => ?_
  refine thn (hb pins s1 σ H1 _ I1 q1) fun u s2 ⟨y, H2, I2, r2, q2⟩ => ?_
  exact hf v u s2 x y H2 I2 r1 r2 q2
def tVar (i : Nat) : TE := fun σ H Q => ∃ v, σ[i]? = some (some v) ∧ Q v H
def tC (v : V) : TE := fun _ H Q => Q v H
theorem pe_var {i : Nat} {x : Str} {pos : Pos} (hN : X.N[i]? = some x) (hv : Vis X.env.scope x) (hd : (x == ("__debug__" : Str)) = false := by decide) (hcd : (x == ("__classdict__" : Str)) = false := by decide) : PE X (.Name x pos) (tVar i) := by
  intro pins s σ H Q I h
  obtain ⟨v, e, h⟩ := h
  obtain ⟨m, hn, hl⟩ := I.loc
  obtain ⟨u, r, l⟩ := hl i x v hN e hv
  have fin : EP X pins σ Q u s := ⟨v, H, I, r, h⟩
  rcases l with ⟨hk, hm⟩ | ⟨hk, c, hc, hcell⟩
  · exact wpAny_Name (wpAny_loadName_local I.ok.kind hk hn hm fin) hd
  · rcases hk with hk | hk
    · exact wpAny_Name (wpAny_loadName_cell I.ok.kind hk hc hcell fin) hd
    · exact wpAny_Name (wpAny_loadName_free I.ok.kind hk hc hcell fin hcd) hd
theorem pe_int {i j pos} : PE X (.Constant (.int i) j pos) (tC (.int i)) := fun _ _ _ H _ I h => wpAny_Constant_int ⟨.int i, H, I.tok _, ⟨_, rfl⟩, h⟩
theorem pe_bl {b j pos} : PE X (.Constant (.bool b) j pos) (tC (.bl b)) := fun _ _ _ H _ I h => Constant_bool ⟨.bl b, H, I, rfl, h⟩
theorem pe_non {j pos} : PE X (.Constant .none j pos) (tC .non) := fun _ _ _ H _ I h => Constant_none ⟨.non, H, I, rfl, h⟩
theorem pe_str {x j pos} : PE X (.Constant (.str x) j pos) (tC (.str x)) := fun _ _ _ H _ I h => Calls.Constant_str ⟨.str x, H, I.tok _, ⟨_, rfl⟩, h⟩
def Gl (X : Cx) (x : Str) : Prop := X.env.kindOf x = some .globalImplicit
theorem ld_glob {E : Value → Shared → Prop} {pins : List (Addr × Obj)} {s : Shared} {σ : St} {H : Hp} {x : Str} {u : Value} {pos : Pos} {Q : Value → Shared → Prop} (I : Inv X pins σ H s) (hg : Gl X x) (hm : X.mg x = some u) (h : Q u s)
    (hd : (x == ("__debug__" : Str)) = false := by decide) : wpAny (model X.prog X.w) X.A (eval (.Name x pos) X.env) Q E s :=
  Calls.Name_function_global I.ok.kind hg (Calls.loadGlobal_global (by rw [I.ok.glob]; exact I.mod.glob.keeps I.bk) hm h) hd
theorem ld_blt {E : Value → Shared → Prop} {pins : List (Addr × Obj)} {s : Shared} {σ : St} {H : Hp} {x : Str} {u : Value} {pos : Pos} {Q : Value → Shared → Prop} (I : Inv X pins σ H s) (hg : Gl X x) (hm : X.mg x = none) (hv : bootBuiltins x = some u) (h : Q u s)
    (hn : x ≠ "__name__" := by decide) (hd : (x == ("__debug__" : Str)) = false := by decide) : wpAny (model X.prog X.w) X.A (eval (.Name x pos) X.env) Q E s := by
  obtain ⟨mb, h1, h2⟩ := I.mod.blt
  exact Calls.Name_function_global I.ok.kind hg (Calls.loadGlobal_builtin (by rw [I.ok.glob]; exact I.mod.glob.keeps I.bk) hm (by rw [I.ok.blt]; exact h1.keeps I.bk) ((h2 x hn).trans hv) h) hd
theorem pe_glob {x : Str} {v : V} {u : Value} {pos : Pos} (hg : Gl X x) (hm : X.mg x = some u) (r : RelV v u) (hd : (x == ("__debug__" : Str)) = false := by decide) : PE X (.Name x pos) (tC v) :=
  fun _ _ _ H _ I h => ld_glob I hg hm ⟨v, H, I, r, h⟩ hd
theorem pe_bltn {x : Str} {v : V} {u : Value} {pos : Pos} (hg : Gl X x) (hm : X.mg x = none) (hv : bootBuiltins x = some u) (r : RelV v u) (hn : x ≠ "__name__" := by decide) (hd : (x == ("__debug__" : Str)) = false := by decide) : PE X (.Name x pos) (tC v) :=
  fun _ _ _ H _ I h => ld_blt I hg hm hv ⟨v, H, I, r, h⟩ hn hd
variable {a b : Expr} {ta tb : TE} {pos : Pos}
def PC (X : Cx) (op : CmpOp) (a b : Expr) (t : TE) : Prop :=
  ∀ (pins : List (Addr × Obj)) (s : Shared) (σ : St) (H : Hp) (Q : VK), Inv X pins σ H s → t σ H Q →
    wpAny (model X.prog X.w) X.A (eval a X.env) (fun v s₁ => wpAny (model X.prog X.w) X.A (eval b X.env) (fun u s₂ => wpAny (model X.prog X.w) X.A (compareOp op v u) (EP X pins σ Q) X.xe s₂) X.xe s₁) X.xe s
theorem nobehind (b : Expr) {op : CmpOp} (h : op ≠ .In) (h2 : op ≠ .NotIn) : behindInMarks op b = false := by
  have e1 : (op == CmpOp.In) = false := by cases op <;> first | rfl | exact absurd rfl h
  have e2 : (op == CmpOp.NotIn) = false := by cases op <;> first | rfl | exact absurd rfl h2
  cases b <;> simp [behindInMarks, e1, e2]
def tB (t : TE) : TT := fun σ H Q => t σ H fun x H1 => ∃ c, x = .bl c ∧ Q c H1
theorem pt_cmp {op : CmpOp} {t : TE} (h : PC X op a b t) (h1 : behindInMarks op b = false := by first | exact nobehind _ (by decide) (by decide) | rfl) : PT X (.Compare a [op] [b] pos) (tB t) := by
  intro pins s σ H Q I hw
  refine wpAny_isTrue_Compare1 (thn (h pins s σ H _ I hw) fun v s1 h1 => thn h1 fun u s2 h2 => thn h2 fun c s3 ⟨x, H1, I1, r1, q1⟩ => ?_) h1
  obtain ⟨d, rfl, q⟩ := q1
  cases r1
  exact wpAny_truthy_bool ⟨H1, I1, q⟩
theorem pt_val {e : Expr} {t : TE} (h : PE X e t) (he : ∀ whole, isTrue e X.env whole = (do let v ← whole; standAt e.pos; holding [v] (truthy v)) := by intro _; rfl) : PT X e (tB t) := by
  intro pins s σ H Q I hw
  refine isTrue_plain (thn (h pins s σ H _ I hw) fun v s1 ⟨x, H1, I1, r1, q1⟩ => ?_) (he _)
  obtain ⟨d, rfl, q⟩ := q1
  cases r1
  exact wpAny_truthy_bool ⟨H1, I1, q⟩
variable {tA tB' : TT} {rest : List Expr}
def tAnd (t u : TT) : TT := fun σ H Q => t σ H fun c H1 => if c = true then u σ H1 Q else Q false H1
def tOr (t u : TT) : TT := fun σ H Q => t σ H fun c H1 => if c = true then Q true H1 else u σ H1 Q
def tNot (t : TT) : TT := fun σ H Q => t σ H fun c H1 => Q (!c) H1
theorem pw_and1 (ha : PT X a tA) : PW X (.BoolOp .And [a] pos) tA := by
  intro wh pins s σ H Q I h
  refine isTrue_and (thn (ha pins s σ H Q I h) fun c s1 e => ?_)
  cases c with
  | true => exact isTrue_and_nil e
  | false => exact e
theorem pw_or1 (ha : PT X a tA) : PW X (.BoolOp .Or [a] pos) tA := by
  intro wh pins s σ H Q I h
  refine isTrue_or (thn (ha pins s σ H Q I h) fun c s1 e => ?_)
  cases c with
  | false => exact isTrue_or_nil e
  | true => exact e
theorem pw_and (ha : PT X a tA) (hb : PW X (.BoolOp .And (b :: rest) pos) tB') : PW X (.BoolOp .And (a :: b :: rest) pos) (tAnd tA tB') := by
  intro wh pins s σ H Q I h
  refine isTrue_and (thn (ha pins s σ H _ I h) fun c s1 ⟨H1, I1, q1⟩ => ?_)
  cases c with
  | true => exact hb wh pins s1 σ H1 Q I1 q1
  | false => exact ⟨H1, I1, q1⟩
theorem pw_or (ha : PT X a tA) (hb : PW X (.BoolOp .Or (b :: rest) pos) tB') : PW X (.BoolOp .Or (a :: b :: rest) pos) (tOr tA tB') := by
  intro wh pins s σ H Q I h
  refine isTrue_or (thn (ha pins s σ H _ I h) fun c s1 ⟨H1, I1, q1⟩ => ?_)
  cases c with
  | true => exact ⟨H1, I1, q1⟩
  | false => exact hb wh pins s1 σ H1 Q I1 q1
theorem pt_not (ha : PT X a tA) : PT X (.UnaryOp .Not a pos) (tNot tA) := by
  intro pins s σ H Q I h
  exact isTrue_not (ha pins s σ H (fun c H1 => Q (!c) H1) I h)
def tAndV (ta tb : TE) : TE := fun σ H Q => ta σ H fun x H1 => ∃ c, x = .bl c ∧ if c = true then tb σ H1 Q else Q (.bl false) H1
def tNotV (ta : TE) : TE := fun σ H Q => ta σ H fun x H1 => ∃ c, x = .bl c ∧ Q (.bl (!c)) H1
theorem pe_one {op} {t : TE} (h : PE X a t) : PE X (.BoolOp op [a] pos) t := fun pins s σ H Q I hw => BoolOp_one (h pins s σ H Q I hw)
theorem pe_and (ha : PE X a ta) (hb : PE X (.BoolOp .And (b :: rest) pos) tb) : PE X (.BoolOp .And (a :: b :: rest) pos) (tAndV ta tb) := by
  intro pins s σ H Q I h
  refine BoolOp_and (thn (ha pins s σ H _ I h) fun v s1 ⟨x, H1, I1, r1, q1⟩ => ?_)
  obtain ⟨c, rfl, q1⟩ := q1
  cases r1
  refine wpAny_truthy_bool ?_
  cases c with
  | true => exact hb pins s1 σ H1 Q I1 q1
  | false => exact ⟨.bl false, H1, I1, rfl, q1⟩
theorem pe_not (ha : PE X a ta) : PE X (.UnaryOp .Not a pos) (tNotV ta) := by
  intro pins s σ H Q I h
  refine UnaryOp_ (thn (ha pins s σ H _ I h) fun v s1 ⟨x, H1, I1, r1, q1⟩ => ?_)
  obtain ⟨c, rfl, q1⟩ := q1
  cases r1
  exact not_of (wpAny_truthy_bool ⟨.bl (!c), H1, I1, rfl, q1⟩)
def tIf (t : TT) (ta tb : TE) : TE := fun σ H Q => t σ H fun c H1 => if c = true then ta σ H1 Q else tb σ H1 Q
theorem pe_ifExp {c : Expr} (hc : PT X c tA) (ha : PE X a ta) (hb : PE X b tb) : PE X (.IfExp c a b pos) (tIf tA ta tb) := by
  intro pins s σ H Q I h
  refine wpAny_IfExp (thn (hc pins s σ H _ I h) fun d s1 ⟨H1, I1, q1⟩ => ?_)
  cases d with
  | true => exact ha pins s1 σ H1 Q I1 q1
  | false => exact hb pins s1 σ H1 Q I1 q1
end
end L2
namespace L2
open PySem PySem.Spec PyProof.Rows
def SqL (K : PySem.W.Frag) (H : Hp) (a : Addr) (xs : List V) : Prop :=
  Rd H a (.lst xs) ∨
    ∃ (o : Obj) (its : Array Value) (n : Nat), K.lookup a = some o ∧ o.cls = .type "list" ∧ o.dict = none ∧ o.data = .seq its n ∧ its.size ≤ sizeLine ∧ Vals xs its.toList
def SqT (K : PySem.W.Frag) (H : Hp) (a : Addr) (xs : List V) : Prop :=
  Rd H a (.tup xs) ∨
    ∃ (o : Obj) (its : Array Value) (n : Nat), K.lookup a = some o ∧ o.cls = .type "tuple" ∧ o.data = .seq its n ∧ its.size ≤ sizeLine ∧ Vals xs its.toList
def absV : Value → Option V
  | .none => some .non
  | .bool b => some (.bl b)
  | .int i _ => some (.int i)
  | .str x _ => some (.str x)
  | .bytes b _ => some (.byt b)
  | .float b _ => some (.flt b)
  | .ref a => some (.ref a)
  | .type n => some (.ty n)
  | _ => none
theorem RelV.abs {x : V} {u : Value} (r : RelV x u) : absV u = some x := by
  cases x with
  | non => cases r; rfl
  | bl _ => cases r; rfl
  | int _ => obtain ⟨t, rfl⟩ := r; rfl
  | str _ => obtain ⟨t, rfl⟩ := r; rfl
  | byt _ => obtain ⟨t, rfl⟩ := r; rfl
  | flt _ => obtain ⟨t, rfl⟩ := r; rfl
  | ref _ => cases r; rfl
  | ty _ => cases r; rfl
theorem RelV.inj {x y : V} {u : Value} (r : RelV x u) (q : RelV y u) : x = y := Option.some.inj (r.abs.symm.trans q.abs)
theorem Vals.inj : ∀ {xs ys : List V} {us : List Value}, Vals xs us → Vals ys us → xs = ys
  | _, _, _, .nil, .nil => rfl
  | _, _, _, .cons r t, .cons r' t' => by rw [r.inj r', Vals.inj t t']
section
variable {X : Cx} {pins : List (Addr × Obj)} {σ : St} {H : Hp} {s : Shared} {a : Addr} {xs ys : List V}
theorem SqL.of {K : PySem.W.Frag} (h : H a = some (.lst xs)) : SqL K H a xs := .inl (.inl h)
theorem SqT.of {K : PySem.W.Frag} (h : H a = some (.tup xs)) : SqT K H a xs := .inl (.inl h)
theorem Inv.list (I : Inv X pins σ H s) (h : SqL X.K H a xs) : ∃ its : List Value, Vals xs its ∧ PlainL s.heap a its.toArray ∧ xs.length ≤ sizeLine := by
  rcases h with h | ⟨o, its, n, hk, hc, hd, hs, hz, r⟩
  · obtain ⟨z, its, n, r, e⟩ := h.ok I.hok
    exact ⟨its, r, ⟨_, n, e, rfl, rfl, rfl⟩, z⟩
  · refine ⟨its.toList, r, ⟨o, n, I.kIn a o hk, hc, hd, by simpa using hs⟩, ?_⟩
    have e := r.length
    simp only [Array.length_toList] at e
    omega
theorem Inv.tuple (I : Inv X pins σ H s) (h : SqT X.K H a xs) : ∃ its : List Value, Vals xs its ∧ IsTup s.heap a its.toArray ∧ xs.length ≤ sizeLine := by
  rcases h with h | ⟨o, its, n, hk, hc, hs, hz, r⟩
  · obtain ⟨z, its, r, p⟩ := h.ok I.hok
    exact ⟨its, r, p, z⟩
  · refine ⟨its.toList, r, ⟨o, I.kIn a o hk, hc, n, by simpa using hs⟩, ?_⟩
    have e := r.length
    simp only [Array.length_toList] at e
    omega
theorem Inv.list_inj (I : Inv X pins σ H s) (h : SqL X.K H a xs) (h' : SqL X.K H a ys) : xs = ys := by
  obtain ⟨its, r, ⟨o, n, e, _, _, d⟩, _⟩ := I.list h
  obtain ⟨its', r', ⟨o', n', e', _, _, d'⟩, _⟩ := I.list h'
  rw [e] at e'; cases e'
  rw [d] at d'
  injection d' with d1 _
  have : its = its' := by simpa using congrArg Array.toList d1
  subst this
  exact r.inj r'
end
abbrev Cx.wish (X : Cx) (E : Value → Shared → Prop) : Cx := { X with xe := E }
abbrev Cx.nox (X : Cx) : Cx := X.wish fun _ _ => False
theorem Cx.Ok.wish {X : Cx} (ok : X.Ok) (E : Value → Shared → Prop) : (X.wish E).Ok :=
  ⟨ok.mod, ok.kind, ok.glob, ok.blt, ok.above, ok.inj, ok.has, ok.cab, ok.hd, ok.frames, ok.stk, ok.exf, ok.bs, ok.bsz, ok.noex, ok.exfs, ok.funs, ok.frf⟩
theorem Cx.Ok.unwish {X : Cx} {E : Value → Shared → Prop} (ok : (X.wish E).Ok) : X.Ok :=
  ⟨ok.mod, ok.kind, ok.glob, ok.blt, ok.above, ok.inj, ok.has, ok.cab, ok.hd, ok.frames, ok.stk, ok.exf, ok.bs, ok.bsz, ok.noex, ok.exfs, ok.funs, ok.frf⟩
section
variable {X : Cx} {pins : List (Addr × Obj)} {σ : St} {H : Hp} {s : Shared} {E : Value → Shared → Prop}
theorem Inv.wish (I : Inv X pins σ H s) (E : Value → Shared → Prop) : Inv (X.wish E) pins σ H s := ⟨I.ok.wish E, I.os, I.bare, I.base, I.loc, I.cell, I.free, I.freeC, I.pin, I.hok, I.len⟩
theorem Inv.unwish (I : Inv (X.wish E) pins σ H s) : Inv X pins σ H s := ⟨I.ok.unwish, I.os, I.bare, I.base, I.loc, I.cell, I.free, I.freeC, I.pin, I.hok, I.len⟩
theorem SP.unwish {D : Ends} {f : Flow} {s' : Shared} (h : SP (X.wish E) pins D f s') : SP X pins D f s' := by
  cases f with
  | next => obtain ⟨σ', H', I, q⟩ := h; exact ⟨σ', H', I.unwish, q⟩
  | brk => obtain ⟨σ', H', I, q⟩ := h; exact ⟨σ', H', I.unwish, q⟩
  | cont => obtain ⟨σ', H', I, q⟩ := h; exact ⟨σ', H', I.unwish, q⟩
  | ret u => obtain ⟨v, σ', H', I, r, q⟩ := h; exact ⟨v, σ', H', I.unwish, r, q⟩
theorem PSs.nox {st : List Stmt} {t : TS} (h : PSs X.nox st t) : PSs X st t := fun pins s σ H D I hw =>
  wpAny_mono (h pins s σ H D (I.wish _) hw) (fun _ _ q => q.unwish) fun _ _ z => False.elim z
end
section
variable {X : Cx} {st : Stmt} {rest : List Stmt} {t u : TS} {e : Expr} {te : TE} {pos : Pos}
def tNext : TS := fun D σ H => D.nx σ H
def tSeq (t u : TS) : TS := fun D σ H => t { D with nx := u D } σ H
theorem pss_nil : PSs X [] tNext := fun _ _ σ H _ I h => wpAny_execs_nil ⟨σ, H, I, h⟩
theorem pss_cons (h1 : PS X st t) (h2 : PSs X rest u) : PSs X (st :: rest) (tSeq t u) := by
  intro pins s σ H D I h
  refine wpAny_execs_cons (thn (h1 pins s σ H { D with nx := u D } I h) fun f s1 q => ?_)
  cases f with
  | next =>
    obtain ⟨σ', H', I', q⟩ := q
    exact h2 pins s1 σ' H' D I' q
  | ret v => exact q
  | brk => exact q
  | cont => exact q
theorem pss_one (h1 : PS X st t) : PSs X [st] t := by
  intro pins s σ H D I h
  refine wpAny_execs_cons (thn (h1 pins s σ H D I h) fun f s1 q => ?_)
  cases f with
  | next => exact wpAny_execs_nil q
  | ret v => exact q
  | brk => exact q
  | cont => exact q
theorem Inv.quiet {pins : List (Addr × Obj)} {σ : St} {H : Hp} {s : Shared} (I : Inv X pins σ H s) : interactive X.env = false := by simp [interactive, I.ok.kind]
def tDrop (te : TE) : TS := fun D σ H => te σ H fun _ H1 => D.nx σ H1
theorem ps_expr (he : PE X e te) (hs : swapsWith e none pos.line X.env = pure false := by rfl) : PS X (.Expr e pos) (tDrop te) := by
  intro pins s σ H D I h
  exact wpAny_Expr_any (thn (he pins s σ H _ I h) fun v s1 ⟨x, H1, I1, r1, q1⟩ => ⟨σ, H1, I1, q1⟩) I.quiet hs
def tRet (te : TE) : TS := fun D σ H => te σ H D.rt
theorem ps_ret (he : PE X e te) : PS X (.Return (some e) pos) (tRet te) := by
  intro pins s σ H D I h
  exact wpAny_Return_some (thn (he pins s σ H _ I h) fun v s1 ⟨x, H1, I1, r1, q1⟩ => ⟨x, σ, H1, I1, r1, q1⟩)
def tIfS (c : TT) (t u : TS) : TS := fun D σ H => c σ H fun b H1 => if b = true then t D σ H1 else u D σ H1
theorem ps_if {c : Expr} {a b : List Stmt} {tc : TT} (hc : PT X c tc) (ha : PSs X a t) (hb : PSs X b u) : PS X (.If c a b pos) (tIfS tc t u) := by
  intro pins s σ H D I h
  refine wpAny_If (thn (hc pins s σ H _ I h) fun d s1 ⟨H1, I1, q1⟩ => ?_)
  cases d with
  | true => exact ha pins s1 σ H1 D I1 q1
  | false => exact hb pins s1 σ H1 D I1 q1
def tNever : TS := fun _ _ _ => False
theorem pss_never {sts : List Stmt} : PSs X sts tNever := fun _ _ _ _ _ _ h => h.elim
end
abbrev TG := V → St → Hp → (St → Hp → Prop) → Prop
abbrev TGs := List V → St → Hp → (St → Hp → Prop) → Prop
def PG (X : Cx) (target : Expr) (t : TG) : Prop :=
  ∀ (pins : List (Addr × Obj)) (s : Shared) (σ : St) (H : Hp) (v : V) (u : Value) (Q : St → Hp → Prop), Inv X pins σ H s → RelV v u → t v σ H Q →
    wpAny (model X.prog X.w) X.A (assign target X.env u) (fun _ s' => ∃ σ' H', Inv X pins σ' H' s' ∧ Q σ' H') X.xe s
def PGs (X : Cx) (ts : List Expr) (t : TGs) : Prop :=
  ∀ (pins : List (Addr × Obj)) (s : Shared) (σ : St) (H : Hp) (vs : List V) (us : List Value) (Q : St → Hp → Prop), Inv X pins σ H s → Vals vs us → t vs σ H Q →
    wpAny (model X.prog X.w) X.A (assignInOrder ((assignEach ts X.env).map (·.2)) us) (fun _ s' => ∃ σ' H', Inv X pins σ' H' s' ∧ Q σ' H') X.xe s
section
variable {X : Cx} {pos : Pos}
def gName (i : Nat) : TG := fun v σ H Q => Q (σ.set i (some v)) H
theorem pg_name {i : Nat} {x : Str} (hN : X.N.Nodup) (hi : X.N[i]? = some x) (hx : Loc X.env.scope x) (hf : X.fn x = true ∨ X.env.scope.names.lookup x = some .local := by first | exact .inl rfl | exact .inr rfl | assumption) : PG X (.Name x pos) (gName i) := by
  intro pins s σ H v u Q I r h
  exact wpAny_assign_Name (store_ok I hN hi hx r (fun s' I' => ⟨_, H, I', h⟩) hf)
def gNil : TGs := fun vs σ H Q => vs = [] ∧ Q σ H
def gCons (t : TG) (u : TGs) : TGs := fun vs σ H Q => ∃ v r, vs = v :: r ∧ t v σ H fun σ' H' => u r σ' H' Q
theorem pgs_nil : PGs X [] gNil := by
  intro pins s σ H vs us Q I r h
  obtain ⟨e, h⟩ := h
  subst e
  cases r
  exact assignInOrder_nil ⟨σ, H, I, h⟩
theorem pgs_cons {e : Expr} {es : List Expr} {t : TG} {u : TGs} (h1 : PG X e t) (h2 : PGs X es u)
    (hs : (assignEach (e :: es) X.env).map (·.2) = assign e X.env :: (assignEach es X.env).map (·.2) := by rfl) : PGs X (e :: es) (gCons t u) := by
  intro pins s σ H vs us Q I r h
  obtain ⟨v, vr, e1, h⟩ := h
  subst e1
  cases r with
  | cons r rr =>
    rw [hs]
    refine assignInOrder_cons (thn (h1 pins s σ H _ _ _ I r h) fun _ s1 ⟨σ1, H1, I1, q1⟩ => ?_)
    exact h2 pins s1 σ1 H1 _ _ Q I1 rr q1
def gTup (K : PySem.W.Frag) (n : Nat) (t : TGs) : TG := fun v σ H Q => ∃ a xs, v = .ref a ∧ SqT K H a xs ∧ xs.length = n ∧ t xs σ H Q
theorem pg_tup {es : List Expr} {k : Nat} {t : TGs} {n : Nat} (hc : X.calm = true) (h : PGs X es t)
    (hn : (assignEach es X.env).length = n := by rfl) (hst : (assignEach es X.env).findIdx? (·.1) = none := by rfl) : PG X (.Tuple es k pos) (gTup X.K n t) := by
  intro pins s σ H v u Q I r hw
  obtain ⟨a, xs, e1, hq, hl, hw⟩ := hw
  subst e1
  cases r
  obtain ⟨its, rv, ht, hz⟩ := I.tuple hq
  refine assign_Tuple_tuple (I.ok.hd hc) ht (by simp [hn, ← hl, rv.length]) hst fun h' hx => ?_
  have I1 : Inv X pins σ H { s with heap := h' } := I.kept (t' := s.toks) fun b o e => hx b o (Nat.ne_of_lt (Heap.lt_size e)) e
  exact h pins _ σ H xs _ Q I1 (by simpa using rv) hw
def tAsg (te : TE) (g : TG) : TS := fun D σ H => te σ H fun x H1 => g x σ H1 D.nx
theorem ps_set {i : Nat} {x : Str} {e : Expr} {te : TE} {pos' : Pos} (hN : X.N.Nodup) (hi : X.N[i]? = some x) (hx : Loc X.env.scope x) (he : PE X e te) (hs : swapsWith e (some (.Name x pos')) pos.line X.env = pure false := by rfl) (hf : X.fn x = true ∨ X.env.scope.names.lookup x = some .local := by first | exact .inl rfl | exact .inr rfl | assumption) :
    PS X (.Assign [.Name x pos'] e pos) (tAsg te (gName i)) := by
  intro pins s σ H D I h
  refine wpAny_Assign_Name (thn (he pins s σ H _ I h) fun v s1 ⟨y, H1, I1, r1, q1⟩ => ?_) hs
  exact store_ok I1 hN hi hx r1 (fun s2 I2 => ⟨_, H1, I2, q1⟩) hf
def tPar (i j : Nat) (ta : TA) : TS := fun D σ H => ta σ H fun vs H1 => ∃ v w, vs = [v, w] ∧ D.nx ((σ.set i (some v)).set j (some w)) H1
theorem ps_par {i j : Nat} {x y : Str} {a b : Expr} {ta : TA} {px py pt : Pos} {kt k2 pt2} (hc : X.calm = true) (hN : X.N.Nodup) (hi : X.N[i]? = some x) (hj : X.N[j]? = some y) (hij : i ≠ j)
    (hx : X.env.scope.names.lookup x = some .local) (hy : X.env.scope.names.lookup y = some .local) (ha : PA X [a, b] ta)
    (hw : swappedStores [.Tuple [.Name x px, .Name y py] kt pt] (.Tuple [a, b] k2 pt2) X.env = pure (some [x, y]))
    (hs : swapsWithSole [.Tuple [.Name x px, .Name y py] kt pt] (.Tuple [a, b] k2 pt2) pos.line X.env = pure false := by rfl) :
    PS X (.Assign [.Tuple [.Name x px, .Name y py] kt pt] (.Tuple [a, b] k2 pt2) pos) (tPar i j ta) := by
  intro pins s σ H D I h
  rw [exec_Assign_arm]
  refine wpAny_bind (wpAny_standAt ?_)
  rw [hs]
  refine wpAny_bind (wpAny_pure ?_)
  rw [if_neg (by decide)]
  refine wpAny_bind (Tuple_ (thn (ha _ pins s σ H _ I h) fun us s1 ⟨vs, H1, I1, r1, q1⟩ => ?_))
  obtain ⟨v, w, e1, q1⟩ := q1
  subst e1
  obtain ⟨u1, u2, rfl, rv, rw'⟩ : ∃ u1 u2, us = [u1, u2] ∧ RelV v u1 ∧ RelV w u2 := by
    cases r1 with
    | cons p q =>
      cases q with
      | cons p' q' =>
        cases q'
        exact ⟨_, _, rfl, p, p'⟩
  refine wpAny_newObj_type ?_ (by show 2 ≤ sizeLine; decide)
  have I2 : Inv X pins σ H1 { s1 with heap := s1.heap.push { cls := .type "tuple", data := .seq [u1, u2].toArray } } := I1.kept (t' := s1.toks) fun b o e => Heap.get?_push_of_some _ e
  rw [hw]
  refine wpAny_bind (wpAny_pure ?_)
  show wpAny (model X.prog X.w) X.A (do rule "assign.swapped-stores"; let items ← unpackItems (.ref s1.heap.objs.size) 2 none; assignInOrder [fun v => bindName X.env y v, fun v => bindName X.env x v] items.reverse; pure Flow.next) _ _ _
  refine wpAny_bind (wpAny_rule (wpAny_bind (unpackItems_tuple (items := #[u1, u2]) (I.ok.hd hc) (IsTup.new s1.heap _) fun h' hx' => ?_)))
  have I3 := I2.kept (h' := h') (t' := s1.toks) fun b o e => hx' b o (Nat.ne_of_lt (Heap.lt_size e)) e
  show wpAny _ _ (assignInOrder [fun v => bindName X.env y v, fun v => bindName X.env x v] [u2, u1] >>= fun _ => pure Flow.next) _ _ _
  refine wpAny_bind (assignInOrder_cons (wpAny_bindName (store_ok I3 hN hj (.inl hy) rw' (fun s2 I4 => ?_) (.inr hy))))
  refine assignInOrder_cons (wpAny_bindName (store_ok I4 hN hi (.inl hx) rv (fun s3 I5 => assignInOrder_nil (wpAny_pure ?_)) (.inr hx)))
  rw [List.set_comm _ _ (Ne.symm hij)] at I5
  exact ⟨_, H1, I5, q1⟩
end
section
variable {X : Cx} {pos : Pos}
def tWhile (c : TT) (tb : TS) : TS := fun D σ H => ∃ W : Nat → St → Hp → Prop, (∃ m, W m σ H) ∧ ∀ m σ H, W m σ H →
  c σ H fun b H1 => if b = true then ∃ N : St → Hp → Prop, (∀ σ' H', N σ' H' → ∃ m', m' < m ∧ W m' σ' H') ∧ tb { D with nx := N, ct := N, bk := D.nx } σ H1 else D.nx σ H1
theorem ps_while {c : Expr} {body : List Stmt} {tc : TT} {tb : TS} (hp : PassesOwn (model X.prog X.w) X.A X.env X.xe) (hc : PT X c tc) (hb : PSs X body tb) : PS X (.While c body [] pos) (tWhile tc tb) := by
  intro pins s σ H D I h
  obtain ⟨W, ⟨m0, w0⟩, turn⟩ := h
  refine wpAny_While (codeAny_whileLoop (fun n s' => ∃ σ' H', Inv X pins σ' H' s' ∧ W n σ' H') ?_ m0 ⟨σ, H, I, w0⟩)
  rintro n s1 ⟨σ1, H1, I1, w1⟩
  refine wpAny_passesOwn hp (thn (hc pins s1 σ1 H1 _ I1 (turn n σ1 H1 w1)) fun b s2 ⟨H2, I2, q2⟩ => ?_)
  cases b with
  | true =>
    obtain ⟨N, hN, q2⟩ := q2
    rw [if_pos rfl]
    refine wpAny_passesOwn hp (thn (hb pins s2 σ1 H2 _ I2 q2) fun f s3 q3 => ?_)
    cases f with
    | next =>
      obtain ⟨σ3, H3, I3, n3⟩ := q3
      obtain ⟨m', hm, w3⟩ := hN σ3 H3 n3
      exact ⟨m', hm, σ3, H3, I3, w3⟩
    | cont =>
      obtain ⟨σ3, H3, I3, n3⟩ := q3
      obtain ⟨m', hm, w3⟩ := hN σ3 H3 n3
      exact ⟨m', hm, σ3, H3, I3, w3⟩
    | brk => exact q3
    | ret v => exact q3
  | false =>
    rw [if_neg Bool.false_ne_true]
    exact wpAny_execs_nil ⟨σ1, H2, I2, q2⟩
end
structure It where
  go : Nat → Hp → Prop
  yld : Nat → Hp → V → Hp → Prop
  stop : Nat → Hp → Prop
def FpOk (X : Cx) (pins : List (Addr × Obj)) (H : Hp) (b : Addr) : Prop :=
  H b = none ∧ b ≠ X.env.locals ∧ b ∉ X.fs ∧ (b ∈ X.ex ∨ X.s₀.heap.objs.size ≤ b) ∧ (∀ x c, X.env.cells.lookup x = some c → c ≠ b) ∧ ∀ p ∈ X.pn ++ pins, p.1 ≠ b
theorem Inv.fpOk {X : Cx} {pins : List (Addr × Obj)} {σ : St} {H H' : Hp} {s : Shared} {b : Addr} (I : Inv X pins σ H s) (hb : s.heap.objs.size ≤ b) (hn : H' b = none) : FpOk X pins H' b := by
  refine ⟨hn, Nat.ne_of_gt (Nat.lt_of_lt_of_le I.lt hb), I.nofs hb, .inr (Nat.le_trans I.sz hb), fun x c e z => ?_, fun p hp z => ?_⟩
  · obtain ⟨v, q⟩ := I.cell x c e
    exact absurd (Nat.lt_of_lt_of_le q.lt (by rw [z]; exact hb)) (Nat.lt_irrefl _)
  · exact absurd (Nat.lt_of_lt_of_le (Heap.lt_size (I.pin p hp).1) (by rw [z]; exact hb)) (Nat.lt_irrefl _)
structure Turn (P : Program) (w : World) (K : PySem.W.Frag) (tg : Expr) (J : It) (fp : List Addr) (it : Addr) (tn : Nat → Heap → Prop) : Prop where
  mem : it ∈ fp
  obj : ∀ i h, tn i h → ∀ b ∈ fp, ∃ o, h.get? b = some o ∧ ∀ v, o.data ≠ .cell v
  keep : ∀ i h h', tn i h → (∀ b ∈ fp, ∀ o, h.get? b = some o → h'.get? b = some o) → tn i h'
  item : ∀ (X : Cx), X.prog = P → X.w = w → X.K = K → X.calm = true → ∀ (i : Nat) (pins : List (Addr × Obj)) (s : Shared) (σ : St) (H : Hp) (E : Value → Shared → Prop), Inv X pins σ H s → (∀ b ∈ fp, FpOk X pins H b) → tn i s.heap → J.go i H →
    wpAny (model P w) X.A (pyNext (.ref it)) (fun r s1 => ∃ u, r = some u ∧
      wpAny (model P w) X.A (letOwnedTupleGo tg (.ref it) u) (fun _ s2 => ∃ x H', Inv X pins σ H' s2 ∧ RelV x u ∧ J.yld i H x H' ∧ tn (i + 1) s2.heap ∧ ∀ b ∈ fp, H' b = none) E s1) E s
  done : ∀ (X : Cx), X.prog = P → X.w = w → X.K = K → X.calm = true → ∀ (i : Nat) (pins : List (Addr × Obj)) (s : Shared) (σ : St) (H : Hp) (E : Value → Shared → Prop), Inv X pins σ H s → (∀ b ∈ fp, FpOk X pins H b) → tn i s.heap → J.stop i H →
    wpAny (model P w) X.A (pyNext (.ref it)) (fun r s1 => r = none ∧ Inv X pins σ H s1) E s
  self : ∀ (A : Around) (i : Nat) (s : Shared) (Q : Value → Shared → Prop) (E : Value → Shared → Prop), tn i s.heap → Q (.ref it) s → wpAny (model P w) A (pyIter (.ref it)) Q E s
abbrev TI := St → Hp → (It → Hp → Prop) → Prop
def PIE (X : Cx) (pins : List (Addr × Obj)) (σ : St) (tg : Expr) (R : It → Hp → Prop) (itv : Value) (s2 : Shared) : Prop :=
  ∃ (it : Addr) (fp : List Addr) (tn : Nat → Heap → Prop) (J : It) (H' : Hp), itv = .ref it ∧ Inv X pins σ H' s2 ∧ Turn X.prog X.w X.K tg J fp it tn ∧ tn 0 s2.heap ∧ (∀ b ∈ fp, FpOk X pins H' b) ∧ R J H'
def PI (X : Cx) (tg iter : Expr) (wi : TI) : Prop :=
  ∀ (pins : List (Addr × Obj)) (s : Shared) (σ : St) (H : Hp) (R : It → Hp → Prop), Inv X pins σ H s → wi σ H R →
    wpAny (model X.prog X.w) X.A (eval iter X.env) (fun v s1 => wpAny (model X.prog X.w) X.A (pyIter v) (PIE X pins σ tg R) X.xe s1) X.xe s
theorem go_of {M : Model} {A : Around} {E : Value → Shared → Prop} {s : Shared} {tg : Expr} {it : Addr} {u : Value} {o : Obj} {n : String} {vs : Array Value} {Q : Unit → Shared → Prop} (ho : s.heap.get? it = some o) (hc : o.cls = .type n) (hd : o.data = .fields vs)
    (hn : ["enumerate", "zip", "dict_itemiterator", "dict_reverseitemiterator", "odict_iterator", "itertools.zip_longest", "itertools.pairwise"].contains n = false) (hQ : Q () s) : wpAny M A (letOwnedTupleGo tg (.ref it) u) Q E s := by
  unfold letOwnedTupleGo
  cases tg <;> first
    | exact wpAny_pure hQ
    | (cases u <;> first
        | exact wpAny_pure hQ
        | (refine wpAny_bind (wpAny_load ho ?_)
           rw [hc, hd]
           show wpAny M A (if (["enumerate", "zip", "dict_itemiterator", "dict_reverseitemiterator", "odict_iterator", "itertools.zip_longest", "itertools.pairwise"].contains n && vs[0]? == some (rawInt _)) = true then _ else _) Q E s
           rw [if_neg (by intro h; rw [hn, Bool.false_and] at h; cases h)]
           exact wpAny_pure hQ))
def Itl (K : PySem.W.Frag) (a : Addr) : It :=
  ⟨fun i H => ∃ xs x, SqL K H a xs ∧ xs[i]? = some x, fun i H x H' => H' = H ∧ ∀ xs, SqL K H a xs → xs[i]? = some x, fun i H => ∃ xs, SqL K H a xs ∧ xs.length ≤ i⟩
def Itr (lo : Int) (n : Nat) : It := ⟨fun i _ => i < n, fun i H x H' => H' = H ∧ x = .int (lo + i), fun i _ => n ≤ i⟩
theorem turn_list {P : Program} {w : World} {K : PySem.W.Frag} {tg : Expr} (a it : Addr) : Turn P w K tg (Itl K a) [it] it (fun i h => h.IsListIter it a i) where
  mem := by simp
  obj := fun i h st b hb => by
    have e : b = it := by simpa using hb
    subst e
    obtain ⟨o, e, c, d⟩ := st
    exact ⟨o, e, fun v z => by rw [d] at z; cases z⟩
  keep := fun i h h' st k => st.at fun o e => k it (by simp) o e
  item := by
    intro X hP hw hK hc i pins s σ H E I hf st hg
    subst hP hw hK
    obtain ⟨xs, x, hq, hx⟩ := hg
    obtain ⟨its, rv, p, hz⟩ := I.list hq
    obtain ⟨u, hu, ru⟩ := rv.get hx
    obtain ⟨f0, f1, f2, f3, f4, f5⟩ := hf it (by simp)
    refine wpAny_pyNext_list_item st p.isList (x := u) (by simpa using hu) fun h' st' sb => ?_
    have I1 : Inv X pins σ H { s with heap := h' } := I.turned (t' := s.toks) (fun b o hb e => (sb.2 b hb).trans e) f0 f1 f3 f4 f5
    obtain ⟨o, e, c, d⟩ := id st'
    exact ⟨u, rfl, go_of (s := { s with heap := h' }) e c d (by decide) ⟨x, H, I1, ru, ⟨rfl, fun ys hy => by rw [I.list_inj hy hq]; exact hx⟩, st', fun b hb => (hf b hb).1⟩⟩
  done := by
    intro X hP hw hK hc i pins s σ H E I hf st hg
    subst hP hw hK
    obtain ⟨xs, hq, hx⟩ := hg
    obtain ⟨its, rv, p, hz⟩ := I.list hq
    obtain ⟨f0, f1, f2, f3, f4, f5⟩ := hf it (by simp)
    have hl := rv.length
    exact wpAny_pyNext_list_end (I.ok.hd hc) st p.isList (by simp; omega) fun h' eb => ⟨rfl, I.turned (t' := s.toks) (fun b o hb e => eb b o hb e) f0 f1 f3 f4 f5⟩
  self := fun _ _ _ _ _ st h => wpAny_pyIter_listiter st h
theorem turn_range {P : Program} {w : World} {K : PySem.W.Frag} {tg : Expr} (it : Addr) (lo : Int) (n : Nat) : Turn P w K tg (Itr lo n) [it] it (fun i h => IsRangeIter h it (lo + (i : Nat) * 1) ((n : Int) - (i : Nat)) 1) where
  mem := by simp
  obj := fun i h st b hb => by
    have e : b = it := by simpa using hb
    subst e
    exact ⟨_, st, fun v z => by
      have z' : Data.fields _ = Data.cell v := z
      cases z'⟩
  keep := fun i h h' st k => k it (by simp) _ st
  item := by
    intro X hP hw hK hc i pins s σ H E I hf st hg
    subst hP hw hK
    obtain ⟨f0, f1, f2, f3, f4, f5⟩ := hf it (by simp)
    have W := Walks.range (prog := X.prog) (w := X.w) (I.ok.hd hc) it lo 1 n
    refine W.item i s _ _ hg st fun v h' tk hv st' kk => ?_
    obtain ⟨t, rfl⟩ := hv
    have I1 : Inv X pins σ H { s with heap := h', toks := tk } := I.turned (fun b o hb e => kk b o (by simpa using hb) e) f0 f1 f3 f4 f5
    refine ⟨_, rfl, go_of (s := { s with heap := h', toks := tk }) (n := "range_iterator") st' rfl rfl (by decide) ⟨.int (lo + i), H, I1, ⟨t, ?_⟩, ⟨rfl, rfl⟩, st', fun b hb => (hf b hb).1⟩⟩
    rw [Int.mul_one]
  done := by
    intro X hP hw hK hc i pins s σ H E I hf st hg
    subst hP hw hK
    obtain ⟨f0, f1, f2, f3, f4, f5⟩ := hf it (by simp)
    exact wpAny_pyNext_range_end (I.ok.hd hc) st (by have : n ≤ i := hg; omega) fun h' eb => ⟨rfl, I.turned (t' := s.toks) (fun b o hb e => eb b o hb e) f0 f1 f3 f4 f5⟩
  self := fun _ _ _ _ _ st h => wpAny_pyIter_rangeiter st h
end L2
namespace L2
open PySem PySem.Spec PyProof.Rows
section
variable {X : Cx} {tg : Expr}
def iList (K : PySem.W.Frag) (tl : TE) : TI := fun σ H R => tl σ H fun x H1 => ∃ a, x = .ref a ∧ (∃ xs, SqL K H1 a xs) ∧ R (Itl K a) H1
theorem pi_list {l : Expr} {tl : TE} (hl : PE X l tl) : PI X tg l (iList X.K tl) := by
  intro pins s σ H R I h
  refine thn (hl pins s σ H _ I h) fun v s1 ⟨x, H1, I1, r1, q1⟩ => ?_
  obtain ⟨a, e, ⟨xs, hq⟩, q⟩ := q1
  subst e
  cases r1
  obtain ⟨its, rv, p, hz⟩ := I1.list hq
  refine wpAny_pyIter_list p.isList ?_
  refine ⟨s1.heap.objs.size, [s1.heap.objs.size], _, _, H1, rfl, I1.kept (t' := s1.toks) fun b o e => Heap.get?_push_of_some _ e, turn_list a _, ⟨_, Heap.get?_push_size _ rfl, rfl, rfl⟩, fun b hb => ?_, q⟩
  have e : b = s1.heap.objs.size := by simpa using hb
  subst e
  exact I1.fpOk (Nat.le_refl _) (I1.hok.fresh (Nat.le_refl _))
theorem range_it {pins : List (Addr × Obj)} {σ : St} {H : Hp} {s : Shared} {R : It → Hp → Prop} {E : Value → Shared → Prop} {lo hi : Int} {t u v : Tok} {tk : Nat} (I : Inv X pins σ H s) (h1 : -(2 ^ 62) ≤ lo) (h2 : lo < 2 ^ 62) (h3 : -(2 ^ 62) ≤ hi) (h4 : hi < 2 ^ 62)
    (q : R (Itr lo (hi - lo).toNat) H) : wpAny (model X.prog X.w) X.A (pyIter (.ref s.heap.objs.size)) (PIE X pins σ tg R) E { s with heap := s.heap.push { cls := .type "range", data := .fields #[.int lo t, .int hi u, .int 1 v] }, toks := tk } := by
  refine wpAny_pyIter_range (IsRange.new ..) (small_one h1 h2 h3 h4) ?_
  have I1 : Inv X pins σ H { s with heap := s.heap.push { cls := .type "range", data := .fields #[.int lo t, .int hi u, .int 1 v] }, toks := tk } := I.kept fun b o e => Heap.get?_push_of_some _ e
  refine ⟨(s.heap.push { cls := .type "range", data := .fields #[.int lo t, .int hi u, .int 1 v] }).objs.size, [(s.heap.push { cls := .type "range", data := .fields #[.int lo t, .int hi u, .int 1 v] }).objs.size], _, _, H, rfl,
    I1.kept (t' := tk) fun b o e => Heap.get?_push_of_some _ e, turn_range _ lo (hi - lo).toNat, ?_, fun b hb => ?_, q⟩
  · have e1 : lo + ((0 : Nat) : Int) * 1 = lo := by simp
    have e2 : (((hi - lo).toNat : Nat) : Int) - ((0 : Nat) : Int) = Builtin.Range.rangeSize lo hi 1 := by rw [rangeSize_one]; split <;> omega
    show IsRangeIter _ _ (lo + ((0 : Nat) : Int) * 1) ((((hi - lo).toNat : Nat) : Int) - ((0 : Nat) : Int)) 1
    rw [e1, e2]
    exact Heap.get?_push_size _ rfl
  · have e : b = (s.heap.push { cls := .type "range", data := .fields #[.int lo t, .int hi u, .int 1 v] }).objs.size := by simpa using hb
    subst e
    exact I1.fpOk (Nat.le_refl _) (I1.hok.fresh (Nat.le_refl _))
def iRng1 (ta : TA) : TI := fun σ H R => ta σ H fun vs H1 => ∃ j : Int, vs = [.int j] ∧ -(2 ^ 62) ≤ j ∧ j < 2 ^ 62 ∧ R (Itr 0 j.toNat) H1
theorem pi_range1 {a : Expr} {ta : TA} {p pos : Pos} (hg : Gl X "range") (hm : X.mg "range" = none) (ha : PA X [a] ta) (hs : starEach [a] X.env = [(false, eval a X.env)] := by rfl) : PI X tg (.Call (.Name "range" p) [a] [] pos) (iRng1 ta) := by
  intro pins s σ H R I h
  refine Call_ (ld_blt I hg hm boot_range (PyProof.Rows.callWith_type1 (thn (ha pos pins s σ H _ I h) fun us s1 ⟨vs, H1, I1, r1, q1⟩ => ?_) hs rfl))
  obtain ⟨j, e, q1, q2, q⟩ := q1
  subst e
  cases r1 with
  | cons r rr =>
    cases rr
    obtain ⟨t, rfl⟩ := r
    exact call_range_1 (range_it I1 (by omega) (by omega) q1 q2 (by simpa using q))
def tFor (wi : TI) (g : TG) (tb : TS) : TS := fun D σ H => wi σ H fun J H1 => ∃ W : Nat → Nat → St → Hp → Prop, (∃ m, W 0 m σ H1) ∧ ∀ i m σ H, W i m σ H →
  (J.stop i H ∧ D.nx σ H) ∨ (J.go i H ∧ ∃ N : St → Hp → Prop, (∀ σ' H', N σ' H' → ∃ m', m' < m ∧ W (i + 1) m' σ' H') ∧ ∀ x H', J.yld i H x H' → g x σ H' fun σ2 H2 => tb { D with nx := N, ct := N, bk := D.nx } σ2 H2)
def pinsAt (fp : List Addr) (h : Heap) : List (Addr × Obj) := fp.filterMap fun b => (h.get? b).map fun o => (b, o)
theorem mem_pinsAt {fp : List Addr} {h : Heap} {b : Addr} {o : Obj} (hb : b ∈ fp) (e : h.get? b = some o) : (b, o) ∈ pinsAt fp h := List.mem_filterMap.mpr ⟨b, hb, by rw [e]; rfl⟩
theorem of_pinsAt {fp : List Addr} {h : Heap} {p : Addr × Obj} (hp : p ∈ pinsAt fp h) : p.1 ∈ fp ∧ h.get? p.1 = some p.2 := by
  obtain ⟨b, hb, e⟩ := List.mem_filterMap.mp hp
  cases q : h.get? b with
  | none => rw [q] at e; cases e
  | some o =>
    rw [q] at e
    have e' : (b, o) = p := Option.some.inj e
    subst e'
    exact ⟨hb, q⟩
theorem Inv.pinned {pins : List (Addr × Obj)} {σ : St} {H : Hp} {s : Shared} {fp : List Addr} (I : Inv X pins σ H s) (hf : ∀ b ∈ fp, FpOk X pins H b) (ho : ∀ b ∈ fp, ∃ o, s.heap.get? b = some o ∧ ∀ v, o.data ≠ .cell v) : Inv X (pins ++ pinsAt fp s.heap) σ H s :=
  I.pins_of fun p hp => (List.mem_append.mp hp).elim (fun z => I.pin p (List.mem_append_right _ z)) fun z => by
    obtain ⟨hb, e⟩ := of_pinsAt z
    obtain ⟨f0, f1, f2, _⟩ := hf p.1 hb
    obtain ⟨o, e', d⟩ := ho p.1 hb
    rw [e] at e'; cases e'
    exact ⟨e, f0, f1, f2, d⟩
theorem Inv.unpinned {pins pl : List (Addr × Obj)} {σ : St} {H : Hp} {s : Shared} (I : Inv X (pins ++ pl) σ H s) : Inv X pins σ H s := I.pins_of fun p hp => I.pin p (List.mem_append_right _ (List.mem_append_left _ hp))
theorem ps_for {iter : Expr} {body : List Stmt} {wi : TI} {g : TG} {tb : TS} {pos : Pos} (hp : PassesOwn (model X.prog X.w) X.A X.env X.xe) (hc : X.calm = true) (hi : PI X tg iter wi) (hg : PG X tg g) (hb : PSs X body tb)
    (hs : ∀ x, foldedSetIterable iter X.env x = pure x := by intro _; rfl) : PS X (.For tg iter body [] pos) (tFor wi g tb) := by
  intro pins s σ H D I h
  refine wpAny_For (thn (hi pins s σ H _ I h) fun v s1 h1 => thn h1 fun itv s2 h2 => ?_) hs
  obtain ⟨it, fp, tn, J, H2, e, I2, T, st2, f2, W, ⟨m0, w0⟩, turn⟩ := h2
  subst e
  have stat : ∀ {H' : Hp}, (∀ b ∈ fp, H' b = none) → ∀ b ∈ fp, FpOk X pins H' b := fun hn b hb => ⟨hn b hb, (f2 b hb).2⟩
  refine codeAny_forLoop_any (fun n s' => ∃ i σ' H', Inv X pins σ' H' s' ∧ tn i s'.heap ∧ (∀ b ∈ fp, H' b = none) ∧ W i n σ' H') ?_ m0 ⟨0, σ, H2, I2, st2, fun b hb => (f2 b hb).1, w0⟩
  rintro n s3 ⟨i, σ3, H3, I3, st3, fr3, w3⟩
  rcases turn i n σ3 H3 w3 with ⟨stop, qn⟩ | ⟨go, N, hN, step⟩
  · refine wpAny_passesOwn hp (thn (T.done X rfl rfl rfl hc i pins s3 σ3 H3 X.xe I3 (stat fr3) st3 stop) fun r s4 ⟨hr, I4⟩ => ?_)
    subst hr
    exact wpAny_execs_nil ⟨σ3, H3, I4, qn⟩
  · refine wpAny_passesOwn hp (thn (T.item X rfl rfl rfl hc i pins s3 σ3 H3 X.xe I3 (stat fr3) st3 go) fun r s4 ⟨u, hr, h4⟩ => ?_)
    subst hr
    refine wpAny_passesOwn hp (thn h4 fun _ s5 ⟨x, H5, I5, r5, y5, st5, fr5⟩ => ?_)
    have I5' := I5.pinned (stat fr5) (T.obj _ _ st5)
    refine wpAny_passesOwn hp (thn (hg _ s5 σ3 H5 x u _ I5' r5 (step x H5 y5)) fun _ s6 ⟨σ6, H6, I6, q6⟩ => ?_)
    refine wpAny_passesOwn hp (thn (hb _ s6 σ6 H6 _ I6 q6) fun f s7 q7 => ?_)
    have again : ∀ {σ7 : St} {H7 : Hp}, Inv X (pins ++ pinsAt fp s5.heap) σ7 H7 s7 → N σ7 H7 → ∃ m, m < n ∧ ∃ i σ' H', Inv X pins σ' H' s7 ∧ tn i s7.heap ∧ (∀ b ∈ fp, H' b = none) ∧ W i m σ' H' := fun {σ7 H7} I7 n7 => by
      obtain ⟨m', hm, w7⟩ := hN σ7 H7 n7
      refine ⟨m', hm, i + 1, σ7, H7, I7.unpinned, T.keep _ _ _ st5 fun b hb o e => (I7.pin (b, o) (List.mem_append_right _ (List.mem_append_right _ (mem_pinsAt hb e)))).1, fun b hb => ?_, w7⟩
      obtain ⟨o, e, d⟩ := T.obj _ _ st5 b hb
      exact (I7.pin (b, o) (List.mem_append_right _ (List.mem_append_right _ (mem_pinsAt hb e)))).2.1
    cases f with
    | next => obtain ⟨σ7, H7, I7, n7⟩ := q7; exact again I7 n7
    | cont => obtain ⟨σ7, H7, I7, n7⟩ := q7; exact again I7 n7
    | brk => obtain ⟨σ7, H7, I7, q7⟩ := q7; exact ⟨σ7, H7, I7.unpinned, q7⟩
    | ret v => obtain ⟨x7, σ7, H7, I7, r7, q7⟩ := q7; exact ⟨x7, σ7, H7, I7.unpinned, r7, q7⟩
end
theorem for_list {K : PySem.W.Frag} {a : Addr} {xs : List V} {g : TG} {tb : TS} {D : Ends} {σ : St} {H : Hp} (Pv : Nat → St → Hp → Prop) (h0 : Pv 0 σ H) (hl : ∀ i σ H, i ≤ xs.length → Pv i σ H → SqL K H a xs)
    (hs : ∀ i x σ H, xs[i]? = some x → Pv i σ H → g x σ H fun σ2 H2 => tb { D with nx := Pv (i + 1), ct := Pv (i + 1), bk := D.nx } σ2 H2) (hd : ∀ σ H, Pv xs.length σ H → D.nx σ H) :
    ∃ W : Nat → Nat → St → Hp → Prop, (∃ m, W 0 m σ H) ∧ ∀ i m σ H, W i m σ H →
      ((Itl K a).stop i H ∧ D.nx σ H) ∨ ((Itl K a).go i H ∧ ∃ N : St → Hp → Prop, (∀ σ' H', N σ' H' → ∃ m', m' < m ∧ W (i + 1) m' σ' H') ∧ ∀ x H', (Itl K a).yld i H x H' → g x σ H' fun σ2 H2 => tb { D with nx := N, ct := N, bk := D.nx } σ2 H2) := by
  refine ⟨fun i m σ H => m = xs.length - i ∧ i ≤ xs.length ∧ Pv i σ H, ⟨xs.length, by simp, Nat.zero_le _, h0⟩, ?_⟩
  rintro i m σ H ⟨rfl, hi, p⟩
  have q := hl i σ H hi p
  by_cases hlt : i < xs.length
  · refine .inr ⟨⟨xs, xs[i], q, by simp [hlt]⟩, Pv (i + 1), fun σ' H' p' => ⟨xs.length - (i + 1), by omega, rfl, hlt, p'⟩, fun x H' y => ?_⟩
    obtain ⟨e, y⟩ := y
    subst e
    exact hs i x σ _ (y xs q) p
  · have e : i = xs.length := by omega
    subst e
    exact .inl ⟨⟨xs, q, Nat.le_refl _⟩, hd σ H p⟩
theorem for_range {lo : Int} {n : Nat} {g : TG} {tb : TS} {D : Ends} {σ : St} {H : Hp} (Pv : Nat → St → Hp → Prop) (h0 : Pv 0 σ H)
    (hs : ∀ i σ H, i < n → Pv i σ H → g (.int (lo + i)) σ H fun σ2 H2 => tb { D with nx := Pv (i + 1), ct := Pv (i + 1), bk := D.nx } σ2 H2) (hd : ∀ σ H, Pv n σ H → D.nx σ H) :
    ∃ W : Nat → Nat → St → Hp → Prop, (∃ m, W 0 m σ H) ∧ ∀ i m σ H, W i m σ H →
      ((Itr lo n).stop i H ∧ D.nx σ H) ∨ ((Itr lo n).go i H ∧ ∃ N : St → Hp → Prop, (∀ σ' H', N σ' H' → ∃ m', m' < m ∧ W (i + 1) m' σ' H') ∧ ∀ x H', (Itr lo n).yld i H x H' → g x σ H' fun σ2 H2 => tb { D with nx := N, ct := N, bk := D.nx } σ2 H2) := by
  refine ⟨fun i m σ H => m = n - i ∧ i ≤ n ∧ Pv i σ H, ⟨n, by simp, Nat.zero_le _, h0⟩, ?_⟩
  rintro i m σ H ⟨rfl, hi, p⟩
  by_cases hlt : i < n
  · refine .inr ⟨hlt, Pv (i + 1), fun σ' H' p' => ⟨n - (i + 1), by omega, rfl, hlt, p'⟩, fun x H' y => ?_⟩
    obtain ⟨e, y⟩ := y
    subst e y
    exact hs i σ _ hlt p
  · have e : i = n := by omega
    subst e
    exact .inl ⟨Nat.le_refl _, hd σ H p⟩
theorem while_by {c : TT} {tb : TS} {D : Ends} {σ : St} {H : Hp} (Pv : St → Hp → Prop) (μ : St → Hp → Nat) (h0 : Pv σ H)
    (hs : ∀ σ H, Pv σ H → c σ H fun b H1 => if b = true then tb { D with nx := fun σ' H' => Pv σ' H' ∧ μ σ' H' < μ σ H, ct := fun σ' H' => Pv σ' H' ∧ μ σ' H' < μ σ H, bk := D.nx } σ H1 else D.nx σ H1)
    (mono : ∀ σ H Q Q', (∀ b H1, Q b H1 → Q' b H1) → c σ H Q → c σ H Q') : tWhile c tb D σ H := by
  refine ⟨fun m σ H => m = μ σ H ∧ Pv σ H, ⟨_, rfl, h0⟩, ?_⟩
  rintro m σ H ⟨rfl, p⟩
  refine mono σ H _ _ (fun b H1 q => ?_) (hs σ H p)
  cases b with
  | true => exact ⟨_, fun σ' H' ⟨p', l⟩ => ⟨_, l, rfl, p'⟩, q⟩
  | false => exact q
end L2
namespace L2
open PySem PySem.Spec PyProof.Rows
abbrev R2 := V → V → Hp → VK → Prop
def OpR (X : Cx) (f : Value → Value → Sem Value) (r : R2) : Prop :=
  ∀ (pins : List (Addr × Obj)) (s : Shared) (σ : St) (H : Hp) (x y : V) (v u : Value) (Q : VK), Inv X pins σ H s → RelV x v → RelV y u → r x y H Q →
    wpAny (model X.prog X.w) X.A (f v u) (EP X pins σ Q) X.xe s
def UnR (X : Cx) (f : Value → Sem Value) (r : V → Hp → VK → Prop) : Prop :=
  ∀ (pins : List (Addr × Obj)) (s : Shared) (σ : St) (H : Hp) (x : V) (v : Value) (Q : VK), Inv X pins σ H s → RelV x v → r x H Q →
    wpAny (model X.prog X.w) X.A (f v) (EP X pins σ Q) X.xe s
def CallR (X : Cx) (f : Value) (r : List V → Hp → VK → Prop) : Prop :=
  ∀ (pins : List (Addr × Obj)) (s : Shared) (σ : St) (H : Hp) (xs : List V) (us : List Value) (Q : VK), Inv X pins σ H s → Vals xs us → r xs H Q →
    wpAny (model X.prog X.w) X.A (call f us) (EP X pins σ Q) X.xe s
def tOp (r : R2) (ta tb : TE) : TE := fun σ H Q => ta σ H fun x H1 => tb σ H1 fun y H2 => r x y H2 Q
def tUn (r : V → Hp → VK → Prop) (ta : TE) : TE := fun σ H Q => ta σ H fun x H1 => r x H1 Q
def rI (C : Int → Int → Prop) (g : Int → Int → V) : R2 := fun x y H Q => ∃ i j, x = .int i ∧ y = .int j ∧ C i j ∧ Q (g i j) H
def rI0 (g : Int → Int → V) : R2 := fun x y H Q => ∃ i j, x = .int i ∧ y = .int j ∧ Q (g i j) H
def rU (g : Int → V) : V → Hp → VK → Prop := fun x H Q => ∃ i, x = .int i ∧ Q (g i) H
section
variable {X : Cx} {a b c : Expr} {ta tb tc : TE} {pos : Pos}
theorem binT (ha : PE X a ta) (hb : PE X b tb) {pins : List (Addr × Obj)} {s : Shared} {σ : St} {H : Hp} {R : V → V → Hp → Prop} (I : Inv X pins σ H s)
    (h : ta σ H fun x H1 => tb σ H1 fun y H2 => R x y H2) {Q : Value → Shared → Prop} {f : Value → Value → Sem Value}
    (hf : ∀ v u s2 x y H2, Inv X pins σ H2 s2 → RelV x v → RelV y u → R x y H2 → wpAny (model X.prog X.w) X.A (f v u) Q X.xe s2) :
    wpAny (model X.prog X.w) X.A (eval a X.env) (fun v s₁ => wpAny (model X.prog X.w) X.A (eval b X.env) (fun u s₂ => wpAny (model X.prog X.w) X.A (f v u) Q X.xe s₂) X.xe s₁) X.xe s := by
  refine thn (ha pins s σ H _ I h) fun v s1 ⟨x, H1, I1, r1, q1⟩ => ?_
  refine thn (hb pins s1 σ H1 _ I1 q1) fun u s2 ⟨y, H2, I2, r2, q2⟩ => ?_
  exact hf v u s2 x y H2 I2 r1 r2 q2
theorem pe_op {op : Operator} {r : R2} (ho : OpR X (binaryOp op) r) (ha : PE X a ta) (hb : PE X b tb) : PE X (.BinOp a op b pos) (tOp r ta tb) := by
  intro pins s σ H Q I h
  exact wpAny_BinOp (binT ha hb I h fun v u s2 x y H2 I2 rx ry q => ho pins s2 σ H2 x y v u Q I2 rx ry q)
theorem pe_un {op : UnaryOp} {r : V → Hp → VK → Prop} (ho : UnR X (unaryOp op) r) (ha : PE X a ta) : PE X (.UnaryOp op a pos) (tUn r ta) := by
  intro pins s σ H Q I h
  exact UnaryOp_ (thn (ha pins s σ H _ I h) fun v s1 ⟨x, H1, I1, r1, q1⟩ => ho pins s1 σ H1 x v Q I1 r1 q1)
theorem opI {f : Value → Value → Sem Value} {C : Int → Int → Prop} {g : Int → Int → Int}
    (rule : ∀ (i j : Int) (t u : Tok) (s : Shared) (Q : Value → Shared → Prop) (E : Value → Shared → Prop), C i j → Q (.int (g i j) s.toks) { s with toks := s.toks + 1 } → wpAny (model X.prog X.w) X.A (f (.int i t) (.int j u)) Q E s) :
    OpR X f (rI C fun i j => .int (g i j)) := by
  intro pins s σ H x y v u Q I rx ry h
  obtain ⟨i, j, rfl, rfl, hc, q⟩ := h
  obtain ⟨t, rfl⟩ := rx
  obtain ⟨t', rfl⟩ := ry
  exact rule i j t t' s _ _ hc ⟨.int (g i j), H, I.tok _, ⟨_, rfl⟩, q⟩
theorem opI0 {f : Value → Value → Sem Value} {g : Int → Int → Int}
    (rule : ∀ (i j : Int) (t u : Tok) (s : Shared) (Q : Value → Shared → Prop) (E : Value → Shared → Prop), Q (.int (g i j) s.toks) { s with toks := s.toks + 1 } → wpAny (model X.prog X.w) X.A (f (.int i t) (.int j u)) Q E s) :
    OpR X f (rI0 fun i j => .int (g i j)) := by
  intro pins s σ H x y v u Q I rx ry h
  obtain ⟨i, j, rfl, rfl, q⟩ := h
  obtain ⟨t, rfl⟩ := rx
  obtain ⟨t', rfl⟩ := ry
  exact rule i j t t' s _ _ ⟨.int (g i j), H, I.tok _, ⟨_, rfl⟩, q⟩
theorem opB0 {f : Value → Value → Sem Value} {g : Int → Int → Bool}
    (rule : ∀ (i j : Int) (t u : Tok) (s : Shared) (Q : Value → Shared → Prop) (E : Value → Shared → Prop), Q (.bool (g i j)) s → wpAny (model X.prog X.w) X.A (f (.int i t) (.int j u)) Q E s) :
    OpR X f (rI0 fun i j => .bl (g i j)) := by
  intro pins s σ H x y v u Q I rx ry h
  obtain ⟨i, j, rfl, rfl, q⟩ := h
  obtain ⟨t, rfl⟩ := rx
  obtain ⟨t', rfl⟩ := ry
  exact rule i j t t' s _ _ ⟨.bl (g i j), H, I, rfl, q⟩
def CPow (i j : Int) : Prop := 0 ≤ j ∧ j ≤ 1000000 ∧ i.natAbs < 2 ^ 64
def CMul (i j : Int) : Prop := (-(2 ^ 64) < i ∧ i < 2 ^ 64) ∨ (-(2 ^ 64) < j ∧ j < 2 ^ 64)
theorem CMul.ok {i j : Int} (h : CMul i j) : IntMulOk i j := by
  rcases h with ⟨h1, h2⟩ | ⟨h1, h2⟩
  · exact .of_left (intBits_le_64 h1 h2)
  · exact .of_right (intBits_le_64 h1 h2)
theorem op_add : OpR X (binaryOp .Add) (rI0 fun i j => .int (i + j)) := opI0 fun _ _ _ _ _ _ _ q => add_int q
theorem op_sub : OpR X (binaryOp .Sub) (rI0 fun i j => .int (i - j)) := opI0 fun _ _ _ _ _ _ _ q => sub_int q
theorem op_mul : OpR X (binaryOp .Mult) (rI CMul fun i j => .int (i * j)) := opI fun _ _ _ _ _ _ _ hc q => mul_int q hc.ok
theorem op_mod : OpR X (binaryOp .Mod) (rI (fun _ j => 0 < j) fun i j => .int (i % j)) := opI fun i j _ _ _ _ _ hc q => by
  have h1 : (0 : Int) < j := hc
  exact mod_int' (by omega) (by rw [Int.fmod_eq_emod_of_nonneg i (by omega)]; exact q)
theorem op_pow : OpR X (binaryOp .Pow) (rI CPow fun i j => .int (i ^ j.toNat)) := opI fun _ _ _ _ _ _ _ hc q => pow_int_small hc.1 hc.2.1 hc.2.2 q
theorem unI {f : Value → Sem Value} {g : Int → Int}
    (rule : ∀ (i : Int) (t : Tok) (s : Shared) (Q : Value → Shared → Prop) (E : Value → Shared → Prop), Q (.int (g i) s.toks) { s with toks := s.toks + 1 } → wpAny (model X.prog X.w) X.A (f (.int i t)) Q E s) :
    UnR X f (rU fun i => .int (g i)) := by
  intro pins s σ H x v Q I rx h
  obtain ⟨i, rfl, q⟩ := h
  obtain ⟨t, rfl⟩ := rx
  exact rule i t s _ _ ⟨.int (g i), H, I.tok _, ⟨_, rfl⟩, q⟩
theorem un_neg : UnR X (unaryOp .USub) (rU fun i => .int (-i)) := unI fun _ _ _ _ _ q => neg_int q
end
def scal : V → V → Bool
  | .non, .non => true | .non, .int _ => true | .int _, .non => true | .non, .bl _ => true | .bl _, .non => true | .non, .str _ => true | .str _, .non => true
  | .int _, .int _ => true | .bl _, .bl _ => true | .str _, .str _ => true | .byt _, .byt _ => true
  | .int _, .str _ => true | .str _, .int _ => true | .bl _, .str _ => true | .str _, .bl _ => true
  | _, _ => false
def rEq : R2 := fun x y H Q => scal x y = true ∧ Q (.bl (decide (x = y))) H
def rNe : R2 := fun x y H Q => scal x y = true ∧ Q (.bl (!decide (x = y))) H
theorem dec_int {i j : Int} : decide (V.int i = V.int j) = (i == j) := by
  rw [Bool.eq_iff_iff]
  simp
theorem dec_bl {i j : Bool} : decide (V.bl i = V.bl j) = (i == j) := by
  rw [Bool.eq_iff_iff]
  simp
theorem dec_str {i j : Str} : decide (V.str i = V.str j) = (i == j) := by
  rw [Bool.eq_iff_iff]
  simp
theorem dec_byt {i j : Array UInt8} : decide (V.byt i = V.byt j) = (i.toList == j.toList) := by
  rw [Bool.eq_iff_iff]
  cases i
  cases j
  simp
section
variable {X : Cx} {a b c : Expr} {ta tb tc : TE} {pos : Pos}
theorem fin_bl {pins : List (Addr × Obj)} {σ : St} {H : Hp} {s : Shared} {Q : VK} {k k' : Bool} (I : Inv X pins σ H s) (q : Q (.bl k) H) (e : k = k') : EP X pins σ Q (.bool k') s := by
  subst e
  exact ⟨.bl k, H, I, rfl, q⟩
theorem op_eq : OpR X (compareOp .Eq) rEq := by
  intro pins s σ H x y v u Q I rx ry h
  obtain ⟨hs, q⟩ := h
  cases x with
  | non =>
    cases rx
    cases y with
    | non => cases ry; exact PySem.EqNone.eq_none_none (fin_bl I q (by simp))
    | bl j => cases ry; exact PySem.EqNone.eq_none_bool (fin_bl I q (by simp))
    | int j => obtain ⟨t', rfl⟩ := ry; exact PySem.EqNone.eq_none_int (fin_bl I q (by simp))
    | str j => obtain ⟨t', rfl⟩ := ry; exact PySem.EqNone.eq_none_str (fin_bl I q (by simp))
    | _ => exact absurd (show false = true from hs) Bool.false_ne_true
  | bl i =>
    cases rx
    cases y with
    | non => cases ry; exact PySem.EqNone.eq_bool_none (fin_bl I q (by simp))
    | bl j => cases ry; exact eq_bool (fin_bl I q dec_bl)
    | str j => obtain ⟨t', rfl⟩ := ry; exact PySem.EqMixed.eq_bool_str (fin_bl I q (by simp))
    | _ => exact absurd (show false = true from hs) Bool.false_ne_true
  | int i =>
    obtain ⟨t, rfl⟩ := rx
    cases y with
    | non => cases ry; exact PySem.EqNone.eq_int_none (fin_bl I q (by simp))
    | int j => obtain ⟨t', rfl⟩ := ry; exact eq_int (fin_bl I q dec_int)
    | str j => obtain ⟨t', rfl⟩ := ry; exact PySem.EqMixed.eq_int_str (fin_bl I q (by simp))
    | _ => exact absurd (show false = true from hs) Bool.false_ne_true
  | str i =>
    obtain ⟨t, rfl⟩ := rx
    cases y with
    | non => cases ry; exact PySem.EqNone.eq_str_none (fin_bl I q (by simp))
    | bl j => cases ry; exact PySem.EqMixed.eq_str_bool (fin_bl I q (by simp))
    | int j => obtain ⟨t', rfl⟩ := ry; exact PySem.EqMixed.eq_str_int (fin_bl I q (by simp))
    | str j => obtain ⟨t', rfl⟩ := ry; exact eq_str (fin_bl I q dec_str)
    | _ => exact absurd (show false = true from hs) Bool.false_ne_true
  | byt i =>
    obtain ⟨t, rfl⟩ := rx
    cases y with
    | byt j => obtain ⟨t', rfl⟩ := ry; exact PySem.W.eq_bytes (fin_bl I q dec_byt)
    | _ => exact absurd (show false = true from hs) Bool.false_ne_true
  | _ => cases y <;> exact absurd (show false = true from hs) Bool.false_ne_true
theorem op_ne : OpR X (compareOp .NotEq) rNe := by
  intro pins s σ H x y v u Q I rx ry h
  obtain ⟨hs, q⟩ := h
  cases x with
  | non =>
    cases rx
    cases y with
    | non => cases ry; exact PySem.EqNone.ne_none_none (fin_bl I q (by simp))
    | bl j => cases ry; exact PySem.EqNone.ne_none_bool (fin_bl I q (by simp))
    | int j => obtain ⟨t', rfl⟩ := ry; exact PySem.EqNone.ne_none_int (fin_bl I q (by simp))
    | str j => obtain ⟨t', rfl⟩ := ry; exact PySem.EqNone.ne_none_str (fin_bl I q (by simp))
    | _ => exact absurd (show false = true from hs) Bool.false_ne_true
  | bl i =>
    cases rx
    cases y with
    | non => cases ry; exact PySem.EqNone.ne_bool_none (fin_bl I q (by simp))
    | bl j => cases ry; exact ne_bool (fin_bl I q (congrArg not dec_bl))
    | str j => obtain ⟨t', rfl⟩ := ry; exact PySem.EqMixed.ne_bool_str (fin_bl I q (by simp))
    | _ => exact absurd (show false = true from hs) Bool.false_ne_true
  | int i =>
    obtain ⟨t, rfl⟩ := rx
    cases y with
    | non => cases ry; exact PySem.EqNone.ne_int_none (fin_bl I q (by simp))
    | int j => obtain ⟨t', rfl⟩ := ry; exact ne_int (fin_bl I q (congrArg not dec_int))
    | str j => obtain ⟨t', rfl⟩ := ry; exact PySem.EqMixed.ne_int_str (fin_bl I q (by simp))
    | _ => exact absurd (show false = true from hs) Bool.false_ne_true
  | str i =>
    obtain ⟨t, rfl⟩ := rx
    cases y with
    | non => cases ry; exact PySem.EqNone.ne_str_none (fin_bl I q (by simp))
    | bl j => cases ry; exact PySem.EqMixed.ne_str_bool (fin_bl I q (by simp))
    | int j => obtain ⟨t', rfl⟩ := ry; exact PySem.EqMixed.ne_str_int (fin_bl I q (by simp))
    | str j => obtain ⟨t', rfl⟩ := ry; exact ne_str (fin_bl I q (congrArg not dec_str))
    | _ => exact absurd (show false = true from hs) Bool.false_ne_true
  | byt i =>
    obtain ⟨t, rfl⟩ := rx
    cases y with
    | byt j => obtain ⟨t', rfl⟩ := ry; exact PySem.W.ne_bytes (fin_bl I q (congrArg not dec_byt))
    | _ => exact absurd (show false = true from hs) Bool.false_ne_true
  | _ => cases y <;> exact absurd (show false = true from hs) Bool.false_ne_true
theorem op_lt : OpR X (compareOp .Lt) (rI0 fun i j => .bl (decide (i < j))) := opB0 fun _ _ _ _ _ _ _ q => lt_int q
theorem op_le : OpR X (compareOp .LtE) (rI0 fun i j => .bl (decide (i ≤ j))) := opB0 fun _ _ _ _ _ _ _ q => le_int q
theorem op_gt : OpR X (compareOp .Gt) (rI0 fun i j => .bl (decide (j < i))) := opB0 fun _ _ _ _ _ _ _ q => gt_int q
theorem op_ge : OpR X (compareOp .GtE) (rI0 fun i j => .bl (decide (j ≤ i))) := opB0 fun _ _ _ _ _ _ _ q => ge_int q
theorem op_notin_str : OpR X (compareOp .NotIn) (fun x y H Q => ∃ i j, x = .str i ∧ y = .str j ∧ Q (.bl (!(!(Builtin.Str.occurrences j i 0 j.length 1).isEmpty))) H) := by
  intro pins s σ H x y v u Q I rx ry h
  obtain ⟨i, j, rfl, rfl, q⟩ := h
  obtain ⟨t, rfl⟩ := rx
  obtain ⟨t', rfl⟩ := ry
  exact notIn_str (fin_bl I q rfl)
theorem nomark (b : Expr) {op : CmpOp} (h : op ≠ .In := by decide) (h2 : op ≠ .NotIn := by decide) : behindInMarks op b = false := by
  have e1 : (op == CmpOp.In) = false := by cases op <;> first | rfl | exact absurd rfl h
  have e2 : (op == CmpOp.NotIn) = false := by cases op <;> first | rfl | exact absurd rfl h2
  cases b <;> simp [behindInMarks, e1, e2]
theorem pe_cmpR {op : CmpOp} {r : R2} (ho : OpR X (compareOp op) r) (ha : PE X a ta) (hb : PE X b tb) (hm : behindInMarks op b = false) : PE X (.Compare a [op] [b] pos) (tOp r ta tb) := by
  intro pins s σ H Q I h
  exact wpAny_Compare1 (binT ha hb I h fun v u s2 x y H2 I2 rx ry q => ho pins s2 σ H2 x y v u Q I2 rx ry q) hm
def tTest (t : TE) : TT := fun σ H Q => t σ H fun x H' => ∃ k, x = .bl k ∧ Q k H'
theorem pt_cmpR {op : CmpOp} {r : R2} (ho : OpR X (compareOp op) r) (ha : PE X a ta) (hb : PE X b tb) (hm : behindInMarks op b = false) : PT X (.Compare a [op] [b] pos) (tTest (tOp r ta tb)) := by
  intro pins s σ H Q I h
  refine wpAny_isTrue_Compare1 (thn (ha pins s σ H _ I h) fun v s1 ⟨x, H1, I1, r1, q1⟩ => thn (hb pins s1 σ H1 _ I1 q1) fun u s2 ⟨y, H2, I2, r2, q2⟩ =>
    thn (ho pins s2 σ H2 x y v u _ I2 r1 r2 q2) fun c s3 ⟨z, H3, I3, r3, k, e, q3⟩ => ?_) hm
  subst e
  cases r3
  exact wpAny_truthy_bool ⟨H3, I3, q3⟩
theorem line63 : (sizeLine : Nat) < 2 ^ 63 := by rw [sizeLine_eq]; decide
theorem op_add_str : OpR X (binaryOp .Add) (fun x y H Q => ∃ i j, x = .str i ∧ y = .str j ∧ i.length + j.length ≤ sizeLine ∧ Q (.str (i ++ j)) H) := by
  intro pins s σ H x y v u Q I rx ry h
  obtain ⟨i, j, rfl, rfl, hz, q⟩ := h
  obtain ⟨t, rfl⟩ := rx
  obtain ⟨t', rfl⟩ := ry
  exact add_str (fun t' tk => ⟨.str (i ++ j), H, I.tok _, ⟨_, rfl⟩, q⟩) hz
theorem vals1 {x : V} {us : List Value} (r : Vals [x] us) : ∃ u, us = [u] ∧ RelV x u := by
  cases r with
  | cons r1 r2 => cases r2; exact ⟨_, rfl, r1⟩
theorem vals2 {x y : V} {us : List Value} (r : Vals [x, y] us) : ∃ u w', us = [u, w'] ∧ RelV x u ∧ RelV y w' := by
  cases r with
  | cons r1 r2 =>
    cases r2 with
    | cons r3 r4 => cases r4; exact ⟨_, _, rfl, r1, r3⟩
theorem call_str_int : CallR X (.type "str") (fun xs H Q => ∃ i, xs = [.int i] ∧ i.natAbs.log2 < 1920 ∧ Q (.str (toString i)) H) := by
  intro pins s σ H xs us Q I r h
  obtain ⟨i, rfl, hz, q⟩ := h
  obtain ⟨u, rfl, t, rfl⟩ := vals1 r
  exact PySem.P.str_of_int hz ⟨.str _, H, I.tok _, ⟨_, rfl⟩, q⟩
end
end L2
namespace L2
open PySem PySem.Spec PyProof.Rows
structure ObjM (h : Heap) (x dx C : Addr) (mA : Str → Option Value) : Prop where
  obj : h.get? x = some (PySem.W.instObj C dx)
  ns : h.Ns1 dx mA
  ne : dx ≠ x
theorem lookIn_ns {h : Heap} {dx : Addr} {mA : Str → Option Value} (n : h.Ns1 dx mA) : ∃ od, h.get? dx = some od ∧ ∀ name, PySem.W.lookIn name od = some (mA name) := by
  obtain ⟨o, es, ep, ho, hd, hk, _, hm⟩ := n
  refine ⟨o, ho, fun name => ?_⟩
  have e := hm name
  unfold nsFind findBy at e
  rw [← Array.find?_toList] at e
  unfold PySem.W.lookIn
  rw [hd]
  dsimp only
  split
  · rename_i y q
    rw [q] at e
    exact congrArg some e
  · rename_i q
    rw [q] at e
    have a : es.toList.any (·.refKey) = false := by
      rw [List.any_eq_false]
      intro y hy
      obtain ⟨z, t, hkey⟩ := hk y (Array.mem_toList_iff.mp hy)
      simp [DictEntry.refKey, hkey]
    have a' : ¬ es.toList.any (·.refKey) = true := by rw [a]; exact Bool.false_ne_true
    rw [if_neg a']
    exact congrArg some e
theorem ObjM.look {h : Heap} {x dx C : Addr} {mA : Str → Option Value} (I : ObjM h x dx C mA) : ∃ od, PySem.W.InstAt h x (PySem.W.instObj C dx) C (some od) ∧ ∀ name, PySem.W.lookIn name od = some (mA name) :=
  let ⟨od, ho, hl⟩ := lookIn_ns I.ns
  ⟨od, ⟨I.obj, rfl, rfl, ho⟩, hl⟩
section
variable {prog : Program} {w : World} {A : Around} {E : Value → Shared → Prop} {s : Shared} {K : PySem.W.Frag} {x dx C f : Addr} {mA : Str → Option Value} {name : Str} {v : Value}
end
theorem RelO.some_of {v : V} {o : Option Value} (r : RelO (some v) o) : ∃ u, o = some u ∧ RelV v u := by
  cases o with
  | none => exact (show False from r).elim
  | some u => exact ⟨u, rfl, r⟩
section
variable {P : Program} {w : World} {H H' : Hp} {h h' : Heap} {a C dx : Addr} {fs fs' : List (Str × V)}
theorem ins_get (hok : HOk P w H h) (e : H a = some (.ins C dx fs)) : ∃ mA, ObjM h a dx C mA ∧ (∀ f, RelO (fs.lookup f) (mA f)) ∧ PySem.Within mA (fs.map (·.1)) ∧ fs.length ≤ 1000 ∧ H dx = some (.own a) := by
  obtain ⟨d, z, ne, ob, mA, n, r, q⟩ := (show ObjOk P w H h a (.ins C dx fs) from hok a _ e)
  exact ⟨mA, ⟨ob, n, ne⟩, r, q, z, d⟩
end
structure Cls (K : PySem.W.Frag) (C : Addr) : Prop where
  pg : PySem.W.plainGet K C Str.empty = true
  hd : PySem.W.hasDictIn K C = true
  po : PySem.W.plainOver K C = true
  sa : PySem.W.findIn K (.ref C) "__setattr__" = some (some (.builtin "object.__setattr__"))
theorem Cls.get {K : PySem.W.Frag} {C : Addr} (c : Cls K C) (f : Str) : PySem.W.plainGet K C f = true := c.pg
structure Con (K : PySem.W.Frag) (C : Addr) (f : Str) (v : V) (u : Value) : Prop where
  at_ : PySem.W.findIn K (.ref C) f = some (some u)
  rel : RelV v u
  get : PySem.W.specialIn K u "__get__" = some none
  cp : PySem.W.copiedNames.contains f = false
structure Meth (K : PySem.W.Frag) (C : Addr) (m : Str) (f : Addr) : Prop where
  at_ : PySem.W.findIn K (.ref C) m = some (some (.ref f))
  fn : PySem.W.isFn K (.ref f) = true
  kp : PySem.W.keepIn K (.ref f) = true
section
variable {X : Cx} {pins : List (Addr × Obj)} {σ : St} {H : Hp} {s : Shared} {a C dx : Addr} {fs : List (Str × V)} {f : Str} {v : V} {A : Around} {E : Value → Shared → Prop}
end
section
variable {X : Cx} {o e value : Expr} {f : Str} {pos pos' tpos : Pos} {ta tv : TE}
end
section
variable {X : Cx} {pins : List (Addr × Obj)} {σ : St} {H : Hp} {s : Shared} {A : Around} {E : Value → Shared → Prop} {Q : Value → Shared → Prop} {c : Value} {b : Bool}
inductive TyOf (K : PySem.W.Frag) (H : Hp) : V → Value → Prop where
  | non : TyOf K H .non (.type "NoneType")
  | bl (x : Bool) : TyOf K H (.bl x) (.type "bool")
  | int (i : Int) : TyOf K H (.int i) (.type "int")
  | str (x : Str) : TyOf K H (.str x) (.type "str")
  | flt (x : UInt64) : TyOf K H (.flt x) (.type "float")
  | lst {a : Addr} {xs : List V} (e : H a = some (.lst xs)) : TyOf K H (.ref a) (.type "list")
  | frz {a : Addr} {o : Obj} {xs : List V} (e : H a = some (.frz o (.lst xs))) : TyOf K H (.ref a) (.type "list")
  | tup {a : Addr} {xs : List V} (e : H a = some (.tup xs)) : TyOf K H (.ref a) (.type "tuple")
  | dK {a : Addr} {kvs : List (Key × V)} (e : H a = some (.dK kvs)) : TyOf K H (.ref a) (.type "dict")
  | dT {a : Addr} {kvs : List (List Key × V)} (e : H a = some (.dT kvs)) : TyOf K H (.ref a) (.type "dict")
  | ins {a C dx : Addr} {fs : List (Str × V)} (e : H a = some (.ins C dx fs)) (cl : Cls K C) (ha : PySem.W.findIn K (.ref C) "__class__" = some (some (.builtin "object.__class__")))
      (hn : PySem.W.specialIn K (.builtin "object.__class__") "__get__" = some (some (.builtin "getset_descriptor.__get__"))) (htk : PySem.W.takesIn K (.builtin "object.__class__") = some true)
      (hm : PySem.W.mroIn K C (.type "object") = some true) : TyOf K H (.ref a) (.ref C)
theorem isinst_ok {x : V} {u t : Value} (I : Inv X pins σ H s) (rx : RelV x u) (ty : TyOf X.K H x t) (e : PySem.W.kitOne X.K t c = some b) (h : ∀ tk, Q (.bool b) { s with toks := tk }) :
    wpAny (model X.prog X.w) A (call (.builtin "isinstance") [u, c]) Q E s := by
  cases ty with
  | non => cases (show u = Value.none from rx); exact PySem.W.kia_one PySem.W.kitx_none I.kIn True.intro e (fun z => nomatch z) h
  | bl y => cases (show u = Value.bool y from rx); exact PySem.W.kia_one PySem.W.kitx_bool I.kIn True.intro e (fun z => nomatch z) h
  | int i => obtain ⟨t, q⟩ := (show ∃ t, u = Value.int i t from rx); cases q; exact PySem.W.kia_one PySem.W.kitx_int I.kIn True.intro e (fun z => nomatch z) h
  | str y => obtain ⟨t, q⟩ := (show ∃ t, u = Value.str y t from rx); cases q; exact PySem.W.kia_one PySem.W.kitx_str I.kIn True.intro e (fun z => nomatch z) h
  | flt y => obtain ⟨t, q⟩ := (show ∃ t, u = Value.float y t from rx); cases q; exact PySem.W.kia_one PySem.W.kitx_float I.kIn True.intro e (fun z => nomatch z) h
  | @lst a xs ea =>
    cases (show u = Value.ref a from rx)
    obtain ⟨_, _, n, _, h1⟩ := (show ObjOk X.prog X.w H s.heap a (.lst xs) from I.hok a _ ea)
    exact PySem.W.kia_one PySem.W.kitx_list I.kIn ⟨_, h1, rfl⟩ e (fun z => nomatch z) h
  | @frz a ob xs ea =>
    cases (show u = Value.ref a from rx)
    obtain ⟨_, _, _, n, _, h1⟩ := (show ObjOk X.prog X.w H s.heap a (.frz ob (.lst xs)) from I.hok a _ ea)
    exact PySem.W.kia_one PySem.W.kitx_list I.kIn ⟨_, h1, rfl⟩ e (fun z => nomatch z) h
  | @tup a xs ea =>
    cases (show u = Value.ref a from rx)
    obtain ⟨_, _, _, p⟩ := (show ObjOk X.prog X.w H s.heap a (.tup xs) from I.hok a _ ea)
    obtain ⟨o, h1, h2, _⟩ := p
    exact PySem.W.kia_one PySem.W.kitx_tuple I.kIn ⟨o, h1, h2⟩ e (fun z => nomatch z) h
  | @dK a kvs ea =>
    cases (show u = Value.ref a from rx)
    obtain ⟨_, _, vs, _, p⟩ := (show ObjOk X.prog X.w H s.heap a (.dK kvs) from I.hok a _ ea)
    obtain ⟨o, es, ep, h1, h2, _⟩ := p
    exact PySem.W.kia_one PySem.W.kitx_dict I.kIn ⟨o, h1, h2.1⟩ e (fun z => nomatch z) h
  | @dT a kvs ea =>
    cases (show u = Value.ref a from rx)
    obtain ⟨_, _, xs, _, o, es, ep, h1, h2, _⟩ := (show ObjOk X.prog X.w H s.heap a (.dT kvs) from I.hok a _ ea)
    exact PySem.W.kia_one PySem.W.kitx_dict I.kIn ⟨o, h1, h2.1⟩ e (fun z => nomatch z) h
  | @ins a C dx fs ea cl ha hn htk hm =>
    cases (show u = Value.ref a from rx)
    obtain ⟨mA, O, _⟩ := ins_get I.hok ea
    obtain ⟨od, J, _⟩ := O.look
    exact PySem.W.kia_one (PySem.W.kitx_own (cl.get _) cl.hd ha hn htk hm) I.kIn J e (fun z => nomatch z) h
end
end L2
namespace L2
open PySem PySem.Spec PyProof.Rows
structure Room (k : Nat) (A : Around) : Prop where
  hd : A.handled = none
  dp : A.depth + 3 * k + 5 < recursionLimit
  un : A.units + 16 * k + 200 < cLine
theorem Room.mono {j k : Nat} {A : Around} (r : Room k A) (h : j ≤ k) : Room j A := ⟨r.hd, by have := r.dp; omega, by have := r.un; omega⟩
theorem Room.deeper {k : Nat} {A : Around} (r : Room (k + 1) A) (env : Env) : Room k (A.deeper env) :=
  ⟨r.hd, by have := r.dp; show A.depth + 1 + 3 * k + 5 < _; omega, by have := r.un; show A.units + 3 + 16 * k + 200 < _; omega⟩
theorem Room.depth {k : Nat} {A : Around} (r : Room k A) : A.depth < recursionLimit := by have := r.dp; omega
theorem Room.units {k : Nat} {A : Around} (r : Room k A) : A.units + 64 < cLine := by have := r.un; omega
theorem Room.units0 {k : Nat} {A : Around} (r : Room k A) : A.units < cLine := by have := r.un; omega
def tNil : TA := fun _ H Q => Q [] H
def tCons (ta : TE) (tr : TA) : TA := fun σ H Q => ta σ H fun x H1 => tr σ H1 fun xs H2 => Q (x :: xs) H2
section
variable {X : Cx} {e : Expr} {es : List Expr} {te : TE} {t : TA} {pos : Pos}
theorem pa_nil : PA X [] tNil := fun _ _ _ _ H Q I h => Calls.spliced_nil ⟨[], H, I, .nil, h⟩
theorem pa_cons (ha : PE X e te) (hr : PA X es t) (hs : starEach (e :: es) X.env = (false, eval e X.env) :: starEach es X.env := by rfl) : PA X (e :: es) (tCons te t) := by
  intro pos pins s σ H Q I h
  rw [hs]
  show wpAny _ _ (spliced ((false, eval e X.env) :: backTo pos (starEach es X.env))) _ _ s
  refine Calls.spliced_cons (thn (ha pins s σ H _ I h) fun u s1 ⟨x, H1, I1, r1, q1⟩ => ?_)
  exact thn (hr pos pins s1 σ H1 _ I1 q1) fun us s2 ⟨xs, H2, I2, r2, q2⟩ => ⟨x :: xs, H2, I2, .cons r1 r2, q2⟩
def tTup (t : TA) : TE := fun σ H Q => t σ H fun xs H1 => xs.length ≤ sizeLine ∧ ∀ p, H1 p = none → Q (.ref p) (upd H1 p (.tup xs))
def tLst (t : TA) : TE := fun σ H Q => t σ H fun xs H1 => xs.length ≤ sizeLine ∧ ∀ p, H1 p = none → Q (.ref p) (upd H1 p (.lst xs))
theorem pe_tup {x1} (h : PA X es t) : PE X (.Tuple es x1 pos) (tTup t) := by
  intro pins s σ H Q I hq
  refine wpAny_Tuple_spliced (thn (h pos pins s σ H _ I hq) fun us s1 ⟨xs, H1, I1, r, z, q⟩ => ⟨by rw [← r.length]; exact z, ?_⟩)
  have hf : H1 s1.heap.objs.size = none := I1.hok.fresh (Nat.le_refl _)
  refine ⟨.ref s1.heap.objs.size, upd H1 s1.heap.objs.size (.tup xs), I1.laid (t' := s1.toks) (fun b u e => Heap.get?_push_of_some _ e) (Nat.le_refl _) ?_, rfl, q _ hf⟩
  exact ⟨z, us, r, ⟨_, Heap.get?_push_size _ rfl, rfl, _, rfl⟩⟩
theorem pe_lst (h : PA X es t) : PE X (.List es pos) (tLst t) := by
  intro pins s σ H Q I hq
  refine wpAny_List_spliced (thn (h pos pins s σ H _ I hq) fun us s1 ⟨xs, H1, I1, r, z, q⟩ => ⟨by rw [← r.length]; exact z, ?_⟩)
  have hf : H1 s1.heap.objs.size = none := I1.hok.fresh (Nat.le_refl _)
  refine ⟨.ref s1.heap.objs.size, upd H1 s1.heap.objs.size (.lst xs), I1.laid (t' := s1.toks) (fun b u e => Heap.get?_push_of_some _ e) (Nat.le_refl _) ?_, rfl, q _ hf⟩
  exact ⟨z, us, 0, r, Heap.get?_push_size _ rfl⟩
end
abbrev Sp := List V → Hp → VK → XK → Prop
abbrev CXT := List Env → Hp → Shared → XK → Value → Shared → Prop
structure Env0 (P : Program) (w : World) (K : PySem.W.Frag) (mg : Str → Option Value) (base : Heap) (A : Around) (outer : List Env) (s : Shared) (H : Hp) : Prop where
  frames : A.frames = some outer
  mod : Mod K mg base
  bs : ∀ b o, base.get? b = some o → s.heap.get? b = some o ∧ H b = none
  bsz : base.objs.size ≤ s.heap.objs.size
  funs : s.heap.FunFrames base outer
  frf : ∀ b ∈ frs outer, H b = none
  hok : HOk P w H s.heap
  bare : AllBare s.gens
def CE (outer : List Env) (P : Program) (w : World) (H : Hp) (s : Shared) (Q : VK) (u : Value) (s' : Shared) : Prop :=
  ∃ v H', s'.os = s.os ∧ AllBare s'.gens ∧ Un (frs outer) [] H H' s.heap s'.heap ∧ HOk P w H' s'.heap ∧ RelV v u ∧ Q v H'
def CR (CX : CXT) (outer : List Env) (P : Program) (w : World) (H : Hp) (s : Shared) (Q : VK) (E : XK) (r : Result) (s' : Shared) : Prop :=
  match r with
  | .ok (.ret u) => CE outer P w H s Q u s'
  | .ok _ => False
  | .error e => CX outer H s E e s'
structure FnOk (P : Program) (w : World) (K : PySem.W.Frag) (mg : Str → Option Value) (base : Heap) (CX : CXT) (k : Nat) (f : Addr) (fd : FuncData) (ps : List Str) (sp : Sp) : Prop where
  len : ∀ vs H Q E, sp vs H Q E → vs.length = ps.length
  run : ∀ (A : Around) (outer : List Env) (s : Shared) (H : Hp) (args : Args) (us : List Value) (vs : List V) (Q : VK) (E : XK), Room k A → Env0 P w K mg base A outer s H → BindsTo s fd args (ps.zip us) → Vals vs us → sp vs H Q E →
    codeAny (model P w) A (.call (.ref f) args) (CR CX outer P w H s Q E) s
theorem FnOk.imp {P : Program} {w : World} {K : PySem.W.Frag} {mg : Str → Option Value} {base : Heap} {CX : CXT} {k : Nat} {f : Addr} {fd : FuncData} {ps : List Str} {sp sp' : Sp} (F : FnOk P w K mg base CX k f fd ps sp)
    (h : ∀ vs H Q E, sp' vs H Q E → sp vs H Q E) : FnOk P w K mg base CX k f fd ps sp' :=
  ⟨fun vs H Q E q => F.len vs H Q E (h _ _ _ _ q), fun A outer s H args us vs Q E hr he hb hv hs => F.run A outer s H args us vs Q E hr he hb hv (h _ _ _ _ hs)⟩
section
variable {X : Cx} {pins : List (Addr × Obj)} {σ : St} {H : Hp} {s s' : Shared}
theorem Inv.env0 (I : Inv X pins σ H s) : Env0 X.prog X.w X.K X.mg X.base X.A X.stack s H :=
  ⟨I.ok.frames, I.ok.mod, I.bs, Nat.le_trans I.ok.bsz I.sz, I.stack, I.stkFree, I.hok, I.bare⟩
theorem Inv.after {Q : VK} {u : Value} (I : Inv X pins σ H s) (h : CE X.stack X.prog X.w H s Q u s') : EP X pins σ Q u s' := by
  obtain ⟨v, H', os, bare, un, hok, r, q⟩ := h
  obtain ⟨hh, g, d, t, os'⟩ := s'
  obtain rfl : os' = s.os := os
  exact ⟨v, H', I.call (h' := hh) (g' := g) (d' := d) (t' := t) (ch := []) un hok bare (fun b z => absurd z (by simp)), r, q⟩
end
def tCall (sp : Sp) (dvs : List V) (E : XK) (t : TA) : TE := fun σ H Q => t σ H fun vs H1 => sp (vs ++ dvs) H1 Q E
def Binds (K : PySem.W.Frag) (fd : FuncData) (ps : List Str) (ds : List Value) : Prop :=
  ∀ (s : Shared) (us : List Value), K.In s.heap → (us ++ ds).length = ps.length → BindsTo s fd ⟨us, []⟩ (ps.zip (us ++ ds))
theorem Binds.all {K : PySem.W.Frag} {fd : FuncData} {ps : List Str} (h : ∀ us : List Value, us.length = ps.length → bindArgs fd ⟨us, []⟩ = pure (ps.zip us)) : Binds K fd ps [] := fun s us _ hl => by
  rw [List.append_nil] at hl ⊢
  exact .of_eq (h us hl)
def Passes (CX : CXT) (X : Cx) (E : XK) : Prop := ∀ (pins : List (Addr × Obj)) (σ : St) (H : Hp) (s : Shared) (e : Value) (s' : Shared), Inv X pins σ H s → CX X.stack H s E e s' → X.xe e s'
section
variable {X : Cx} {CX : CXT} {k : Nat} {f C : Addr} {fd : FuncData} {ps : List Str} {sp : Sp} {dvs : List V} {ds : List Value} {E : XK} {x m : Str} {p pos apos : Pos} {e o : Expr} {es : List Expr} {ta : TE} {t : TA}
theorem run_fn {pins : List (Addr × Obj)} {σ : St} {H : Hp} {s : Shared} {Q : VK} {us : List Value} {vs : List V} (F : FnOk X.prog X.w X.K X.mg X.base CX k f fd ps sp) (hr : Room k X.A) (hb : Binds X.K fd ps ds) (hd : Vals dvs ds) (hx : Passes CX X E)
    (I : Inv X pins σ H s) (r : Vals vs us) (h : sp (vs ++ dvs) H Q E) : wpAny (model X.prog X.w) X.A (call (.ref f) us) (EP X pins σ Q) X.xe s := by
  have r2 : Vals (vs ++ dvs) (us ++ ds) := r.append hd
  have hl : (us ++ ds).length = ps.length := by rw [← r2.length]; exact F.len _ _ _ _ h
  refine wpAny_call (codeAny_mono (F.run X.A X.stack s H ⟨us, []⟩ (us ++ ds) (vs ++ dvs) Q E hr I.env0 (hb s us I.kIn hl) r2 h) fun r s' hq => ?_)
  cases r with
  | error e => exact hx pins σ H s e s' I hq
  | ok fl =>
    cases fl with
    | ret u => exact I.after hq
    | next => exact False.elim hq
    | brk => exact False.elim hq
    | cont => exact False.elim hq
theorem pe_call (F : FnOk X.prog X.w X.K X.mg X.base CX k f fd ps sp) (hr : Room k X.A) (hg : Gl X x) (hm : X.mg x = some (.ref f)) (hk : PySem.W.keepIn X.K (.ref f) = true) (hb : Binds X.K fd ps ds) (hd : Vals dvs ds) (hx : Passes CX X E)
    (ha : PA X (e :: es) t) (hdb : (x == ("__debug__" : Str)) = false := by decide) (he : starEach (e :: es) X.env = (false, eval e X.env) :: starEach es X.env := by rfl) (hpl : (backTo pos (starEach es X.env)).any (·.1) = false := by rfl) :
    PE X (.Call (.Name x p) (e :: es) [] pos) (tCall sp dvs E t) := by
  intro pins s σ H Q I h
  refine wpAny_Call_Name_kw (ld_glob I hg hm ?_ hdb)
  refine PySem.W.callWith_K (h₀ := X.base) I.ok.mod.kin hk (thn (ha pos pins s σ H _ I h) fun us s1 ⟨vs, H1, I1, r, q⟩ => ⟨I1.kIn, ?_⟩) he hpl
  exact run_fn F hr hb hd hx I1 r q
structure Mk (K : PySem.W.Frag) (C f : Addr) : Prop where
  makes : PySem.W.makesIn K C = true
  init : PySem.W.findIn K (.ref C) "__init__" = some (some (.ref f))
  fn : PySem.W.isFn K (.ref f) = true
  kp : PySem.W.keepIn K (.ref C) = true
end
section
variable {X : Cx} {CX : CXT} {k : Nat} {f C : Addr} {fd : FuncData} {ps ks : List Str} {sp : Sp} {E : XK} {x m : Str} {p pos apos kpos : Pos} {e o : Expr} {es : List Expr} {kws : List Keyword} {te ta : TE} {t tk : TA} {nm : Option Str}
structure KBinds (K : PySem.W.Frag) (fd : FuncData) (ps ks : List Str) (g : List Value → List Value → List Value) (gV : List V → List V → List V) : Prop where
  to : ∀ (s : Shared) (us ws : List Value), K.In s.heap → (g us ws).length = ps.length → BindsTo s fd ⟨us, ks.zip ws⟩ (ps.zip (g us ws))
  rel : ∀ {vs : List V} {us : List Value} {zs : List V} {ws : List Value}, Vals vs us → Vals zs ws → Vals (gV vs zs) (g us ws)
variable {g : List Value → List Value → List Value} {gV : List V → List V → List V}
end
structure FnScope (N P : List Str) (sc : Scope) : Prop where
  kind : sc.kind = .function
  co : sc.isCoroutine = false
  gen : sc.isGenerator = false
  nd : N.Nodup
  pre : N.take P.length = P
  par : ∀ x ∈ P, sc.names.lookup x = some .local ∨ sc.names.lookup x = some .cell
  nofree : ∀ y ∈ sc.names, y.2 ≠ .free
theorem bindL_out {kindOf : Str → Option NameKind} {x : Str} : ∀ {binds : List (Str × Value)} {m : Str → Option Value}, (∀ v, (x, v) ∉ binds) → bindL kindOf binds m x = m x
  | [], _, _ => rfl
  | (n, v) :: r, m, h => by
    unfold bindL
    rw [bindL_out fun w hw => h w (List.mem_cons_of_mem _ hw)]
    split
    · have : x ≠ n := by rintro rfl; exact h v List.mem_cons_self
      simp [this]
    · rfl
theorem bindC_out {kindOf : Str → Option NameKind} {x : Str} : ∀ {binds : List (Str × Value)} {m : Str → Option Value}, (∀ v, (x, v) ∉ binds) → bindC kindOf binds m x = m x
  | [], _, _ => rfl
  | (n, v) :: r, m, h => by
    unfold bindC
    rw [bindC_out fun w hw => h w (List.mem_cons_of_mem _ hw)]
    split
    · rfl
    · have : x ≠ n := by rintro rfl; exact h v List.mem_cons_self
      simp [this]
theorem bindL_get {kindOf : Str → Option NameKind} {x : Str} {v : Value} : ∀ {P : List Str} {vs : List Value} {i : Nat} {m : Str → Option Value}, P.Nodup → P[i]? = some x → vs[i]? = some v → kindOf x = some .local →
    bindL kindOf (P.zip vs) m x = some v
  | [], _, _, _, _, h, _, _ => by simp at h
  | _ :: _, [], _, _, _, _, h, _ => by simp at h
  | p :: P, w :: vs, 0, m, nd, h1, h2, hk => by
    simp at h1 h2; subst h1; subst h2
    show bindL kindOf ((p, w) :: P.zip vs) m p = _
    unfold bindL
    rw [bindL_out fun v hv => (List.nodup_cons.mp nd).1 (List.of_mem_zip hv).1, if_pos hk]
    simp
  | p :: P, w :: vs, i + 1, m, nd, h1, h2, hk => by
    show bindL kindOf ((p, w) :: P.zip vs) m x = _
    unfold bindL
    exact bindL_get (i := i) (List.nodup_cons.mp nd).2 (by simpa using h1) (by simpa using h2) hk
theorem bindC_get {kindOf : Str → Option NameKind} {x : Str} {v : Value} : ∀ {P : List Str} {vs : List Value} {i : Nat} {m : Str → Option Value}, P.Nodup → P[i]? = some x → vs[i]? = some v → kindOf x ≠ some .local →
    bindC kindOf (P.zip vs) m x = some v
  | [], _, _, _, _, h, _, _ => by simp at h
  | _ :: _, [], _, _, _, _, h, _ => by simp at h
  | p :: P, w :: vs, 0, m, nd, h1, h2, hk => by
    simp at h1 h2; subst h1; subst h2
    show bindC kindOf ((p, w) :: P.zip vs) m p = _
    unfold bindC
    rw [bindC_out fun v hv => (List.nodup_cons.mp nd).1 (List.of_mem_zip hv).1, if_neg hk]
    simp
  | p :: P, w :: vs, i + 1, m, nd, h1, h2, hk => by
    show bindC kindOf ((p, w) :: P.zip vs) m x = _
    unfold bindC
    exact bindC_get (i := i) (List.nodup_cons.mp nd).2 (by simpa using h1) (by simpa using h2) hk
def start (N : List Str) (vs : List V) : St := vs.map some ++ List.replicate (N.length - vs.length) none
def cxOf (CX : CXT) (P : Program) (w : World) (K : PySem.W.Frag) (mg : Str → Option Value) (base : Heap) (N : List Str) (qual : Str) (scope : Scope) (f : Addr) (cd : Value) (A : Around) (outer : List Env) (s : Shared) (H : Hp) (E : XK) : Cx where
  prog := P
  w := w
  K := K
  mg := mg
  base := base
  A := A.deeper (envOfC qual scope s.heap.objs.size f cd)
  N := N
  s₀ := s
  H₀ := H
  env := envOfC qual scope s.heap.objs.size f cd
  outer := outer
  stack := envOfC qual scope s.heap.objs.size f cd :: outer
  ex := []
  calm := true
  fn := fun _ => true
  pn := []
  xe := fun e s' => wpAny (model P w) (A.deeper (envOfC qual scope s.heap.objs.size f cd)) (leaving (envOfC qual scope s.heap.objs.size f cd) e) (fun _ s'' => CX outer H s E e s'') (fun e' s'' => CX outer H s E e' s'') s'
theorem cell_has {sc : Scope} {n : Nat} {x : Str} (h : sc.names.lookup x = some .cell) : ∃ c, (cellsFrom n sc.names []).lookup x = some c := by
  have q := PySem.W.cellsFrom_some sc.names n [] (.inl h)
  exact Option.isSome_iff_exists.mp q
theorem inv_start {CX : CXT} {P : Program} {w : World} {K : PySem.W.Frag} {mg : Str → Option Value} {base : Heap} {N ps : List Str} {qual : Str} {scope : Scope} {f : Addr} {cd : Value} {A : Around} {outer : List Env} {s s1 : Shared} {H : Hp} {E : XK} {us : List Value} {vs : List V}
    (S : FnScope N ps scope) (hd : A.handled = none) (e0 : Env0 P w K mg base A outer s H) (hl : vs.length = ps.length) (r : Vals vs us)
    (x : InCallC s s.heap.objs.size (bindL (envOfC qual scope s.heap.objs.size f cd).kindOf (ps.zip us) fun _ => none) (cellsFrom (s.heap.objs.size + 1) scope.names []) (bindC (envOfC qual scope s.heap.objs.size f cd).kindOf (ps.zip us) fun _ => none) s1) :
    Inv (cxOf CX P w K mg base N qual scope f cd A outer s H E) [] (start N vs) H s1 := by
  have hpl : ps.length ≤ N.length := by have := congrArg List.length S.pre; rw [List.length_take] at this; omega
  obtain ⟨h1, tk, rfl, hk⟩ := x.done
  have noA : ∀ b : Addr, b ∉ (cxOf CX P w K mg base N qual scope f cd A outer s H E).ex := fun b z => absurd (show b ∈ ([] : List Addr) from z) (by simp)
  refine ⟨⟨e0.mod, S.kind, rfl, rfl, Nat.le_refl _, fun y z c h1 h2 => ?_, fun y hy => ?_, fun y c _ h => ?_, fun _ => hd, Around.frames_deeper e0.frames, .inr ⟨rfl, rfl⟩, fun b z => absurd z (noA b), e0.bs, e0.bsz, fun b _ _ => noA b, fun b z => absurd z (noA b), e0.funs, e0.frf⟩,
    rfl, e0.bare, Un.kept hk, ⟨_, x.toInCall.ns, fun i y v h1 h2 h3 => ?_⟩, fun y c h => ⟨_, x.cell y c h⟩, e0.hok.fresh (Nat.le_refl _), fun y c h => ?_, fun p hp => absurd (show p ∈ ([] : List (Addr × Obj)) from hp) (by simp), e0.hok.kept hk, ?_⟩
  · exact name_of_addr x.apart (PySem.mem_of_lookup h1) (PySem.mem_of_lookup h2)
  · have hy : scope.names.lookup y = some .cell ∨ scope.names.lookup y = some .free := hy
    rcases hy with hy | hy
    · exact cell_has hy
    · exact absurd rfl (S.nofree _ (PySem.mem_of_lookup hy))
  · exact Nat.le_of_lt (x.above y c (PySem.mem_of_lookup h))
  · have hi : i < vs.length := by
      unfold start at h2
      by_cases hi : i < vs.length
      · exact hi
      · rw [List.getElem?_append_right (by simpa using hi)] at h2
        rw [List.getElem?_replicate] at h2
        split at h2 <;> cases h2
    have ha : vs[i]? = some v := by
      unfold start at h2
      rw [List.getElem?_append_left (by simpa using hi), List.getElem?_map] at h2
      cases e : vs[i]? with
      | none => rw [e] at h2; cases h2
      | some a => rw [e] at h2; cases h2; rfl
    obtain ⟨u, hu, rv⟩ := r.get ha
    have hp : ps[i]? = some y := by
      rw [← S.pre, List.getElem?_take_of_lt (by omega)]; exact h1
    have ndP : ps.Nodup := by rw [← S.pre]; exact S.nd.sublist (List.take_sublist _ _)
    refine ⟨u, rv, ?_⟩
    rcases S.par y (List.mem_of_getElem? hp) with k | k
    · exact .inl ⟨k, bindL_get ndP hp hu k⟩
    · obtain ⟨c, e⟩ := cell_has (n := s.heap.objs.size + 1) k
      refine .inr ⟨.inl k, c, e, ?_⟩
      have q := x.cell y c e
      rw [bindC_get ndP hp hu (by show scope.names.lookup y ≠ _; rw [k]; decide)] at q
      exact q
  · exact e0.hok.fresh (Nat.le_of_lt (x.above y c (PySem.mem_of_lookup h)))
  · unfold start
    show _ = N.length
    rw [List.length_append, List.length_map, List.length_replicate]
    omega
theorem fn_of {CX : CXT} {P : Program} {w : World} {K : PySem.W.Frag} {mg : Str → Option Value} {base : Heap} {k : Nat} {f : Addr} {name qual : Str} {params : Arguments} {body : List Stmt} {scope : Scope} {dV kV doc pm cdv ct oc : Value} {an od : Option Addr}
    {osl : Array (Option Value)} {N ps : List Str} {sp : Sp} (lk : K.lookup f = some ⟨oc, od, .func (PySem.W.fnOf name qual params body scope dV kV doc pm an cdv ct), osl⟩) (hcd : PySem.W.codeIn K cdv qual = true) (S : FnScope N ps scope)
    (len : ∀ vs H Q E, sp vs H Q E → vs.length = ps.length)
    (hbody : ∀ (A : Around) (outer : List Env) (s : Shared) (H : Hp) (vs : List V) (Q : VK) (E : XK), Room k (A.deeper (envOfC qual scope s.heap.objs.size f cdv)) → sp vs H Q E →
      ∃ t, PSs (cxOf CX P w K mg base N qual scope f cdv A outer s H E) body t ∧ t { nx := fun _ H' => Q .non H', rt := Q } (start N vs) H) :
    FnOk P w K mg base CX (k + 1) f (PySem.W.fnOf name qual params body scope dV kV doc pm an cdv ct) ps sp := by
  refine ⟨len, fun A outer s H args us vs Q E hr e0 hb r hsp => ?_⟩
  have hl := len _ _ _ _ hsp
  have KX : K.In s.heap := e0.mod.kin.keeps fun b o e => (e0.bs b o e).1
  have lim : s.heap.NoLimit := e0.mod.nolimit.keeps fun b o e => (e0.bs b o e).1
  have hkind : ∀ y ∈ ps.zip us, scope.names.lookup y.1 = some .local ∨ (scope.names.lookup y.1 = some .cell ∧ ((cellsFrom (s.heap.objs.size + 1) scope.names []).lookup y.1).isSome = true) := fun ⟨n, v⟩ hy => by
    rcases S.par n (List.of_mem_zip hy).1 with q | q
    · exact .inl q
    · exact .inr ⟨q, PySem.W.cellsFrom_some _ _ _ (.inl q)⟩
  refine codeAny_call_function hr.depth (KX _ _ lk) rfl S.co S.gen rfl (PySem.W.codeRec_of KX hcd) (hb _ _ _ _ ?_)
  refine wpAny_newFunctionEnv_cells S.kind hkind fun env he s1 x => ?_
  subst he
  refine ⟨lim.keeps x.toInCall.keep, codeAny_func ?_⟩
  obtain ⟨t, ht, hq⟩ := hbody A outer s H vs Q E (hr.deeper _) hsp
  have I : Inv (cxOf CX P w K mg base N qual scope f cdv A outer s H E) [] (start N vs) H s1 := inv_start S hr.hd e0 hl r x
  refine wpAny_mono (ht [] s1 (start N vs) H _ I hq) (fun fl s' hs => ?_) fun e s' hs => hs
  have fin : ∀ {σ' : St} {H' : Hp} {v : V} {u : Value}, Inv (cxOf CX P w K mg base N qual scope f cdv A outer s H E) [] σ' H' s' → RelV v u → Q v H' → CE outer P w H s Q u s' :=
    fun {σ' H' v u} J rv q => ⟨v, H', J.os, J.bare, J.base, J.hok, rv, q⟩
  cases fl with
  | ret u =>
    obtain ⟨v, σ', H', J, rv, q⟩ := hs
    exact fin J rv q
  | next =>
    obtain ⟨σ', H', J, q⟩ := hs
    exact fin (v := V.non) (u := Value.none) J rfl q
  | brk =>
    obtain ⟨_, _, _, q⟩ := hs
    exact False.elim q
  | cont =>
    obtain ⟨_, _, _, q⟩ := hs
    exact False.elim q
end L2
namespace L2
open PySem PySem.Spec PyProof.Rows
section
variable {X : Cx} {x : Str} {p pos : Pos} {e : Expr} {es : List Expr} {t : TA} {id T : String} {r : List V → Hp → VK → Prop}
def tCB (r : List V → Hp → VK → Prop) (t : TA) : TE := fun σ H Q => t σ H fun vs H1 => r vs H1 Q
theorem pe_callB (hc : CallR X (.builtin id) r) (hg : Gl X x) (hm : X.mg x = none) (hv : bootBuiltins x = some (.builtin id)) (ha : PA X (e :: es) t) (hn : x ≠ "__name__" := by decide) (hdb : (x == ("__debug__" : Str)) = false := by decide)
    (he : starEach (e :: es) X.env = (false, eval e X.env) :: starEach es X.env := by rfl) (hpl : (backTo pos (starEach es X.env)).any (·.1) = false := by rfl) : PE X (.Call (.Name x p) (e :: es) [] pos) (tCB r t) := by
  intro pins s σ H Q I h
  refine wpAny_Call_Name_kw (ld_blt I hg hm hv ?_ hn hdb)
  exact PyProof.Rows.callWith_builtin1 (thn (ha pos pins s σ H _ I h) fun us s1 ⟨vs, H1, I1, r1, q1⟩ => hc pins s1 σ H1 vs us Q I1 r1 q1) he hpl
theorem pe_callTy (hc : CallR X (.type T) r) (hg : Gl X x) (hm : X.mg x = none) (hv : bootBuiltins x = some (.type T)) (ha : PA X (e :: es) t) (hn : x ≠ "__name__" := by decide) (hdb : (x == ("__debug__" : Str)) = false := by decide)
    (he : starEach (e :: es) X.env = (false, eval e X.env) :: starEach es X.env := by rfl) (hpl : (backTo pos (starEach es X.env)).any (·.1) = false := by rfl) : PE X (.Call (.Name x p) (e :: es) [] pos) (tCB r t) := by
  intro pins s σ H Q I h
  refine wpAny_Call_Name_kw (ld_blt I hg hm hv ?_ hn hdb)
  exact PyProof.Rows.callWith_type1 (thn (ha pos pins s σ H _ I h) fun us s1 ⟨vs, H1, I1, r1, q1⟩ => hc pins s1 σ H1 vs us Q I1 r1 q1) he hpl
end
end L2
namespace HT
open PySem PyProof.Rows
section
open PySem.SeqAt
open PySem.AutoSeq1 (wpAny_loadPart')
open PySem.MeetsSeq PySem.MeetsSeq2 PySem.MeetsSeq3
end
section
variable {prog : Program} {w : World} {A : Around} {E : Value → Shared → Prop} {s : Shared}
end
end HT
namespace L2
open PySem PySem.Spec PyProof.Rows
abbrev TO := St → Hp → (Option Int → Hp → Prop) → Prop
def PO (X : Cx) (e : Option Expr) (t : TO) : Prop :=
  ∀ (pins : List (Addr × Obj)) (s : Shared) (σ : St) (H : Hp) (Q : Option Int → Hp → Prop), Inv X pins σ H s → t σ H Q →
    wpAny (model X.prog X.w) X.A (evalPart e X.env) (fun u s' => ∃ o H', Inv X pins σ H' s' ∧ IsPart u o ∧ Q o H') X.xe s
def tNoPart : TO := fun _ H Q => Q none H
def tPart (t : TE) : TO := fun σ H Q => t σ H fun x H1 => ∃ i, x = .int i ∧ Q (some i) H1
theorem intsAre_of {ns : List Int} : ∀ {us : List Value}, Vals (ns.map V.int) us → IntsAre us ns := by
  induction ns with
  | nil => intro us r; rw [List.map_nil] at r; cases r; exact .nil
  | cons n ns ih =>
    intro us r
    rw [List.map_cons] at r
    cases r with
    | cons r1 r2 =>
      obtain ⟨t, e⟩ := r1
      subst e
      exact .cons n t (ih r2)
section
variable {X : Cx} {e : Expr} {te : TE} {lo hi : Option Expr} {tl th : TO} {pos p2 : Pos}
theorem po_none : PO X none tNoPart := by
  intro pins s σ H Q I h
  rw [evalPart_none]
  exact wpAny_pure ⟨none, H, I, .none, h⟩
theorem po_some (h : PE X e te) : PO X (some e) (tPart te) := by
  intro pins s σ H Q I hw
  rw [evalPart_some]
  refine thn (h pins s σ H _ I hw) fun u s1 ⟨x, H1, I1, r1, q1⟩ => ?_
  obtain ⟨i, rfl, q⟩ := q1
  obtain ⟨t, rfl⟩ := r1
  exact ⟨some i, H1, I1, .int i t, q⟩
def SlR (X : Cx) (r : V → Option Int → Option Int → Hp → VK → Prop) : Prop :=
  ∀ (pins : List (Addr × Obj)) (s : Shared) (σ : St) (H : Hp) (x : V) (v vl vu : Value) (lo hi : Option Int) (sl : Addr) (Q : VK), Inv X pins σ H s → RelV x v → s.heap.IsSliceOf sl vl vu .none → IsPart vl lo → IsPart vu hi → r x lo hi H Q →
    ∃ T id, typeLookup (.type T) "__getitem__" = pure (some (.builtin id)) ∧ s.TypeIs v T ∧ wpAny (model X.prog X.w) X.A (getItem v (.ref sl)) (EP X pins σ Q) X.xe s
def tSl (r : V → Option Int → Option Int → Hp → VK → Prop) (te : TE) (tl th : TO) : TE := fun σ H Q => te σ H fun x H1 => tl σ H1 fun l H2 => th σ H2 fun u H3 => r x l u H3 Q
theorem pe_slice {r : V → Option Int → Option Int → Hp → VK → Prop} (hr : SlR X r) (he : PE X e te) (hl : PO X lo tl) (hu : PO X hi th) : PE X (.Subscript e (.Slice lo hi none p2) pos) (tSl r te tl th) := by
  intro pins s σ H Q I h
  refine Subscript_ (thn (he pins s σ H _ I h) fun v s1 ⟨x, H1, I1, r1, q1⟩ => ?_)
  refine wpAny_Slice (thn (hl pins s1 σ H1 _ I1 q1) fun vl s2 ⟨l, H2, I2, pl, q2⟩ => thn (hu pins s2 σ H2 _ I2 q2) fun vu s3 ⟨u, H3, I3, pu, q3⟩ => ?_)
  rw [evalPart_none]
  refine wpAny_pure ?_
  have I4 : Inv X pins σ H3 { s3 with heap := s3.heap.push { cls := .type "slice", data := .fields #[vl, vu, .none] } } := I3.kept (t' := s3.toks) fun b ob q => Heap.get?_push_of_some _ q
  obtain ⟨T, id, hT, ht, hg⟩ := hr pins { s3 with heap := s3.heap.push { cls := .type "slice", data := .fields #[vl, vu, .none] } } σ H3 x v vl vu l u s3.heap.objs.size Q I4 r1 (Heap.IsSliceOf.new ..) pl pu q3
  show wpAny (model X.prog X.w) X.A (subscriptTail e (.Slice lo hi none p2) v (.ref s3.heap.objs.size)) (EP X pins σ Q) X.xe { s3 with heap := s3.heap.push { cls := .type "slice", data := .fields #[vl, vu, .none] } }
  exact tail_any (ops := [.ref s3.heap.objs.size, v]) ht hT hg (by with_unfolding_all rfl)
end
end L2
namespace L2
open PySem PySem.Spec PyProof.Rows
def ixN (n : Nat) (i : Int) : Option Nat := if 0 ≤ i then (if i < n then some i.toNat else none) else if -(n : Int) ≤ i then some (i + n).toNat else none
def atI {α : Type} (xs : List α) (i : Int) : Option α := (ixN xs.length i).bind fun j => xs[j]?
theorem ixN_seq {n : Nat} {i : Int} {j : Nat} (h : ixN n i = some j) : seqIndex? i n = some j ∧ j < n ∧ -(n : Int) ≤ i ∧ i < n := by
  unfold ixN at h
  by_cases h0 : 0 ≤ i
  · rw [if_pos h0] at h
    by_cases h1 : i < n
    · rw [if_pos h1] at h
      have e : i.toNat = j := Option.some.inj h
      exact ⟨by rw [seqIndex_of h0 h1, e], by omega, by omega, h1⟩
    · rw [if_neg h1] at h; cases h
  · rw [if_neg h0] at h
    by_cases h1 : -(n : Int) ≤ i
    · rw [if_pos h1] at h
      have e : (i + n).toNat = j := Option.some.inj h
      exact ⟨by rw [seqIndex_neg (by omega) h1, e], by omega, h1, by omega⟩
    · rw [if_neg h1] at h; cases h
theorem atI_get {α : Type} {xs : List α} {i : Int} {v : α} (h : atI xs i = some v) : ∃ j, seqIndex? i xs.length = some j ∧ xs[j]? = some v ∧ j < xs.length ∧ -(xs.length : Int) ≤ i ∧ i < xs.length := by
  unfold atI at h
  cases e : ixN xs.length i with
  | none => rw [e] at h; cases h
  | some j =>
    rw [e] at h
    obtain ⟨h1, h2, h3, h4⟩ := ixN_seq e
    exact ⟨j, h1, h, h2, h3, h4⟩
theorem atI_nat {α : Type} {xs : List α} {j : Nat} {v : α} (h : xs[j]? = some v) : atI xs (j : Int) = some v := by
  have hj : j < xs.length := (List.getElem?_eq_some_iff.mp h).1
  have e : ixN xs.length (j : Int) = some j := by
    unfold ixN
    rw [if_pos (by omega), if_pos (by omega)]; simp
  unfold atI; rw [e]; exact h
def PlainIx (b : Expr) : Prop := ∀ o i, subscripted b false o i = operate [o, i] (getItem o i)
def IxR (X : Cx) (r : R2) : Prop :=
  ∀ (value slice : Expr) (pins : List (Addr × Obj)) (s : Shared) (σ : St) (H : Hp) (x y : V) (v u : Value) (Q : VK), Inv X pins σ H s → RelV x v → RelV y u → r x y H Q →
    subscripted slice false v u = operate [v, u] (getItem v u) → wpAny (model X.prog X.w) X.A (subscriptTail value slice v u) (EP X pins σ Q) X.xe s
def MtR (X : Cx) (id : String) (r : V → List V → Hp → VK → Prop) : Prop :=
  ∀ (pins : List (Addr × Obj)) (s : Shared) (σ : St) (H : Hp) (x : V) (xs : List V) (v : Value) (us : List Value) (Q : VK), Inv X pins σ H s → RelV x v → Vals xs us → r x xs H Q →
    wpAny (model X.prog X.w) X.A (call (.builtin id) (v :: us)) (EP X pins σ Q) X.xe s
section
variable {X : Cx} {a b : Expr} {ta tb : TE} {pos : Pos}
theorem pe_ix {r : R2} (hr : IxR X r) (ha : PE X a ta) (hb : PE X b tb) (hs : PlainIx b) : PE X (.Subscript a b pos) (tOp r ta tb) := by
  intro pins s σ H Q I h
  exact Subscript_ (binT ha hb I h fun v u s2 x y H2 I2 rx ry q => hr a b pins s2 σ H2 x y v u Q I2 rx ry q (hs _ _))
def rIxL (K : PySem.W.Frag) : R2 := fun x y H Q => ∃ p xs i v, x = .ref p ∧ y = .int i ∧ SqL K H p xs ∧ atI xs i = some v ∧ Q v H
def rIxT (K : PySem.W.Frag) : R2 := fun x y H Q => ∃ p xs i v, x = .ref p ∧ y = .int i ∧ SqT K H p xs ∧ atI xs i = some v ∧ Q v H
def rIxS : R2 := fun x y H Q => ∃ z i c, x = .str z ∧ y = .int i ∧ z.length ≤ sizeLine ∧ atI z.cps.toList i = some c ∧ Q (.str ⟨#[c]⟩) H
theorem ix_list : IxR X (rIxL X.K) := by
  intro value slice pins s σ H x y v u Q I rx ry h hs
  obtain ⟨p, xs, i, z, rfl, rfl, hq, he, q⟩ := h
  cases rx
  obtain ⟨t, rfl⟩ := ry
  obtain ⟨its, r, pl, hz⟩ := I.list hq
  obtain ⟨j, h1, h2, h3, h4, h5⟩ := atI_get he
  obtain ⟨w, ew, rw'⟩ := r.get h2
  have hl := r.length
  have hn := line63
  have fin : EP X pins σ Q w s := ⟨z, H, I, rw', q⟩
  by_cases h0 : 0 ≤ i
  · have hj : i.toNat = j := by
      rw [seqIndex_of h0 h5] at h1
      exact Option.some.inj h1
    exact item_listR pl.isList h0 (by omega) (by rw [hj]; simpa using ew) fin hs
  · have hj : (i + (its.toArray.size : Int)).toNat = j := by
      rw [seqIndex_neg (by omega) h4] at h1
      rw [List.size_toArray, ← hl]
      exact Option.some.inj h1
    exact subscriptTail_builtinR (x := w) pl.isList.typeIs slot_list_getitem.lookup
      (wpAny_getItem_list_neg (Q := fun r s' => r = w ∧ EP X pins σ Q r s') pl.isList (by omega) (by rw [List.size_toArray] <;> omega) (by omega) (by rw [hj]; simpa using ew) ⟨rfl, fin⟩) hs
theorem ix_tup : IxR X (rIxT X.K) := by
  intro value slice pins s σ H x y v u Q I rx ry h hs
  obtain ⟨p, xs, i, z, rfl, rfl, hq, he, q⟩ := h
  cases rx
  obtain ⟨t, rfl⟩ := ry
  obtain ⟨its, r, pl, hz⟩ := I.tuple hq
  obtain ⟨j, h1, h2, h3, h4, h5⟩ := atI_get he
  obtain ⟨w, ew, rw'⟩ := r.get h2
  have hl := r.length
  have hn := line63
  have fin : EP X pins σ Q w s := ⟨z, H, I, rw', q⟩
  exact subscriptTail_builtinR (x := w) pl.typeIs slot_tuple_getitem.lookup
    (getItem_tuple (j := j) (Q := fun r s' => r = w ∧ EP X pins σ Q r s') pl (by omega) (by omega) (by rw [List.size_toArray, ← hl]; exact h1) (by simpa using ew) ⟨rfl, fin⟩) hs
theorem ix_str : IxR X rIxS := by
  intro value slice pins s σ H x y v u Q I rx ry h hs
  obtain ⟨z, i, c, rfl, rfl, hz, he, q⟩ := h
  obtain ⟨t, rfl⟩ := rx
  obtain ⟨t', rfl⟩ := ry
  obtain ⟨j, h1, h2, h3, h4, h5⟩ := atI_get he
  have hl : z.cps.toList.length = z.length := by simp [Str.length]
  rw [hl] at h1 h4 h5
  have hn := line63
  exact tail_any (typeIs_str s z t) slot_str_getitem.lookup (getItem_str (c := c) (by
    have e1 : decide (i < -(2 ^ 63 : Int)) = false := decide_eq_false (by omega)
    have e2 : decide (i ≥ 2 ^ 63) = false := decide_eq_false (by omega)
    rw [e1, e2, Bool.or_false]) (by rw [h1]; simpa using h2) ⟨.str ⟨#[c]⟩, H, I.tok _, ⟨_, rfl⟩, q⟩) hs
def flatV : V → Bool
  | .non => true
  | .bl _ => true
  | .int _ => true
  | .str _ => true
  | _ => false
def eqV : V → V → Bool
  | .non, .non => true
  | .bl a, .bl b => a == b
  | .bl a, .int b => (if a then 1 else 0) == b
  | .int a, .bl b => a == (if b then 1 else 0)
  | .int a, .int b => a == b
  | .str a, .str b => a == b
  | _, _ => false
theorem eqAt_V {A : Around} {s : Shared} {y x : V} {u v : Value} (ry : RelV y u) (rx : RelV x v) (fy : flatV y = true) (fx : flatV x = true) : SeqAt.EqAt A s u v (eqV y x) := by
  cases y with
  | non =>
    cases ry
    cases x with
    | non => cases rx; exact SeqAt.EqAt.same _
    | bl b => cases rx; exact SeqAt.EqAt.none_bool b
    | int b => obtain ⟨t, rfl⟩ := rx; exact SeqAt.EqAt.none_int b t
    | str b => obtain ⟨t, rfl⟩ := rx; exact SeqAt.EqAt.none_str b t
    | _ => exact absurd (show false = true from fx) Bool.false_ne_true
  | bl a =>
    cases ry
    cases x with
    | non => cases rx; exact SeqAt.EqAt.bool_none a
    | bl b => cases rx; exact SeqAt.EqAt.bool_bool a b
    | int b => obtain ⟨t, rfl⟩ := rx; exact SeqAt.EqAt.bool_int a b t
    | str b => obtain ⟨t, rfl⟩ := rx; exact SeqAt.EqAt.bool_str a b t
    | _ => exact absurd (show false = true from fx) Bool.false_ne_true
  | int a =>
    obtain ⟨t', rfl⟩ := ry
    cases x with
    | non => cases rx; exact SeqAt.EqAt.int_none a t'
    | bl b => cases rx; exact SeqAt.EqAt.int_bool a t' b
    | int b => obtain ⟨t, rfl⟩ := rx; exact SeqAt.EqAt.int_int a t' b t
    | str b => obtain ⟨t, rfl⟩ := rx; exact SeqAt.EqAt.int_str a t' b t
    | _ => exact absurd (show false = true from fx) Bool.false_ne_true
  | str a =>
    obtain ⟨t', rfl⟩ := ry
    cases x with
    | non => cases rx; exact SeqAt.EqAt.str_none a t'
    | bl b => cases rx; exact SeqAt.EqAt.str_bool a t' b
    | int b => obtain ⟨t, rfl⟩ := rx; exact SeqAt.EqAt.str_int a t' b t
    | str b => obtain ⟨t, rfl⟩ := rx; exact SeqAt.EqAt.str_str a t' b t
    | _ => exact absurd (show false = true from fx) Bool.false_ne_true
  | _ => exact absurd (show false = true from fy) Bool.false_ne_true
def eqU (x : V) (u : Value) : Bool := match u with
  | .none => eqV .non x
  | .bool b => eqV (.bl b) x
  | .int i _ => eqV (.int i) x
  | .str z _ => eqV (.str z) x
  | _ => false
theorem eqU_of {x y : V} {u : Value} (r : RelV y u) (f : flatV y = true) : eqU x u = eqV y x := by
  cases y with
  | non => cases r; rfl
  | bl b => cases r; rfl
  | int i => obtain ⟨t, rfl⟩ := r; rfl
  | str z => obtain ⟨t, rfl⟩ := r; rfl
  | _ => exact absurd (show false = true from f) Bool.false_ne_true
theorem any_eqU {x : V} : ∀ {xs : List V} {us : List Value}, Vals xs us → xs.all flatV = true → us.any (eqU x) = xs.any fun y => eqV y x
  | _, _, .nil, _ => rfl
  | y :: xs, u :: us, .cons r t, f => by
    rw [List.all_cons, Bool.and_eq_true] at f
    rw [List.any_cons, List.any_cons, eqU_of r f.1, any_eqU t f.2]
theorem mem_eqAt {A : Around} {s : Shared} {x : V} {v : Value} (rx : RelV x v) (fx : flatV x = true) : ∀ {xs : List V} {us : List Value}, Vals xs us → xs.all flatV = true → ∀ u ∈ us, SeqAt.EqAt A s u v (eqU x u)
  | _, _, .nil, _ => fun u hu => by cases hu
  | y :: xs, u :: us, .cons r t, f => fun u' hu => by
    rw [List.all_cons, Bool.and_eq_true] at f
    rcases List.mem_cons.mp hu with rfl | hu
    · rw [eqU_of r f.1]; exact eqAt_V r rx f.1 fx
    · exact mem_eqAt rx fx t f.2 u' hu
def inV (x : V) (xs : List V) : Bool := xs.any fun y => eqV y x
def rIn (K : PySem.W.Frag) (neg : Bool) : R2 := fun x y H Q => ∃ p xs, y = .ref p ∧ (SqL K H p xs ∨ SqT K H p xs) ∧ flatV x = true ∧ xs.all flatV = true ∧ Q (.bl (if neg then !inV x xs else inV x xs)) H
theorem op_in_seq : OpR X (compareOp .In) (rIn X.K false) := by
  intro pins s σ H x y v u Q I rx ry h
  obtain ⟨p, xs, rfl, hq, fx, fs, q⟩ := h
  cases ry
  rcases hq with hq | hq
  · obtain ⟨its, r, pl, hz⟩ := I.list hq
    refine SeqAt.in_listAt (eqU x) pl.isList (fun w hw => mem_eqAt rx fx r fs w (by simpa using hw)) ⟨.bl _, H, I, rfl, ?_⟩
    rw [show its.toArray.any (eqU x) = its.any (eqU x) by simp, any_eqU r fs]
    exact q
  · obtain ⟨its, r, pl, hz⟩ := I.tuple hq
    refine SeqAt.in_tupleAt (eqU x) pl (fun w hw => mem_eqAt rx fx r fs w (by simpa using hw)) ⟨.bl _, H, I, rfl, ?_⟩
    rw [show its.toArray.any (eqU x) = its.any (eqU x) by simp, any_eqU r fs]
    exact q
theorem op_notIn_seq : OpR X (compareOp .NotIn) (rIn X.K true) := by
  intro pins s σ H x y v u Q I rx ry h
  obtain ⟨p, xs, rfl, hq, fx, fs, q⟩ := h
  cases ry
  rcases hq with hq | hq
  · obtain ⟨its, r, pl, hz⟩ := I.list hq
    refine SeqAt.notIn_listAt (eqU x) pl.isList (fun w hw => mem_eqAt rx fx r fs w (by simpa using hw)) ⟨.bl _, H, I, rfl, ?_⟩
    rw [show its.toArray.any (eqU x) = its.any (eqU x) by simp, any_eqU r fs]
    exact q
  · obtain ⟨its, r, pl, hz⟩ := I.tuple hq
    refine SeqAt.notIn_tupleAt (eqU x) pl (fun w hw => mem_eqAt rx fx r fs w (by simpa using hw)) ⟨.bl _, H, I, rfl, ?_⟩
    rw [show its.toArray.any (eqU x) = its.any (eqU x) by simp, any_eqU r fs]
    exact q
theorem call_len_seq : CallR X (.builtin "len") (fun xs H Q => ∃ p ys, xs = [.ref p] ∧ (SqL X.K H p ys ∨ SqT X.K H p ys) ∧ Q (.int ys.length) H) := by
  intro pins s σ H xs us Q I r h
  obtain ⟨p, ys, rfl, hq, q⟩ := h
  obtain ⟨u, rfl, rx⟩ := vals1 r
  cases rx
  have hn := line63
  rcases hq with hq | hq
  · obtain ⟨its, r', pl, hz⟩ := I.list hq
    have hlen := r'.length
    exact Calls.call_len_list pl.isList (by simp only [List.size_toArray] <;> omega) ⟨.int ys.length, H, I.tok _, ⟨s.toks + 1, by rw [List.size_toArray, hlen]⟩, q⟩
  · obtain ⟨its, r', pl, hz⟩ := I.tuple hq
    have hlen := r'.length
    exact len_tuple pl (by simp only [List.size_toArray] <;> omega) ⟨.int ys.length, H, I.tok _, ⟨s.toks + 1, by rw [List.size_toArray, hlen]⟩, q⟩
theorem call_len_str : CallR X (.builtin "len") (fun xs H Q => ∃ z, xs = [.str z] ∧ z.length ≤ sizeLine ∧ Q (.int z.length) H) := by
  intro pins s σ H xs us Q I r h
  obtain ⟨z, rfl, hz, q⟩ := h
  obtain ⟨u, rfl, t, rfl⟩ := vals1 r
  have hn := line63
  exact len_str (by omega) ⟨.int z.length, H, I.tok _, ⟨_, rfl⟩, q⟩
def tyV (K : PySem.W.Frag) (T : String) (x : V) (H : Hp) : Prop := match x with
  | .str _ => T = "str"
  | .int _ => T = "int"
  | .ref p => (T = "list" ∧ ∃ xs, SqL K H p xs) ∨ (T = "tuple" ∧ ∃ o, K.lookup p = some o ∧ o.cls = .type "tuple" ∧ o.dict = none) ∨
      (T = "dict" ∧ ((∃ kvs, H p = some (.dK kvs)) ∨ ∃ kvs, H p = some (.dT kvs))) ∨ (T = "set" ∧ ∃ S n, H p = some (.set S n))
  | _ => False
theorem tyV_is {pins : List (Addr × Obj)} {σ : St} {H : Hp} {s : Shared} {T : String} {x : V} {v : Value} (I : Inv X pins σ H s) (r : RelV x v) (ty : tyV X.K T x H) :
    s.TypeIs v T ∧ ∀ a, v = .ref a → ∃ ob, s.heap.get? a = some ob ∧ ob.dict = none := by
  cases x with
  | str z =>
    obtain ⟨t, rfl⟩ := r
    cases (show T = "str" from ty)
    exact ⟨typeIs_str s z t, fun _ e => nomatch e⟩
  | int i =>
    obtain ⟨t, rfl⟩ := r
    cases (show T = "int" from ty)
    exact ⟨typeIs_int s i t, fun _ e => nomatch e⟩
  | ref p =>
    cases r
    rcases ty with ⟨rfl, xs, hq⟩ | ⟨rfl, o, hk, hc, hd⟩ | ⟨rfl, hk⟩ | ⟨rfl, S, n, hk⟩
    · obtain ⟨its, _, pl, _⟩ := I.list hq
      refine ⟨pl.isList.typeIs, fun a e => ?_⟩
      cases e
      obtain ⟨o, n, e, c, hd, _⟩ := pl
      exact ⟨o, e, hd⟩
    · refine ⟨⟨o, I.kIn p o hk, hc⟩, fun a e => ?_⟩
      cases e
      exact ⟨o, I.kIn _ o hk, hd⟩
    · have z : ∃ o, s.heap.get? p = some o ∧ o.ExactDict := by
        rcases hk with ⟨kvs, hk⟩ | ⟨kvs, hk⟩
        · obtain ⟨_, _, _, _, o, _, _, e, ex, _⟩ := I.hok p _ hk
          exact ⟨o, e, ex⟩
        · obtain ⟨_, _, _, _, o, _, _, e, ex, _⟩ := I.hok p _ hk
          exact ⟨o, e, ex⟩
      obtain ⟨o, e, ex⟩ := z
      refine ⟨⟨o, e, ex.1⟩, fun a e2 => ?_⟩
      cases e2
      exact ⟨o, e, ex.2.1⟩
    · obtain ⟨o, _, _, _, e, ex, _⟩ := I.hok p _ hk
      refine ⟨⟨o, e, ex.1⟩, fun a e2 => ?_⟩
      cases e2
      exact ⟨o, e, ex.2.1⟩
  | _ => exact False.elim ty
def tBM (K : PySem.W.Frag) (T : String) (r : V → List V → Hp → VK → Prop) (to : TE) (t : TA) : TE := fun σ H Q => to σ H fun x H1 => tyV K T x H1 ∧ t σ H1 fun xs H2 => r x xs H2 Q
variable {o e : Expr} {es : List Expr} {to : TE} {t : TA} {name : Str} {apos cpos : Pos} {T id : String} {r : V → List V → Hp → VK → Prop}
theorem pe_bm (pa : PlainAttrs T) (slot : Slot T name id) (hty : typeOf (.builtin id) = pure (.type "method_descriptor")) (hm : MtR X id r) (ho : PE X o to) (ha : PA X (e :: es) t)
    (hbase : attributeBase o name X.env (eval o X.env) = eval o X.env := by rfl)
    (hfew : ((backTo cpos (starEach (e :: es) X.env)).all (fun x => !x.1) && (backToKw cpos (keywordEach [] X.env)).all (fun x => x.1.isSome)
      && decide ((e :: es).length + ([] : List Keyword).length + (if ([] : List Keyword).isEmpty then 0 else 1) < 30)) = true := by rfl)
    (hline : (apos.endLine == cpos.line) = true := by rfl) (hs : starEach (e :: es) X.env = (false, eval e X.env) :: starEach es X.env := by rfl) (hplain : (backTo cpos (starEach es X.env)).any (·.1) = false := by rfl) :
    PE X (.Call (.Attribute o name apos) (e :: es) [] cpos) (tBM X.K T r to t) := by
  intro pins s σ H Q I h
  refine wpAny_Call_method_late hbase hfew hline rfl (thn (ho pins s σ H _ I h) fun v s1 ⟨x, H1, I1, r1, ty, q1⟩ => ?_)
  obtain ⟨h1, h2⟩ := tyV_is I1 r1 ty
  refine ⟨T, id, pa, slot, hty, h1, h2, ?_⟩
  have hA := ha cpos pins s1 σ H1 _ I1 q1
  rw [hs] at hA ⊢
  refine Calls.callWith_builtin (by show (false || (backTo cpos (starEach es X.env)).any (·.1)) = false; rw [hplain] <;> rfl) (Calls.evalArgs_plain ?_)
  exact thn hA fun us s2 ⟨vs, H2, I2, r2, q2⟩ => hm pins s2 σ H2 x vs v us Q I2 r1 r2 q2
end
end L2
namespace L2
open PySem PySem.Spec PyProof.Rows
def MtM (X : Cx) (id : String) (r : V → List V → Hp → VK → Prop) : Prop :=
  ∀ (pins : List (Addr × Obj)) (s : Shared) (σ : St) (H : Hp) (x : V) (xs : List V) (v : Value) (us : List Value) (Q : VK), Inv X pins σ H s → RelV x v → Vals xs us → r x xs H Q →
    wpAny (model X.prog X.w) X.A (call (.builtin id) (v :: us)) (EP X pins σ Q) X.xe s
theorem Vals.one : ∀ {x : V} {us : List Value}, Vals [x] us → ∃ u, us = [u] ∧ RelV x u
  | _, _, .cons r .nil => ⟨_, rfl, r⟩
theorem Vals.dropLast {xs : List V} {us : List Value} (h : Vals xs us) : Vals xs.dropLast us.dropLast := by
  induction h with
  | nil => exact .nil
  | cons r t ih =>
    cases t with
    | nil => exact .nil
    | cons q t' => exact .cons r ih
theorem erase_last {α : Type} (l : List α) : l.eraseIdx (l.length - 1) = l.dropLast := by
  induction l with
  | nil => rfl
  | cons a r ih =>
    cases r with
    | nil => rfl
    | cons b r =>
      have e : (a :: b :: r).length - 1 = ((b :: r).length - 1) + 1 := by
        have h1 : (a :: b :: r).length = r.length + 2 := rfl
        have h2 : (b :: r).length = r.length + 1 := rfl
        omega
      rw [e, List.eraseIdx_cons_succ, ih]
      all_goals rfl
section
variable {X : Cx} {pins : List (Addr × Obj)} {σ : St} {H : Hp} {s : Shared} {l b : Addr} {xs ys zs : List V}
theorem Inv.lset {its its' : List Value} {n : Nat} {f : Array Value → Array Value} {t' : Nat} (I : Inv X pins σ H s) (hH : H l = some (.lst xs))
    (e : s.heap.get? l = some { cls := .type "list", data := .seq its.toArray n }) (hf : f its.toArray = its'.toArray) (hv : Vals ys its') (hz : ys.length ≤ sizeLine) :
    Inv X pins σ (upd H l (.lst ys)) { s with heap := s.heap.update l (Obj.mapSeq f), toks := t' } := by
  have q := PySem.IsL.update e f
  rw [hf] at q
  refine I.write (x := l) (e := l) (by rw [hH]; exact trivial) (.inl rfl) (fun b' u hb hu => (Heap.get?_update_other s.heap (Obj.mapSeq f) (Ne.symm hb)).trans hu) ⟨_, q⟩ ?_
  exact ⟨hz, its', _, hv, q⟩
theorem Inv.lnew {its : List Value} {t' : Nat} (I : Inv X pins σ H s) (hv : Vals ys its) (hz : ys.length ≤ sizeLine) :
    Inv X pins σ (upd H s.heap.objs.size (.lst ys)) { s with heap := s.heap.push { cls := .type "list", data := .seq its.toArray }, toks := t' } :=
  I.laid (fun _ _ q => Heap.get?_push_of_some _ q) (Nat.le_refl _) ⟨hz, its, 0, hv, Heap.get?_push_size _ rfl⟩
theorem Inv.fresh (I : Inv X pins σ H s) : H s.heap.objs.size = none := I.hok.fresh (Nat.le_refl _)
theorem Inv.lstM (I : Inv X pins σ H s) (hH : H l = some (.lst xs)) : xs.length ≤ sizeLine ∧ ∃ (its : List Value) (n : Nat), Vals xs its ∧ xs.length = its.length ∧ s.heap.get? l = some { cls := .type "list", data := .seq its.toArray n } := by
  obtain ⟨z, its, n, r, e⟩ := I.hok l _ hH
  exact ⟨z, its, n, r, r.length, e⟩
theorem notLongL {n : Nat} (h : n ≤ sizeLine) : Builtin.List.listTooLong n = false := by
  unfold Builtin.List.listTooLong
  exact decide_eq_false (by omega)
end
section
variable {X : Cx}
def rAppend : V → List V → Hp → VK → Prop := fun x vs H Q => ∃ l xs y, x = .ref l ∧ vs = [y] ∧ H l = some (.lst xs) ∧ xs.length < sizeLine ∧ Q .non (upd H l (.lst (xs ++ [y])))
theorem mt_append : MtM X "list.append" rAppend := by
  intro pins s σ H x vs v us Q I rx rv h
  obtain ⟨l, xs, y, rfl, rfl, hH, hz, q⟩ := h
  cases rx
  obtain ⟨u, rfl, ru⟩ := rv.one
  obtain ⟨z, its, n, r, hl, e⟩ := I.lstM hH
  refine call_meets F.slot_list_append ⟨_, e, rfl⟩ F.entry_list_append (F.args_list_append_2 _ _) (PySem.list_append l its.toArray n u (by rw [List.size_toArray]; omega)) ⟨e, ?_⟩
  refine ⟨.non, _, I.lset (its' := its ++ [u]) hH e (by simp) (r.append (.cons ru .nil)) ?_, rfl, q⟩
  rw [List.length_append, List.length_singleton]
  omega
def rCat : R2 := fun x y H Q => ∃ l b xs zs, x = .ref l ∧ y = .ref b ∧ H l = some (.lst xs) ∧ H b = some (.lst zs) ∧ xs.length + zs.length ≤ sizeLine ∧ ∀ p, H p = none → Q (.ref p) (upd H p (.lst (xs ++ zs)))
theorem op_cat : OpR X (binaryOp .Add) rCat := by
  intro pins s σ H x y v u Q I rx ry h
  obtain ⟨l, b, xs, zs, rfl, rfl, hH, hB, hz, q⟩ := h
  cases rx
  cases ry
  obtain ⟨z, its, n, r, hl, e⟩ := I.lstM hH
  obtain ⟨z2, its2, n2, r2, hl2, e2⟩ := I.lstM hB
  refine PySem.P.add_list e e2 ?_ (by rw [List.size_toArray, List.size_toArray]; omega)
  have ea : its.toArray ++ its2.toArray = (its ++ its2).toArray := by simp
  rw [ea]
  exact ⟨.ref _, _, I.lnew (t' := s.toks) (r.append r2) (by rw [List.length_append]; omega), rfl, q _ I.fresh⟩
end
section
variable {prog : Program} {w : World} {A : Around} {E : Value → Shared → Prop} {s : Shared}
end
section
variable {X : Cx}
end
open PySem PySem.Spec PyProof.Rows
section
variable {κ : Type} [DecidableEq κ]
def valV (kvs : List (κ × V)) (k : κ) : Option V := (kvs.find? fun kv => decide (kv.1 = k)).map (·.2)
def putK (kvs : List (κ × V)) (k : κ) (v : V) : List (κ × V) :=
  if (kvs.any fun kv => decide (kv.1 = k)) = true then kvs.map (fun kv => if kv.1 = k then (kv.1, v) else kv) else kvs ++ [(k, v)]
theorem valV_nil {k : κ} : valV ([] : List (κ × V)) k = none := rfl
theorem valV_pos {p : κ × V} {r : List (κ × V)} {k : κ} (e : p.1 = k) : valV (p :: r) k = some p.2 := by simp [valV, List.find?_cons, e]
theorem valV_neg {p : κ × V} {r : List (κ × V)} {k : κ} (e : ¬ p.1 = k) : valV (p :: r) k = valV r k := by simp [valV, List.find?_cons, e]
theorem valV_any (k : κ) : ∀ kvs : List (κ × V), (kvs.any fun kv => decide (kv.1 = k)) = (valV kvs k).isSome
  | [] => rfl
  | p :: r => by
    rw [List.any_cons]
    by_cases e : p.1 = k
    · simp only [valV_pos e, decide_eq_true e, Bool.true_or, Option.isSome_some]
    · rw [valV_neg e, decide_eq_false e, Bool.false_or]; exact valV_any k r
theorem valV_map (k j : κ) (y : V) : ∀ kvs : List (κ × V), valV (kvs.map fun kv => if kv.1 = k then (kv.1, y) else kv) j = (valV kvs j).map fun x => if j = k then y else x
  | [] => rfl
  | p :: r => by
    have ih := valV_map k j y r
    rw [List.map_cons]
    by_cases h : p.1 = k
    · rw [if_pos h]
      by_cases e : p.1 = j
      · rw [valV_pos (p := (p.1, y)) e, valV_pos e, Option.map_some, if_pos (e.symm.trans h)]
      · rw [valV_neg (p := (p.1, y)) e, valV_neg e, ih]
    · rw [if_neg h]
      by_cases e : p.1 = j
      · rw [valV_pos (p := p) e, valV_pos e, Option.map_some, if_neg (fun z => h (e.trans z))]
      · rw [valV_neg (p := p) e, valV_neg e, ih]
theorem valV_snoc (k j : κ) (y : V) : ∀ kvs : List (κ × V), valV kvs k = none → valV (kvs ++ [(k, y)]) j = if j = k then some y else valV kvs j
  | [], _ => by
    by_cases e : k = j
    · rw [if_pos e.symm]; exact valV_pos (p := (k, y)) e
    · rw [if_neg (fun z => e z.symm)]; exact valV_neg (p := (k, y)) e
  | p :: r, hn => by
    rw [List.cons_append]
    have hk : ¬ p.1 = k := fun z => by rw [valV_pos z] at hn; cases hn
    rw [valV_neg hk] at hn
    have ih := valV_snoc k j y r hn
    by_cases e : p.1 = j
    · rw [valV_pos e, valV_pos e, if_neg (fun z => hk (e.trans z))]
    · rw [valV_neg e, valV_neg e, ih]
theorem valV_put (kvs : List (κ × V)) (k j : κ) (y : V) : valV (putK kvs k y) j = if j = k then some y else valV kvs j := by
  unfold putK
  by_cases a : (kvs.any fun kv => decide (kv.1 = k)) = true
  · rw [if_pos a, valV_map]
    rw [valV_any] at a
    by_cases e : j = k
    · obtain ⟨x, hx⟩ := Option.isSome_iff_exists.mp a
      rw [if_pos e, e, hx, Option.map_some, if_pos rfl]
    · rw [if_neg e]
      cases valV kvs j with
      | none => rfl
      | some x => rw [Option.map_some, if_neg e]
  · rw [if_neg a]
    refine valV_snoc k j y kvs ?_
    rw [valV_any] at a
    cases q : valV kvs k with
    | none => rfl
    | some x => rw [q] at a; exact (a rfl).elim
theorem length_putK (kvs : List (κ × V)) (k : κ) (v : V) : (putK kvs k v).length ≤ kvs.length + 1 := by
  unfold putK
  split
  · rw [List.length_map]; omega
  · rw [List.length_append, List.length_cons, List.length_nil]; omega
theorem RelO.isSome_eq {o : Option V} {u : Option Value} (r : RelO o u) : o.isSome = u.isSome := by
  cases o with
  | none => cases u with
    | none => rfl
    | some _ => exact (show False from r).elim
  | some _ => cases u with
    | none => exact (show False from r).elim
    | some _ => rfl
theorem RelO.getD {o : Option V} {u : Option Value} {d : V} {d' : Value} (r : RelO o u) (rd : RelV d d') : RelV (o.getD d) (u.getD d') := by
  cases o with
  | none => cases u with
    | none => exact rd
    | some _ => exact (show False from r).elim
  | some _ => cases u with
    | none => exact (show False from r).elim
    | some _ => exact r
theorem KV.val {kvs : List (κ × V)} {vs : List (κ × Value)} (r : KV kvs vs) (k : κ) : RelO (valV kvs k) (valueAt vs k) := by
  unfold KV at r
  induction r with
  | nil => exact True.intro
  | @cons p q ps qs h t ih =>
    obtain ⟨h1, h2⟩ := h
    by_cases e : p.1 = k
    · have e' : q.1 = k := h1.symm.trans e
      have b : valueAt (q :: qs) k = some q.2 := by simp [valueAt, List.find?_cons, e']
      rw [valV_pos e, b]; exact h2
    · have e' : ¬ q.1 = k := fun z => e (h1.trans z)
      have b : valueAt (q :: qs) k = valueAt qs k := by simp [valueAt, List.find?_cons, e']
      rw [valV_neg e, b]; exact ih
theorem KV.any {kvs : List (κ × V)} {vs : List (κ × Value)} (r : KV kvs vs) (k : κ) : (kvs.any fun kv => decide (kv.1 = k)) = vs.any fun kv => decide (kv.1 = k) := by
  unfold KV at r
  induction r with
  | nil => rfl
  | cons h t ih => rw [List.any_cons, List.any_cons, ih, h.1]
theorem KV.repl {kvs : List (κ × V)} {vs : List (κ × Value)} (r : KV kvs vs) (k : κ) {y : V} {u : Value} (ry : RelV y u) :
    KV (kvs.map fun kv => if kv.1 = k then (kv.1, y) else kv) (vs.map fun kv => if kv.1 = k then (kv.1, u) else kv) := by
  unfold KV at r ⊢
  induction r with
  | nil => exact .nil
  | @cons p q ps qs h t ih =>
    rw [List.map_cons, List.map_cons]
    refine .cons ?_ ih
    obtain ⟨h1, h2⟩ := h
    by_cases e : p.1 = k
    · rw [if_pos e, if_pos (h1.symm.trans e)]; exact ⟨h1, ry⟩
    · rw [if_neg e, if_neg (fun z => e (h1.trans z))]; exact ⟨h1, h2⟩
theorem KV.put {kvs : List (κ × V)} {vs : List (κ × Value)} (r : KV kvs vs) (k : κ) {y : V} {u : Value} (ry : RelV y u) : KV (putK kvs k y) (stored vs k u) := by
  unfold putK stored
  rw [r.any k]
  by_cases e : (vs.any fun kv => decide (kv.1 = k)) = true
  · rw [if_pos e, if_pos e]; exact r.repl k ry
  · rw [if_neg e, if_neg e]; exact Paired.snoc r ⟨rfl, ry⟩
theorem KV.length {kvs : List (κ × V)} {vs : List (κ × Value)} (r : KV kvs vs) : kvs.length = vs.length := Paired.length r
end
theorem kV_is {P : Program} {w : World} {k : Key} {u : Value} (r : RelV (kV k) u) : (mixKind P w).is k u = true := by
  cases k with
  | inl i => obtain ⟨t, e⟩ := (show ∃ t, u = Value.int i t from r); subst e; exact mixKind_int P w i t
  | inr x => obtain ⟨t, e⟩ := (show ∃ t, u = Value.str x t from r); subst e; exact mixKind_str P w x t
theorem items_are {P : Program} {w : World} : ∀ {ks : List Key} {us : List Value}, Vals (ks.map kV) us → ItemsAre (mixKind P w) ks us
  | [], _, r => by rw [List.map_nil] at r; cases r; exact .nil
  | k :: ks, _, r => by
    rw [List.map_cons] at r
    cases r with
    | cons h t => exact .cons (kV_is h) (items_are t)
abbrev KT (H : Hp) : List (List Key × V) → List (List Key × Addr × Value) → Prop := Paired fun p q => p.1 = q.1 ∧ H q.2.1 = some (.tup (p.1.map kV)) ∧ RelV p.2 q.2.2
theorem KT.val {H : Hp} {kvs : List (List Key × V)} {xs : List (List Key × Addr × Value)} (r : KT H kvs xs) (k : List Key) : RelO (valV kvs k) ((atKey xs k).map (·.2)) := by
  induction r with
  | nil => exact True.intro
  | @cons p q ps qs h t ih =>
    obtain ⟨h1, _, h2⟩ := h
    by_cases e : p.1 = k
    · have e' : q.1 = k := h1.symm.trans e
      have b : atKey (q :: qs) k = some q.2 := by simp [atKey, List.find?_cons, e']
      rw [valV_pos e, b]; exact h2
    · have e' : ¬ q.1 = k := fun z => e (h1.trans z)
      have b : atKey (q :: qs) k = atKey qs k := by simp [atKey, List.find?_cons, e']
      rw [valV_neg e, b]; exact ih
theorem KT.repl {H : Hp} {kvs : List (List Key × V)} {xs : List (List Key × Addr × Value)} (r : KT H kvs xs) (k : List Key) {y : V} {u : Value} (ry : RelV y u) :
    KT H (kvs.map fun kv => if kv.1 = k then (kv.1, y) else kv) (xs.map (putAt k u)) := by
  induction r with
  | nil => exact .nil
  | @cons p q ps qs h t ih =>
    rw [List.map_cons, List.map_cons]
    refine .cons ?_ ih
    obtain ⟨h1, h2, h3⟩ := h
    unfold putAt
    by_cases e : p.1 = k
    · rw [if_pos e, if_pos (h1.symm.trans e)]; exact ⟨h1, h2, ry⟩
    · rw [if_neg e, if_neg (fun z => e (h1.trans z))]; exact ⟨h1, h2, h3⟩
theorem KT.put {H : Hp} {kvs : List (List Key × V)} {xs : List (List Key × Addr × Value)} (r : KT H kvs xs) (k : List Key) {b : Addr} {y : V} {u : Value} (hb : H b = some (.tup (k.map kV))) (ry : RelV y u) :
    KT H (putK kvs k y) (storedH xs k b u) := by
  have e : (kvs.any fun kv => decide (kv.1 = k)) = (atKey xs k).isSome := by
    rw [valV_any, (r.val k).isSome_eq, Option.isSome_map]
  unfold putK storedH
  rw [e]
  by_cases q : (atKey xs k).isSome = true
  · rw [if_pos q, if_pos q]; exact r.repl k ry
  · rw [if_neg q, if_neg q]; exact Paired.snoc r ⟨rfl, hb, ry⟩
theorem KT.keeps {H H' : Hp} {kvs : List (List Key × V)} {xs : List (List Key × Addr × Value)} (r : KT H kvs xs) (ht : ∀ b ys, H b = some (.tup ys) → H' b = some (.tup ys)) : KT H' kvs xs :=
  Paired.mapP r fun _ _ z => ⟨z.1, ht _ _ z.2.1, z.2.2⟩
section
variable {P : Program} {w : World} {H : Hp} {h : Heap} {a : Addr}
theorem rd_of {u : HO} (ok : HOk P w H h) (e : Rd H a u) : ObjOk P w H h a u := e.ok ok
theorem dk_rd {kvs : List (Key × V)} (ok : HOk P w H h) (e : Rd H a (.dK kvs)) : kvs.length ≤ sizeLine ∧ (a == sysModules) = false ∧ ∃ vs, KV kvs vs ∧ h.DictOf (mixKind P w) a vs :=
  show ObjOk P w H h a (.dK kvs) from rd_of ok e
theorem dk_of {kvs : List (Key × V)} (ok : HOk P w H h) (e : H a = some (.dK kvs)) : kvs.length ≤ sizeLine ∧ (a == sysModules) = false ∧ ∃ vs, KV kvs vs ∧ h.DictOf (mixKind P w) a vs := dk_rd ok (.inl e)
theorem key_of {ks : List Key} (ok : HOk P w H h) (e : H a = some (.tup (ks.map kV))) : (tupleKind (mixKind P w)).is h ks a := by
  obtain ⟨_, its, r, o, h1, h2, n, h3⟩ := (show ObjOk P w H h a (.tup (ks.map kV)) from ok a _ e)
  exact ⟨o, its.toArray, n, h1, h2, h3, by simpa using items_are r⟩
theorem dt_rd {kvs : List (List Key × V)} (ok : HOk P w H h) (e : Rd H a (.dT kvs)) : kvs.length ≤ sizeLine ∧ (a == sysModules) = false ∧
    ∃ xs, KT H kvs xs ∧ h.DictOfH (tupleKind (mixKind P w)) a xs := by
  obtain ⟨z, y, xs, r, o, es, ep, h1, h2, h3, h4, h5⟩ := (show ObjOk P w H h a (.dT kvs) from rd_of ok e)
  refine ⟨z, y, xs, r, o, es, ep, h1, h2, h3, h4, fun x hx => ?_, h5⟩
  have all : ∀ {l : List (List Key × V)} {m : List (List Key × Addr × Value)}, KT H l m → ∀ x ∈ m, (tupleKind (mixKind P w)).is h x.1 x.2.1 := by
    intro l m q
    induction q with
    | nil => intro x hx; exact nomatch hx
    | @cons p q ps qs hq t ih =>
      intro x hx
      rcases List.mem_cons.mp hx with e | hx
      · subst e
        exact key_of ok (by rw [← hq.1]; exact hq.2.1)
      · exact ih x hx
  exact all r x hx
theorem dt_of {kvs : List (List Key × V)} (ok : HOk P w H h) (e : H a = some (.dT kvs)) : kvs.length ≤ sizeLine ∧ (a == sysModules) = false ∧
    ∃ xs, KT H kvs xs ∧ h.DictOfH (tupleKind (mixKind P w)) a xs := dt_rd ok (.inl e)
end
def DGet (H : Hp) (a : Addr) (y : V) (r : Option V) : Prop :=
  (∃ kvs k, Rd H a (.dK kvs) ∧ y = kV k ∧ r = valV kvs k) ∨ ∃ kvs k b, Rd H a (.dT kvs) ∧ y = .ref b ∧ H b = some (.tup (k.map kV)) ∧ r = valV kvs k
def DPut (H : Hp) (a : Addr) (y v : V) (H' : Hp) : Prop :=
  (∃ kvs k, H a = some (.dK kvs) ∧ y = kV k ∧ kvs.length < sizeLine ∧ H' = upd H a (.dK (putK kvs k v))) ∨
  ∃ kvs k b, H a = some (.dT kvs) ∧ y = .ref b ∧ H b = some (.tup (k.map kV)) ∧ kvs.length < sizeLine ∧ H' = upd H a (.dT (putK kvs k v))
theorem DGet.k {H : Hp} {a : Addr} {kvs : List (Key × V)} {k : Key} (e : H a = some (.dK kvs)) : DGet H a (kV k) (valV kvs k) := .inl ⟨kvs, k, .inl e, rfl, rfl⟩
theorem DPut.k {H : Hp} {a : Addr} {kvs : List (Key × V)} {k : Key} {v : V} (e : H a = some (.dK kvs)) (hl : kvs.length < sizeLine) : DPut H a (kV k) v (upd H a (.dK (putK kvs k v))) := .inl ⟨kvs, k, e, rfl, hl, rfl⟩
section
variable {X : Cx} {pins : List (Addr × Obj)} {σ : St} {H : Hp} {s : Shared} {a : Addr} {y v : V} {u r : Value} {o : Option V} {A : Around} {E : Value → Shared → Prop}
theorem Inv.big (I : Inv X pins σ H s) : sysModules < s.heap.objs.size := by
  have h : mainGlobals < s.heap.objs.size := (I.mod.glob.keeps I.bk).lt
  exact Nat.lt_trans (by decide) h
theorem d_getItem {Q : Value → Shared → Prop} (hu : A.units + 1 < cLine) (I : Inv X pins σ H s) (g : DGet H a y (some v)) (ry : RelV y u) (h : ∀ w' s', Inv X pins σ H s' → RelV v w' → Q w' s') :
    wpAny (model X.prog X.w) A (getItem (.ref a) u) Q E s := by
  rcases g with ⟨kvs, k, e, ey, l⟩ | ⟨kvs, k, b, e, ey, eb, l⟩
  · subst ey
    obtain ⟨z, hd, vs, rel, dd⟩ := dk_rd I.hok e
    obtain ⟨w', hw, rw'⟩ := RelO.some_of (v := v) (o := valueAt vs k) (by rw [l]; exact rel.val k)
    exact wpAny_getItem_of (kV_is ry) dd.mapOf hw (h w' _ (I.tok _) rw')
  · subst ey
    cases (show u = Value.ref b from ry)
    obtain ⟨z, hd, xs, rel, dd⟩ := dt_rd I.hok e
    obtain ⟨w', hw, rw'⟩ := RelO.some_of (v := v) (o := (atKey xs k).map (·.2)) (by rw [l]; exact rel.val k)
    obtain ⟨p, hp, hp2⟩ := Option.map_eq_some_iff.mp hw
    refine wpAny_getItem_heap (tupleKind_room_in1 hu) (key_of I.hok eb) dd hp ?_
    rw [hp2]
    exact h w' _ (I.tok _) rw'
theorem d_write {h' : Heap} {t' : Nat} {ob : HO} (I : Inv X pins σ H s) (mu : Mut (H a)) (hs : Heap.SameBut a s.heap h') (he : ∃ q, h'.get? a = some q) (new : ObjOk X.prog X.w (upd H a ob) h' a ob) :
    Inv X pins σ (upd H a ob) { s with heap := h', toks := t' } :=
  I.write (x := a) (e := a) mu (.inl rfl) (fun b q hb z => (hs.2 b hb).trans z) he new
theorem dk_new {P : Program} {w : World} {H' : Hp} {h' : Heap} {kvs : List (Key × V)} {vs : List (Key × Value)} (z : kvs.length ≤ sizeLine) (hd : (a == sysModules) = false) (rel : KV kvs vs) (dd : h'.DictOf (mixKind P w) a vs) :
    ObjOk P w H' h' a (.dK kvs) := ⟨z, hd, vs, rel, dd⟩
theorem d_setItem {H' : Hp} {Q : Unit → Shared → Prop} (hu : A.units + 1 < cLine) (I : Inv X pins σ H s) (g : DPut H a y v H') (ry : RelV y u) (rv : RelV v r) (h : ∀ s', Inv X pins σ H' s' → Q () s') :
    wpAny (model X.prog X.w) A (setItem (.ref a) u r) Q E s := by
  rcases g with ⟨kvs, k, e, ey, l, eH⟩ | ⟨kvs, k, b, e, ey, eb, l, eH⟩
  · subst ey eH
    obtain ⟨z, hd, vs, rel, dd⟩ := dk_of I.hok e
    have hz : vs.length ≤ sizeLine := by rw [← rel.length]; exact z
    have hl : (putK kvs k v).length ≤ sizeLine := by have := length_putK kvs k v; omega
    refine wpAny_setItem_pairs (hsz := hz) (kV_is ry) dd fun h' dd' hs => h _ ?_
    have he : ∃ q, h'.get? a = some q := let ⟨q, _, _, hq, _⟩ := dd'; ⟨q, hq⟩
    exact d_write I (by rw [e]; exact True.intro) hs he (dk_new hl hd (rel.put k rv) dd')
  · subst ey eH
    cases (show u = Value.ref b from ry)
    obtain ⟨z, hd, xs, rel, dd⟩ := dt_of I.hok e
    have hz : xs.length ≤ sizeLine := by rw [← Paired.length rel]; exact z
    have hl : (putK kvs k v).length ≤ sizeLine := by have := length_putK kvs k v; omega
    refine wpAny_setItem_heap (hsz := hz) (tupleKind_room_in1 hu) (key_of I.hok eb) dd fun h' dd' hs => h _ ?_
    obtain ⟨q, es, ep, hq, h2, h3, h4, _, h5⟩ := dd'
    refine d_write I (by rw [e]; exact True.intro) hs ⟨q, hq⟩ ⟨hl, hd, _, (rel.put k eb rv).keeps fun c ys ec => ?_, q, es, ep, hq, h2, h3, h4, h5⟩
    rw [upd_ne (ne_of ec e (fun z => nomatch z))]
    exact ec
end
section
variable {X : Cx} {pins : List (Addr × Obj)} {σ : St} {H : Hp} {s : Shared} {a : Addr} {kvs : List (Key × V)} {k : Key} {u : Value} {A : Around} {E : Value → Shared → Prop}
end
def NoSl (i : Expr) : Prop := ∀ ov iv, subscripted i false ov iv = operate [ov, iv] (getItem ov iv)
theorem subD_of {prog : Program} {w : World} {A : Around} {E : Value → Shared → Prop} {s : Shared} {env : Env} {value slice : Expr} {pos : Pos} {T id : String} {Q : Value → Shared → Prop}
    (hl : typeLookup (.type T) "__getitem__" = pure (some (.builtin id))) (hs : NoSl slice)
    (h : wpAny (model prog w) A (eval value env) (fun o s₁ => wpAny (model prog w) A (eval slice env) (fun i s₂ => s₂.TypeIs o T ∧ wpAny (model prog w) A (getItem o i) Q E s₂) E s₁) E s) :
    wpAny (model prog w) A (eval (.Subscript value slice pos) env) Q E s := by
  refine Subscript_ (wpAny_mono h (fun o s₁ h₁ => wpAny_mono h₁ (fun i s₂ h₂ => ?_) fun _ _ x => x) fun _ _ x => x)
  obtain ⟨hT, h₂⟩ := h₂
  unfold subscriptTail
  refine wpAny_bind ?_
  rw [getitemInPython_of_ne hT.not_modules]
  refine wpAny_bind (wpAny_specialOf hT hl ?_)
  have fin : wpAny (model prog w) A (subscripted slice false o i) (fun r s₃ => wpAny (model prog w) A (letTemporaryGo value o r >>= fun _ => pure r) Q E s₃) E s₂ := by
    rw [hs o i]
    exact wpAny_operating (wpAny_mono h₂ (fun r s₃ h₃ => wpAny_bind (wpAny_letTemporaryGo (wpAny_pure h₃))) fun _ _ x => x)
  first
    | exact wpAny_pure (wpAny_bind fin)
    | exact wpAny_bind (wpAny_pure (wpAny_bind fin))
    | exact wpAny_bind fin
theorem dict_typeIs {X : Cx} {pins : List (Addr × Obj)} {σ : St} {H : Hp} {s : Shared} {a : Addr} {y : V} {o : Option V} (I : Inv X pins σ H s) (g : DGet H a y o) : s.TypeIs (.ref a) "dict" := by
  rcases g with ⟨kvs, k, e, _, _⟩ | ⟨kvs, k, b, e, _, _, _⟩
  · obtain ⟨_, _, vs, _, dd⟩ := dk_rd I.hok e
    exact dd.typeIs
  · obtain ⟨_, _, xs, _, dd⟩ := dt_rd I.hok e
    exact dd.typeIs
def tDGet (td ty : TE) : TE := fun σ H Q => td σ H fun x H1 => ty σ H1 fun y H2 => ∃ a v, x = .ref a ∧ DGet H2 a y (some v) ∧ Q v H2
def sDPut (td ty tv : TE) : TS := fun D σ H => tv σ H fun v H1 => td σ H1 fun x H2 => ty σ H2 fun y H3 => ∃ a H4, x = .ref a ∧ DPut H3 a y v H4 ∧ D.nx σ H4
section
variable {X : Cx} {o i e value : Expr} {pos pos' tpos : Pos} {td ty tv : TE}
theorem pe_dget (hu : X.A.units + 1 < cLine) (ho : PE X o td) (hi : PE X i ty) (hs : NoSl i) : PE X (.Subscript o i pos) (tDGet td ty) := by
  intro pins s σ H Q I h
  refine subD_of PySem.F.slot_dict_getitem.lookup hs (thn (ho pins s σ H _ I h) fun u s1 ⟨x, H1, I1, rx, q1⟩ => thn (hi pins s1 σ H1 _ I1 q1) fun iv s2 ⟨y, H2, I2, ry, a, v, ex, g, q2⟩ => ?_)
  subst ex
  obtain rfl : u = Value.ref a := rx
  exact ⟨dict_typeIs I2 g, d_getItem hu I2 g ry fun w' s3 I3 rw' => ⟨v, H2, I3, rw', q2⟩⟩
theorem ps_dput (hu : X.A.units + 1 < cLine) (ho : PE X o td) (hi : PE X i ty) (hv : PE X value tv) (hs : swapsWith value (some (.Subscript o i pos')) pos.line X.env = pure false) :
    PS X (.Assign [.Subscript o i pos'] value pos) (sDPut td ty tv) := by
  intro pins s σ H D I h
  refine wpAny_Assign_Subscript (thn (hv pins s σ H _ I h) fun r s1 ⟨v, H1, I1, rv, q1⟩ => thn (ho pins s1 σ H1 _ I1 q1) fun u s2 ⟨x, H2, I2, rx, q2⟩ => thn (hi pins s2 σ H2 _ I2 q2) fun iv s3 ⟨y, H3, I3, ry, a, H4, ex, g, q3⟩ => ?_) hs
  subst ex
  obtain rfl : u = Value.ref a := rx
  exact d_setItem hu I3 g ry rv fun s4 I4 => ⟨σ, H4, I4, q3⟩
end
theorem dk_empty {P : Program} {w : World} {H : Hp} (h : Heap) (hb : sysModules < h.objs.size) : ObjOk P w H (h.push { cls := .type "dict", data := .dict #[] }) h.objs.size (.dK []) :=
  ⟨Nat.zero_le _, beq_eq_false_iff_ne.mpr (Ne.symm (Nat.ne_of_lt hb)), [], .nil, Heap.DictOf.new h⟩
def tDNewK : TE := fun _ H Q => ∀ p, H p = none → Q (.ref p) (upd H p (.dK []))
section
variable {X : Cx} {pos : Pos}
theorem pe_dnewK : PE X (.Dict [] [] pos) tDNewK := fun pins s σ H Q I h =>
  wpAny_Dict_empty ⟨.ref s.heap.objs.size, _, I.laid (a := s.heap.objs.size) (o := .dK []) (t' := s.toks) (fun _ _ q => Heap.get?_push_of_some _ q) (Nat.le_refl _) (dk_empty s.heap I.big), rfl, h _ (I.hok.fresh (Nat.le_refl _))⟩
end
def tPairs : List (TE × TE) → St → Hp → (List (V × V) → Hp → Prop) → Prop
  | [], _, H, Q => Q [] H
  | (tk, tv) :: r, σ, H, Q => tk σ H fun x H1 => tv σ H1 fun y H2 => tPairs r σ H2 fun ps H3 => Q ((x, y) :: ps) H3
abbrev VV : List (V × V) → List (Value × Value) → Prop := Paired fun p q => RelV p.1 q.1 ∧ RelV p.2 q.2
def PPs (X : Cx) (pos : Pos) (keys : List (Option Expr)) (values : List Expr) (trs : List (TE × TE)) : Prop :=
  ∀ (pins : List (Addr × Obj)) (s : Shared) (σ : St) (H : Hp) (Q : List (V × V) → Hp → Prop), Inv X pins σ H s → tPairs trs σ H Q →
    wpAny (model X.prog X.w) X.A (evalPairs (pairTrees keys values X.env pos)) (fun vs s' => ∃ ps H', Inv X pins σ H' s' ∧ VV ps vs ∧ Q ps H') X.xe s
theorem pps_nil {X : Cx} {pos : Pos} : PPs X pos [] [] [] := fun pins s σ H Q I h => pairTrees_nil_walk ⟨[], H, I, .nil, h⟩
theorem pps_cons {X : Cx} {pos : Pos} {k v : Expr} {ks : List (Option Expr)} {vs : List Expr} {tk tv : TE} {trs : List (TE × TE)} (hk : PE X k tk) (hv : PE X v tv) (hr : PPs X pos ks vs trs) :
    PPs X pos (some k :: ks) (v :: vs) ((tk, tv) :: trs) := fun pins s σ H Q I h =>
  pairTrees_cons_walk (thn (hk pins s σ H _ I h) fun u s1 ⟨x, H1, I1, rx, q1⟩ => thn (hv pins s1 σ H1 _ I1 q1) fun w2 s2 ⟨y, H2, I2, ry, q2⟩ =>
    thn (hr pins s2 σ H2 _ I2 q2) fun ws s3 ⟨ps, H3, I3, rel, q3⟩ => ⟨(x, y) :: ps, H3, I3, .cons ⟨rx, ry⟩ rel, q3⟩)
def mergeK (kvs more : List (Key × V)) : List (Key × V) := more.foldl (fun acc kv => putK acc kv.1 kv.2) kvs
theorem KV.merge : ∀ {more : List (Key × V)} {rs : List (Key × Value)} {kvs : List (Key × V)} {vs : List (Key × Value)}, KV more rs → KV kvs vs → KV (mergeK kvs more) (merged vs rs) := by
  intro more rs kvs vs r
  unfold KV at r
  induction r generalizing kvs vs with
  | nil => intro q; exact q
  | @cons p q ps qs h t ih =>
    intro r0
    have e : KV (putK kvs p.1 p.2) (stored vs q.1 q.2) := by
      have := r0.put p.1 h.2
      rw [← h.1]; exact this
    exact ih e
theorem length_mergeK : ∀ (more kvs : List (Key × V)), (mergeK kvs more).length ≤ kvs.length + more.length
  | [], kvs => by show kvs.length ≤ kvs.length + 0; omega
  | p :: r, kvs => by
    have h1 := length_mergeK r (putK kvs p.1 p.2)
    have h2 := length_putK kvs p.1 p.2
    show (mergeK (putK kvs p.1 p.2) r).length ≤ _
    rw [List.length_cons]; omega
theorem carries_of {P : Program} {w : World} : ∀ {kvs : List (Key × V)} {ws : List (Value × Value)}, VV (kvs.map fun kv => (kV kv.1, kv.2)) ws → ∃ rs, Carries (mixKind P w) ws rs ∧ KV kvs rs
  | [], _, r => by rw [List.map_nil] at r; cases r; exact ⟨[], True.intro, .nil⟩
  | p :: kvs, _, r => by
    rw [List.map_cons] at r
    cases r with
    | @cons a b as bs h t =>
      obtain ⟨rs, c, q⟩ := carries_of (P := P) (w := w) t
      obtain ⟨b1, b2⟩ := b
      exact ⟨(p.1, b2) :: rs, ⟨kV_is h.1, rfl, c⟩, .cons ⟨rfl, h.2⟩ q⟩
def tDisp (trs : List (TE × TE)) : TE := fun σ H Q => ∀ p, H p = none → tPairs trs σ (upd H p (.dK [])) fun ps H2 => H2 p = some (.dK []) ∧ ∃ kvs : List (Key × V), ps = kvs.map (fun kv => (kV kv.1, kv.2)) ∧ kvs.length ≤ 15 ∧ Q (.ref p) (upd H2 p (.dK (mergeK [] kvs)))
theorem pe_disp {X : Cx} {pos : Pos} {keys : List (Option Expr)} {values : List Expr} {trs : List (TE × TE)} (h : PPs X pos keys values trs) (hall : keys.all (·.isSome) = true) (hl : keys.length = values.length) (h0 : keys ≠ [])
    (h15 : keys.length ≤ 15) : PE X (.Dict keys values pos) (tDisp trs) := by
  intro pins s σ H Q I q
  have hn := I.hok.fresh (Nat.le_refl s.heap.objs.size)
  have I1 := I.laid (a := s.heap.objs.size) (o := .dK []) (h' := s.heap.push { cls := .type "dict", data := .dict #[] }) (t' := s.toks) (fun _ _ q => Heap.get?_push_of_some _ q) (Nat.le_refl _) (dk_empty s.heap I.big)
  refine wpAny_Dict_walk (knd := mixKind X.prog X.w) hall hl h0 h15 (thn (h pins _ σ _ _ I1 (q _ hn)) fun ws s2 ⟨ps, H2, I2, rel, e, kvs, ep, lk, q2⟩ => ?_)
  subst ep
  obtain ⟨rs, c, rk⟩ := carries_of (P := X.prog) (w := X.w) rel
  obtain ⟨z, hd, vs0, r0, dd⟩ := dk_of I2.hok e
  cases r0
  refine ⟨rs, c, dd, fun h' dd' hs => ⟨.ref s.heap.objs.size, _, ?_, rfl, q2⟩⟩
  have hz : (mergeK [] kvs).length ≤ sizeLine := by
    have h1 := length_mergeK kvs []
    rw [List.length_nil] at h1
    rw [sizeLine_eq]; omega
  have he : ∃ q, h'.get? s.heap.objs.size = some q := let ⟨q, _, _, hq, _⟩ := dd'; ⟨q, hq⟩
  exact d_write I2 (by rw [e]; exact True.intro) hs he (dk_new hz hd (rk.merge .nil) dd')
structure M1 (X : Cx) (o : Expr) (m : Str) (apos : Pos) (e : Expr) (cpos : Pos) : Prop where
  base : attributeBase o m X.env (eval o X.env) = eval o X.env
  few : ((backTo cpos (starEach [e] X.env)).all (fun x => !x.1) && (backToKw cpos (keywordEach [] X.env)).all (fun x => x.1.isSome)
    && decide (([e] : List Expr).length + ([] : List Keyword).length + (if ([] : List Keyword).isEmpty then 0 else 1) < 30)) = true
  line : (apos.endLine == cpos.line) = true
  trees : backTo cpos (starEach [e] X.env) = [(false, eval e X.env)]
structure M2 (X : Cx) (o : Expr) (m : Str) (apos : Pos) (e f : Expr) (cpos : Pos) : Prop where
  base : attributeBase o m X.env (eval o X.env) = eval o X.env
  few : ((backTo cpos (starEach [e, f] X.env)).all (fun x => !x.1) && (backToKw cpos (keywordEach [] X.env)).all (fun x => x.1.isSome)
    && decide (([e, f] : List Expr).length + ([] : List Keyword).length + (if ([] : List Keyword).isEmpty then 0 else 1) < 30)) = true
  line : (apos.endLine == cpos.line) = true
  trees : backTo cpos (starEach [e, f] X.env) = [(false, eval e X.env), (false, eval f X.env)]
def IsD (H : Hp) (a : Addr) : Prop := (∃ kvs, Rd H a (.dK kvs)) ∨ ∃ kvs, Rd H a (.dT kvs)
theorem isD_at {X : Cx} {pins : List (Addr × Obj)} {σ : St} {H : Hp} {s : Shared} {a : Addr} (I : Inv X pins σ H s) (d : IsD H a) :
    s.TypeIs (.ref a) "dict" ∧ (∀ b, Value.ref a = .ref b → ∃ ob, s.heap.get? b = some ob ∧ ob.dict = none) ∧ (a == sysModules) = false := by
  rcases d with ⟨kvs, e⟩ | ⟨kvs, e⟩
  · obtain ⟨_, hd, vs, _, dd⟩ := dk_rd I.hok e
    refine ⟨dd.typeIs, fun b q => ?_, hd⟩
    cases q
    obtain ⟨ob, _, _, h1, h2, _⟩ := dd
    exact ⟨ob, h1, h2.2.1⟩
  · obtain ⟨_, hd, xs, _, dd⟩ := dt_rd I.hok e
    refine ⟨dd.typeIs, fun b q => ?_, hd⟩
    cases q
    obtain ⟨ob, _, _, h1, h2, _⟩ := dd
    exact ⟨ob, h1, h2.2.1⟩
section
variable {X : Cx} {pins : List (Addr × Obj)} {σ : St} {H : Hp} {s : Shared} {a : Addr} {y d : V} {u r : Value} {o : Option V} {A : Around} {E : Value → Shared → Prop}
theorem d_get2 {Q : Value → Shared → Prop} (hu : A.units + 1 < cLine) (I : Inv X pins σ H s) (g : DGet H a y o) (ry : RelV y u) (rd : RelV d r) (h : ∀ w' s', Inv X pins σ H s' → RelV (o.getD d) w' → Q w' s') :
    wpAny (model X.prog X.w) A (call (.builtin "dict.get") [.ref a, u, r]) Q E s := by
  rcases g with ⟨kvs, k, e, ey, l⟩ | ⟨kvs, k, b, e, ey, eb, l⟩
  · subst ey
    obtain ⟨z, hd, vs, rel, dd⟩ := dk_rd I.hok e
    refine call_meetsIn PySem.F.slot_dict_get dd.typeIs PySem.F.entry_dict_get (PySem.F.args_dict_get_3 _ _ _) (meets_dict_get_default (mixKind X.prog X.w) a (kV_is ry) hd r) ⟨_, dd.mapOf, h _ _ (I.tok _) ?_⟩
    rw [l]
    exact (rel.val k).getD rd
  · subst ey
    cases (show u = Value.ref b from ry)
    obtain ⟨z, hd, xs, rel, dd⟩ := dt_rd I.hok e
    refine call_meetsIn PySem.F.slot_dict_get dd.typeIs PySem.F.entry_dict_get (PySem.F.args_dict_get_3 _ _ _) (meetsH_dict_get_default (tupleKind (mixKind X.prog X.w)) a b hd r) ⟨tupleKind_room_in1 hu, k, xs, key_of I.hok eb, dd, h _ _ (I.tok _) ?_⟩
    rw [l]
    exact (rel.val k).getD rd
end
def tDGet2 (td ty tx : TE) : TE := fun σ H Q => td σ H fun x H1 => ∃ a, x = .ref a ∧ IsD H1 a ∧ ty σ H1 fun y H2 => tx σ H2 fun z H3 => ∃ o, DGet H3 a y o ∧ Q (o.getD z) H3
section
variable {X : Cx} {o e f : Expr} {apos cpos : Pos} {td ty tx : TE}
theorem pe_dget2 (hu : X.A.units + 1 < cLine) (ho : PE X o td) (he : PE X e ty) (hf : PE X f tx) (m : M2 X o "get" apos e f cpos) : PE X (.Call (.Attribute o "get" apos) [e, f] [] cpos) (tDGet2 td ty tx) := by
  intro pins s σ H Q I h
  refine wpAny_Call_method m.base m.few m.line PySem.F.plainAttrs_dict PySem.F.slot_dict_get PySem.F.type_dict_get (thn (ho pins s σ H _ I h) fun u s1 ⟨x, H1, I1, rx, a, ex, d, q1⟩ => ?_)
  subst ex
  obtain rfl : u = Value.ref a := rx
  obtain ⟨t1, t2, _⟩ := isD_at I1 d
  refine ⟨t1, t2, ?_⟩
  rw [m.trees]
  refine Calls.callWith_builtin rfl (Calls.evalArgs_plain (Calls.spliced_cons (thn (he pins s1 σ H1 _ I1 q1) fun iv s2 ⟨y, H2, I2, ry, q2⟩ =>
    Calls.spliced_cons (thn (hf pins s2 σ H2 _ I2 q2) fun fv s3 ⟨z, H3, I3, rz, ov, g, q3⟩ => Calls.spliced_nil ?_))))
  exact d_get2 hu I3 g ry rz fun w' s4 I4 rw' => ⟨_, H3, I4, rw', q3⟩
end
section
variable {X : Cx} {pins : List (Addr × Obj)} {σ : St} {H : Hp} {s : Shared} {a : Addr} {kvs : List (Key × V)} {A : Around} {E : Value → Shared → Prop}
end
section
variable {X : Cx} {pins : List (Addr × Obj)} {σ : St} {H : Hp} {s : Shared} {a : Addr} {y : V} {u : Value} {A : Around} {E : Value → Shared → Prop}
end
end L2
namespace Att
open PySem PySem.W PySem.Calls PyProof.Rows
theorem ints_of_wellAll {P : Params} {h : Heap} : ∀ (ns : List Int) (vs : List Value), WellAll P h vs (ns.map WData.int) → IntsAre vs ns := by
  intro ns
  induction ns with
  | nil =>
    intro vs w
    rw [List.map_nil] at w
    cases w
    exact .nil
  | cons n ns ih =>
    intro vs w
    rw [List.map_cons] at w
    cases w with
    | cons a b =>
      cases a
      exact .cons _ _ (ih _ b)
theorem script_of {l : OpenLaw} {n : Nat} (hn : l.most = some n) {P : Params} {h : Heap} {args : List WData} {vals : List Value}
    (hpre : l.row.toRowW.claim.pre args = true) (hwl : WellAll P h vals args) :
    ∃ a vs ns, vals = [Value.ref a] ∧ args = [WData.list (ns.map WData.int)] ∧ h.get? a = some { cls := .type "list", data := .seq vs.toArray } ∧ IntsAre vs ns ∧ ns.length ≤ n := by
  have hsh : WShape.hasAll [] args [.list .int] = true := (pre_splitW hpre).1
  have hc : l.pre.holds [] { args := args } = true := (pre_splitW hpre).2
  obtain ⟨d, r, rfl, h1, h2⟩ := hasAllW_cons hsh
  obtain rfl := hasAllW_nil h2
  obtain ⟨xs, rfl, h3⟩ := hasW_list h1
  obtain ⟨ns, rfl⟩ := items_int h3
  have hlen : ns.length ≤ n := by
    unfold OpenLaw.pre at hc
    have h4 : (WTm.not (.lt (.lit (.int (n : Int))) (.len (.arg 0)))).holds [] { args := [.list (ns.map .int)] } = true := by
      have h4 := (holds_andW hc).1
      rw [hn] at h4
      exact h4
    have h5 := condW_of h4 (w_not (w_lt w_lit (w_len_list (w_arg rfl))))
    rw [List.length_map] at h5
    refine Nat.le_of_not_lt fun q => ?_
    have q' : (n : Int) < ((ns.length : Nat) : Int) := by omega
    first
      | (rw [decide_eq_true q'] at h5; exact absurd h5 (by decide))
      | (simp at h5; omega)
  cases hwl with
  | cons w1 w2 =>
    cases w2
    cases w1 with
    | list ho hall => exact ⟨_, _, ns, rfl, rfl, ho, ints_of_wellAll ns _ hall, hlen⟩
theorem post_true (l : OpenLaw) (args : List WData) : l.row.toRowW.claim.post args (.bool true) args = true :=
  postW_of (r := l.row.toRowW) (X := (true == true))
    (show WShape.has [] (.bool true) .bool = true by first | rfl | decide | simp [WShape.has, WShape.arms, WShape.armsAll])
    (show (WTm.eq .res (.lit (.bool true))).value [] { args := args, res := some (.bool true), after := args } = some (.bool (true == true)) from w_eq_bool (w_res rfl) w_lit) rfl
theorem attach_call {l : OpenLaw} {n : Nat} {q : Program} {loose : List Str} {XP : (Str → Option Value) → Heap → Prop} {YP : World → Heap → Prop} {d : DefRec}
    (hn : l.most = some n) (hdf : d.params.defaults = [])
    (call : ∀ (w : World) (s₀ s₁ : Shared) (mg mb : Str → Option Value) (fa : Addr) (o : Obj) (pm cd doc : Value) (a : Addr) (vs : List Value) (ns : List Int),
      Ground q loose [] XP w s₀ mg mb s₁.heap → YP w s₁.heap →
      s₁.heap.get? fa = some o → o.data = .func (docDef d.name d.params d.body d.scope pm cd doc) → s₁.heap.CodeRec cd d.name → mg d.name = some (.ref fa) →
      s₁.heap.get? a = some { cls := .type "list", data := .seq vs.toArray } → IntsAre vs ns → ns.length ≤ n → s₁.gens = #[] →
      codeAny (model l.prog w) callerA (.call (.ref fa) ⟨[.ref a], []⟩) (fun r s' => r = .ok (.ret (.bool true)) ∧ OldK s₁.heap s'.heap ∧ s'.os = s₁.os ∧ AllBare s'.gens) s₁) :
    WalkO q loose XP YP l.row.toRowW d [] (fun f vs => PySem.call f vs) := by
  intro w s₀ s₁ mg mb G Y fa o pm cd doc dV kV ho hd hcd hD hmg hg args vals as hpre hlay hrd hwl hlo
  obtain rfl : dV = .none := Dflts.none hD hdf
  obtain rfl : kV = .none := Dflts.noKw hD
  obtain ⟨a, vs, ns, rfl, rfl, hobj, hints, hlen⟩ := script_of hn hpre hwl
  refine enter_call (codeAny_mono (call w s₀ s₁ mg mb fa o pm cd doc a vs ns G Y ho (fd_plain hd) hcd hmg hobj hints hlen hg) fun r s' hq => ?_)
  obtain ⟨rfl, h2, h3, h4⟩ := hq
  exact ⟨.inl ⟨.bool true, .bool true, [], rfl, fun _ => rfl, .bool true, post_true l _, fun _ => ⟨List.Pairwise.nil, fun _ hm => (nomatch hm)⟩⟩, h2, h3, h4⟩
section
variable {prog : Program} {w : World} {A : Around} {E : Value → Shared → Prop} {s : Shared} {K : Frag}
end
end Att
namespace L2
open PySem PySem.Spec PyProof.Rows
theorem vals_ints : ∀ {vs : List Value} {ns : List Int}, IntsAre vs ns → Vals (ns.map V.int) vs
  | _, _, .nil => .nil
  | _, _, .cons n t h => .cons ⟨t, rfl⟩ (vals_ints h)
def Only (H : Hp) : Prop := ∀ b, H b = none ∨ ∃ o xs, H b = some (.frz o (.lst xs))
theorem law_call {P : Program} {w : World} {K : PySem.W.Frag} {mg mb : Str → Option Value} {CX : CXT} {k : Nat} {fa a : Addr} {fd : FuncData} {x : Str} {sp : Sp} {s₁ : Shared} {vs : List Value} {ns : List Int}
    (KX : K.In s₁.heap) (hns : s₁.heap.Ns mainGlobals mg) (hb : s₁.heap.Ns builtinsNs mb) (hbb : ∀ x : Str, x ≠ "__name__" → mb x = bootBuiltins x) (hlim : s₁.heap.NoLimit) (hg : s₁.gens = #[])
    (ha : s₁.heap.get? a = some { cls := .type "list", data := .seq vs.toArray }) (hi : IntsAre vs ns) (hl : ns.length ≤ sizeLine) (hr : Room k callerA)
    (F : ∀ base : Heap, K.In base → base.Ns mainGlobals mg → FnOk P w K mg base CX k fa fd [x] sp) (hbind : ∀ (s : Shared) (u : Value), BindsTo s fd ⟨[u], []⟩ [(x, u)])
    (hsp : ∀ H : Hp, Only H → SqL K H a (ns.map V.int) → sp [.ref a] H (fun v _ => v = .bl true) fun _ _ _ => False)
    (hCX : ∀ H e s', CX [] H s₁ (fun _ _ _ => False) e s' → False) :
    codeAny (model P w) callerA (.call (.ref fa) ⟨[.ref a], []⟩) (fun r s' => r = .ok (.ret (.bool true)) ∧ OldK s₁.heap s'.heap ∧ s'.os = s₁.os ∧ AllBare s'.gens) s₁ := by
  have rv := vals_ints hi
  have lenV := hi.length
  have core : ∀ H : Hp, Only H → SqL K H a (ns.map V.int) → HOk P w H s₁.heap → (∀ b, H b ≠ none → b = a) → (H a ≠ none → K.lookup a = none) →
      codeAny (model P w) callerA (.call (.ref fa) ⟨[.ref a], []⟩) (fun r s' => r = .ok (.ret (.bool true)) ∧ OldK s₁.heap s'.heap ∧ s'.os = s₁.os ∧ AllBare s'.gens) s₁ := by
    intro H hO hS hok hA hK
    have base_of : ∀ {b : Addr} {o : Obj}, s₁.heap.get? b = some o → H b = none → (hidT s₁.heap H).get? b = some o := fun e n => hidT_get e n
    have noA : ∀ {b : Addr} {o : Obj} {es : Array DictEntry} {ep : Nat}, s₁.heap.get? b = some o → o.data = .dict es ep → H b = none := fun {b o es ep} e d => by
      cases q : H b with
      | none => rfl
      | some u =>
        have e' : b = a := hA b (by rw [q]; simp)
        subst e'
        rw [ha] at e; cases e
        have d' : Data.seq vs.toArray _ = Data.dict es ep := d
        cases d'
    have nsK : ∀ {b : Addr} {m : Str → Option Value}, s₁.heap.Ns b m → (hidT s₁.heap H).Ns b m := fun {b m} ⟨o, es, ep, e, d, r⟩ => ⟨o, es, ep, base_of e (noA e d), d, r⟩
    have hKb : K.In (hidT s₁.heap H) := fun b o e => base_of (KX b o e) (by
      cases q : H b with
      | none => rfl
      | some u =>
        have e' : b = a := hA b (by rw [q]; simp)
        subst e'
        rw [hK (by rw [q]; simp)] at e; cases e)
    have hM : Mod K mg (hidT s₁.heap H) := ⟨hKb, nsK hns, ⟨mb, nsK hb, hbb⟩, let ⟨mc, h1, h2⟩ := hlim; ⟨mc, nsK h1, h2⟩⟩
    have e0 : Env0 P w K mg (hidT s₁.heap H) callerA [] s₁ H := ⟨rfl, hM, fun b o e => of_hidT e, Nat.le_of_eq (hidT_size _ _), trivial, fun b hb => absurd (show b ∈ ([] : List Addr) from hb) (by simp), hok, .of_eq hg⟩
    refine codeAny_mono ((F _ hKb (nsK hns)).run callerA [] s₁ H ⟨[.ref a], []⟩ [.ref a] [.ref a] _ _ hr e0 (hbind s₁ (.ref a)) (.cons rfl .nil) (hsp H hO hS)) fun r s' h => ?_
    cases r with
    | error e => exact (hCX H e s' h).elim
    | ok fl =>
      cases fl with
      | next => exact False.elim h
      | brk => exact False.elim h
      | cont => exact False.elim h
      | ret u =>
        obtain ⟨v, H', os, bare, un, hok', r', q⟩ := h
        have q' : v = .bl true := q
        subst q'
        obtain rfl : u = Value.bool true := r'
        refine ⟨rfl, OldK.of_keep fun b o e => ?_, os, bare⟩
        cases q : H b with
        | none => exact un.keep b o e q (by intro z; exact absurd (show b ∈ ([] : List Addr) from z) (by simp)) (by simp)
        | some u =>
          rcases hO b with z | ⟨ob, xs, z⟩
          · rw [q] at z; cases z
          · have z2 := un.frzs b ob _ z
            obtain ⟨e1, _⟩ := hok b _ z
            obtain ⟨e2, _⟩ := hok' b _ z2
            rw [e] at e1; cases e1
            exact e2
  cases hk : K.lookup a with
  | some o =>
    have e := KX a o hk
    rw [ha] at e
    cases e
    refine core (fun _ => none) (fun _ => .inl rfl) (.inr ⟨_, vs.toArray, _, hk, rfl, rfl, rfl, by rw [List.size_toArray, lenV]; exact hl, by simpa using rv⟩) (fun b u z => by have z' : (none : Option HO) = some u := z; cases z') (fun b z => absurd rfl z) fun z => absurd rfl z
  | none =>
    refine core (fun b => if b = a then some (.frz { cls := .type "list", data := .seq vs.toArray } (.lst (ns.map V.int))) else none) (fun b => ?_) (.inl (.inr ⟨{ cls := .type "list", data := .seq vs.toArray }, if_pos rfl⟩)) (fun b u z => ?_) (fun b z => ?_) fun _ => hk
    · by_cases hb : b = a
      · exact .inr ⟨_, _, if_pos hb⟩
      · exact .inl (if_neg hb)
    · by_cases hb : b = a
      · have z' := (if_pos hb).symm.trans z
        cases z'
        subst hb
        exact ⟨ha, by rw [List.length_map]; exact hl, vs, _, rv, ha⟩
      · have z' := (if_neg hb).symm.trans z
        cases z'
    · by_cases hb : b = a
      · exact hb
      · exact absurd (if_neg hb) z
end L2
namespace L2
open PySem PySem.Spec PyProof.Rows
theorem walk_of {l : PySem.W.OpenLaw} {n k : Nat} {q : Program} {loose : List Str} {XP : (Str → Option Value) → Heap → Prop} {YP : World → Heap → Prop} {d : DefRec} {K : Params → PySem.W.Frag} {CX : World → CXT} {sp : World → Sp} {x : Str}
    (hn : l.most = some n) (hn2 : n ≤ sizeLine) (hdf : d.params.defaults = []) (hr : Room k callerA)
    (hY : ∀ (w : World) (h : Heap), YP w h → (K w.params).In h)
    (F : ∀ (w : World) (mg : Str → Option Value) (fa : Addr) (h : Heap), (K w.params).In h → h.Ns mainGlobals mg → mg d.name = some (.ref fa) →
      ∃ fd : FuncData, (∀ (s : Shared) (u : Value), BindsTo s fd ⟨[u], []⟩ [(x, u)]) ∧
        ∀ base : Heap, (K w.params).In base → base.Ns mainGlobals mg → FnOk l.prog w (K w.params) mg base (CX w) k fa fd [x] (sp w))
    (hsp : ∀ (w : World) (H : Hp) (a : Addr) (ns : List Int), ns.length ≤ n → Only H → SqL (K w.params) H a (ns.map V.int) → sp w [.ref a] H (fun v _ => v = .bl true) fun _ _ _ => False)
    (hCX : ∀ (w : World) (H : Hp) (s : Shared) (e : Value) (s' : Shared), CX w [] H s (fun _ _ _ => False) e s' → False) :
    PySem.W.WalkO q loose XP YP l.row.toRowW d [] (fun f vs => PySem.call f vs) := by
  refine Att.attach_call hn hdf fun w s₀ s₁ mg mb fa o pm cd doc a vs ns G Y ho hd hcd hmg hobj hints hlen hg => ?_
  have KX := hY w _ Y
  obtain ⟨fd, hb, hF⟩ := F w mg fa _ KX G.T.g hmg
  exact law_call KX G.T.g G.T.b G.T.builtins G.T.nolimit hg hobj hints (Nat.le_trans hlen hn2) hr hF hb (fun H hO hS => hsp w H a ns hlen hO hS) fun H e s' => hCX w H s₁ e s'
end L2
namespace L2
open PySem PySem.Spec PyProof.Rows
def defArgs (s : Stmt) : Arguments := match s with
  | .FunctionDef _ a _ _ _ _ _ _ _ _ => a
  | _ => { posonlyargs := [], args := [], vararg := none, kwonlyargs := [], kw_defaults := [], kwarg := none, defaults := [] }
def defBody (s : Stmt) : List Stmt := match s with
  | .FunctionDef _ _ b _ _ _ _ _ _ _ => b
  | _ => []
def defScope (s : Stmt) : Scope := match s with
  | .FunctionDef _ _ _ _ _ _ sc _ _ _ => sc
  | _ => { kind := .function, names := [], isGenerator := false, isCoroutine := false }
abbrev CX0 : CXT := fun _ _ _ _ _ _ => False
abbrev E0 : XK := fun _ _ _ => False
theorem pass0 {X : Cx} : Passes CX0 X E0 := fun _ _ _ _ _ _ _ h => h.elim
structure Fun (K : PySem.W.Frag) (x qual : Str) (st : Stmt) (f : Addr) (fd : FuncData) : Prop where
  ex : ∃ (oc : Value) (od : Option Addr) (kV doc pm : Value) (an : Option Addr) (cdv ct : Value) (osl : Array (Option Value)),
    fd = PySem.W.fnOf x qual (defArgs st) (defBody st) (defScope st) .none kV doc pm an cdv ct ∧ K.lookup f = some ⟨oc, od, .func fd, osl⟩ ∧ PySem.W.codeIn K cdv qual = true
  kp : PySem.W.keepIn K (.ref f) = true
section
variable {P : Program} {w : World} {K : PySem.W.Frag} {mg : Str → Option Value} {base : Heap}
theorem Fun.ok {x qual : Str} {st : Stmt} {f : Addr} {fd : FuncData} {N ps : List Str} {k : Nat} {sp : Sp} (F : Fun K x qual st f fd) (S : FnScope N ps (defScope st)) (len : ∀ vs H Q E, sp vs H Q E → vs.length = ps.length)
    (hbody : ∀ (cdv : Value) (A : Around) (outer : List Env) (s : Shared) (H : Hp) (vs : List V) (Q : VK) (E : XK), Room k (A.deeper (envOfC qual (defScope st) s.heap.objs.size f cdv)) → sp vs H Q E →
      ∃ t, PSs (cxOf CX0 P w K mg base N qual (defScope st) f cdv A outer s H E).nox (defBody st) t ∧ t { nx := fun _ H' => Q .non H', rt := Q } (start N vs) H) : FnOk P w K mg base CX0 (k + 1) f fd ps sp := by
  obtain ⟨oc, od, kV, doc, pm, an, cdv, ct, osl, rfl, lk, hcd⟩ := F.ex
  refine fn_of lk hcd S len fun A outer s H vs Q E hr hsp => ?_
  obtain ⟨t, h, q⟩ := hbody cdv A outer s H vs Q E hr hsp
  exact ⟨t, h.nox, q⟩
theorem Fun.binds {x qual : Str} {st : Stmt} {f : Addr} {fd : FuncData} {ps : List Str} (F : Fun K x qual st f fd)
    (h : ∀ (kV doc pm : Value) (an : Option Addr) (cdv ct : Value) (us : List Value), us.length = ps.length → bindArgs (PySem.W.fnOf x qual (defArgs st) (defBody st) (defScope st) .none kV doc pm an cdv ct) ⟨us, []⟩ = pure (ps.zip us)) : Binds K fd ps [] := by
  obtain ⟨oc, od, kV, doc, pm, an, cdv, ct, osl, rfl, lk, hcd⟩ := F.ex
  exact .all (h kV doc pm an cdv ct)
theorem fun_mk {x qual : Str} {st : Stmt} {f : Addr} {oc : Value} {od an : Option Addr} {osl : Array (Option Value)} {kV doc pm cdv ct : Value} (l : K.lookup f = some ⟨oc, od, .func (PySem.W.fnOf x qual (defArgs st) (defBody st) (defScope st) .none kV doc pm an cdv ct), osl⟩)
    (c : PySem.W.codeIn K cdv qual = true) (k : PySem.W.keepIn K (.ref f) = true) : Fun K x qual st f (PySem.W.fnOf x qual (defArgs st) (defBody st) (defScope st) .none kV doc pm an cdv ct) := ⟨⟨oc, od, kV, doc, pm, an, cdv, ct, osl, rfl, l, c⟩, k⟩
end
theorem hu_of {A : Around} {k : Nat} (hr : Room k A) : A.units + 1 < cLine := Nat.lt_of_le_of_lt (Nat.add_le_add_left (by decide : 1 ≤ 64) _) hr.units
theorem small1000 {n : Nat} (h : n ≤ 1000) : n < sizeLine := Nat.lt_of_le_of_lt h (by decide)
section
variable {X : Cx}
theorem pv (i : Nat) {x : Str} {pos : Pos} (hN : X.N[i]? = some x := by rfl) (hv : Vis X.env.scope x := by first | exact Or.inl rfl | exact Or.inr (Or.inl rfl) | exact Or.inr (Or.inr rfl)) (hd : (x == ("__debug__" : Str)) = false := by decide)
    (hcd : (x == ("__classdict__" : Str)) = false := by decide) : PE X (.Name x pos) (tVar i) := pe_var hN hv hd hcd
end
theorem iteF {A B : Prop} (h : B) : if false = true then A else B := by
  rw [if_neg Bool.false_ne_true]
  exact h
theorem iteT {A B : Prop} (h : A) : if true = true then A else B := by
  rw [if_pos rfl]
  exact h
theorem iteNS {c A B : Prop} [Decidable c] (hc : c) (h : B) : if (!decide c) = true then A else B := by
  rw [decide_eq_true hc]
  exact iteF h
def Same (H H' : Hp) : Prop := ∀ b o, H b = some o → H' b = some o
theorem Same.refl (H : Hp) : Same H H := fun _ _ h => h
theorem Same.trans {H H1 H2 : Hp} (a : Same H H1) (b : Same H1 H2) : Same H H2 := fun c o h => b c o (a c o h)
theorem Same.free {H H' : Hp} (e : Same H H') {l : Addr} (h : H' l = Option.none) : H l = Option.none := by
  cases q : H l with
  | none => rfl
  | some o =>
    rw [e l o q] at h
    cases h
theorem Same.seq {K : PySem.W.Frag} {H H' : Hp} {a : Addr} {xs : List V} (e : Same H H') (h : SqL K H a xs) : SqL K H' a xs := by
  rcases h with (h | ⟨o, h⟩) | h
  · exact .inl (.inl (e _ _ h))
  · exact .inl (.inr ⟨o, e _ _ h⟩)
  · exact .inr h
section
variable {κ : Type} [DecidableEq κ]
end
end L2
end
section
namespace Ks
open PySem L2
def top (i : Nat) : Stmt := PySem.Challenge.pw_oddcoin_k06_refused.main.body.getD i (.Pass ⟨0, 0, 0, 0⟩)
def kd (P : Params) (x : Str) (n : Nat) (v : Value) : DictEntry := { hash := PyData.keyHash P x, key := .str x n, val := v }
def KK : Params → PySem.W.Frag := fun P =>
  (nat_lit 2, { cls := Value.none, data := Data.dict #[] }) ::
  (nat_lit 3, { cls := Value.type "dict", data := Data.dict #[kd P "__name__" 165 (Value.str "law_oddcoin_k06_refused" 708), kd P "__doc__" 166 Value.none, kd P "__package__" 167 Value.none, kd P "__loader__" 168 (Value.builtin "__main__.__loader__#opaque"), kd P "__spec__" 169 Value.none, kd P "__annotations__" 170 (Value.ref 6), kd P "__builtins__" 171 (Value.ref 4), kd P "__file__" 173 (Value.str "/claim/cut.py" 172), kd P "__cached__" 174 Value.none, kd P "_wall" 193 (Value.ref 21), kd P "CoinError" 213 (Value.ref 31), kd P "BadMarks" 229 (Value.ref 44), kd P "BadWeighing" 245 (Value.ref 56), kd P "BadOutcome" 261 (Value.ref 68), kd P "Never" 277 (Value.ref 80), kd P "BadCoin" 293 (Value.ref 92), kd P "BadText" 309 (Value.ref 104), kd P "OUTCOMES" 315 (Value.ref 107), kd P "is_whole" 322 (Value.ref 114), kd P "check_marks" 331 (Value.ref 121), kd P "check_side" 341 (Value.ref 128), kd P "check_weighing" 350 (Value.ref 135), kd P "check_outcome" 357 (Value.ref 142), kd P "check_odd" 366 (Value.ref 149), kd P "OTHER" 378 (Value.ref 150), kd P "placed" 388 (Value.ref 157), kd P "outcome_by" 396 (Value.ref 164), kd P "may_be_heavy" 403 (Value.ref 171), kd P "may_be_light" 410 (Value.ref 178), kd P "may_all_be_good" 417 (Value.ref 185), kd P "sign_behind" 428 (Value.ref 192), kd P "judged" 443 (Value.ref 199), kd P "behind" 449 (Value.ref 204), kd P "weighed" 460 (Value.ref 211), kd P "cases" 470 (Value.ref 218), kd P "most_cases" 479 (Value.ref 225), kd P "fewest" 488 (Value.ref 232), kd P "Answer" 510 (Value.ref 242), kd P "Heavy" 543 (Value.ref 270), kd P "Light" 576 (Value.ref 296), kd P "Nothing" 600 (Value.ref 315), kd P "Open" 637 (Value.ref 341), kd P "coins_with" 645 (Value.ref 348), kd P "paired_first" 657 (Value.ref 355), kd P "kept_off" 665 (Value.ref 362), kd P "first_weighing" 677 (Value.ref 369), kd P "told" 685 (Value.ref 376), kd P "HIGHEST" 689 (Value.int 999999999 688), kd P "BETWEEN_SIDES" 691 (Value.str " | " 690), kd P "NONE" 693 (Value.str "-" 692), kd P "side_written" 699 (Value.ref 381), kd P "written" 707 (Value.ref 388), kd P "_law_cell_at" 717 (Value.ref 395), kd P "_law_draw" 727 (Value.ref 402), kd P "_law_marks" 733 (Value.ref 407), kd P "_law_cases" 741 (Value.ref 414), kd P "_law_weighing" 747 (Value.ref 419), kd P "_law_behind" 761 (Value.ref 426), kd P "_law_left" 774 (Value.ref 433), kd P "_law_power" 783 (Value.ref 440), kd P "_law_whole" 790 (Value.ref 447), kd P "_law_kinds" 798 (Value.ref 454), kd P "_law_with_marks" 806 (Value.ref 461), kd P "_law_with_weighing" 814 (Value.ref 468), kd P "_law_with_judged" 822 (Value.ref 475), kd P "_law_with_weighed" 830 (Value.ref 482), kd P "_law_with_written" 838 (Value.ref 489), kd P "_law_with_outcome" 846 (Value.ref 496), kd P "_law_with_coins" 854 (Value.ref 503), kd P "_law_with_truth" 862 (Value.ref 510), kd P "_law_told" 872 (Value.ref 517), kd P "_law_all" 878 (Value.ref 522), kd P "_law_weighings_right" 892 (Value.ref 529), kd P "law" 908 (Value.ref 536)] 74 }) ::
  (nat_lit 15, { cls := Value.type "tuple", data := Data.seq #[] }) ::
  (nat_lit 17, { cls := Value.type "tuple", data := Data.seq #[Value.str "k" 190] }) ::
  (nat_lit 18, { cls := Value.type "tuple", data := Data.seq #[] }) ::
  (nat_lit 20, { cls := Value.type "code", data := Data.fields #[Value.str "_wall" 187, Value.str "_wall" 188, Value.str "/claim/cut.py" 189, Value.int 1 0, Value.int 1 0, Value.int 0 0, Value.int 0 0, Value.int 3 0, Value.ref 15, Value.bool true, Value.int 181 0, Value.ref 16, Value.none, Value.ref 17, Value.ref 18, Value.ref 19, Value.int 191 0, Value.int 1 0, Value.str "/claim/cut.py" 192] }) ::
  (nat_lit 21, { cls := Value.type "function", data := Data.func { name := "_wall", qualname := "_wall", params := defArgs (top 0), body := .stmts (defBody (top 0)), scope := defScope (top 0), globals := 3, closure := [], defaults := Value.none, kwdefaults := Value.none, pyModule := Value.str "__main__" 164, code := Value.ref 20 } }) ::
  (nat_lit 22, { cls := Value.type "tuple", data := Data.seq #[Value.type "ValueError"] }) ::
  (nat_lit 29, { cls := Value.type "tuple", data := Data.seq #[] }) ::
  (nat_lit 30, { cls := Value.type "dict", data := Data.dict #[kd P "__module__" 203 (Value.str "oddcoin.errors" 194), kd P "__firstlineno__" 207 (Value.int 5 206), kd P "__static_attributes__" 208 (Value.ref 29), kd P "__weakref__" 210 (Value.ref 32), kd P "__doc__" 211 Value.none] 3 }) ::
  (nat_lit 31, { cls := Value.type "type", data := Data.cls { name := "CoinError", bases := [Value.type "ValueError"], mro := [Value.ref 31, Value.type "ValueError", Value.type "Exception", Value.type "BaseException", Value.type "object"], ns := 30, qualname := "CoinError", subclasses := [Value.ref 44, Value.ref 56, Value.ref 68, Value.ref 80, Value.ref 92, Value.ref 104] }, slots := #[some (Value.ref 22), none, some (Value.str "CoinError" 196), some (Value.str "CoinError" 204), some (Value.builtin "ValueError.__new__"), some (Value.bool true)] }) ::
  (nat_lit 32, { cls := Value.type "getset_descriptor", data := Data.fields #[Value.str "__weakref__" 209, Value.ref 31, Value.builtin "ExceptionGroup.__weakref__", Value.none] }) ::
  (nat_lit 35, { cls := Value.type "tuple", data := Data.seq #[Value.ref 31] }) ::
  (nat_lit 42, { cls := Value.type "tuple", data := Data.seq #[] }) ::
  (nat_lit 43, { cls := Value.type "dict", data := Data.dict #[kd P "__module__" 221 (Value.str "oddcoin.errors" 194), kd P "__firstlineno__" 225 (Value.int 7 224), kd P "__static_attributes__" 226 (Value.ref 42), kd P "__doc__" 227 Value.none] 2 }) ::
  (nat_lit 44, { cls := Value.type "type", data := Data.cls { name := "BadMarks", bases := [Value.ref 31], mro := [Value.ref 44, Value.ref 31, Value.type "ValueError", Value.type "Exception", Value.type "BaseException", Value.type "object"], ns := 43, qualname := "BadMarks" }, slots := #[some (Value.ref 35), none, some (Value.str "BadMarks" 214), some (Value.str "BadMarks" 222), some (Value.builtin "ValueError.__new__"), some (Value.bool true)] }) ::
  (nat_lit 47, { cls := Value.type "tuple", data := Data.seq #[Value.ref 31] }) ::
  (nat_lit 54, { cls := Value.type "tuple", data := Data.seq #[] }) ::
  (nat_lit 55, { cls := Value.type "dict", data := Data.dict #[kd P "__module__" 237 (Value.str "oddcoin.errors" 194), kd P "__firstlineno__" 241 (Value.int 9 240), kd P "__static_attributes__" 242 (Value.ref 54), kd P "__doc__" 243 Value.none] 2 }) ::
  (nat_lit 56, { cls := Value.type "type", data := Data.cls { name := "BadWeighing", bases := [Value.ref 31], mro := [Value.ref 56, Value.ref 31, Value.type "ValueError", Value.type "Exception", Value.type "BaseException", Value.type "object"], ns := 55, qualname := "BadWeighing" }, slots := #[some (Value.ref 47), none, some (Value.str "BadWeighing" 230), some (Value.str "BadWeighing" 238), some (Value.builtin "ValueError.__new__"), some (Value.bool true)] }) ::
  (nat_lit 59, { cls := Value.type "tuple", data := Data.seq #[Value.ref 31] }) ::
  (nat_lit 66, { cls := Value.type "tuple", data := Data.seq #[] }) ::
  (nat_lit 67, { cls := Value.type "dict", data := Data.dict #[kd P "__module__" 253 (Value.str "oddcoin.errors" 194), kd P "__firstlineno__" 257 (Value.int 11 256), kd P "__static_attributes__" 258 (Value.ref 66), kd P "__doc__" 259 Value.none] 2 }) ::
  (nat_lit 68, { cls := Value.type "type", data := Data.cls { name := "BadOutcome", bases := [Value.ref 31], mro := [Value.ref 68, Value.ref 31, Value.type "ValueError", Value.type "Exception", Value.type "BaseException", Value.type "object"], ns := 67, qualname := "BadOutcome" }, slots := #[some (Value.ref 59), none, some (Value.str "BadOutcome" 246), some (Value.str "BadOutcome" 254), some (Value.builtin "ValueError.__new__"), some (Value.bool true)] }) ::
  (nat_lit 71, { cls := Value.type "tuple", data := Data.seq #[Value.ref 31] }) ::
  (nat_lit 78, { cls := Value.type "tuple", data := Data.seq #[] }) ::
  (nat_lit 79, { cls := Value.type "dict", data := Data.dict #[kd P "__module__" 269 (Value.str "oddcoin.errors" 194), kd P "__firstlineno__" 273 (Value.int 13 272), kd P "__static_attributes__" 274 (Value.ref 78), kd P "__doc__" 275 Value.none] 2 }) ::
  (nat_lit 80, { cls := Value.type "type", data := Data.cls { name := "Never", bases := [Value.ref 31], mro := [Value.ref 80, Value.ref 31, Value.type "ValueError", Value.type "Exception", Value.type "BaseException", Value.type "object"], ns := 79, qualname := "Never" }, slots := #[some (Value.ref 71), none, some (Value.str "Never" 262), some (Value.str "Never" 270), some (Value.builtin "ValueError.__new__"), some (Value.bool true)] }) ::
  (nat_lit 83, { cls := Value.type "tuple", data := Data.seq #[Value.ref 31] }) ::
  (nat_lit 90, { cls := Value.type "tuple", data := Data.seq #[] }) ::
  (nat_lit 91, { cls := Value.type "dict", data := Data.dict #[kd P "__module__" 285 (Value.str "oddcoin.errors" 194), kd P "__firstlineno__" 289 (Value.int 15 288), kd P "__static_attributes__" 290 (Value.ref 90), kd P "__doc__" 291 Value.none] 2 }) ::
  (nat_lit 92, { cls := Value.type "type", data := Data.cls { name := "BadCoin", bases := [Value.ref 31], mro := [Value.ref 92, Value.ref 31, Value.type "ValueError", Value.type "Exception", Value.type "BaseException", Value.type "object"], ns := 91, qualname := "BadCoin" }, slots := #[some (Value.ref 83), none, some (Value.str "BadCoin" 278), some (Value.str "BadCoin" 286), some (Value.builtin "ValueError.__new__"), some (Value.bool true)] }) ::
  (nat_lit 95, { cls := Value.type "tuple", data := Data.seq #[Value.ref 31] }) ::
  (nat_lit 102, { cls := Value.type "tuple", data := Data.seq #[] }) ::
  (nat_lit 103, { cls := Value.type "dict", data := Data.dict #[kd P "__module__" 301 (Value.str "oddcoin.errors" 194), kd P "__firstlineno__" 305 (Value.int 17 304), kd P "__static_attributes__" 306 (Value.ref 102), kd P "__doc__" 307 Value.none] 2 }) ::
  (nat_lit 104, { cls := Value.type "type", data := Data.cls { name := "BadText", bases := [Value.ref 31], mro := [Value.ref 104, Value.ref 31, Value.type "ValueError", Value.type "Exception", Value.type "BaseException", Value.type "object"], ns := 103, qualname := "BadText" }, slots := #[some (Value.ref 95), none, some (Value.str "BadText" 294), some (Value.str "BadText" 302), some (Value.builtin "ValueError.__new__"), some (Value.bool true)] }) ::
  (nat_lit 107, { cls := Value.type "tuple", data := Data.seq #[Value.str "left" 312, Value.str "right" 313, Value.str "even" 314] }) ::
  (nat_lit 108, { cls := Value.type "tuple", data := Data.seq #[] }) ::
  (nat_lit 110, { cls := Value.type "tuple", data := Data.seq #[Value.str "value" 319] }) ::
  (nat_lit 111, { cls := Value.type "tuple", data := Data.seq #[] }) ::
  (nat_lit 113, { cls := Value.type "code", data := Data.fields #[Value.str "is_whole" 316, Value.str "is_whole" 317, Value.str "/claim/cut.py" 318, Value.int 21 0, Value.int 1 0, Value.int 0 0, Value.int 0 0, Value.int 3 0, Value.ref 108, Value.bool true, Value.int 181 0, Value.ref 109, Value.none, Value.ref 110, Value.ref 111, Value.ref 112, Value.int 320 0, Value.int 21 0, Value.str "/claim/cut.py" 321] }) ::
  (nat_lit 114, { cls := Value.type "function", data := Data.func { name := "is_whole", qualname := "is_whole", params := defArgs (top 11), body := .stmts (defBody (top 11)), scope := defScope (top 11), globals := 3, closure := [], defaults := Value.none, kwdefaults := Value.none, pyModule := Value.str "oddcoin.checks" 310, code := Value.ref 113 } }) ::
  (nat_lit 115, { cls := Value.type "tuple", data := Data.seq #[] }) ::
  (nat_lit 117, { cls := Value.type "tuple", data := Data.seq #[Value.str "marks" 326, Value.str "either" 327, Value.str "one_way" 328] }) ::
  (nat_lit 118, { cls := Value.type "tuple", data := Data.seq #[] }) ::
  (nat_lit 120, { cls := Value.type "code", data := Data.fields #[Value.str "check_marks" 323, Value.str "check_marks" 324, Value.str "/claim/cut.py" 325, Value.int 23 0, Value.int 1 0, Value.int 0 0, Value.int 0 0, Value.int 3 0, Value.ref 115, Value.bool true, Value.int 181 0, Value.ref 116, Value.none, Value.ref 117, Value.ref 118, Value.ref 119, Value.int 329 0, Value.int 23 0, Value.str "/claim/cut.py" 330] }) ::
  (nat_lit 121, { cls := Value.type "function", data := Data.func { name := "check_marks", qualname := "check_marks", params := defArgs (top 12), body := .stmts (defBody (top 12)), scope := defScope (top 12), globals := 3, closure := [], defaults := Value.none, kwdefaults := Value.none, pyModule := Value.str "oddcoin.checks" 310, code := Value.ref 120 } }) ::
  (nat_lit 122, { cls := Value.type "tuple", data := Data.seq #[] }) ::
  (nat_lit 124, { cls := Value.type "tuple", data := Data.seq #[Value.str "highest" 335, Value.str "side" 336, Value.str "last" 337, Value.str "coin" 338] }) ::
  (nat_lit 125, { cls := Value.type "tuple", data := Data.seq #[] }) ::
  (nat_lit 127, { cls := Value.type "code", data := Data.fields #[Value.str "check_side" 332, Value.str "check_side" 333, Value.str "/claim/cut.py" 334, Value.int 32 0, Value.int 2 0, Value.int 0 0, Value.int 0 0, Value.int 3 0, Value.ref 122, Value.bool true, Value.int 181 0, Value.ref 123, Value.none, Value.ref 124, Value.ref 125, Value.ref 126, Value.int 339 0, Value.int 32 0, Value.str "/claim/cut.py" 340] }) ::
  (nat_lit 128, { cls := Value.type "function", data := Data.func { name := "check_side", qualname := "check_side", params := defArgs (top 13), body := .stmts (defBody (top 13)), scope := defScope (top 13), globals := 3, closure := [], defaults := Value.none, kwdefaults := Value.none, pyModule := Value.str "oddcoin.checks" 310, code := Value.ref 127 } }) ::
  (nat_lit 129, { cls := Value.type "tuple", data := Data.seq #[] }) ::
  (nat_lit 131, { cls := Value.type "tuple", data := Data.seq #[Value.str "highest" 345, Value.str "left" 346, Value.str "right" 347] }) ::
  (nat_lit 132, { cls := Value.type "tuple", data := Data.seq #[] }) ::
  (nat_lit 134, { cls := Value.type "code", data := Data.fields #[Value.str "check_weighing" 342, Value.str "check_weighing" 343, Value.str "/claim/cut.py" 344, Value.int 44 0, Value.int 3 0, Value.int 0 0, Value.int 0 0, Value.int 3 0, Value.ref 129, Value.bool true, Value.int 181 0, Value.ref 130, Value.none, Value.ref 131, Value.ref 132, Value.ref 133, Value.int 348 0, Value.int 44 0, Value.str "/claim/cut.py" 349] }) ::
  (nat_lit 135, { cls := Value.type "function", data := Data.func { name := "check_weighing", qualname := "check_weighing", params := defArgs (top 14), body := .stmts (defBody (top 14)), scope := defScope (top 14), globals := 3, closure := [], defaults := Value.none, kwdefaults := Value.none, pyModule := Value.str "oddcoin.checks" 310, code := Value.ref 134 } }) ::
  (nat_lit 136, { cls := Value.type "tuple", data := Data.seq #[] }) ::
  (nat_lit 138, { cls := Value.type "tuple", data := Data.seq #[Value.str "outcome" 354] }) ::
  (nat_lit 139, { cls := Value.type "tuple", data := Data.seq #[] }) ::
  (nat_lit 141, { cls := Value.type "code", data := Data.fields #[Value.str "check_outcome" 351, Value.str "check_outcome" 352, Value.str "/claim/cut.py" 353, Value.int 51 0, Value.int 1 0, Value.int 0 0, Value.int 0 0, Value.int 3 0, Value.ref 136, Value.bool true, Value.int 181 0, Value.ref 137, Value.none, Value.ref 138, Value.ref 139, Value.ref 140, Value.int 355 0, Value.int 51 0, Value.str "/claim/cut.py" 356] }) ::
  (nat_lit 142, { cls := Value.type "function", data := Data.func { name := "check_outcome", qualname := "check_outcome", params := defArgs (top 15), body := .stmts (defBody (top 15)), scope := defScope (top 15), globals := 3, closure := [], defaults := Value.none, kwdefaults := Value.none, pyModule := Value.str "oddcoin.checks" 310, code := Value.ref 141 } }) ::
  (nat_lit 143, { cls := Value.type "tuple", data := Data.seq #[] }) ::
  (nat_lit 145, { cls := Value.type "tuple", data := Data.seq #[Value.str "coins" 361, Value.str "odd" 362, Value.str "heavy" 363] }) ::
  (nat_lit 146, { cls := Value.type "tuple", data := Data.seq #[] }) ::
  (nat_lit 148, { cls := Value.type "code", data := Data.fields #[Value.str "check_odd" 358, Value.str "check_odd" 359, Value.str "/claim/cut.py" 360, Value.int 54 0, Value.int 3 0, Value.int 0 0, Value.int 0 0, Value.int 3 0, Value.ref 143, Value.bool true, Value.int 181 0, Value.ref 144, Value.none, Value.ref 145, Value.ref 146, Value.ref 147, Value.int 364 0, Value.int 54 0, Value.str "/claim/cut.py" 365] }) ::
  (nat_lit 149, { cls := Value.type "function", data := Data.func { name := "check_odd", qualname := "check_odd", params := defArgs (top 16), body := .stmts (defBody (top 16)), scope := defScope (top 16), globals := 3, closure := [], defaults := Value.none, kwdefaults := Value.none, pyModule := Value.str "oddcoin.checks" 310, code := Value.ref 148 } }) ::
  (nat_lit 150, { cls := Value.type "dict", data := Data.dict #[kd P "left" 369 (Value.str "right" 370), kd P "right" 371 (Value.str "left" 372), kd P "even" 373 (Value.str "even" 374)] 3 }) ::
  (nat_lit 151, { cls := Value.type "tuple", data := Data.seq #[] }) ::
  (nat_lit 153, { cls := Value.type "tuple", data := Data.seq #[Value.str "left" 382, Value.str "right" 383, Value.str "places" 384, Value.str "coin" 385] }) ::
  (nat_lit 154, { cls := Value.type "tuple", data := Data.seq #[] }) ::
  (nat_lit 156, { cls := Value.type "code", data := Data.fields #[Value.str "placed" 379, Value.str "placed" 380, Value.str "/claim/cut.py" 381, Value.int 63 0, Value.int 2 0, Value.int 0 0, Value.int 0 0, Value.int 3 0, Value.ref 151, Value.bool true, Value.int 181 0, Value.ref 152, Value.none, Value.ref 153, Value.ref 154, Value.ref 155, Value.int 386 0, Value.int 63 0, Value.str "/claim/cut.py" 387] }) ::
  (nat_lit 157, { cls := Value.type "function", data := Data.func { name := "placed", qualname := "placed", params := defArgs (top 19), body := .stmts (defBody (top 19)), scope := defScope (top 19), globals := 3, closure := [], defaults := Value.none, kwdefaults := Value.none, pyModule := Value.str "oddcoin.weighing" 367, code := Value.ref 156 } }) ::
  (nat_lit 158, { cls := Value.type "tuple", data := Data.seq #[] }) ::
  (nat_lit 160, { cls := Value.type "tuple", data := Data.seq #[Value.str "place" 392, Value.str "heavy" 393] }) ::
  (nat_lit 161, { cls := Value.type "tuple", data := Data.seq #[] }) ::
  (nat_lit 163, { cls := Value.type "code", data := Data.fields #[Value.str "outcome_by" 389, Value.str "outcome_by" 390, Value.str "/claim/cut.py" 391, Value.int 70 0, Value.int 2 0, Value.int 0 0, Value.int 0 0, Value.int 3 0, Value.ref 158, Value.bool true, Value.int 181 0, Value.ref 159, Value.none, Value.ref 160, Value.ref 161, Value.ref 162, Value.int 394 0, Value.int 70 0, Value.str "/claim/cut.py" 395] }) ::
  (nat_lit 164, { cls := Value.type "function", data := Data.func { name := "outcome_by", qualname := "outcome_by", params := defArgs (top 20), body := .stmts (defBody (top 20)), scope := defScope (top 20), globals := 3, closure := [], defaults := Value.none, kwdefaults := Value.none, pyModule := Value.str "oddcoin.weighing" 367, code := Value.ref 163 } }) ::
  (nat_lit 165, { cls := Value.type "tuple", data := Data.seq #[] }) ::
  (nat_lit 167, { cls := Value.type "tuple", data := Data.seq #[Value.str "sign" 400] }) ::
  (nat_lit 168, { cls := Value.type "tuple", data := Data.seq #[] }) ::
  (nat_lit 170, { cls := Value.type "code", data := Data.fields #[Value.str "may_be_heavy" 397, Value.str "may_be_heavy" 398, Value.str "/claim/cut.py" 399, Value.int 72 0, Value.int 1 0, Value.int 0 0, Value.int 0 0, Value.int 3 0, Value.ref 165, Value.bool true, Value.int 181 0, Value.ref 166, Value.none, Value.ref 167, Value.ref 168, Value.ref 169, Value.int 401 0, Value.int 72 0, Value.str "/claim/cut.py" 402] }) ::
  (nat_lit 171, { cls := Value.type "function", data := Data.func { name := "may_be_heavy", qualname := "may_be_heavy", params := defArgs (top 21), body := .stmts (defBody (top 21)), scope := defScope (top 21), globals := 3, closure := [], defaults := Value.none, kwdefaults := Value.none, pyModule := Value.str "oddcoin.weighing" 367, code := Value.ref 170 } }) ::
  (nat_lit 172, { cls := Value.type "tuple", data := Data.seq #[] }) ::
  (nat_lit 174, { cls := Value.type "tuple", data := Data.seq #[Value.str "sign" 407] }) ::
  (nat_lit 175, { cls := Value.type "tuple", data := Data.seq #[] }) ::
  (nat_lit 177, { cls := Value.type "code", data := Data.fields #[Value.str "may_be_light" 404, Value.str "may_be_light" 405, Value.str "/claim/cut.py" 406, Value.int 74 0, Value.int 1 0, Value.int 0 0, Value.int 0 0, Value.int 3 0, Value.ref 172, Value.bool true, Value.int 181 0, Value.ref 173, Value.none, Value.ref 174, Value.ref 175, Value.ref 176, Value.int 408 0, Value.int 74 0, Value.str "/claim/cut.py" 409] }) ::
  (nat_lit 178, { cls := Value.type "function", data := Data.func { name := "may_be_light", qualname := "may_be_light", params := defArgs (top 22), body := .stmts (defBody (top 22)), scope := defScope (top 22), globals := 3, closure := [], defaults := Value.none, kwdefaults := Value.none, pyModule := Value.str "oddcoin.weighing" 367, code := Value.ref 177 } }) ::
  (nat_lit 179, { cls := Value.type "tuple", data := Data.seq #[] }) ::
  (nat_lit 181, { cls := Value.type "tuple", data := Data.seq #[Value.str "marks" 414] }) ::
  (nat_lit 182, { cls := Value.type "tuple", data := Data.seq #[] }) ::
  (nat_lit 184, { cls := Value.type "code", data := Data.fields #[Value.str "may_all_be_good" 411, Value.str "may_all_be_good" 412, Value.str "/claim/cut.py" 413, Value.int 76 0, Value.int 1 0, Value.int 0 0, Value.int 0 0, Value.int 3 0, Value.ref 179, Value.bool true, Value.int 181 0, Value.ref 180, Value.none, Value.ref 181, Value.ref 182, Value.ref 183, Value.int 415 0, Value.int 76 0, Value.str "/claim/cut.py" 416] }) ::
  (nat_lit 185, { cls := Value.type "function", data := Data.func { name := "may_all_be_good", qualname := "may_all_be_good", params := defArgs (top 23), body := .stmts (defBody (top 23)), scope := defScope (top 23), globals := 3, closure := [], defaults := Value.none, kwdefaults := Value.none, pyModule := Value.str "oddcoin.weighing" 367, code := Value.ref 184 } }) ::
  (nat_lit 186, { cls := Value.type "tuple", data := Data.seq #[] }) ::
  (nat_lit 188, { cls := Value.type "tuple", data := Data.seq #[Value.str "sign" 421, Value.str "place" 422, Value.str "outcome" 423, Value.str "heavy" 424, Value.str "light" 425] }) ::
  (nat_lit 189, { cls := Value.type "tuple", data := Data.seq #[] }) ::
  (nat_lit 191, { cls := Value.type "code", data := Data.fields #[Value.str "sign_behind" 418, Value.str "sign_behind" 419, Value.str "/claim/cut.py" 420, Value.int 78 0, Value.int 3 0, Value.int 0 0, Value.int 0 0, Value.int 3 0, Value.ref 186, Value.bool true, Value.int 181 0, Value.ref 187, Value.none, Value.ref 188, Value.ref 189, Value.ref 190, Value.int 426 0, Value.int 78 0, Value.str "/claim/cut.py" 427] }) ::
  (nat_lit 192, { cls := Value.type "function", data := Data.func { name := "sign_behind", qualname := "sign_behind", params := defArgs (top 24), body := .stmts (defBody (top 24)), scope := defScope (top 24), globals := 3, closure := [], defaults := Value.none, kwdefaults := Value.none, pyModule := Value.str "oddcoin.weighing" 367, code := Value.ref 191 } }) ::
  (nat_lit 193, { cls := Value.type "tuple", data := Data.seq #[] }) ::
  (nat_lit 195, { cls := Value.type "tuple", data := Data.seq #[Value.str "marks" 432, Value.str "left" 433, Value.str "right" 434, Value.str "places" 435, Value.str "counts" 436, Value.str "coin" 437, Value.str "sign" 438, Value.str "place" 439, Value.str "outcome" 440] }) ::
  (nat_lit 196, { cls := Value.type "tuple", data := Data.seq #[] }) ::
  (nat_lit 198, { cls := Value.type "code", data := Data.fields #[Value.str "judged" 429, Value.str "judged" 430, Value.str "/claim/cut.py" 431, Value.int 88 0, Value.int 3 0, Value.int 0 0, Value.int 0 0, Value.int 3 0, Value.ref 193, Value.bool true, Value.int 181 0, Value.ref 194, Value.none, Value.ref 195, Value.ref 196, Value.ref 197, Value.int 441 0, Value.int 88 0, Value.str "/claim/cut.py" 442] }) ::
  (nat_lit 199, { cls := Value.type "function", data := Data.func { name := "judged", qualname := "judged", params := defArgs (top 25), body := .stmts (defBody (top 25)), scope := defScope (top 25), globals := 3, closure := [], defaults := Value.none, kwdefaults := Value.none, pyModule := Value.str "oddcoin.weighing" 367, code := Value.ref 198 } }) ::
  (nat_lit 200, { cls := Value.type "tuple", data := Data.seq #[] }) ::
  (nat_lit 203, { cls := Value.type "code", data := Data.fields #[Value.str "behind" 444, Value.str "behind" 445, Value.str "/claim/cut.py" 446, Value.int 104 0, Value.int 4 0, Value.int 0 0, Value.int 0 0, Value.int 3 0, Value.ref 200, Value.bool true, Value.int 181 0, Value.ref 201, Value.none, Value.none, Value.none, Value.ref 202, Value.int 447 0, Value.int 104 0, Value.str "/claim/cut.py" 448] }) ::
  (nat_lit 204, { cls := Value.type "function", data := Data.func { name := "behind", qualname := "behind", params := defArgs (top 26), body := .stmts (defBody (top 26)), scope := defScope (top 26), globals := 3, closure := [], defaults := Value.none, kwdefaults := Value.none, pyModule := Value.str "oddcoin.weighing" 367, code := Value.ref 203 } }) ::
  (nat_lit 205, { cls := Value.type "tuple", data := Data.seq #[] }) ::
  (nat_lit 207, { cls := Value.type "tuple", data := Data.seq #[Value.str "coins" 453, Value.str "odd" 454, Value.str "heavy" 455, Value.str "left" 456, Value.str "right" 457] }) ::
  (nat_lit 208, { cls := Value.type "tuple", data := Data.seq #[] }) ::
  (nat_lit 210, { cls := Value.type "code", data := Data.fields #[Value.str "weighed" 450, Value.str "weighed" 451, Value.str "/claim/cut.py" 452, Value.int 111 0, Value.int 5 0, Value.int 0 0, Value.int 0 0, Value.int 3 0, Value.ref 205, Value.bool true, Value.int 181 0, Value.ref 206, Value.none, Value.ref 207, Value.ref 208, Value.ref 209, Value.int 458 0, Value.int 111 0, Value.str "/claim/cut.py" 459] }) ::
  (nat_lit 211, { cls := Value.type "function", data := Data.func { name := "weighed", qualname := "weighed", params := defArgs (top 27), body := .stmts (defBody (top 27)), scope := defScope (top 27), globals := 3, closure := [], defaults := Value.none, kwdefaults := Value.none, pyModule := Value.str "oddcoin.weighing" 367, code := Value.ref 210 } }) ::
  (nat_lit 212, { cls := Value.type "tuple", data := Data.seq #[] }) ::
  (nat_lit 214, { cls := Value.type "tuple", data := Data.seq #[Value.str "marks" 466, Value.str "one_way" 467] }) ::
  (nat_lit 215, { cls := Value.type "tuple", data := Data.seq #[] }) ::
  (nat_lit 217, { cls := Value.type "code", data := Data.fields #[Value.str "cases" 463, Value.str "cases" 464, Value.str "/claim/cut.py" 465, Value.int 116 0, Value.int 1 0, Value.int 0 0, Value.int 0 0, Value.int 3 0, Value.ref 212, Value.bool true, Value.int 181 0, Value.ref 213, Value.none, Value.ref 214, Value.ref 215, Value.ref 216, Value.int 468 0, Value.int 116 0, Value.str "/claim/cut.py" 469] }) ::
  (nat_lit 218, { cls := Value.type "function", data := Data.func { name := "cases", qualname := "cases", params := defArgs (top 29), body := .stmts (defBody (top 29)), scope := defScope (top 29), globals := 3, closure := [], defaults := Value.none, kwdefaults := Value.none, pyModule := Value.str "oddcoin.marks" 461, code := Value.ref 217 } }) ::
  (nat_lit 219, { cls := Value.type "tuple", data := Data.seq #[] }) ::
  (nat_lit 221, { cls := Value.type "tuple", data := Data.seq #[Value.str "weighings" 474, Value.str "most" 475, Value.str "step" 476] }) ::
  (nat_lit 222, { cls := Value.type "tuple", data := Data.seq #[] }) ::
  (nat_lit 224, { cls := Value.type "code", data := Data.fields #[Value.str "most_cases" 471, Value.str "most_cases" 472, Value.str "/claim/cut.py" 473, Value.int 122 0, Value.int 1 0, Value.int 0 0, Value.int 0 0, Value.int 3 0, Value.ref 219, Value.bool true, Value.int 181 0, Value.ref 220, Value.none, Value.ref 221, Value.ref 222, Value.ref 223, Value.int 477 0, Value.int 122 0, Value.str "/claim/cut.py" 478] }) ::
  (nat_lit 225, { cls := Value.type "function", data := Data.func { name := "most_cases", qualname := "most_cases", params := defArgs (top 30), body := .stmts (defBody (top 30)), scope := defScope (top 30), globals := 3, closure := [], defaults := Value.none, kwdefaults := Value.none, pyModule := Value.str "oddcoin.marks" 461, code := Value.ref 224 } }) ::
  (nat_lit 226, { cls := Value.type "tuple", data := Data.seq #[] }) ::
  (nat_lit 228, { cls := Value.type "tuple", data := Data.seq #[Value.str "marks" 483, Value.str "many" 484, Value.str "weighings" 485] }) ::
  (nat_lit 229, { cls := Value.type "tuple", data := Data.seq #[] }) ::
  (nat_lit 231, { cls := Value.type "code", data := Data.fields #[Value.str "fewest" 480, Value.str "fewest" 481, Value.str "/claim/cut.py" 482, Value.int 127 0, Value.int 1 0, Value.int 0 0, Value.int 0 0, Value.int 3 0, Value.ref 226, Value.bool true, Value.int 181 0, Value.ref 227, Value.none, Value.ref 228, Value.ref 229, Value.ref 230, Value.int 486 0, Value.int 127 0, Value.str "/claim/cut.py" 487] }) ::
  (nat_lit 232, { cls := Value.type "function", data := Data.func { name := "fewest", qualname := "fewest", params := defArgs (top 31), body := .stmts (defBody (top 31)), scope := defScope (top 31), globals := 3, closure := [], defaults := Value.none, kwdefaults := Value.none, pyModule := Value.str "oddcoin.marks" 461, code := Value.ref 231 } }) ::
  (nat_lit 240, { cls := Value.type "tuple", data := Data.seq #[] }) ::
  (nat_lit 241, { cls := Value.type "dict", data := Data.dict #[kd P "__module__" 498 (Value.str "oddcoin.answers" 489), kd P "__firstlineno__" 502 (Value.int 134 501), kd P "__static_attributes__" 503 (Value.ref 240), kd P "__dict__" 505 (Value.ref 243), kd P "__weakref__" 507 (Value.ref 244), kd P "__doc__" 508 Value.none] 4 }) ::
  (nat_lit 242, { cls := Value.type "type", data := Data.cls { name := "Answer", bases := [Value.type "object"], mro := [Value.ref 242, Value.type "object"], ns := 241, qualname := "Answer", subclasses := [Value.ref 270, Value.ref 296, Value.ref 315, Value.ref 341] }, slots := #[none, none, some (Value.str "Answer" 491), some (Value.str "Answer" 499), some (Value.builtin "object.__new__"), some (Value.bool true)] }) ::
  (nat_lit 243, { cls := Value.type "getset_descriptor", data := Data.fields #[Value.str "__dict__" 504, Value.ref 242, Value.builtin "function.__dict__", Value.builtin "function.__dict__#set"] }) ::
  (nat_lit 244, { cls := Value.type "getset_descriptor", data := Data.fields #[Value.str "__weakref__" 506, Value.ref 242, Value.builtin "ExceptionGroup.__weakref__", Value.none] }) ::
  (nat_lit 247, { cls := Value.type "tuple", data := Data.seq #[Value.ref 242] }) ::
  (nat_lit 254, { cls := Value.type "tuple", data := Data.seq #[] }) ::
  (nat_lit 256, { cls := Value.type "tuple", data := Data.seq #[Value.str "self" 526, Value.str "coin" 527] }) ::
  (nat_lit 257, { cls := Value.type "tuple", data := Data.seq #[] }) ::
  (nat_lit 259, { cls := Value.type "code", data := Data.fields #[Value.str "__init__" 523, Value.str "Heavy.__init__" 524, Value.str "/claim/cut.py" 525, Value.int 138 0, Value.int 2 0, Value.int 0 0, Value.int 0 0, Value.int 3 0, Value.ref 254, Value.bool true, Value.int 181 0, Value.ref 255, Value.none, Value.ref 256, Value.ref 257, Value.ref 258, Value.int 528 0, Value.int 138 0, Value.str "/claim/cut.py" 529] }) ::
  (nat_lit 260, { cls := Value.type "function", data := Data.func { name := "__init__", qualname := "Heavy.__init__", params := { posonlyargs := [], args := [{ arg := "self", annotation := none, pos := { line := 138, col := 17, endLine := 138, endCol := 21 } }, { arg := "coin", annotation := none, pos := { line := 138, col := 23, endLine := 138, endCol := 27 } }], vararg := none, kwonlyargs := [], kw_defaults := [], kwarg := none, defaults := [] }, body := FuncBody.stmts [Stmt.Assign [(Expr.Name "self" { line := 139, col := 8, endLine := 139, endCol := 12 }).Attribute "coin" { line := 139, col := 8, endLine := 139, endCol := 17 }] (Expr.Name "coin" { line := 139, col := 20, endLine := 139, endCol := 24 }) { line := 139, col := 8, endLine := 139, endCol := 24 }], scope := { kind := ScopeKind.function, names := [("self", NameKind.local), ("coin", NameKind.local)], isGenerator := false, isCoroutine := false }, globals := 3, closure := [], defaults := Value.none, kwdefaults := Value.none, pyModule := Value.str "oddcoin.answers" 489, code := Value.ref 259 } }) ::
  (nat_lit 261, { cls := Value.type "tuple", data := Data.seq #[] }) ::
  (nat_lit 263, { cls := Value.type "tuple", data := Data.seq #[Value.str "self" 534, Value.str "marks" 535] }) ::
  (nat_lit 264, { cls := Value.type "tuple", data := Data.seq #[] }) ::
  (nat_lit 266, { cls := Value.type "code", data := Data.fields #[Value.str "shows" 531, Value.str "Heavy.shows" 532, Value.str "/claim/cut.py" 533, Value.int 141 0, Value.int 2 0, Value.int 0 0, Value.int 0 0, Value.int 3 0, Value.ref 261, Value.bool true, Value.int 181 0, Value.ref 262, Value.none, Value.ref 263, Value.ref 264, Value.ref 265, Value.int 536 0, Value.int 141 0, Value.str "/claim/cut.py" 537] }) ::
  (nat_lit 267, { cls := Value.type "function", data := Data.func { name := "shows", qualname := "Heavy.shows", params := { posonlyargs := [], args := [{ arg := "self", annotation := none, pos := { line := 141, col := 14, endLine := 141, endCol := 18 } }, { arg := "marks", annotation := none, pos := { line := 141, col := 20, endLine := 141, endCol := 25 } }], vararg := none, kwonlyargs := [], kw_defaults := [], kwarg := none, defaults := [] }, body := FuncBody.stmts [Stmt.Expr ((Expr.Name "_wall" { line := 142, col := 8, endLine := 142, endCol := 13 }).Call [Expr.Constant (Const.int 0) 0 { line := 142, col := 14, endLine := 142, endCol := 15 }] [] { line := 142, col := 8, endLine := 142, endCol := 16 }) { line := 142, col := 8, endLine := 142, endCol := 16 }], scope := { kind := ScopeKind.function, names := [("self", NameKind.local), ("marks", NameKind.local), ("_wall", NameKind.globalImplicit)], isGenerator := false, isCoroutine := false }, globals := 3, closure := [], defaults := Value.none, kwdefaults := Value.none, pyModule := Value.str "oddcoin.answers" 489, code := Value.ref 266 } }) ::
  (nat_lit 268, { cls := Value.type "tuple", data := Data.seq #[Value.str "coin" 539] }) ::
  (nat_lit 269, { cls := Value.type "dict", data := Data.dict #[kd P "__module__" 518 (Value.str "oddcoin.answers" 489), kd P "__firstlineno__" 522 (Value.int 136 521), kd P "__init__" 530 (Value.ref 260), kd P "shows" 538 (Value.ref 267), kd P "__static_attributes__" 540 (Value.ref 268), kd P "__doc__" 541 Value.none] 2 }) ::
  (nat_lit 270, { cls := Value.type "type", data := Data.cls { name := "Heavy", bases := [Value.ref 242], mro := [Value.ref 270, Value.ref 242, Value.type "object"], ns := 269, qualname := "Heavy" }, slots := #[some (Value.ref 247), none, some (Value.str "Heavy" 511), some (Value.str "Heavy" 519), some (Value.builtin "object.__new__"), some (Value.bool true)] }) ::
  (nat_lit 273, { cls := Value.type "tuple", data := Data.seq #[Value.ref 242] }) ::
  (nat_lit 280, { cls := Value.type "tuple", data := Data.seq #[] }) ::
  (nat_lit 282, { cls := Value.type "tuple", data := Data.seq #[Value.str "self" 559, Value.str "coin" 560] }) ::
  (nat_lit 283, { cls := Value.type "tuple", data := Data.seq #[] }) ::
  (nat_lit 285, { cls := Value.type "code", data := Data.fields #[Value.str "__init__" 556, Value.str "Light.__init__" 557, Value.str "/claim/cut.py" 558, Value.int 145 0, Value.int 2 0, Value.int 0 0, Value.int 0 0, Value.int 3 0, Value.ref 280, Value.bool true, Value.int 181 0, Value.ref 281, Value.none, Value.ref 282, Value.ref 283, Value.ref 284, Value.int 561 0, Value.int 145 0, Value.str "/claim/cut.py" 562] }) ::
  (nat_lit 286, { cls := Value.type "function", data := Data.func { name := "__init__", qualname := "Light.__init__", params := { posonlyargs := [], args := [{ arg := "self", annotation := none, pos := { line := 145, col := 17, endLine := 145, endCol := 21 } }, { arg := "coin", annotation := none, pos := { line := 145, col := 23, endLine := 145, endCol := 27 } }], vararg := none, kwonlyargs := [], kw_defaults := [], kwarg := none, defaults := [] }, body := FuncBody.stmts [Stmt.Assign [(Expr.Name "self" { line := 146, col := 8, endLine := 146, endCol := 12 }).Attribute "coin" { line := 146, col := 8, endLine := 146, endCol := 17 }] (Expr.Name "coin" { line := 146, col := 20, endLine := 146, endCol := 24 }) { line := 146, col := 8, endLine := 146, endCol := 24 }], scope := { kind := ScopeKind.function, names := [("self", NameKind.local), ("coin", NameKind.local)], isGenerator := false, isCoroutine := false }, globals := 3, closure := [], defaults := Value.none, kwdefaults := Value.none, pyModule := Value.str "oddcoin.answers" 489, code := Value.ref 285 } }) ::
  (nat_lit 287, { cls := Value.type "tuple", data := Data.seq #[] }) ::
  (nat_lit 289, { cls := Value.type "tuple", data := Data.seq #[Value.str "self" 567, Value.str "marks" 568] }) ::
  (nat_lit 290, { cls := Value.type "tuple", data := Data.seq #[] }) ::
  (nat_lit 292, { cls := Value.type "code", data := Data.fields #[Value.str "shows" 564, Value.str "Light.shows" 565, Value.str "/claim/cut.py" 566, Value.int 148 0, Value.int 2 0, Value.int 0 0, Value.int 0 0, Value.int 3 0, Value.ref 287, Value.bool true, Value.int 181 0, Value.ref 288, Value.none, Value.ref 289, Value.ref 290, Value.ref 291, Value.int 569 0, Value.int 148 0, Value.str "/claim/cut.py" 570] }) ::
  (nat_lit 293, { cls := Value.type "function", data := Data.func { name := "shows", qualname := "Light.shows", params := { posonlyargs := [], args := [{ arg := "self", annotation := none, pos := { line := 148, col := 14, endLine := 148, endCol := 18 } }, { arg := "marks", annotation := none, pos := { line := 148, col := 20, endLine := 148, endCol := 25 } }], vararg := none, kwonlyargs := [], kw_defaults := [], kwarg := none, defaults := [] }, body := FuncBody.stmts [Stmt.Expr ((Expr.Name "_wall" { line := 149, col := 8, endLine := 149, endCol := 13 }).Call [Expr.Constant (Const.int 1) 0 { line := 149, col := 14, endLine := 149, endCol := 15 }] [] { line := 149, col := 8, endLine := 149, endCol := 16 }) { line := 149, col := 8, endLine := 149, endCol := 16 }], scope := { kind := ScopeKind.function, names := [("self", NameKind.local), ("marks", NameKind.local), ("_wall", NameKind.globalImplicit)], isGenerator := false, isCoroutine := false }, globals := 3, closure := [], defaults := Value.none, kwdefaults := Value.none, pyModule := Value.str "oddcoin.answers" 489, code := Value.ref 292 } }) ::
  (nat_lit 294, { cls := Value.type "tuple", data := Data.seq #[Value.str "coin" 572] }) ::
  (nat_lit 295, { cls := Value.type "dict", data := Data.dict #[kd P "__module__" 551 (Value.str "oddcoin.answers" 489), kd P "__firstlineno__" 555 (Value.int 143 554), kd P "__init__" 563 (Value.ref 286), kd P "shows" 571 (Value.ref 293), kd P "__static_attributes__" 573 (Value.ref 294), kd P "__doc__" 574 Value.none] 2 }) ::
  (nat_lit 296, { cls := Value.type "type", data := Data.cls { name := "Light", bases := [Value.ref 242], mro := [Value.ref 296, Value.ref 242, Value.type "object"], ns := 295, qualname := "Light" }, slots := #[some (Value.ref 273), none, some (Value.str "Light" 544), some (Value.str "Light" 552), some (Value.builtin "object.__new__"), some (Value.bool true)] }) ::
  (nat_lit 299, { cls := Value.type "tuple", data := Data.seq #[Value.ref 242] }) ::
  (nat_lit 306, { cls := Value.type "tuple", data := Data.seq #[] }) ::
  (nat_lit 308, { cls := Value.type "tuple", data := Data.seq #[Value.str "self" 592, Value.str "marks" 593] }) ::
  (nat_lit 309, { cls := Value.type "tuple", data := Data.seq #[] }) ::
  (nat_lit 311, { cls := Value.type "code", data := Data.fields #[Value.str "shows" 589, Value.str "Nothing.shows" 590, Value.str "/claim/cut.py" 591, Value.int 152 0, Value.int 2 0, Value.int 0 0, Value.int 0 0, Value.int 3 0, Value.ref 306, Value.bool true, Value.int 181 0, Value.ref 307, Value.none, Value.ref 308, Value.ref 309, Value.ref 310, Value.int 594 0, Value.int 152 0, Value.str "/claim/cut.py" 595] }) ::
  (nat_lit 312, { cls := Value.type "function", data := Data.func { name := "shows", qualname := "Nothing.shows", params := { posonlyargs := [], args := [{ arg := "self", annotation := none, pos := { line := 152, col := 14, endLine := 152, endCol := 18 } }, { arg := "marks", annotation := none, pos := { line := 152, col := 20, endLine := 152, endCol := 25 } }], vararg := none, kwonlyargs := [], kw_defaults := [], kwarg := none, defaults := [] }, body := FuncBody.stmts [Stmt.Expr ((Expr.Name "_wall" { line := 153, col := 8, endLine := 153, endCol := 13 }).Call [Expr.Constant (Const.int 2) 0 { line := 153, col := 14, endLine := 153, endCol := 15 }] [] { line := 153, col := 8, endLine := 153, endCol := 16 }) { line := 153, col := 8, endLine := 153, endCol := 16 }], scope := { kind := ScopeKind.function, names := [("self", NameKind.local), ("marks", NameKind.local), ("_wall", NameKind.globalImplicit)], isGenerator := false, isCoroutine := false }, globals := 3, closure := [], defaults := Value.none, kwdefaults := Value.none, pyModule := Value.str "oddcoin.answers" 489, code := Value.ref 311 } }) ::
  (nat_lit 313, { cls := Value.type "tuple", data := Data.seq #[] }) ::
  (nat_lit 314, { cls := Value.type "dict", data := Data.dict #[kd P "__module__" 584 (Value.str "oddcoin.answers" 489), kd P "__firstlineno__" 588 (Value.int 150 587), kd P "shows" 596 (Value.ref 312), kd P "__static_attributes__" 597 (Value.ref 313), kd P "__doc__" 598 Value.none] 2 }) ::
  (nat_lit 315, { cls := Value.type "type", data := Data.cls { name := "Nothing", bases := [Value.ref 242], mro := [Value.ref 315, Value.ref 242, Value.type "object"], ns := 314, qualname := "Nothing" }, slots := #[some (Value.ref 299), none, some (Value.str "Nothing" 577), some (Value.str "Nothing" 585), some (Value.builtin "object.__new__"), some (Value.bool true)] }) ::
  (nat_lit 318, { cls := Value.type "tuple", data := Data.seq #[Value.ref 242] }) ::
  (nat_lit 325, { cls := Value.type "tuple", data := Data.seq #[] }) ::
  (nat_lit 327, { cls := Value.type "tuple", data := Data.seq #[Value.str "self" 616, Value.str "left" 617, Value.str "right" 618, Value.str "many" 619] }) ::
  (nat_lit 328, { cls := Value.type "tuple", data := Data.seq #[] }) ::
  (nat_lit 330, { cls := Value.type "code", data := Data.fields #[Value.str "__init__" 613, Value.str "Open.__init__" 614, Value.str "/claim/cut.py" 615, Value.int 156 0, Value.int 4 0, Value.int 0 0, Value.int 0 0, Value.int 3 0, Value.ref 325, Value.bool true, Value.int 181 0, Value.ref 326, Value.none, Value.ref 327, Value.ref 328, Value.ref 329, Value.int 620 0, Value.int 156 0, Value.str "/claim/cut.py" 621] }) ::
  (nat_lit 331, { cls := Value.type "function", data := Data.func { name := "__init__", qualname := "Open.__init__", params := { posonlyargs := [], args := [{ arg := "self", annotation := none, pos := { line := 156, col := 17, endLine := 156, endCol := 21 } }, { arg := "left", annotation := none, pos := { line := 156, col := 23, endLine := 156, endCol := 27 } }, { arg := "right", annotation := none, pos := { line := 156, col := 29, endLine := 156, endCol := 34 } }, { arg := "many", annotation := none, pos := { line := 156, col := 36, endLine := 156, endCol := 40 } }], vararg := none, kwonlyargs := [], kw_defaults := [], kwarg := none, defaults := [] }, body := FuncBody.stmts [Stmt.Assign [(Expr.Name "self" { line := 157, col := 8, endLine := 157, endCol := 12 }).Attribute "left" { line := 157, col := 8, endLine := 157, endCol := 17 }] ((Expr.Name "list" { line := 157, col := 20, endLine := 157, endCol := 24 }).Call [Expr.Name "left" { line := 157, col := 25, endLine := 157, endCol := 29 }] [] { line := 157, col := 20, endLine := 157, endCol := 30 }) { line := 157, col := 8, endLine := 157, endCol := 30 }, Stmt.Assign [(Expr.Name "self" { line := 158, col := 8, endLine := 158, endCol := 12 }).Attribute "right" { line := 158, col := 8, endLine := 158, endCol := 18 }] ((Expr.Name "list" { line := 158, col := 21, endLine := 158, endCol := 25 }).Call [Expr.Name "right" { line := 158, col := 26, endLine := 158, endCol := 31 }] [] { line := 158, col := 21, endLine := 158, endCol := 32 }) { line := 158, col := 8, endLine := 158, endCol := 32 }, Stmt.Assign [(Expr.Name "self" { line := 159, col := 8, endLine := 159, endCol := 12 }).Attribute "many" { line := 159, col := 8, endLine := 159, endCol := 17 }] (Expr.Name "many" { line := 159, col := 20, endLine := 159, endCol := 24 }) { line := 159, col := 8, endLine := 159, endCol := 24 }], scope := { kind := ScopeKind.function, names := [("self", NameKind.local), ("left", NameKind.local), ("right", NameKind.local), ("many", NameKind.local), ("list", NameKind.globalImplicit)], isGenerator := false, isCoroutine := false }, globals := 3, closure := [], defaults := Value.none, kwdefaults := Value.none, pyModule := Value.str "oddcoin.answers" 489, code := Value.ref 330 } }) ::
  (nat_lit 332, { cls := Value.type "tuple", data := Data.seq #[] }) ::
  (nat_lit 334, { cls := Value.type "tuple", data := Data.seq #[Value.str "self" 626, Value.str "marks" 627] }) ::
  (nat_lit 335, { cls := Value.type "tuple", data := Data.seq #[] }) ::
  (nat_lit 337, { cls := Value.type "code", data := Data.fields #[Value.str "shows" 623, Value.str "Open.shows" 624, Value.str "/claim/cut.py" 625, Value.int 161 0, Value.int 2 0, Value.int 0 0, Value.int 0 0, Value.int 3 0, Value.ref 332, Value.bool true, Value.int 181 0, Value.ref 333, Value.none, Value.ref 334, Value.ref 335, Value.ref 336, Value.int 628 0, Value.int 161 0, Value.str "/claim/cut.py" 629] }) ::
  (nat_lit 338, { cls := Value.type "function", data := Data.func { name := "shows", qualname := "Open.shows", params := { posonlyargs := [], args := [{ arg := "self", annotation := none, pos := { line := 161, col := 14, endLine := 161, endCol := 18 } }, { arg := "marks", annotation := none, pos := { line := 161, col := 20, endLine := 161, endCol := 25 } }], vararg := none, kwonlyargs := [], kw_defaults := [], kwarg := none, defaults := [] }, body := FuncBody.stmts [Stmt.Expr ((Expr.Name "_wall" { line := 162, col := 8, endLine := 162, endCol := 13 }).Call [Expr.Constant (Const.int 3) 0 { line := 162, col := 14, endLine := 162, endCol := 15 }] [] { line := 162, col := 8, endLine := 162, endCol := 16 }) { line := 162, col := 8, endLine := 162, endCol := 16 }], scope := { kind := ScopeKind.function, names := [("self", NameKind.local), ("marks", NameKind.local), ("_wall", NameKind.globalImplicit)], isGenerator := false, isCoroutine := false }, globals := 3, closure := [], defaults := Value.none, kwdefaults := Value.none, pyModule := Value.str "oddcoin.answers" 489, code := Value.ref 337 } }) ::
  (nat_lit 339, { cls := Value.type "tuple", data := Data.seq #[Value.str "left" 631, Value.str "many" 632, Value.str "right" 633] }) ::
  (nat_lit 340, { cls := Value.type "dict", data := Data.dict #[kd P "__module__" 608 (Value.str "oddcoin.answers" 489), kd P "__firstlineno__" 612 (Value.int 154 611), kd P "__init__" 622 (Value.ref 331), kd P "shows" 630 (Value.ref 338), kd P "__static_attributes__" 634 (Value.ref 339), kd P "__doc__" 635 Value.none] 2 }) ::
  (nat_lit 341, { cls := Value.type "type", data := Data.cls { name := "Open", bases := [Value.ref 242], mro := [Value.ref 341, Value.ref 242, Value.type "object"], ns := 340, qualname := "Open" }, slots := #[some (Value.ref 318), none, some (Value.str "Open" 601), some (Value.str "Open" 609), some (Value.builtin "object.__new__"), some (Value.bool true)] }) ::
  (nat_lit 344, { cls := Value.type "tuple", data := Data.seq #[] }) ::
  (nat_lit 347, { cls := Value.type "code", data := Data.fields #[Value.str "coins_with" 640, Value.str "coins_with" 641, Value.str "/claim/cut.py" 642, Value.int 164 0, Value.int 2 0, Value.int 0 0, Value.int 0 0, Value.int 3 0, Value.ref 344, Value.bool true, Value.int 181 0, Value.ref 345, Value.none, Value.none, Value.none, Value.ref 346, Value.int 643 0, Value.int 164 0, Value.str "/claim/cut.py" 644] }) ::
  (nat_lit 348, { cls := Value.type "function", data := Data.func { name := "coins_with", qualname := "coins_with", params := defArgs (top 39), body := .stmts (defBody (top 39)), scope := defScope (top 39), globals := 3, closure := [], defaults := Value.none, kwdefaults := Value.none, pyModule := Value.str "oddcoin.telling" 638, code := Value.ref 347 } }) ::
  (nat_lit 349, { cls := Value.type "tuple", data := Data.seq #[] }) ::
  (nat_lit 351, { cls := Value.type "tuple", data := Data.seq #[Value.str "marks" 649, Value.str "pairs" 650, Value.str "alone" 651, Value.str "sign" 652, Value.str "coins" 653, Value.str "even" 654] }) ::
  (nat_lit 352, { cls := Value.type "tuple", data := Data.seq #[] }) ::
  (nat_lit 354, { cls := Value.type "code", data := Data.fields #[Value.str "paired_first" 646, Value.str "paired_first" 647, Value.str "/claim/cut.py" 648, Value.int 166 0, Value.int 1 0, Value.int 0 0, Value.int 0 0, Value.int 3 0, Value.ref 349, Value.bool true, Value.int 181 0, Value.ref 350, Value.none, Value.ref 351, Value.ref 352, Value.ref 353, Value.int 655 0, Value.int 166 0, Value.str "/claim/cut.py" 656] }) ::
  (nat_lit 355, { cls := Value.type "function", data := Data.func { name := "paired_first", qualname := "paired_first", params := defArgs (top 40), body := .stmts (defBody (top 40)), scope := defScope (top 40), globals := 3, closure := [], defaults := Value.none, kwdefaults := Value.none, pyModule := Value.str "oddcoin.telling" 638, code := Value.ref 354 } }) ::
  (nat_lit 356, { cls := Value.type "tuple", data := Data.seq #[] }) ::
  (nat_lit 358, { cls := Value.type "tuple", data := Data.seq #[Value.str "marks" 661, Value.str "most" 662] }) ::
  (nat_lit 359, { cls := Value.type "tuple", data := Data.seq #[] }) ::
  (nat_lit 361, { cls := Value.type "code", data := Data.fields #[Value.str "kept_off" 658, Value.str "kept_off" 659, Value.str "/claim/cut.py" 660, Value.int 175 0, Value.int 2 0, Value.int 0 0, Value.int 0 0, Value.int 3 0, Value.ref 356, Value.bool true, Value.int 181 0, Value.ref 357, Value.none, Value.ref 358, Value.ref 359, Value.ref 360, Value.int 663 0, Value.int 175 0, Value.str "/claim/cut.py" 664] }) ::
  (nat_lit 362, { cls := Value.type "function", data := Data.func { name := "kept_off", qualname := "kept_off", params := defArgs (top 41), body := .stmts (defBody (top 41)), scope := defScope (top 41), globals := 3, closure := [], defaults := Value.none, kwdefaults := Value.none, pyModule := Value.str "oddcoin.telling" 638, code := Value.ref 361 } }) ::
  (nat_lit 363, { cls := Value.type "tuple", data := Data.seq #[] }) ::
  (nat_lit 365, { cls := Value.type "tuple", data := Data.seq #[Value.str "marks" 669, Value.str "many" 670, Value.str "coins" 671, Value.str "on" 672, Value.str "left" 673, Value.str "right" 674] }) ::
  (nat_lit 366, { cls := Value.type "tuple", data := Data.seq #[] }) ::
  (nat_lit 368, { cls := Value.type "code", data := Data.fields #[Value.str "first_weighing" 666, Value.str "first_weighing" 667, Value.str "/claim/cut.py" 668, Value.int 177 0, Value.int 2 0, Value.int 0 0, Value.int 0 0, Value.int 3 0, Value.ref 363, Value.bool true, Value.int 181 0, Value.ref 364, Value.none, Value.ref 365, Value.ref 366, Value.ref 367, Value.int 675 0, Value.int 177 0, Value.str "/claim/cut.py" 676] }) ::
  (nat_lit 369, { cls := Value.type "function", data := Data.func { name := "first_weighing", qualname := "first_weighing", params := defArgs (top 42), body := .stmts (defBody (top 42)), scope := defScope (top 42), globals := 3, closure := [], defaults := Value.none, kwdefaults := Value.none, pyModule := Value.str "oddcoin.telling" 638, code := Value.ref 368 } }) ::
  (nat_lit 370, { cls := Value.type "tuple", data := Data.seq #[] }) ::
  (nat_lit 372, { cls := Value.type "tuple", data := Data.seq #[Value.str "marks" 681, Value.str "many" 682] }) ::
  (nat_lit 373, { cls := Value.type "tuple", data := Data.seq #[] }) ::
  (nat_lit 375, { cls := Value.type "code", data := Data.fields #[Value.str "told" 678, Value.str "told" 679, Value.str "/claim/cut.py" 680, Value.int 185 0, Value.int 1 0, Value.int 0 0, Value.int 0 0, Value.int 3 0, Value.ref 370, Value.bool true, Value.int 181 0, Value.ref 371, Value.none, Value.ref 372, Value.ref 373, Value.ref 374, Value.int 683 0, Value.int 185 0, Value.str "/claim/cut.py" 684] }) ::
  (nat_lit 376, { cls := Value.type "function", data := Data.func { name := "told", qualname := "told", params := defArgs (top 43), body := .stmts (defBody (top 43)), scope := defScope (top 43), globals := 3, closure := [], defaults := Value.none, kwdefaults := Value.none, pyModule := Value.str "oddcoin.telling" 638, code := Value.ref 375 } }) ::
  (nat_lit 377, { cls := Value.type "tuple", data := Data.seq #[] }) ::
  (nat_lit 380, { cls := Value.type "code", data := Data.fields #[Value.str "side_written" 694, Value.str "side_written" 695, Value.str "/claim/cut.py" 696, Value.int 198 0, Value.int 1 0, Value.int 0 0, Value.int 0 0, Value.int 3 0, Value.ref 377, Value.bool true, Value.int 181 0, Value.ref 378, Value.none, Value.none, Value.none, Value.ref 379, Value.int 697 0, Value.int 198 0, Value.str "/claim/cut.py" 698] }) ::
  (nat_lit 381, { cls := Value.type "function", data := Data.func { name := "side_written", qualname := "side_written", params := defArgs (top 48), body := .stmts (defBody (top 48)), scope := defScope (top 48), globals := 3, closure := [], defaults := Value.none, kwdefaults := Value.none, pyModule := Value.str "oddcoin.texts" 686, code := Value.ref 380 } }) ::
  (nat_lit 382, { cls := Value.type "tuple", data := Data.seq #[] }) ::
  (nat_lit 384, { cls := Value.type "tuple", data := Data.seq #[Value.str "left" 703, Value.str "right" 704] }) ::
  (nat_lit 385, { cls := Value.type "tuple", data := Data.seq #[] }) ::
  (nat_lit 387, { cls := Value.type "code", data := Data.fields #[Value.str "written" 700, Value.str "written" 701, Value.str "/claim/cut.py" 702, Value.int 200 0, Value.int 2 0, Value.int 0 0, Value.int 0 0, Value.int 3 0, Value.ref 382, Value.bool true, Value.int 181 0, Value.ref 383, Value.none, Value.ref 384, Value.ref 385, Value.ref 386, Value.int 705 0, Value.int 200 0, Value.str "/claim/cut.py" 706] }) ::
  (nat_lit 388, { cls := Value.type "function", data := Data.func { name := "written", qualname := "written", params := defArgs (top 49), body := .stmts (defBody (top 49)), scope := defScope (top 49), globals := 3, closure := [], defaults := Value.none, kwdefaults := Value.none, pyModule := Value.str "oddcoin.texts" 686, code := Value.ref 387 } }) ::
  (nat_lit 389, { cls := Value.type "tuple", data := Data.seq #[] }) ::
  (nat_lit 391, { cls := Value.type "tuple", data := Data.seq #[Value.str "_law_script" 713, Value.str "_law_k" 714] }) ::
  (nat_lit 392, { cls := Value.type "tuple", data := Data.seq #[] }) ::
  (nat_lit 394, { cls := Value.type "code", data := Data.fields #[Value.str "_law_cell_at" 710, Value.str "_law_cell_at" 711, Value.str "/claim/cut.py" 712, Value.int 206 0, Value.int 2 0, Value.int 0 0, Value.int 0 0, Value.int 3 0, Value.ref 389, Value.bool true, Value.int 181 0, Value.ref 390, Value.none, Value.ref 391, Value.ref 392, Value.ref 393, Value.int 715 0, Value.int 206 0, Value.str "/claim/cut.py" 716] }) ::
  (nat_lit 395, { cls := Value.type "function", data := Data.func { name := "_law_cell_at", qualname := "_law_cell_at", params := defArgs (top 51), body := .stmts (defBody (top 51)), scope := defScope (top 51), globals := 3, closure := [], defaults := Value.none, kwdefaults := Value.none, pyModule := Value.str "law_oddcoin_k06_refused" 708, code := Value.ref 394 } }) ::
  (nat_lit 396, { cls := Value.type "tuple", data := Data.seq #[] }) ::
  (nat_lit 398, { cls := Value.type "tuple", data := Data.seq #[Value.str "_law_cell" 721, Value.str "_law_k" 722, Value.str "_law_many" 723, Value.str "_law_primes" 724] }) ::
  (nat_lit 399, { cls := Value.type "tuple", data := Data.seq #[] }) ::
  (nat_lit 401, { cls := Value.type "code", data := Data.fields #[Value.str "_law_draw" 718, Value.str "_law_draw" 719, Value.str "/claim/cut.py" 720, Value.int 210 0, Value.int 3 0, Value.int 0 0, Value.int 0 0, Value.int 3 0, Value.ref 396, Value.bool true, Value.int 181 0, Value.ref 397, Value.none, Value.ref 398, Value.ref 399, Value.ref 400, Value.int 725 0, Value.int 210 0, Value.str "/claim/cut.py" 726] }) ::
  (nat_lit 402, { cls := Value.type "function", data := Data.func { name := "_law_draw", qualname := "_law_draw", params := defArgs (top 52), body := .stmts (defBody (top 52)), scope := defScope (top 52), globals := 3, closure := [], defaults := Value.none, kwdefaults := Value.none, pyModule := Value.str "law_oddcoin_k06_refused" 708, code := Value.ref 401 } }) ::
  (nat_lit 403, { cls := Value.type "tuple", data := Data.seq #[] }) ::
  (nat_lit 406, { cls := Value.type "code", data := Data.fields #[Value.str "_law_marks" 728, Value.str "_law_marks" 729, Value.str "/claim/cut.py" 730, Value.int 213 0, Value.int 1 0, Value.int 0 0, Value.int 0 0, Value.int 3 0, Value.ref 403, Value.bool true, Value.int 181 0, Value.ref 404, Value.none, Value.none, Value.none, Value.ref 405, Value.int 731 0, Value.int 213 0, Value.str "/claim/cut.py" 732] }) ::
  (nat_lit 407, { cls := Value.type "function", data := Data.func { name := "_law_marks", qualname := "_law_marks", params := defArgs (top 53), body := .stmts (defBody (top 53)), scope := defScope (top 53), globals := 3, closure := [], defaults := Value.none, kwdefaults := Value.none, pyModule := Value.str "law_oddcoin_k06_refused" 708, code := Value.ref 406 } }) ::
  (nat_lit 448, { cls := Value.type "tuple", data := Data.seq #[] }) ::
  (nat_lit 450, { cls := Value.type "tuple", data := Data.seq #[Value.str "_law_error" 794, Value.str "_law_found" 795] }) ::
  (nat_lit 451, { cls := Value.type "tuple", data := Data.seq #[] }) ::
  (nat_lit 453, { cls := Value.type "code", data := Data.fields #[Value.str "_law_kinds" 791, Value.str "_law_kinds" 792, Value.str "/claim/cut.py" 793, Value.int 254 0, Value.int 1 0, Value.int 0 0, Value.int 0 0, Value.int 3 0, Value.ref 448, Value.bool true, Value.int 181 0, Value.ref 449, Value.none, Value.ref 450, Value.ref 451, Value.ref 452, Value.int 796 0, Value.int 254 0, Value.str "/claim/cut.py" 797] }) ::
  (nat_lit 454, { cls := Value.type "function", data := Data.func { name := "_law_kinds", qualname := "_law_kinds", params := defArgs (top 60), body := .stmts (defBody (top 60)), scope := defScope (top 60), globals := 3, closure := [], defaults := Value.none, kwdefaults := Value.none, pyModule := Value.str "law_oddcoin_k06_refused" 708, code := Value.ref 453 } }) ::
  (nat_lit 455, { cls := Value.type "tuple", data := Data.seq #[] }) ::
  (nat_lit 457, { cls := Value.type "tuple", data := Data.seq #[Value.str "_law_door" 802, Value.str "_law_marks_here" 803] }) ::
  (nat_lit 458, { cls := Value.type "tuple", data := Data.seq #[] }) ::
  (nat_lit 460, { cls := Value.type "code", data := Data.fields #[Value.str "_law_with_marks" 799, Value.str "_law_with_marks" 800, Value.str "/claim/cut.py" 801, Value.int 258 0, Value.int 2 0, Value.int 0 0, Value.int 0 0, Value.int 3 0, Value.ref 455, Value.bool true, Value.int 181 0, Value.ref 456, Value.none, Value.ref 457, Value.ref 458, Value.ref 459, Value.int 804 0, Value.int 258 0, Value.str "/claim/cut.py" 805] }) ::
  (nat_lit 461, { cls := Value.type "function", data := Data.func { name := "_law_with_marks", qualname := "_law_with_marks", params := defArgs (top 61), body := .stmts (defBody (top 61)), scope := defScope (top 61), globals := 3, closure := [], defaults := Value.none, kwdefaults := Value.none, pyModule := Value.str "law_oddcoin_k06_refused" 708, code := Value.ref 460 } }) ::
  (nat_lit 462, { cls := Value.type "tuple", data := Data.seq #[] }) ::
  (nat_lit 464, { cls := Value.type "tuple", data := Data.seq #[Value.str "_law_marks_here" 810, Value.str "_law_pair" 811] }) ::
  (nat_lit 465, { cls := Value.type "tuple", data := Data.seq #[] }) ::
  (nat_lit 467, { cls := Value.type "code", data := Data.fields #[Value.str "_law_with_weighing" 807, Value.str "_law_with_weighing" 808, Value.str "/claim/cut.py" 809, Value.int 262 0, Value.int 2 0, Value.int 0 0, Value.int 0 0, Value.int 3 0, Value.ref 462, Value.bool true, Value.int 181 0, Value.ref 463, Value.none, Value.ref 464, Value.ref 465, Value.ref 466, Value.int 812 0, Value.int 262 0, Value.str "/claim/cut.py" 813] }) ::
  (nat_lit 468, { cls := Value.type "function", data := Data.func { name := "_law_with_weighing", qualname := "_law_with_weighing", params := defArgs (top 62), body := .stmts (defBody (top 62)), scope := defScope (top 62), globals := 3, closure := [], defaults := Value.none, kwdefaults := Value.none, pyModule := Value.str "law_oddcoin_k06_refused" 708, code := Value.ref 467 } }) ::
  (nat_lit 469, { cls := Value.type "tuple", data := Data.seq #[] }) ::
  (nat_lit 471, { cls := Value.type "tuple", data := Data.seq #[Value.str "_law_marks_here" 818, Value.str "_law_pair" 819] }) ::
  (nat_lit 472, { cls := Value.type "tuple", data := Data.seq #[] }) ::
  (nat_lit 474, { cls := Value.type "code", data := Data.fields #[Value.str "_law_with_judged" 815, Value.str "_law_with_judged" 816, Value.str "/claim/cut.py" 817, Value.int 264 0, Value.int 2 0, Value.int 0 0, Value.int 0 0, Value.int 3 0, Value.ref 469, Value.bool true, Value.int 181 0, Value.ref 470, Value.none, Value.ref 471, Value.ref 472, Value.ref 473, Value.int 820 0, Value.int 264 0, Value.str "/claim/cut.py" 821] }) ::
  (nat_lit 475, { cls := Value.type "function", data := Data.func { name := "_law_with_judged", qualname := "_law_with_judged", params := defArgs (top 63), body := .stmts (defBody (top 63)), scope := defScope (top 63), globals := 3, closure := [], defaults := Value.none, kwdefaults := Value.none, pyModule := Value.str "law_oddcoin_k06_refused" 708, code := Value.ref 474 } }) ::
  (nat_lit 476, { cls := Value.type "tuple", data := Data.seq #[] }) ::
  (nat_lit 478, { cls := Value.type "tuple", data := Data.seq #[Value.str "_law_coins" 826, Value.str "_law_pair" 827] }) ::
  (nat_lit 479, { cls := Value.type "tuple", data := Data.seq #[] }) ::
  (nat_lit 481, { cls := Value.type "code", data := Data.fields #[Value.str "_law_with_weighed" 823, Value.str "_law_with_weighed" 824, Value.str "/claim/cut.py" 825, Value.int 266 0, Value.int 2 0, Value.int 0 0, Value.int 0 0, Value.int 3 0, Value.ref 476, Value.bool true, Value.int 181 0, Value.ref 477, Value.none, Value.ref 478, Value.ref 479, Value.ref 480, Value.int 828 0, Value.int 266 0, Value.str "/claim/cut.py" 829] }) ::
  (nat_lit 482, { cls := Value.type "function", data := Data.func { name := "_law_with_weighed", qualname := "_law_with_weighed", params := defArgs (top 64), body := .stmts (defBody (top 64)), scope := defScope (top 64), globals := 3, closure := [], defaults := Value.none, kwdefaults := Value.none, pyModule := Value.str "law_oddcoin_k06_refused" 708, code := Value.ref 481 } }) ::
  (nat_lit 483, { cls := Value.type "tuple", data := Data.seq #[] }) ::
  (nat_lit 485, { cls := Value.type "tuple", data := Data.seq #[Value.str "_law_nothing" 834, Value.str "_law_pair" 835] }) ::
  (nat_lit 486, { cls := Value.type "tuple", data := Data.seq #[] }) ::
  (nat_lit 488, { cls := Value.type "code", data := Data.fields #[Value.str "_law_with_written" 831, Value.str "_law_with_written" 832, Value.str "/claim/cut.py" 833, Value.int 268 0, Value.int 2 0, Value.int 0 0, Value.int 0 0, Value.int 3 0, Value.ref 483, Value.bool true, Value.int 181 0, Value.ref 484, Value.none, Value.ref 485, Value.ref 486, Value.ref 487, Value.int 836 0, Value.int 268 0, Value.str "/claim/cut.py" 837] }) ::
  (nat_lit 489, { cls := Value.type "function", data := Data.func { name := "_law_with_written", qualname := "_law_with_written", params := defArgs (top 65), body := .stmts (defBody (top 65)), scope := defScope (top 65), globals := 3, closure := [], defaults := Value.none, kwdefaults := Value.none, pyModule := Value.str "law_oddcoin_k06_refused" 708, code := Value.ref 488 } }) ::
  (nat_lit 490, { cls := Value.type "tuple", data := Data.seq #[] }) ::
  (nat_lit 492, { cls := Value.type "tuple", data := Data.seq #[Value.str "_law_marks_here" 842, Value.str "_law_outcome" 843] }) ::
  (nat_lit 493, { cls := Value.type "tuple", data := Data.seq #[] }) ::
  (nat_lit 495, { cls := Value.type "code", data := Data.fields #[Value.str "_law_with_outcome" 839, Value.str "_law_with_outcome" 840, Value.str "/claim/cut.py" 841, Value.int 270 0, Value.int 2 0, Value.int 0 0, Value.int 0 0, Value.int 3 0, Value.ref 490, Value.bool true, Value.int 181 0, Value.ref 491, Value.none, Value.ref 492, Value.ref 493, Value.ref 494, Value.int 844 0, Value.int 270 0, Value.str "/claim/cut.py" 845] }) ::
  (nat_lit 496, { cls := Value.type "function", data := Data.func { name := "_law_with_outcome", qualname := "_law_with_outcome", params := defArgs (top 66), body := .stmts (defBody (top 66)), scope := defScope (top 66), globals := 3, closure := [], defaults := Value.none, kwdefaults := Value.none, pyModule := Value.str "law_oddcoin_k06_refused" 708, code := Value.ref 495 } }) ::
  (nat_lit 497, { cls := Value.type "tuple", data := Data.seq #[] }) ::
  (nat_lit 499, { cls := Value.type "tuple", data := Data.seq #[Value.str "_law_coins" 850, Value.str "_law_odd" 851] }) ::
  (nat_lit 500, { cls := Value.type "tuple", data := Data.seq #[] }) ::
  (nat_lit 502, { cls := Value.type "code", data := Data.fields #[Value.str "_law_with_coins" 847, Value.str "_law_with_coins" 848, Value.str "/claim/cut.py" 849, Value.int 272 0, Value.int 2 0, Value.int 0 0, Value.int 0 0, Value.int 3 0, Value.ref 497, Value.bool true, Value.int 181 0, Value.ref 498, Value.none, Value.ref 499, Value.ref 500, Value.ref 501, Value.int 852 0, Value.int 272 0, Value.str "/claim/cut.py" 853] }) ::
  (nat_lit 503, { cls := Value.type "function", data := Data.func { name := "_law_with_coins", qualname := "_law_with_coins", params := defArgs (top 67), body := .stmts (defBody (top 67)), scope := defScope (top 67), globals := 3, closure := [], defaults := Value.none, kwdefaults := Value.none, pyModule := Value.str "law_oddcoin_k06_refused" 708, code := Value.ref 502 } }) ::
  (nat_lit 504, { cls := Value.type "tuple", data := Data.seq #[] }) ::
  (nat_lit 506, { cls := Value.type "tuple", data := Data.seq #[Value.str "_law_coins" 858, Value.str "_law_heavy" 859] }) ::
  (nat_lit 507, { cls := Value.type "tuple", data := Data.seq #[] }) ::
  (nat_lit 509, { cls := Value.type "code", data := Data.fields #[Value.str "_law_with_truth" 855, Value.str "_law_with_truth" 856, Value.str "/claim/cut.py" 857, Value.int 274 0, Value.int 2 0, Value.int 0 0, Value.int 0 0, Value.int 3 0, Value.ref 504, Value.bool true, Value.int 181 0, Value.ref 505, Value.none, Value.ref 506, Value.ref 507, Value.ref 508, Value.int 860 0, Value.int 274 0, Value.str "/claim/cut.py" 861] }) ::
  (nat_lit 510, { cls := Value.type "function", data := Data.func { name := "_law_with_truth", qualname := "_law_with_truth", params := defArgs (top 68), body := .stmts (defBody (top 68)), scope := defScope (top 68), globals := 3, closure := [], defaults := Value.none, kwdefaults := Value.none, pyModule := Value.str "law_oddcoin_k06_refused" 708, code := Value.ref 509 } }) ::
  (nat_lit 511, { cls := Value.type "tuple", data := Data.seq #[] }) ::
  (nat_lit 513, { cls := Value.type "tuple", data := Data.seq #[Value.str "_law_ask" 866, Value.str "_law_one" 867, Value.str "_law_other" 868, Value.str "_law_error" 869] }) ::
  (nat_lit 514, { cls := Value.type "tuple", data := Data.seq #[] }) ::
  (nat_lit 516, { cls := Value.type "code", data := Data.fields #[Value.str "_law_told" 863, Value.str "_law_told" 864, Value.str "/claim/cut.py" 865, Value.int 276 0, Value.int 3 0, Value.int 0 0, Value.int 0 0, Value.int 3 0, Value.ref 511, Value.bool true, Value.int 181 0, Value.ref 512, Value.none, Value.ref 513, Value.ref 514, Value.ref 515, Value.int 870 0, Value.int 276 0, Value.str "/claim/cut.py" 871] }) ::
  (nat_lit 517, { cls := Value.type "function", data := Data.func { name := "_law_told", qualname := "_law_told", params := defArgs (top 69), body := .stmts (defBody (top 69)), scope := defScope (top 69), globals := 3, closure := [], defaults := Value.none, kwdefaults := Value.none, pyModule := Value.str "law_oddcoin_k06_refused" 708, code := Value.ref 516 } }) ::
  (nat_lit 518, { cls := Value.type "tuple", data := Data.seq #[] }) ::
  (nat_lit 521, { cls := Value.type "code", data := Data.fields #[Value.str "_law_all" 873, Value.str "_law_all" 874, Value.str "/claim/cut.py" 875, Value.int 282 0, Value.int 4 0, Value.int 0 0, Value.int 0 0, Value.int 3 0, Value.ref 518, Value.bool true, Value.int 181 0, Value.ref 519, Value.none, Value.none, Value.none, Value.ref 520, Value.int 876 0, Value.int 282 0, Value.str "/claim/cut.py" 877] }) ::
  (nat_lit 522, { cls := Value.type "function", data := Data.func { name := "_law_all", qualname := "_law_all", params := defArgs (top 70), body := .stmts (defBody (top 70)), scope := defScope (top 70), globals := 3, closure := [], defaults := Value.none, kwdefaults := Value.none, pyModule := Value.str "law_oddcoin_k06_refused" 708, code := Value.ref 521 } }) ::
  (nat_lit 523, { cls := Value.type "tuple", data := Data.seq #[] }) ::
  (nat_lit 525, { cls := Value.type "tuple", data := Data.seq #[Value.str "_law_marks_here" 882, Value.str "_law_coins" 883, Value.str "_law_due" 884, Value.str "_law_far" 885, Value.str "_law_pairs" 886, Value.str "_law_low" 887, Value.str "_law_more" 888, Value.str "_law_pair" 889] }) ::
  (nat_lit 526, { cls := Value.type "tuple", data := Data.seq #[] }) ::
  (nat_lit 528, { cls := Value.type "code", data := Data.fields #[Value.str "_law_weighings_right" 879, Value.str "_law_weighings_right" 880, Value.str "/claim/cut.py" 881, Value.int 284 0, Value.int 4 0, Value.int 0 0, Value.int 0 0, Value.int 3 0, Value.ref 523, Value.bool true, Value.int 181 0, Value.ref 524, Value.none, Value.ref 525, Value.ref 526, Value.ref 527, Value.int 890 0, Value.int 284 0, Value.str "/claim/cut.py" 891] }) ::
  (nat_lit 529, { cls := Value.type "function", data := Data.func { name := "_law_weighings_right", qualname := "_law_weighings_right", params := defArgs (top 71), body := .stmts (defBody (top 71)), scope := defScope (top 71), globals := 3, closure := [], defaults := Value.none, kwdefaults := Value.none, pyModule := Value.str "law_oddcoin_k06_refused" 708, code := Value.ref 528 } }) ::
  (nat_lit 530, { cls := Value.type "tuple", data := Data.seq #[] }) ::
  (nat_lit 532, { cls := Value.type "tuple", data := Data.seq #[Value.str "_law_script" 896, Value.str "_law_far" 897, Value.str "_law_due" 898, Value.str "_law_k" 899, Value.str "_law_marks_here" 900, Value.str "_law_coins" 901, Value.str "_law_at" 902, Value.str "_law_bad" 903, Value.str "_law_door" 904, Value.str "_law_thing" 905] }) ::
  (nat_lit 533, { cls := Value.type "tuple", data := Data.seq #[] }) ::
  (nat_lit 535, { cls := Value.type "code", data := Data.fields #[Value.str "law" 893, Value.str "law" 894, Value.str "/claim/cut.py" 895, Value.int 297 0, Value.int 1 0, Value.int 0 0, Value.int 0 0, Value.int 3 0, Value.ref 530, Value.bool true, Value.int 181 0, Value.ref 531, Value.none, Value.ref 532, Value.ref 533, Value.ref 534, Value.int 906 0, Value.int 297 0, Value.str "/claim/cut.py" 907] }) ::
  (nat_lit 536, { cls := Value.type "function", data := Data.func { name := "law", qualname := "law", params := defArgs (top 72), body := .stmts (defBody (top 72)), scope := defScope (top 72), globals := 3, closure := [], defaults := Value.none, kwdefaults := Value.none, pyModule := Value.str "law_oddcoin_k06_refused" 708, code := Value.ref 535 } }) :: []
def keysK : List Addr := [2, 3, 15, 17, 18, 20, 21, 22, 29, 30, 31, 32, 35, 42, 43, 44, 47, 54, 55, 56, 59, 66, 67, 68, 71, 78, 79, 80, 83, 90, 91, 92, 95, 102, 103, 104, 107, 108, 110, 111, 113, 114, 115, 117, 118, 120, 121, 122, 124, 125, 127, 128, 129, 131, 132, 134, 135, 136, 138, 139, 141, 142, 143, 145, 146, 148, 149, 150, 151, 153, 154, 156, 157, 158, 160, 161, 163, 164, 165, 167, 168, 170, 171, 172, 174, 175, 177, 178, 179, 181, 182, 184, 185, 186, 188, 189, 191, 192, 193, 195, 196, 198, 199, 200, 203, 204, 205, 207, 208, 210, 211, 212, 214, 215, 217, 218, 219, 221, 222, 224, 225, 226, 228, 229, 231, 232, 240, 241, 242, 243, 244, 247, 254, 256, 257, 259, 260, 261, 263, 264, 266, 267, 268, 269, 270, 273, 280, 282, 283, 285, 286, 287, 289, 290, 292, 293, 294, 295, 296, 299, 306, 308, 309, 311, 312, 313, 314, 315, 318, 325, 327, 328, 330, 331, 332, 334, 335, 337, 338, 339, 340, 341, 344, 347, 348, 349, 351, 352, 354, 355, 356, 358, 359, 361, 362, 363, 365, 366, 368, 369, 370, 372, 373, 375, 376, 377, 380, 381, 382, 384, 385, 387, 388, 389, 391, 392, 394, 395, 396, 398, 399, 401, 402, 403, 406, 407, 448, 450, 451, 453, 454, 455, 457, 458, 460, 461, 462, 464, 465, 467, 468, 469, 471, 472, 474, 475, 476, 478, 479, 481, 482, 483, 485, 486, 488, 489, 490, 492, 493, 495, 496, 497, 499, 500, 502, 503, 504, 506, 507, 509, 510, 511, 513, 514, 516, 517, 518, 521, 522, 523, 525, 526, 528, 529, 530, 532, 533, 535, 536]
def view : Program := { PySem.Challenge.pw_oddcoin_k06_refused with main := { PySem.Challenge.pw_oddcoin_k06_refused.main with body := [top 0, top 2, top 3, top 4, top 5, top 6, top 7, top 8, top 10, top 11, top 12, top 13, top 14, top 15, top 16, top 18, top 19, top 20, top 21, top 22, top 23, top 24, top 25, top 26, top 27, top 29, top 30, top 31, top 33, top 34, top 35, top 36, top 37, top 39, top 40, top 41, top 42, top 43, top 45, top 46, top 47, top 48, top 49, top 51, top 52, top 53, top 54, top 55, top 56, top 57, top 58, top 59, top 60, top 61, top 62, top 63, top 64, top 65, top 66, top 67, top 68, top 69, top 70, top 71, top 72] } }
theorem keysK_is : ∀ P, keysK = (KK P).map (·.1) := fun _ => by kernel_rfl
end Ks
namespace Ks
open PySem L2 PySem.W PyProof.Rows
noncomputable def T0 (P : Params) : BT := ((((((((((BT.nil.ins 0 (boot_o_0 P)).ins 1 (boot_o_1 P)).ins 2 (boot_o_2 P)).ins 3 (boot_o_3 P)).ins 4 (boot_o_4 P)).ins 5 (boot_o_5 P)).ins 6 (boot_o_6 P)).ins 7 (boot_o_7 P)).ins 8 (boot_o_8 P)).ins 9 (boot_o_9 P)).ins 10 (boot_o_10 P)
theorem T0_abs (P : Params) : absHeap (T0 P) 11 {} = boot_heap P := by kernel_rfl
theorem boot_size (P : Params) : ((boot_heap P).isNs mainGlobals, (boot_heap P).objs.size, (boot_heap P).nsMap mainGlobals "__annotations__") = (true, 11, some (.ref 6)) := by kernel_rfl
theorem top_of_segT {tb : String → Option Builtin} {p : Program} {w : World} {n₀ : Nat} {ann : Option Value} : ∀ {n : Nat} {s : SharedT} {t : Thread} {r : Flow × SharedT × Code × Pos}, segRunT tb p w n₀ ann 0 n s t = some r → topRun tb p w n₀ ann n s.abs t = some r.2.1.abs
  | 0, _, _, _, h => by cases h
  | n + 1, s, t, r, h => by
    unfold segRunT at h
    unfold topRun
    have th : through t = (endAt 0 t).isSome := by
      obtain ⟨cur, code, pos, stack⟩ := t
      unfold through endAt
      cases stack with
      | nil => cases cur <;> first | rfl | (rename_i x; cases x <;> rfl)
      | cons a l => rfl
    cases he : endAt 0 t with
    | some x => rw [he] at h th; rw [th]; cases h; rfl
    | none =>
      rw [he] at h th
      rw [th]
      cases hk : stepOk n₀ ann t with
      | false => rw [hk] at h; cases h
      | true =>
        rw [hk] at h
        cases hs : stepT (denote tb) p w s t with
        | none => rw [hs] at h; cases h
        | some y => obtain ⟨s₂, t₂⟩ := y; rw [hs] at h; rw [stepT_spec hs]; exact top_of_segT h
noncomputable def seenT (p q : Program) (loose : List Str) (Xt : Shared → Bool) (g0 : Bool) {α : Type} (Yf : Shared → α) (P : Params) (r : Flow × SharedT × Code × Pos) :=
  (staticsOk (importedModules p.main.body) (boot_heap P) r.2.1.abs.heap && namesBound p r.2.1.abs.heap && gensDone r.2.1.abs && laidKept (boot_heap P) r.2.1.abs.heap, openSeen q loose (importedModules p.main.body) Xt g0 r.2.1.abs, Yf r.2.1.abs)
theorem left_of {p q : Program} {loose : List Str} {Xt : Shared → Bool} {α : Type} {Yf : Shared → α} {Ya : World → α} {N : Nat} {g0 : Bool} (row : String)
    (op : ∀ w : World, (fencedOpening treeTable p w N).map (fun s => (s.heap, s.gens, s.drawn, s.toks)) = some (boot_heap w.params, Array.mk [], boot_drawn, boot_toks))
    (h0 : ∀ (w : World) (os : OsState), (segRunT treeTable p (w.withFollow row false) 11 (some (.ref 6)) 0 N ⟨T0 (w.withFollow row false).params, 11, {}, Array.mk [], boot_drawn, boot_toks, os⟩ (topStub p)).map (seenT p q loose Xt g0 Yf (w.withFollow row false).params) = some (true, openGood q loose, Ya (w.withFollow row false)))
    (h1 : ∀ (w : World) (os : OsState), (segRunT treeTable p (w.withFollow row true) 11 (some (.ref 6)) 0 N ⟨T0 (w.withFollow row true).params, 11, {}, Array.mk [], boot_drawn, boot_toks, os⟩ (topStub p)).map (seenT p q loose Xt g0 Yf (w.withFollow row true).params) = some (true, openGood q loose, Ya (w.withFollow row true))) : LeftO p q loose Xt Yf Ya N g0 := by
  have go : ∀ w : World, (∀ os, (segRunT treeTable p w 11 (some (.ref 6)) 0 N ⟨T0 w.params, 11, {}, Array.mk [], boot_drawn, boot_toks, os⟩ (topStub p)).map (seenT p q loose Xt g0 Yf w.params) = some (true, openGood q loose, Ya w)) →
      (openEnds treeTable p w N).map (fun s => (openSeen q loose (importedModules p.main.body) Xt g0 s, Yf s)) = some (openGood q loose, Ya w) := by
    intro w h
    obtain ⟨⟨hp, gs, d, k, os⟩, e, e'⟩ := Option.map_eq_some_iff.mp (op w)
    obtain ⟨rfl, rfl, rfl, rfl⟩ : hp = boot_heap w.params ∧ gs = Array.mk [] ∧ d = boot_drawn ∧ k = boot_toks := by simpa using e'
    obtain ⟨r, hr, hs⟩ := Option.map_eq_some_iff.mp (h os)
    unfold seenT at hs
    simp only [Prod.mk.injEq] at hs
    obtain ⟨c1, c2, c3⟩ := hs
    have z := boot_size w.params
    simp only [Prod.mk.injEq] at z
    obtain ⟨z1, z2, z3⟩ := z
    have t := top_of_segT hr
    have ab : (SharedT.abs ⟨T0 w.params, 11, {}, Array.mk [], boot_drawn, boot_toks, os⟩) = ⟨boot_heap w.params, Array.mk [], boot_drawn, boot_toks, os⟩ := by unfold SharedT.abs; rw [T0_abs]
    rw [ab] at t
    unfold openEnds
    rw [e]
    show (topFrom treeTable p w N _).map _ = _
    have tf : topFrom treeTable p w N ⟨boot_heap w.params, Array.mk [], boot_drawn, boot_toks, os⟩ = some r.2.1.abs := by
      unfold topFrom
      dsimp only
      rw [z1, z2, z3, t]
      show (match staticsOk (importedModules p.main.body) (boot_heap w.params) r.2.1.abs.heap && namesBound p r.2.1.abs.heap && gensDone r.2.1.abs && laidKept (boot_heap w.params) r.2.1.abs.heap with | true => _ | false => _) = _
      rw [c1]
    rw [tf]
    exact congrArg some (Prod.ext c2 c3)
  intro w
  have e := World.withFollow_self w row
  cases hb : w.params.followText row <;> rw [hb] at e
  · have := go _ (h0 w)
    rw [e] at this
    exact this
  · have := go _ (h1 w)
    rw [e] at this
    exact this
end Ks
namespace Ks
open PySem L2 PySem.W PyProof.Rows
theorem left_false : ∀ (w : World) (os : OsState), (segRunT treeTable PySem.Challenge.pw_oddcoin_k06_refused (w.withFollow "special-get-raises" false) 11 (some (.ref 6)) 0 8864 ⟨T0 (w.withFollow "special-get-raises" false).params, 11, {}, Array.mk [], boot_drawn, boot_toks, os⟩ (topStub PySem.Challenge.pw_oddcoin_k06_refused)).map (seenT PySem.Challenge.pw_oddcoin_k06_refused view ["OTHER"] (fun s => xlAt view [] s && recOk (RowW.records (OpenRow.toRowW (PySem.Challenge.rw_oddcoin_k06_refused).row)) s) true (Hook.obs (kHook KK keysK keysK_is)) (w.withFollow "special-get-raises" false).params) = some (true, openGood view ["OTHER"], Hook.val (kHook KK keysK keysK_is) (w.withFollow "special-get-raises" false)) := by
  intro w os
  unfold seenT
  rw [PySem.W.Fast.te10110043849684766642, PySem.W.Fast.te4187177175401517315, PySem.W.Fast.te14364793385576792824]
  kernel_rfl
theorem left_true : ∀ (w : World) (os : OsState), (segRunT treeTable PySem.Challenge.pw_oddcoin_k06_refused (w.withFollow "special-get-raises" true) 11 (some (.ref 6)) 0 8864 ⟨T0 (w.withFollow "special-get-raises" true).params, 11, {}, Array.mk [], boot_drawn, boot_toks, os⟩ (topStub PySem.Challenge.pw_oddcoin_k06_refused)).map (seenT PySem.Challenge.pw_oddcoin_k06_refused view ["OTHER"] (fun s => xlAt view [] s && recOk (RowW.records (OpenRow.toRowW (PySem.Challenge.rw_oddcoin_k06_refused).row)) s) true (Hook.obs (kHook KK keysK keysK_is)) (w.withFollow "special-get-raises" true).params) = some (true, openGood view ["OTHER"], Hook.val (kHook KK keysK keysK_is) (w.withFollow "special-get-raises" true)) := by
  intro w os
  unfold seenT
  rw [PySem.W.Fast.te10110043849684766642, PySem.W.Fast.te4187177175401517315, PySem.W.Fast.te14364793385576792824]
  kernel_rfl
theorem boot : ∀ w : World, (fencedOpening treeTable PySem.Challenge.pw_oddcoin_k06_refused w 8864).map (fun s => (s.heap, s.gens, s.drawn, s.toks)) = some (boot_heap w.params, Array.mk [], boot_drawn, boot_toks) :=
  boot_open (by kernel_rfl) (by decide) (fun _ => by kernel_rfl)
theorem leftO : LeftO PySem.Challenge.pw_oddcoin_k06_refused view ["OTHER"] (fun s => xlAt view [] s && recOk (RowW.records (OpenRow.toRowW (PySem.Challenge.rw_oddcoin_k06_refused).row)) s) (Hook.obs (kHook KK keysK keysK_is)) (Hook.val (kHook KK keysK keysK_is)) 8864 :=
  left_of "special-get-raises" boot left_false left_true
end Ks
end
section
namespace SetX
open PySem
theorem getD_nat (xs : Array Nat) (i d : Nat) (h : i < xs.size) : xs.getD i d = xs[i] := by simp [Array.getD, h]
def Rise (xs : Array Nat) : Prop := ∀ a b, a < b → b < xs.size → xs.getD a 0 < xs.getD b 0
theorem rise_iff (xs : Array Nat) : Rise xs ↔ xs.toList.Pairwise (· < ·) := by
  rw [List.pairwise_iff_getElem]
  constructor
  · intro h i j hi hj hij
    have hj' : j < xs.size := by simpa using hj
    have hi' : i < xs.size := by simpa using hi
    have := h i j hij hj'
    rw [getD_nat xs i 0 hi', getD_nat xs j 0 hj'] at this
    simpa using this
  · intro h a b hab hb
    have ha : a < xs.size := by omega
    rw [getD_nat xs a 0 ha, getD_nat xs b 0 hb]
    have := h a b (by simpa using ha) (by simpa using hb) hab
    simpa using this
theorem below_go {xs : Array Nat} (R : Rise xs) (j : Nat) : ∀ (fuel lo hi : Nat), hi - lo ≤ fuel → lo ≤ hi → hi ≤ xs.size → (∀ i, i < lo → xs.getD i 0 < j) → (∀ i, hi ≤ i → i < xs.size → j ≤ xs.getD i 0) →
    let p := SetTable.below.go xs j fuel lo hi
    p ≤ xs.size ∧ (∀ i, i < p → xs.getD i 0 < j) ∧ (∀ i, p ≤ i → i < xs.size → j ≤ xs.getD i 0)
  | 0, lo, hi, h1, h2, h3, h4, h5 => by
    have e : lo = hi := by omega
    subst e
    exact ⟨h3, h4, h5⟩
  | fuel + 1, lo, hi, h1, h2, h3, h4, h5 => by
    show let p := SetTable.below.go xs j (fuel + 1) lo hi; _
    unfold SetTable.below.go
    by_cases hlt : lo < hi
    · rw [if_pos hlt]
      have hm : (lo + hi) / 2 < hi := by omega
      have hm2 : lo ≤ (lo + hi) / 2 := by omega
      have hms : (lo + hi) / 2 < xs.size := by omega
      have eg : xs.getD ((lo + hi) / 2) j = xs.getD ((lo + hi) / 2) 0 := by rw [getD_nat xs _ j hms, getD_nat xs _ 0 hms]
      dsimp only
      rw [eg]
      by_cases hc : xs.getD ((lo + hi) / 2) 0 < j
      · rw [if_pos hc]
        refine below_go R j fuel _ hi (by omega) (by omega) h3 (fun i hi' => ?_) h5
        by_cases e : i = (lo + hi) / 2
        · rw [e]; exact hc
        · exact Nat.lt_trans (R i ((lo + hi) / 2) (by omega) hms) hc
      · rw [if_neg hc]
        refine below_go R j fuel lo _ (by omega) hm2 (by omega) h4 fun i hi' hsz => ?_
        by_cases e : i = (lo + hi) / 2
        · rw [e]; omega
        · have := R ((lo + hi) / 2) i (by omega) hsz
          omega
    · rw [if_neg hlt]
      have e : lo = hi := by omega
      subst e
      exact ⟨h3, h4, h5⟩
theorem below_spec {xs : Array Nat} (R : Rise xs) (j : Nat) : SetTable.below xs j ≤ xs.size ∧ (∀ i, i < SetTable.below xs j → xs.getD i 0 < j) ∧ (∀ i, SetTable.below xs j ≤ i → i < xs.size → j ≤ xs.getD i 0) :=
  below_go R j xs.size 0 xs.size (by omega) (Nat.zero_le _) (Nat.le_refl _) (fun i h => absurd h (Nat.not_lt_zero _)) fun i h1 h2 => absurd h2 (by omega)
theorem not_live {xs : Array Nat} (R : Rise xs) {j : Nat} (h : ¬ xs[SetTable.below xs j]? = some j) : ∀ i, i < xs.size → xs.getD i 0 ≠ j := by
  intro i hi e
  obtain ⟨h1, h2, h3⟩ := below_spec R j
  by_cases c : i < SetTable.below xs j
  · have := h2 i c; omega
  · by_cases c2 : i = SetTable.below xs j
    · apply h
      rw [← c2, Array.getElem?_eq_getElem hi, ← e, getD_nat xs i 0 hi]
    · have h4 := h3 (SetTable.below xs j) (Nat.le_refl _) (by omega)
      have := R (SetTable.below xs j) i (by omega) hi
      omega
theorem insert_rise {xs : Array Nat} (R : Rise xs) {j : Nat} (hn : ∀ i, i < xs.size → xs.getD i 0 ≠ j) : Rise (SetTable.insertAt xs (SetTable.below xs j) j) := by
  rw [rise_iff, SetTable.toList_insertAt]
  obtain ⟨h1, h2, h3⟩ := below_spec R j
  have RL := (rise_iff xs).mp R
  refine List.pairwise_append.mpr ⟨RL.sublist (List.take_sublist _ _), List.pairwise_cons.mpr ⟨fun y hy => ?_, RL.sublist (List.drop_sublist _ _)⟩, fun x hx y hy => ?_⟩
  · obtain ⟨i, hi, rfl⟩ := List.mem_iff_getElem.mp hy
    rw [List.getElem_drop]
    have hi' : SetTable.below xs j + i < xs.size := by
      rw [List.length_drop] at hi; simp at hi; omega
    have a := h3 (SetTable.below xs j + i) (by omega) hi'
    have b := hn (SetTable.below xs j + i) hi'
    rw [getD_nat xs _ 0 hi'] at a b
    simp only [Array.getElem_toList]
    omega
  · have hx' : x < j := by
      obtain ⟨i, hi, rfl⟩ := List.mem_iff_getElem.mp hx
      rw [List.getElem_take]
      rw [List.length_take] at hi
      have hi1 : i < SetTable.below xs j := by omega
      have hi2 : i < xs.size := by simp at hi; omega
      have a := h2 i hi1
      rw [getD_nat xs _ 0 hi2] at a
      simpa using a
    rcases List.mem_cons.mp hy with e | hy
    · rw [e]; exact hx'
    · have hy' : j ≤ y := by
        obtain ⟨i, hi, rfl⟩ := List.mem_iff_getElem.mp hy
        rw [List.getElem_drop]
        have hi' : SetTable.below xs j + i < xs.size := by
          rw [List.length_drop] at hi; simp at hi; omega
        have a := h3 (SetTable.below xs j + i) (by omega) hi'
        rw [getD_nat xs _ 0 hi'] at a
        simpa using a
      omega
theorem probe_go {t : SetTable} {hashAt : Nat → Int} {h : Int} : ∀ (fuel : Nat) (p : SetTable.Probe) {j : Nat} {dm : Option Nat}, (∀ d, p.dummy = some d → t.slot d = .dummy) → SetTable.probe.go t hashAt h fuel p = some (.empty j dm) →
    t.slot j = .empty ∧ ∀ d, dm = some d → t.slot d = .dummy
  | 0, p, j, dm, _, e => by simp [SetTable.probe.go] at e
  | fuel + 1, p, j, dm, hd, e => by
    unfold SetTable.probe.go at e
    have adv : ∀ q : SetTable.Probe, (t.advance q).dummy = q.dummy := fun q => by unfold SetTable.advance; split <;> rfl
    cases q : t.slot p.j with
    | empty =>
      rw [q] at e
      have e' := Option.some.inj e
      injection e' with e1 e2
      subst e1 e2
      exact ⟨q, hd⟩
    | dummy =>
      rw [q] at e
      refine probe_go fuel _ (fun d z => ?_) e
      rw [adv] at z
      have z' : some p.j = some d := z
      cases z'
      exact q
    | live i =>
      rw [q] at e
      dsimp only at e
      split at e
      · cases e
      · exact probe_go fuel _ (fun d z => by rw [adv] at z; exact hd d z) e
structure TabOk (b : Bool) (t : SetTable) : Prop where
  led : t.led = b
  rise : Rise t.place
theorem range_rise (n : Nat) : Rise (Array.range n) := by
  intro a c hac hc
  simp only [Array.size_range] at hc
  rw [getD_nat _ a 0 (by simp; omega), getD_nat _ c 0 (by simpa using hc)]
  simpa using hac
theorem standIn_ok {b : Bool} {t : SetTable} (h : TabOk b t) (n : Nat) : TabOk b (t.standIn n) := ⟨h.led, range_rise n⟩
theorem orStandIn_ok {b : Bool} {t : SetTable} (h : TabOk b t) (n : Nat) : TabOk b (t.orStandIn n) := by
  unfold SetTable.orStandIn
  split
  · exact h
  · exact standIn_ok h n
theorem slot_free {t : SetTable} {j : Nat} (h : t.slot j = .empty ∨ t.slot j = .dummy) : ¬ t.place[SetTable.below t.place j]? = some j := by
  intro e
  unfold SetTable.slot at h
  simp [e] at h
theorem layNew_ok {b : Bool} {t : SetTable} (h : TabOk b t) (es : Array (Int × Value)) (k : Int) (x : Value) : TabOk b (layNew t es k x).2.1 := by
  unfold layNew
  split
  · rename_i slot wd e
    dsimp only
    refine orStandIn_ok (t := (t.put slot).1) ⟨h.led, ?_⟩ _
    show Rise (SetTable.insertAt t.place (SetTable.below t.place slot) slot)
    refine insert_rise h.rise (not_live h.rise (slot_free ?_))
    unfold SetTable.freeSlot SetTable.probe at e
    split at e
    · rename_i j dm q
      obtain ⟨h1, h2⟩ := probe_go _ _ (fun d z => by cases z) q
      have e' := Option.some.inj e
      have e1 : dm.getD j = slot := congrArg Prod.fst e'
      cases dm with
      | none => exact .inl (e1 ▸ h1)
      | some d => exact .inr (by have z : d = slot := e1; rw [← z]; exact h2 d rfl)
    · cases e
  · exact standIn_ok h _
theorem laid_ok {mask fg mv : Nat} {led plain : Bool} {hs : Array Int} {t : SetTable} {ord : Array Nat} (e : SetTable.laid mask fg mv led plain hs = some (t, ord)) : TabOk led t := by
  unfold SetTable.laid at e
  cases q : SetTable.layClean mask hs with
  | none => rw [q] at e; cases e
  | some owner =>
    rw [q] at e
    have e' := congrArg Prod.fst (Option.some.inj e)
    have e'' : ({ mask, place := (((List.range (mask + 1)).filterMap fun j => (owner.getD j none).map (j, ·)).map (·.1)).toArray, dummies := #[], finger := fg, led, moves := mv, plain } : SetTable) = t := e'
    subst e''
    refine ⟨rfl, ?_⟩
    rw [rise_iff]
    show List.Pairwise (· < ·) (((List.range (mask + 1)).filterMap fun j => (owner.getD j none).map (j, ·)).map (·.1))
    rw [List.pairwise_map]
    refine List.Pairwise.filterMap _ (fun a a' haa b hb b' hb' => ?_) (List.pairwise_lt_range)
    cases qa : owner.getD a none with
    | none => rw [qa] at hb; cases hb
    | some u =>
      rw [qa] at hb
      cases qb : owner.getD a' none with
      | none => rw [qb] at hb'; cases hb'
      | some v =>
        rw [qb] at hb'
        have z1 : (a, u) = b := Option.some.inj hb
        have z2 : (a', v) = b' := Option.some.inj hb'
        rw [← z1, ← z2]
        exact haa
theorem relayAll_ok {b : Bool} {t : SetTable} (h : TabOk b t) (es : Array (Int × Value)) (wanted : Nat) : TabOk b (relayAll t es wanted).2.1 := by
  unfold relayAll
  split
  · rename_i t' order e
    dsimp only
    split
    · unfold SetTable.relaid at e
      have := laid_ok e
      rw [h.led] at this
      exact this
    · exact standIn_ok h _
  · exact standIn_ok h _
end SetX
namespace SetX
open PySem
def ledOf (w : World) : Bool := !(w.params.followText "set-order")
def val (e : Int × Value) : Int := match e.2 with | .int n _ => n | _ => 0
def Ent (l : List (Int × Value)) : Prop := ∀ e ∈ l, ∃ n t, e = (hashInt n, Value.int n t)
def SetAt (w : World) (h : Heap) (a : Addr) (ns : List Int) : Prop :=
  ∃ o es ep t, h.get? a = some o ∧ o.ExactSet ∧ o.data = .set es ep t ∧ Ent es.toList ∧ es.toList.map val = ns ∧ ns.Nodup ∧ ns.length < scanBound ∧ t.fits es.size = true ∧ TabOk (ledOf w) t
theorem SetAt.keeps {w : World} {h h' : Heap} {a : Addr} {ns : List Int} (S : SetAt w h a ns) (k : ∀ o, h.get? a = some o → h'.get? a = some o) : SetAt w h' a ns := by
  obtain ⟨o, es, ep, t, ho, r⟩ := S
  exact ⟨o, es, ep, t, k o ho, r⟩
theorem Ent.elems {prog : Program} {w : World} {l : List (Int × Value)} (h : Ent l) : ElemsOf (intKind prog w) l := fun e he => by
  obtain ⟨n, t, rfl⟩ := h e he
  exact ⟨⟨n, intKind_is prog w n t, rfl⟩, rfl⟩
theorem is_val {prog : Program} {w : World} {e : Int × Value} (h : ∃ n t, e = (hashInt n, Value.int n t)) (k : Int) : (intKind prog w).is k e.2 = decide (k = val e) := by
  obtain ⟨n, t, rfl⟩ := h
  show Value.isInt k (Value.int n t) = decide (k = n)
  unfold Value.isInt
  by_cases e : k = n
  · subst e; simp
  · have e' : ¬ n = k := fun z => e z.symm
    simp [e, e']
theorem Ent.perm {l l' : List (Int × Value)} (h : Ent l) (p : List.Perm l' l) : Ent l' := fun e he => h e (p.mem_iff.mp he)
theorem Ent.snoc {l : List (Int × Value)} (h : Ent l) (k : Int) (t : Tok) : Ent (l ++ [(hashInt k, Value.int k t)]) := fun e he => by
  rcases List.mem_append.mp he with z | z
  · exact h e z
  · have z' : e = (hashInt k, Value.int k t) := by simpa using z
    exact ⟨k, t, z'⟩
theorem find_none {prog : Program} {w : World} {l : List (Int × Value)} (h : Ent l) {k : Int} : l.findIdx? (fun e => (intKind prog w).is k e.2) = none ↔ k ∉ l.map val := by
  rw [List.findIdx?_eq_none_iff]
  constructor
  · intro q hm
    obtain ⟨e, he, rfl⟩ := List.mem_map.mp hm
    have := q e he
    rw [is_val (h e he)] at this
    simp at this
  · intro q e he
    rw [is_val (h e he)]
    refine decide_eq_false fun z => q ?_
    rw [z]
    exact List.mem_map.mpr ⟨e, he, rfl⟩
section
variable {prog : Program} {w : World} {A : Around} {E : Value → Shared → Prop} {s : Shared} {a : Addr} {ns : List Int} {k : Int} {tk : Tok}
theorem fits_line {n : Nat} (h : n < scanBound) : n ≤ sizeLine := by
  have h1 : scanBound = 4096 := rfl
  rw [h1] at h; rw [sizeLine_eq]; omega
theorem store_at {h : Heap} {o : Obj} {es es' : Array (Int × Value)} {ep : Nat} {t t' : SetTable} (ho : h.get? a = some o) (hd : o.data = .set es ep t) :
    (h.update a (Obj.putSet es' t')).get? a = some { o with data := .set es' (ep + 1) t' } := by
  have z := Heap.get?_update_self (Obj.putSet es' t') ho (by rw [putSet_of es' t' hd]; rfl)
  rw [putSet_of es' t' hd] at z; exact z
theorem find_int {x : Value} (hx : x = .int k tk) {Q : Option Nat → Shared → Prop} (hS : SetAt w s.heap a ns) (h : ∀ r : Option Nat, r.isSome = decide (k ∈ ns) → Q r s) : wpAny (model prog w) A (setFind a x (hashInt k)) Q E s := by
  subst hx
  obtain ⟨o, es, ep, t, ho, hex, hd, he, rfl, hn, hb, hf, ht⟩ := hS
  have hz : es.size < scanBound := by simpa using hb
  unfold setFind setFindIn
  refine wpAny_bind (wpAny_setState_of ho hd hf ?_); dsimp only
  rw [byScan_of (knd := intKind prog w) rfl hz he.elems]; simp only [↓reduceIte]; refine wpAny_bind (wpAny_rule ?_)
  refine wpAny_bind (wpAny_setScan_of (knd := intKind prog w) (k := k) (intKind_is prog w k tk) ho hd hf he.elems ?_)
  cases hr : List.findIdx? (fun e => (intKind prog w).is k e.2) es.toList with
  | none =>
    dsimp only
    refine wpAny_pure (h none ?_)
    have := (find_none he).mp hr
    rw [decide_eq_false this]; rfl
  | some j =>
    dsimp only
    refine wpAny_pure (h (some (0 + j)) ?_)
    have : k ∈ es.toList.map val := by
      refine Decidable.byContradiction fun z => ?_
      rw [(find_none (prog := prog) (w := w) he).mpr z] at hr
      cases hr
    rw [decide_eq_true this]; rfl
theorem add_int {x : Value} (hx : x = .int k tk) {Q : Bool → Shared → Prop} (hS : SetAt w s.heap a ns) (hroom : ns.length + 1 < scanBound)
    (h : ∀ h' ns', Heap.SameBut a s.heap h' → SetAt w h' a ns' → (∀ y, y ∈ ns' ↔ y ∈ ns ∨ y = k) → ns'.length ≤ ns.length + 1 → Q (!decide (k ∈ ns)) { s with heap := h' }) : wpAny (model prog w) A (setAddHashed a x (hashInt k)) Q E s := by
  subst hx
  obtain ⟨o, es, ep, t, ho, hex, hd, he, rfl, hn, hb, hf, ht⟩ := hS
  have hz : es.size < scanBound := by simpa using hb
  have hz1 : es.size + 1 < scanBound := by simpa using hroom
  have ie : (es.toList.map val).length = es.size := by simp
  unfold setAddHashed setAddHashedIn; refine wpAny_holding (wpAny_bind (wpAny_setState_of ho hd hf ?_)); dsimp only
  rw [byScan_of (knd := intKind prog w) rfl hz he.elems]; simp only [↓reduceIte]
  unfold setAddByScan; refine wpAny_bind ?_; refine wpAny_bind (wpAny_rule ?_)
  refine wpAny_bind (wpAny_setScan_of (knd := intKind prog w) (k := k) (intKind_is prog w k tk) ho hd hf he.elems ?_)
  cases hr : List.findIdx? (fun e => (intKind prog w).is k e.2) es.toList with
  | some j =>
    have hk : k ∈ es.toList.map val := by
      refine Decidable.byContradiction fun z => ?_
      rw [(find_none (prog := prog) (w := w) he).mpr z] at hr
      cases hr
    dsimp only
    refine wpAny_pure (wpAny_pure ?_)
    have q := h s.heap (es.toList.map val) (Heap.SameBut.refl a s.heap) ⟨o, es, ep, t, ho, hex, hd, he, rfl, hn, hb, hf, ht⟩ (fun y => ⟨.inl, fun z => z.elim id fun z => z ▸ hk⟩) (Nat.le_succ _)
    rw [decide_eq_true hk] at q
    exact q
  | none =>
    have hk : k ∉ es.toList.map val := (find_none he).mp hr
    dsimp only
    have hgw : ∀ (c : Bool) {s₁ : Shared} {Q' : Unit → Shared → Prop}, Q' () s₁ → wpAny (model prog w) A (match c with | true => rule "set.scan.the-table-gave-way" | false => pure ()) Q' E s₁ := fun c s₁ Q' hq => by
      cases c <;> first | exact wpAny_pure hq | exact wpAny_rule hq
    have hperm := layNew_perm t es (hashInt k) (.int k tk)
    have hfits := layNew_fits t es (hashInt k) (.int k tk)
    have hok := layNew_ok ht es (hashInt k) (.int k tk)
    generalize hL : layNew t es (hashInt k) (.int k tk) = L at hperm hfits hok ⊢
    have hL' : layNew t es ((intKind prog w).hash k) (.int k tk) = L := hL
    obtain ⟨es1, t1, wd, gave⟩ := L
    first | rw [hL'] | skip
    dsimp only at hperm hfits hok ⊢
    rw [Array.toList_push] at hperm
    have he1 : Ent es1.toList := (he.snoc k tk).perm hperm
    have mem1 : ∀ y, y ∈ es1.toList.map val ↔ y ∈ es.toList.map val ∨ y = k := fun y => by
      rw [(hperm.map val).mem_iff, List.map_append, List.mem_append]
      show _ ∨ y ∈ [k] ↔ _
      rw [List.mem_singleton]
    have nd1 : (es1.toList.map val).Nodup := by
      refine (hperm.map val).nodup_iff.mpr ?_
      rw [List.map_append]
      refine List.nodup_append.mpr ⟨hn, by simp, fun p hp q hq z => ?_⟩
      have hq' : q = k := by simpa [val] using hq
      exact hk (hq' ▸ z ▸ hp)
    have sz1 : es1.size = es.size + 1 := by
      have := hperm.length_eq
      simpa using this
    have hb1 : (es1.toList.map val).length < scanBound := by simpa [sz1] using hz1
    have hend : ∀ h', Heap.SameBut a s.heap h' → ∀ es2 : Array (Int × Value), SetAt w h' a (es2.toList.map val) → List.Perm es2.toList es1.toList → Q true { s with heap := h' } := fun h' sb es2 S2 p2 => by
      have q := h h' (es2.toList.map val) sb S2 (fun y => by rw [(p2.map val).mem_iff]; exact mem1 y) (by rw [(p2.map val).length_eq]; simp [sz1])
      rw [decide_eq_false hk] at q
      exact q
    have tail : ∀ t2 : SetTable, t2.fits es1.size = true → TabOk (ledOf w) t2 → ∀ R : Option Bool → Shared → Prop, (∀ h', Heap.SameBut a s.heap h' → ∀ es2 : Array (Int × Value), SetAt w h' a (es2.toList.map val) → List.Perm es2.toList es1.toList → R (some true) { s with heap := h' }) →
        ∀ g : Bool → Sem Unit, (∀ (c : Bool) (s₁ : Shared) (Q' : Unit → Shared → Prop), Q' () s₁ → wpAny (model prog w) A (g c) Q' E s₁) → wpAny (model prog w) A (do
          storeSet a es1 t2
          if (!wd && t2.tooFull) = true then do
              g (relayAll t2 es1 (SetTable.grown es1.size)).2.2
              storeSet a (relayAll t2 es1 (SetTable.grown es1.size)).1 (relayAll t2 es1 (SetTable.grown es1.size)).2.1
              pure (some true)
            else pure (some true)) R E s := by
      intro t2 hf2 hk2 R hR g hg
      refine wpAny_bind (wpAny_storeSet_of ho hd ?_ (fits_line (by rw [sz1]; exact hz1)))
      have e1 := store_at (es' := es1) (t' := t2) ho hd
      have sb1 := Heap.SameBut.update s.heap a (Obj.putSet es1 t2)
      split
      · have p2 := relayAll_perm t2 es1 (SetTable.grown es1.size)
        have f2 := relayAll_fits t2 es1 (SetTable.grown es1.size)
        have k2 := relayAll_ok hk2 es1 (SetTable.grown es1.size)
        generalize relayAll t2 es1 (SetTable.grown es1.size) = Rl at p2 f2 k2 ⊢
        obtain ⟨es2, t3, gave2⟩ := Rl
        dsimp only at p2 f2 k2 ⊢
        have sz2 : es2.size = es1.size := by rw [← Array.length_toList, p2.length_eq, Array.length_toList]
        refine wpAny_bind (hg _ _ _ ?_)
        refine wpAny_bind (wpAny_storeSet_of e1 rfl ?_ (fits_line (by rw [sz2, sz1]; exact hz1)))
        have e2 := store_at (es' := es2) (t' := t3) e1 rfl
        exact wpAny_pure (hR _ (sb1.trans (Heap.SameBut.update _ a _)) es2 ⟨_, es2, _, t3, e2, hex, rfl, he1.perm p2, rfl, (p2.map val).nodup_iff.mpr nd1, by rw [(p2.map val).length_eq]; exact hb1, f2, k2⟩ p2)
      · exact wpAny_pure (hR _ sb1 es1 ⟨_, es1, _, t2, e1, hex, rfl, he1, rfl, nd1, hb1, hf2, hk2⟩ .rfl)
    refine wpAny_bind (hgw _ ?_)
    split
    · refine wpAny_bind ?_
      rw [hashByValue_scannable 8 rfl]
      refine wpAny_pure ?_
      refine tail _ ?_ ?_ _ ?_ _ ?_
      · exact hfits
      · exact hok
      · intro h' sb es2 S2 p2; dsimp only; exact wpAny_pure (hend h' sb es2 S2 p2)
      · intro c s₁ Q' hq; cases c <;> first | exact wpAny_pure hq | exact wpAny_rule hq
    · refine wpAny_bind (wpAny_pure ?_)
      simp only [↓reduceIte]
      refine tail _ hfits hok _ ?_ _ ?_
      · intro h' sb es2 S2 p2; dsimp only; exact wpAny_pure (hend h' sb es2 S2 p2)
      · intro c s₁ Q' hq; cases c <;> first | exact wpAny_pure hq | exact wpAny_rule hq
end
end SetX
namespace SetX
open PySem PyProof.Rows
section
variable {prog : Program} {w : World} {A : Around} {R : Result → Shared → Prop} {I : Addr} {fp wr : List Addr} {G : Array GenState → Array GenState → Prop} {n : Nat} {P : Nat → Value → Prop} {St : Nat → Shared → Prop}
theorem update_loopX (W : WalksS prog w A.in1 I fp wr G n P St) (S : Addr) (hSf : S ∉ fp) (vl : Nat → Int) (hval : ∀ i v, P i v → ∃ t, v = .int (vl i) t) (hb : n + 1 < scanBound) :
    ∀ (k i : Nat) (s : Shared) (ns : List Int), n - i = k → i ≤ n → St i s → SetAt w s.heap S ns → (∀ y, y ∈ ns ↔ ∃ j, j < i ∧ y = vl j) → ns.length ≤ i →
      (∀ s' ns', Moved (S :: wr) G s s' → SetAt w s'.heap S ns' → (∀ y, y ∈ ns' ↔ ∃ j, j < n ∧ y = vl j) → R (.ok (.ret .none)) s') → codeAny (model prog w) A (.builtin "set.update.loop" ⟨[.ref S, .ref I], []⟩) R s := by
  have nw : S ∉ wr := fun z => hSf (W.sub _ z)
  have up : ∀ b ∈ wr, b ∈ S :: wr := fun b z => List.mem_cons_of_mem _ z
  intro k
  induction k with
  | zero =>
    intro i s ns hk hi hst hS hm hl hR
    have e : i = n := by omega
    subst e
    refine codeAny_builtin F.entry_set_update_loop ?_; rw [Around.under_plainId F.plain_set_update_loop _]; show wpAny _ A.in1 (pyNext (.ref I) >>= _) _ _ s
    refine wpAny_bind (W.done s _ _ hst fun s' mv => ?_); show wpAny _ A.in1 (ret Value.none) _ _ s'
    exact wpAny_pure (hR s' ns (mv.mono up) (hS.keeps fun o ho => mv.heap S o nw ho) hm)
  | succ k ih =>
    intro i s ns hk hi hst hS hm hl hR
    have lt : i < n := by omega
    refine codeAny_builtin F.entry_set_update_loop ?_; rw [Around.under_plainId F.plain_set_update_loop _]; show wpAny _ A.in1 (pyNext (.ref I) >>= _) _ _ s
    refine wpAny_bind (W.item i s _ _ lt hst fun v s' hP hst' mv => ?_)
    obtain ⟨t, rfl⟩ := hval i v hP
    have hS' : SetAt w s'.heap S ns := hS.keeps fun o ho => mv.heap S o nw ho
    show wpAny _ A.in1 (holding [Value.int (vl i) t] (setAdd S (.int (vl i) t)) >>= _) _ _ s'
    refine wpAny_bind (wpAny_holding ?_); unfold setAdd; refine wpAny_holding ?_
    refine wpAny_bind ((intKind prog w).pyHash (k := vl i) (intKind_is _ _ _ _) ?_)
    refine add_int (s := { s' with toks := s'.toks + 1 }) (k := vl i) (tk := t) rfl hS' (by omega) fun h' ns' sb S2 m2 l2 => ?_
    refine wpAny_pure ⟨plainId_quiet F.plain_set_update_loop _, ih (i + 1) _ ns' (by omega) lt (W.frame _ s' _ _ hst' (Nat.le_succ _) fun b hb o e => ?_) S2 (fun y => ?_) (by omega) fun s'' ns'' mv2 S3 m3 => ?_⟩
    · rw [sb.2 b (fun z : b = S => hSf (by rw [← z]; exact hb))]; exact e
    · rw [m2, hm]
      constructor
      · rintro (⟨j, hj, e⟩ | e)
        · exact ⟨j, by omega, e⟩
        · exact ⟨i, by omega, e⟩
      · rintro ⟨j, hj, e⟩
        by_cases z : j = i
        · exact .inr (by rw [e, z])
        · exact .inl ⟨j, by omega, e⟩
    · refine hR s'' ns'' (Moved.trans W.gtrans ((mv.mono up).then_heap (Nat.le_succ _) fun b o hb e => ?_) mv2) S3 m3
      rw [sb.2 b (fun z : b = S => hb (by rw [z]; exact List.mem_cons_self))]; exact e
end
section
variable {prog : Program} {w : World} {A : Around} {E : Value → Shared → Prop} {s : Shared}
abbrev newSetObj (w : World) : Obj := { cls := .type "set", dict := none, data := .set #[] 0 (.fresh 0 0 (ledOf w)) }
theorem fresh_ok (b : Bool) : TabOk b (.fresh 0 0 b) := ⟨rfl, fun a c h1 h2 => absurd h2 (by show ¬ c < 0; omega)⟩
theorem setAt_new {h : Heap} {a : Addr} (e : h.get? a = some (newSetObj w)) : SetAt w h a [] := ⟨_, #[], 0, _, e, ⟨rfl, rfl, rfl⟩, rfl, fun e he => by simp at he, rfl, List.nodup_nil, by decide, rfl, fresh_ok _⟩
theorem set_new_led (a : Value) {Q₁ : Value → Shared → Prop} (h : Q₁ (.ref s.heap.objs.size) { s with heap := s.heap.push (newSetObj w) }) :
    codeAny (model prog w) A (.call (.builtin "set.__new__") ⟨[.type "set", a], []⟩) (wants Q₁ E) s := by
  refine codeAny_of_tree ?_
  show wpAny _ A.in1 (do checkBuiltinCall "set.__new__" ⟨[.type "set", a], []⟩; again (.builtin "set.__new__" ⟨[.type "set", a], []⟩)) _ _ s
  refine wpAny_bind (wpAny_of_eq (F.newCall_set_1 a) (wpAny_pure ⟨plainId_quiet F.plain_set_new _, codeAny_builtin F.entry_set_new ?_⟩))
  rw [Around.under_plainId F.plain_set_new _]; unfold Builtin.«set.__new__» Builtin.Frozenset.newClass
  have hsub := sub_set_self
  obtain ⟨hp, g, d, tk, os⟩ := s
  dsimp only
  wp_walk
  refine wpAny_askSetting (wpAny_pure ?_); dsimp only; simp only [newObj]; refine wpAny_bind (wpAny_alloc (wpAny_pure ?_))
  exact wpAny_pure h
set_option maxRecDepth 100000 in
set_option maxHeartbeats 8000000 in
theorem call_set_listX {l : Addr} {items : Array Value} {ns : List Int} {Q : Value → Shared → Prop} (hh : A.handled = none) (hl : s.heap.IsList l items) (hi : PyProof.Rows.IntsAre items.toList ns) (hb : items.size + 1 < scanBound)
    (h : ∀ (h' : Heap) (tk : Nat) (ms : List Int), SetAt w h' s.heap.objs.size ms → (∀ y, y ∈ ms ↔ y ∈ ns) → (∀ b o, b < s.heap.objs.size → s.heap.get? b = some o → h'.get? b = some o) → Q (.ref s.heap.objs.size) { s with heap := h', toks := tk }) :
    wpAny (model prog w) A (call (.type "set") [.ref l]) Q E s := by
  obtain ⟨c, tl, hmro⟩ := F.called_set.mro
  have hmade := F.called_set.made
  have hsub := F.called_set.sub
  refine wpAny_call (codeAny_of_tree ?_); show wpAny _ _ (callAny (.type "set") _) _ _ _
  refine wpAny_pure ⟨Code.quiet_builtin _ (by decide +kernel), codeAny_builtin F.entry_type_call ?_⟩
  rw [Around.under_plain (weight_type_call_type "set" [.ref l] []) rfl]
  have h1 := F.called_set.notType
  have h2 := F.called_set.canCreate
  have hct := F.typeCall_set_1 (.ref l)
  repeat (any_goals (first | assumption | wp_step))
  refine codeAny_mono (set_new_led (.ref l) (E := E) (Q₁ := fun obj s₁ => obj = .ref s.heap.objs.size ∧ s₁ = { s with heap := s.heap.push (newSetObj w) }) ⟨rfl, rfl⟩) fun r s₁ hr => ?_
  cases r with
  | error e => exact hr
  | ok fl =>
    cases fl with
    | ret obj =>
      obtain ⟨rfl, rfl⟩ := hr
      have hS : (s.heap.push (newSetObj w)).get? s.heap.objs.size = some (newSetObj w) := Heap.get?_push_size _ rfl
      have hT : Shared.TypeIs { s with heap := s.heap.push (newSetObj w) } (.ref s.heap.objs.size) "set" := ⟨_, hS, rfl⟩
      have hli := F.called_set.init.lookup
      have hbi := F.called_set.init.bind (.ref s.heap.objs.size)
      repeat (any_goals (first | assumption | wp_step))
      refine codeAny_mono (codeAny_call_builtin (R := wants (fun r s₂ => r = .none ∧ ∃ h' tk ms, s₂ = { s with heap := h', toks := tk } ∧ SetAt w h' s.heap.objs.size ms ∧ (∀ y, y ∈ ms ↔ y ∈ ns) ∧ (∀ b o, b < s.heap.objs.size → s.heap.get? b = some o → h'.get? b = some o)) E)
        F.called_set.init.plain F.entry_set_init (check_set_init_1 hT ?_)) fun r₂ s₂ hr₂ => ?_
      · obtain ⟨ol, hol, hcl, nl, hdl⟩ := hl
        obtain ⟨ocls, odict, odata, oslots⟩ := ol
        simp only at hcl hdl
        subst hcl; subst hdl
        have hol' : (s.heap.push (newSetObj w)).get? l = some { cls := .type "list", dict := odict, data := .seq items nl, slots := oslots } := Heap.get?_push_of_some _ hol
        have hsls := F.sub_list_set
        have hslf := F.sub_list_frozenset
        have hne : (Value.type "list" == Value.type "dict") = false := by decide
        have hl1 : (s.heap.push (newSetObj w)).IsList l items := ⟨_, hol', rfl, nl, rfl⟩
        unfold Builtin.«set.__init__» noKeywords Builtin.Frozenset.updateFrom
        generalize hPI : pyIter = PI
        wp_walk
        subst hPI
        refine wpAny_pyIter_list hl1 ?_; refine wpAny_bind (wpAny_runValue ?_)
        have hlS : l < s.heap.objs.size := Heap.lt_size hol
        have hh3 : A.in1.in1.in1.handled = none := by simp [hh]
        have zs : (s.heap.push (newSetObj w)).objs.size = s.heap.objs.size + 1 := Heap.size_push ..
        have hval : ∀ (i : Nat) (v : Value), items[i]? = some v → ∃ t, v = .int ((fun i => ns.getD i 0) i) t := fun i v hv => PyProof.Rows.IntsAre.int_at hi i v (by rw [Array.getElem?_toList]; exact hv)
        have zn : items.size = ns.length := by have := IntsAre.length hi; simpa using this
        refine update_loopX ((Walks.list hh3 _ l (by rw [zs]; exact Nat.ne_of_lt (Nat.lt_succ_of_lt hlS)) items).toS) s.heap.objs.size (by rw [zs]; simp only [List.mem_cons, List.mem_singleton, List.not_mem_nil, or_false, not_or]; exact ⟨Nat.ne_of_lt (Nat.lt_succ_self _), Nat.ne_of_gt hlS⟩) (fun i => ns.getD i 0) hval hb (items.size - 0) 0 _ [] (by omega) (Nat.zero_le _)
          ⟨⟨_, Heap.get?_push_size _ rfl, rfl, rfl⟩, (hl1.push _)⟩ (setAt_new (Heap.get?_push_of_some _ hS)) (fun y => by simp) (Nat.zero_le _) ?_
        intro s' ms mv S2 m2
        obtain ⟨h', g', d', tk', os'⟩ := s'
        have eg : g' = s.gens := mv.gens
        have ed : d' = s.drawn := mv.drawn
        have eo : os' = s.os := mv.os
        subst eg; subst ed; subst eo
        show wpAny _ _ _ _ _ _
        refine wpAny_pure ?_
        show wpAny _ _ (ret Value.none) _ _ _
        refine wpAny_pure ⟨rfl, h', tk', ms, rfl, S2, fun y => ?_, fun b o hb e => ?_⟩
        · rw [m2 y, zn]
          constructor
          · rintro ⟨j, hj, rfl⟩
            have : ns.getD j 0 = ns[j] := by simp [List.getD, hj]
            show ns.getD j 0 ∈ ns
            rw [this]; exact List.getElem_mem hj
          · intro hy
            obtain ⟨j, hj, rfl⟩ := List.mem_iff_getElem.mp hy
            exact ⟨j, hj, by simp [List.getD, hj]⟩
        · have hb1 : b ≠ s.heap.objs.size := Nat.ne_of_lt hb
          have hb2 : b ≠ (s.heap.push (newSetObj w)).objs.size := by rw [zs]; exact Nat.ne_of_lt (Nat.lt_succ_of_lt hb)
          exact mv.heap b o (by simp only [List.mem_cons, List.mem_singleton, List.not_mem_nil, or_false, not_or]; exact ⟨hb1, hb2⟩) (Heap.get?_push_of_some _ (Heap.get?_push_of_some _ e))
      · cases r₂ with
        | error e => exact hr₂
        | ok fl₂ =>
          cases fl₂ with
          | ret r =>
            obtain ⟨rfl, h', tk, ms, rfl, S2, m2, hk'⟩ := hr₂
            repeat (any_goals (first | assumption | wp_step))
            exact h _ _ _ S2 m2 hk'
          | _ => exact hr₂.elim
    | _ => exact hr.elim
end
end SetX
end
section
namespace SetX
open PySem PyProof.Rows
theorem perm_erase {α : Type} : ∀ (l : List α) (i : Nat) (h : i < l.length), List.Perm (l[i] :: l.eraseIdx i) l
  | [], i, h => absurd h (by simp)
  | x :: l, 0, h => .rfl
  | x :: l, i + 1, h => by
    have h' : i < l.length := by simpa using h
    show List.Perm (l[i] :: x :: l.eraseIdx i) (x :: l)
    exact (List.Perm.swap x l[i] _).trans ((perm_erase l i h').cons x)
theorem pick_go {α : Type} (next : Nat → Nat) : ∀ (fuel k : Nat) (left : List α) (out : Array α), left.length = fuel → List.Perm (pickOrder.go next fuel k left out).toList (out.toList ++ left)
  | 0, k, left, out, h => by
    have e : left = [] := List.length_eq_zero_iff.mp h
    subst e
    show List.Perm out.toList (out.toList ++ [])
    rw [List.append_nil]
  | fuel + 1, k, left, out, h => by
    show List.Perm (match left[next k % left.length]? with
      | some x => pickOrder.go next fuel (k + 1) (left.eraseIdx (next k % left.length)) (out.push x)
      | none => out).toList _
    have hlt : next k % left.length < left.length := Nat.mod_lt _ (by omega)
    rw [List.getElem?_eq_getElem hlt]
    dsimp only
    have hz : (left.eraseIdx (next k % left.length)).length = fuel := by rw [List.length_eraseIdx_of_lt hlt]; omega
    refine (pick_go next fuel (k + 1) _ _ hz).trans ?_
    rw [Array.toList_push, List.append_assoc]
    refine List.Perm.append_left _ ?_
    exact perm_erase _ _ hlt
theorem pickOrder_perm {α : Type} (next : Nat → Nat) (xs : Array α) : List.Perm (pickOrder next xs).toList xs.toList := by
  unfold pickOrder
  have := pick_go next xs.size 0 xs.toList #[] (by simp)
  simpa using this
section
variable {prog : Program} {w : World} {A : Around} {E : Value → Shared → Prop} {s : Shared} {a : Addr} {ns : List Int}
theorem wpAny_choose {src : Source} {n : Nat} {Q : Nat → Shared → Prop} (hn : n ≠ 0) (h : ∀ k d, k < n → Q k { s with drawn := d }) : wpAny (model prog w) A (choose src n) Q E s := by
  intro Γ p hΓ
  exact ⟨hn, h _ _ (Nat.mod_lt _ (Nat.pos_of_ne_zero hn))⟩
theorem drawOrder_of {α : Type} : ∀ (n : Nat) (xs : List α) (s : Shared) (Q : List α → Shared → Prop), xs.length = n → (∀ ys d, List.Perm ys xs → Q ys { s with drawn := d }) → wpAny (model prog w) A (drawOrder n xs) Q E s
  | 0, xs, s, Q, hl, h => by
    have e : xs = [] := List.length_eq_zero_iff.mp hl
    subst e
    exact wpAny_pure (h [] s.drawn .nil)
  | n + 1, [], s, Q, hl, h => by simp at hl
  | n + 1, x :: xs, s, Q, hl, h => by
    unfold drawOrder
    refine wpAny_bind (wpAny_choose (by simp) fun k d hk => ?_)
    rw [List.getElem?_eq_getElem hk]
    dsimp only
    refine wpAny_bind (drawOrder_of n _ _ _ (by rw [List.length_eraseIdx_of_lt hk]; omega) fun ys d' p => ?_)
    refine wpAny_pure (h _ d' ?_)
    exact (p.cons _).trans (perm_erase _ _ hk)
theorem setWalk_of {o : Obj} {es : Array (Int × Value)} {ep : Nat} {t : SetTable} {Q : Array (Int × Value) → Shared → Prop} (ho : s.heap.get? a = some o) (hd : o.data = .set es ep t) (hf : t.fits es.size = true) (hl : t.led = ledOf w)
    (h : ∀ es' d, List.Perm es'.toList es.toList → Q es' { s with drawn := d }) : wpAny (model prog w) A (setWalk a) Q E s := by
  unfold setWalk setsByText
  refine wpAny_bind (wpAny_setState_of ho hd hf ?_); dsimp only
  refine wpAny_bind (wpAny_bind (wpAny_askSetting (wpAny_pure ?_)))
  by_cases hb : (model prog w).w.params.followText "set-order" = true
  · dsimp only
    rw [if_pos hb]
    refine wpAny_bind (wpAny_askSetting (wpAny_pure ?_))
    exact h _ s.drawn (pickOrder_perm _ _)
  · dsimp only
    rw [if_neg hb]
    have hb' : ¬ w.params.followText "set-order" = true := hb
    have hl' : t.led = true := by rw [hl]; unfold ledOf; simp [hb']
    split
    · refine wpAny_bind (drawOrder_of _ _ _ _ (by simp) fun ys d p => ?_)
      exact wpAny_pure (h _ d (by simpa using p))
    · refine wpAny_bind ?_
      show wpAny _ _ (if (!t.led && decide (es.size > 1)) = true then _ else _) _ _ _
      rw [hl']
      simp only [Bool.not_true, Bool.false_and, Bool.false_eq_true, if_false]
      exact wpAny_pure (wpAny_pure (h es s.drawn .rfl))
end
end SetX
namespace SetX
open PySem PyProof.Rows
section
variable {prog : Program} {w : World} {A : Around} {E : Value → Shared → Prop} {s : Shared} {a b : Addr} {ns ms : List Int}
theorem forIn_arr {M : Model} {α β : Type} {s : Shared} (f : α → β → Sem (ForInStep β)) (I : List α → β → Shared → Prop) (Q : β → Shared → Prop)
    (turn : ∀ x rest c s, I (x :: rest) c s → wpAny M A (f x c) (fun r s' => match r with | .yield c' => I rest c' s' | .done c' => Q c' s') E s) (fin : ∀ c s, I [] c s → Q c s) (xs : Array α) (c : β) (h : I xs.toList c s) : wpAny M A (forIn xs c f) Q E s := by
  rw [← Array.forIn_toList]; exact wpAny_forIn_list f I Q turn fin _ c h
theorem setsQuiet_of : ∀ (l : List Addr) {Q : Bool → Shared → Prop}, (∀ c ∈ l, ∃ ks, SetAt w s.heap c ks) → Q true s → wpAny (model prog w) A (setsQuiet l) Q E s := by
  intro l Q hl hQ
  unfold setsQuiet
  refine wpAny_bind ?_
  refine wpAny_forIn_list _ (fun rest r s' => r = ⟨none, ()⟩ ∧ s' = s ∧ ∀ c ∈ rest, ∃ ks, SetAt w s.heap c ks) _ ?_ ?_ l _ ⟨rfl, rfl, hl⟩
  · rintro c rest r s' ⟨rfl, rfl, hc⟩
    obtain ⟨ks, o, es, ep, t, ho, hex, hd, he, _, _, _, hf, _⟩ := hc c List.mem_cons_self
    refine wpAny_bind (wpAny_setEntries_of ho hd hf ?_)
    refine wpAny_bind ?_
    refine forIn_arr _ (fun rest' r' s'' => r' = ⟨none, ()⟩ ∧ s'' = s' ∧ ∀ e ∈ rest', e ∈ es.toList) _ ?_ ?_ es _ ⟨rfl, rfl, fun e z => z⟩
    · rintro ⟨hv, x⟩ rest' r' s'' ⟨rfl, rfl, hm⟩
      obtain ⟨n, tk, e⟩ := he _ (hm _ List.mem_cons_self)
      have e2 : x = .int n tk := congrArg Prod.snd e
      subst e2
      exact wpAny_pure ⟨rfl, rfl, fun e z => hm e (List.mem_cons_of_mem _ z)⟩
    · rintro r' s'' ⟨rfl, rfl, _⟩
      exact wpAny_pure ⟨rfl, rfl, fun c' z => hc c' (List.mem_cons_of_mem _ z)⟩
  · rintro r s' ⟨rfl, rfl, _⟩
    exact wpAny_pure hQ
theorem walkUnseen_of {others : List Addr} {r : Addr} {o : Obj} {es : Array (Int × Value)} {ep : Nat} {t : SetTable} {Q : Array (Int × Value) → Shared → Prop} (ho : s.heap.get? a = some o) (hex : o.ExactSet) (hd : o.data = .set es ep t) (he : Ent es.toList) (hnd : (es.toList.map val).Nodup)
    (hb : (es.toList.map val).length < scanBound) (hf : t.fits es.size = true) (ht : TabOk (ledOf w) t) (hoth : ∀ c ∈ others, ∃ ks, SetAt w s.heap c ks) (hr : SetAt w s.heap r [])
    (h : ∀ es' h' d, List.Perm es'.toList es.toList → Heap.SameBut r s.heap h' → SetAt w h' r [] → Q es' { s with heap := h', drawn := d }) : wpAny (model prog w) A (setWalkUnseen a others (some r)) Q E s := by
  unfold setWalkUnseen setsByText
  refine wpAny_bind (wpAny_setState_of ho hd hf ?_); dsimp only
  refine wpAny_bind (wpAny_bind (wpAny_askSetting (wpAny_pure ?_)))
  dsimp only
  have plainW : ∀ (Q' : Array (Int × Value) → Shared → Prop), (∀ es' d, List.Perm es'.toList es.toList → Q' es' { s with drawn := d }) → wpAny (model prog w) A (setWalk a) Q' E s := fun Q' q => setWalk_of ho hd hf ht.led q
  split
  · exact plainW _ fun es' d p => h es' s.heap d p (.refl ..) hr
  · refine wpAny_bind (setsQuiet_of (a :: others) (fun c hc => ?_) ?_)
    · rcases List.mem_cons.mp hc with z | z
      · subst z; exact ⟨_, o, es, ep, t, ho, hex, hd, he, rfl, hnd, hb, hf, ht⟩
      · exact hoth c z
    · simp only [Bool.not_true, Bool.false_eq_true, if_false]
      refine wpAny_bind (wpAny_rule ?_)
      obtain ⟨o2, es2, ep2, t2, ho2, hex2, hd2, he2, m2, nd2, hb2, hf2, ht2⟩ := id hr
      refine wpAny_bind (wpAny_setState_of ho2 hd2 hf2 ?_); dsimp only
      have z2 : es2.toList = [] := List.map_eq_nil_iff.mp m2
      have z2' : es2.size = 0 := by rw [← Array.length_toList, z2]; rfl
      split
      · refine wpAny_bind (wpAny_storeSet_of ho2 hd2 ?_ (by rw [z2']; exact Nat.zero_le _))
        have e1 := store_at (es' := es2) (t' := { t2 with led := t2.led && t.led, plain := t2.plain && t.plain }) ho2 hd2
        refine wpAny_pure (h es _ s.drawn .rfl (Heap.SameBut.update ..) ⟨_, es2, _, _, e1, hex2, rfl, he2, m2, nd2, hb2, hf2, ?_, ht2.rise⟩)
        show (t2.led && t.led) = ledOf w
        rw [ht2.led, ht.led]; simp
      · exact wpAny_pure (h es s.heap s.drawn .rfl (.refl ..) hr)
theorem entry_set_and : entryFor table "set.__and__" = some Builtin.«frozenset.__and__» := entryFor_alias (id' := "frozenset.__and__") (by kernel_rfl) rfl (by decide +kernel) (by kernel_rfl)
theorem SetAt.ty {s : Shared} (S : SetAt w s.heap a ns) : s.TypeIs (.ref a) "set" := let ⟨o, _, _, _, ho, hex, _⟩ := S; ⟨o, ho, hex.1⟩
theorem anySet_of {Q : Bool → Shared → Prop} (S : SetAt w s.heap a ns) (h : Q true s) : wpAny (model prog w) A (Builtin.Frozenset.isAnySet (.ref a)) Q E s := by
  unfold Builtin.Frozenset.isAnySet
  show wpAny _ _ (isInstance (.ref a) (.type "set") >>= _) _ _ _
  refine wpAny_bind (wpAny_isInstance S.ty sub_set_self ?_)
  exact wpAny_pure h
theorem newSet_led {Q : Value → Shared → Prop} (h : Q (.ref s.heap.objs.size) { s with heap := s.heap.push (newSetObj w) }) : wpAny (model prog w) A (newSet (.type "set")) Q E s := by
  unfold newSet setsByText
  refine wpAny_bind (wpAny_bind (wpAny_askSetting (wpAny_pure ?_))); dsimp only; simp only [newObj]
  exact wpAny_bind (wpAny_alloc (wpAny_pure h))
set_option maxHeartbeats 8000000 in
theorem inter_of {Q : Value → Shared → Prop} {idn : String} (hab : b ≠ a) (S : SetAt w s.heap a ns) (T : SetAt w s.heap b ms)
    (h : ∀ h' d ks, SetAt w h' s.heap.objs.size ks → (∀ y, y ∈ ks ↔ y ∈ ns ∧ y ∈ ms) → (∀ c o, s.heap.get? c = some o → h'.get? c = some o) → Q (.ref s.heap.objs.size) { s with heap := h', drawn := d }) :
    wpAny (model prog w) A (Builtin.Frozenset.intersection idn a (.ref b)) Q E s := by
  unfold Builtin.Frozenset.intersection
  have hne : (Value.ref b == Value.ref a) = false := by
    rw [beq_eq_false_iff_ne]; intro z; exact hab (Value.ref.inj z)
  rw [if_neg (by rw [hne]; simp)]
  unfold Builtin.Frozenset.baseOf
  refine wpAny_bind (wpAny_bind (wpAny_isInstance S.ty sub_set_self (wpAny_pure ?_)))
  simp only [if_true]
  refine wpAny_bind (newSet_led ?_)
  have k1 : ∀ c o, s.heap.get? c = some o → (s.heap.push (newSetObj w)).get? c = some o := fun c o e => Heap.get?_push_of_some _ e
  have S1 : SetAt w (s.heap.push (newSetObj w)) a ns := S.keeps fun o e => k1 a o e
  have T1 : SetAt w (s.heap.push (newSetObj w)) b ms := T.keeps fun o e => k1 b o e
  have R1 : SetAt w (s.heap.push (newSetObj w)) s.heap.objs.size [] := setAt_new (Heap.get?_push_size _ rfl)
  have la : a < s.heap.objs.size := by obtain ⟨o, _, _, _, e, _⟩ := S; exact Heap.lt_size e
  have lb : b < s.heap.objs.size := by obtain ⟨o, _, _, _, e, _⟩ := T; exact Heap.lt_size e
  generalize hs1 : ({ s with heap := s.heap.push (newSetObj w) } : Shared) = s1
  have ks1 : ∀ c o, s.heap.get? c = some o → s1.heap.get? c = some o := fun c o e => by rw [← hs1]; exact k1 c o e
  have S1' : SetAt w s1.heap a ns := by rw [← hs1]; exact S1
  have T1' : SetAt w s1.heap b ms := by rw [← hs1]; exact T1
  have R1' : SetAt w s1.heap s.heap.objs.size [] := by rw [← hs1]; exact R1
  have fin1 : ∀ h' d ks, SetAt w h' s.heap.objs.size ks → (∀ y, y ∈ ks ↔ y ∈ ns ∧ y ∈ ms) → (∀ c o, c ≠ s.heap.objs.size → s1.heap.get? c = some o → h'.get? c = some o) → Q (.ref s.heap.objs.size) { s1 with heap := h', drawn := d } := fun h' d ks q1 q2 q3 => by
    have := h h' d ks q1 q2 fun c o e => q3 c o (Nat.ne_of_lt (Heap.lt_size e)) (ks1 c o e)
    rw [← hs1]; exact this
  show wpAny _ _ (Builtin.Frozenset.addrOf (.ref s.heap.objs.size) >>= _) _ _ _
  refine wpAny_bind (wpAny_pure ?_)
  refine wpAny_bind (wpAny_holding ?_)
  refine wpAny_bind (anySet_of T1' ?_)
  simp only [if_true]
  show wpAny _ _ (Builtin.Frozenset.addrOf (.ref b) >>= _) _ _ _
  refine wpAny_bind (wpAny_pure ?_)
  unfold Builtin.Frozenset.sizeOf
  obtain ⟨oa, ea, pa, ta, hoa, hxa, hda, hea, hma, hna, hba, hfa, hta⟩ := id S1'
  obtain ⟨ob, eb, pb, tb, hob, hxb, hdb, heb, hmb, hnb, hbb, hfb, htb⟩ := id T1'
  refine wpAny_bind (wpAny_bind (wpAny_setEntries_of hob hdb hfb (wpAny_pure ?_)))
  refine wpAny_bind (wpAny_bind (wpAny_setEntries_of hoa hda hfa (wpAny_pure ?_)))
  have core : ∀ (ad wk : Addr) (as ws : List Int) (R' : Unit → Shared → Prop), ad < s.heap.objs.size → wk < s.heap.objs.size → SetAt w s1.heap ad as → SetAt w s1.heap wk ws →
      (∀ h' d ks, SetAt w h' s.heap.objs.size ks → (∀ y, y ∈ ks ↔ y ∈ as ∧ y ∈ ws) → (∀ c o, c ≠ s.heap.objs.size → s1.heap.get? c = some o → h'.get? c = some o) → R' () { s1 with heap := h', drawn := d }) →
      wpAny (model prog w) A (do
        let was ← setEpoch wk
        let lst ← setWalkUnseen wk [ad, s.heap.objs.size] (some s.heap.objs.size)
        forIn lst PUnit.unit fun x _ => do
          holding [x.snd] do
            let fd ← setFind ad x.snd x.fst
            if fd.isSome = true then do
                let _ ← setAddHashed s.heap.objs.size x.snd x.fst
                pure ()
              else pure ()
          Builtin.Frozenset.unchanged idn wk was
          pure (ForInStep.yield PUnit.unit)
        pure ()) R' E s1 := by
    intro ad wk as ws R' lad lwk SA SW q
    obtain ⟨ow, ew, pw, tw, how, hxw, hdw, hew, hmw, hnw, hbw, hfw, htw⟩ := id SW
    refine wpAny_bind (wpAny_setEpoch_of how hdw hfw ?_)
    refine wpAny_bind (walkUnseen_of how hxw hdw hew (by rw [hmw]; exact hnw) (by rw [hmw]; exact hbw) hfw htw (fun c hc => ?_) R1' fun es' h2 d2 p2 sb2 R2 => ?_)
    · rcases List.mem_cons.mp hc with z | z
      · subst z; exact ⟨_, SA⟩
      · have z' : c = s.heap.objs.size := by simpa using z
        subst z'; exact ⟨_, R1'⟩
    · refine wpAny_bind ?_
      refine forIn_arr _ (fun rest _ s' => ∃ h' ks, s' = { s1 with heap := h', drawn := d2 } ∧ SetAt w h' s.heap.objs.size ks ∧ (∀ c o, c ≠ s.heap.objs.size → s1.heap.get? c = some o → h'.get? c = some o) ∧ (∀ e ∈ rest, e ∈ ew.toList) ∧
          (∀ y, y ∈ ks ↔ y ∈ as ∧ y ∈ ws ∧ y ∉ rest.map val) ∧ (rest.map val).Nodup ∧ ks.length + rest.length ≤ ew.size) _ ?_ ?_ es' _ ⟨h2, [], rfl, R2, fun c o hc e => (sb2.2 c hc).trans e, fun e he => p2.mem_iff.mp he, fun y => ?_, (p2.map val).nodup_iff.mpr (by rw [hmw]; exact hnw), ?_⟩
      · rintro ⟨hv, x⟩ rest r s' ⟨h', ks, rfl, SK, kk, hm, hks, hnd, hlen⟩
        obtain ⟨n, tk, e⟩ := hew _ (hm _ List.mem_cons_self)
        have e1 : hv = hashInt n := congrArg Prod.fst e
        have e2 : x = .int n tk := congrArg Prod.snd e
        subst e1; subst e2
        have SA' : SetAt w h' ad as := SA.keeps fun o z => kk ad o (Nat.ne_of_lt lad) z
        have hwk : ∀ g : Heap, (∀ c o, c ≠ s.heap.objs.size → s1.heap.get? c = some o → g.get? c = some o) → g.get? wk = some ow := fun g kg => kg wk ow (Nat.ne_of_lt lwk) how
        have hnw' : n ∈ ws := by
          rw [← hmw]; exact List.mem_map.mpr ⟨_, hm _ List.mem_cons_self, rfl⟩
        have hvn : (((hashInt n, Value.int n tk) :: rest).map val) = n :: rest.map val := rfl
        rw [hvn] at hnd hks
        obtain ⟨hn1, hn2⟩ := List.nodup_cons.mp hnd
        have unch : ∀ (g : Heap) (R'' : ForInStep PUnit → Shared → Prop), (∀ c o, c ≠ s.heap.objs.size → s1.heap.get? c = some o → g.get? c = some o) → R'' (.yield ⟨⟩) { s1 with heap := g, drawn := d2 } →
            wpAny (model prog w) A (do Builtin.Frozenset.unchanged idn wk pw; pure (ForInStep.yield PUnit.unit)) R'' E { s1 with heap := g, drawn := d2 } := fun g R'' kg hR => by
          unfold Builtin.Frozenset.unchanged
          refine wpAny_bind (wpAny_bind (wpAny_setEpoch_of (hwk g kg) hdw hfw ?_))
          rw [if_neg (by simp)]
          exact wpAny_pure (wpAny_pure hR)
        refine wpAny_bind (wpAny_holding ?_)
        refine wpAny_bind (find_int (k := n) (tk := tk) rfl SA' fun fr hfr => ?_)
        by_cases hin : n ∈ as
        · have e3 : fr.isSome = true := by rw [hfr]; exact decide_eq_true hin
          rw [if_pos e3]
          have hroom : ks.length + 1 < scanBound := by
            have z : ew.size < scanBound := by have := hbw; rw [← hmw] at this; simpa using this
            simp only [List.length_cons] at hlen
            have hz : ks.length + 1 ≤ ew.size := by omega
            rcases Nat.lt_or_eq_of_le hz with q1 | q1
            · exact Nat.lt_trans q1 z
            · rw [q1]; exact z
          refine wpAny_bind (add_int (k := n) (tk := tk) (s := { s1 with heap := h', drawn := d2 }) rfl SK hroom fun h3 ks3 sb3 SK3 m3 l3 => ?_)
          refine wpAny_pure ?_
          have kk3 : ∀ c o, c ≠ s.heap.objs.size → s1.heap.get? c = some o → h3.get? c = some o := fun c o hc z => (sb3.2 c hc).trans (kk c o hc z)
          refine unch h3 _ kk3 ⟨h3, ks3, rfl, SK3, kk3, fun e z => hm e (List.mem_cons_of_mem _ z), fun y => ?_, hn2, ?_⟩
          · rw [m3, hks]
            constructor
            · rintro (⟨q1, q2, q3⟩ | rfl)
              · exact ⟨q1, q2, fun z => q3 (List.mem_cons_of_mem _ z)⟩
              · exact ⟨hin, hnw', hn1⟩
            · rintro ⟨q1, q2, q3⟩
              by_cases z : y = n
              · exact .inr z
              · exact .inl ⟨q1, q2, fun z' => (List.mem_cons.mp z').elim z q3⟩
          · simp only [List.length_cons] at hlen; omega
        · have e3 : fr.isSome = false := by rw [hfr]; exact decide_eq_false hin
          rw [if_neg (by rw [e3]; simp)]
          refine wpAny_pure ?_
          refine unch h' _ kk ⟨h', ks, rfl, SK, kk, fun e z => hm e (List.mem_cons_of_mem _ z), fun y => ?_, hn2, ?_⟩
          · rw [hks]
            constructor
            · rintro ⟨q1, q2, q3⟩
              exact ⟨q1, q2, fun z => q3 (List.mem_cons_of_mem _ z)⟩
            · rintro ⟨q1, q2, q3⟩
              exact ⟨q1, q2, fun z' => (List.mem_cons.mp z').elim (fun z => hin (z ▸ q1)) q3⟩
          · simp only [List.length_cons] at hlen; omega
      · rintro _ s' ⟨h', ks, rfl, SK, kk, _, hks, _, _⟩
        exact wpAny_pure (q h' d2 ks SK (fun y => by rw [hks]; simp) kk)
      · constructor
        · intro z; exact absurd z (by simp)
        · rintro ⟨_, z1, z2⟩
          exfalso
          apply z2
          rw [(p2.map val).mem_iff, hmw]; exact z1
      · have := p2.length_eq; simp at this; simp [this]
  by_cases hc : eb.size > ea.size
  · simp only [hc, if_true]
    refine core b a ms ns _ lb la T1' S1' fun h' d ks q1 q2 q3 => ?_
    exact wpAny_pure (fin1 h' d ks q1 (fun y => by rw [q2]; exact And.comm) q3)
  · simp only [hc, if_false]
    refine core a b ns ms _ la lb S1' T1' fun h' d ks q1 q2 q3 => ?_
    exact wpAny_pure (fin1 h' d ks q1 q2 q3)
end
end SetX
namespace SetX
open PySem PyProof.Rows
end SetX
end
section
namespace SetX
open PySem PyProof.Rows
section
variable {prog : Program} {w : World} {A : Around} {E : Value → Shared → Prop} {s : Shared}
end
end SetX
end
section
namespace SetX
open PySem PyProof.Rows
section
variable {prog : Program} {w : World} {A : Around} {E : Value → Shared → Prop} {s : Shared}
end
end SetX
end
section
namespace SetX
open PySem PyProof.Rows
section
variable {prog : Program} {w : World} {A : Around} {E : Value → Shared → Prop} {s : Shared}
theorem and_setsX {Q : Value → Shared → Prop} {a b : Addr} {ns ms : List Int} (hab : b ≠ a) (S : SetAt w s.heap a ns) (T : SetAt w s.heap b ms)
    (h : ∀ h' d ks, SetAt w h' s.heap.objs.size ks → (∀ y, y ∈ ks ↔ y ∈ ns ∧ y ∈ ms) → (∀ c o, s.heap.get? c = some o → h'.get? c = some o) → Q (.ref s.heap.objs.size) { s with heap := h', drawn := d }) :
    wpAny (model prog w) A (binaryOp .BitAnd (.ref a) (.ref b)) Q E s := by
  refine wpAny_binaryOp_same S.ty T.ty F.fills_set_and F.slot_set_and (wpAny_call_entry F.slot_set_and S.ty entry_set_and ?_ (F.args_set_and_2 _ _))
  show wpAny _ _ (Builtin.Frozenset.slot1 "__and__" ⟨[.ref a, .ref b], []⟩ >>= _) _ _ _
  refine wpAny_bind (wpAny_pure ?_)
  show wpAny _ _ ((Builtin.Frozenset.isAnySet (.ref a) >>= _) >>= _) _ _ _
  refine wpAny_bind (wpAny_bind (anySet_of S ?_))
  show wpAny _ _ (Builtin.Frozenset.isAnySet (.ref b)) _ _ _
  refine anySet_of T ?_
  show wpAny _ _ (Builtin.Frozenset.intersection _ a (.ref b) >>= _) _ _ _
  refine wpAny_bind (inter_of hab S T fun h' d ks q1 q2 q3 => ?_)
  exact wpAny_pure ⟨_, rfl, by simp, h h' d ks q1 q2 q3⟩
theorem len_setX {Q : Value → Shared → Prop} {a : Addr} {ns : List Int} (S : SetAt w s.heap a ns) (h : ∀ t tk, Q (.int ns.length t) { s with toks := tk }) : wpAny (model prog w) A (call (.builtin "len") [.ref a]) Q E s := by
  obtain ⟨o, es, ep, t, ho, hex, hd, he, rfl, hn, hb, hf, ht⟩ := S
  have hz : es.size < scanBound := by simpa using hb
  refine call_len_set ho hex hd hf (by have : scanBound = 4096 := rfl; omega) ?_
  have e : (es.toList.map val).length = es.size := by simp
  rw [e] at h
  exact h _ _
end
end SetX
end
section
namespace L2
open PySem PySem.Spec PyProof.Rows
def clo (env : Env) : List (Str × NameKind) → List (Str × Addr) → List (Str × Addr)
  | [], acc => acc
  | (n, k) :: r, acc => if k == .free then (match env.cells.lookup n with | some c => clo env r ((n, c) :: acc) | none => clo env r acc) else clo env r acc
theorem clo_from {env : Env} {x : Str} {c : Addr} : ∀ {names : List (Str × NameKind)} {acc : List (Str × Addr)}, (∀ y d, acc.lookup y = some d → env.cells.lookup y = some d) → (clo env names acc).lookup x = some c → env.cells.lookup x = some c
  | [], acc, ha, h => ha x c h
  | (n, k) :: r, acc, ha, h => by
    unfold clo at h
    by_cases hk : (k == NameKind.free) = true
    · rw [if_pos hk] at h
      cases e : env.cells.lookup n with
      | none => rw [e] at h; exact clo_from ha h
      | some d =>
        rw [e] at h
        refine clo_from (fun y d' hy => ?_) h
        rw [List.lookup_cons] at hy
        cases q : y == n with
        | true =>
          rw [q] at hy
          have q' : y = n := eq_of_beq q
          subst q'
          cases hy
          exact e
        | false => rw [q] at hy; exact ha y d' hy
    · rw [if_neg hk] at h; exact clo_from ha h
theorem clo_acc {env : Env} {x : Str} {c : Addr} (hc : env.cells.lookup x = some c) : ∀ {names : List (Str × NameKind)} {acc : List (Str × Addr)}, (acc.lookup x = some c ∨ (x, NameKind.free) ∈ names) → (clo env names acc).lookup x = some c
  | [], acc, h => by
    rcases h with h | h
    · exact h
    · exact absurd h (by simp)
  | (n, k) :: r, acc, h => by
    unfold clo
    by_cases hk : (k == NameKind.free) = true
    · rw [if_pos hk]
      have hk' : k = NameKind.free := eq_of_beq hk
      by_cases hx : x = n
      · subst hx
        rw [hc]
        exact clo_acc hc (.inl (by rw [List.lookup_cons]; simp))
      · have h' : acc.lookup x = some c ∨ (x, NameKind.free) ∈ r := by
          rcases h with h | h
          · exact .inl h
          · rcases List.mem_cons.mp h with e | e
            · exact absurd (congrArg Prod.fst e) hx
            · exact .inr e
        cases e : env.cells.lookup n with
        | none => exact clo_acc hc h'
        | some d =>
          refine clo_acc hc (h'.imp (fun q => ?_) id)
          rw [List.lookup_cons]
          have hb : (x == n) = false := beq_eq_false_iff_ne.mpr hx
          rw [hb]
          exact q
    · rw [if_neg hk]
      refine clo_acc hc (h.imp id fun q => ?_)
      rcases List.mem_cons.mp q with e | e
      · exfalso
        have : k = NameKind.free := (congrArg Prod.snd e).symm
        exact hk (by rw [this]; rfl)
      · exact e
theorem closureFor_clo {scope : Scope} {env : Env} (h : ∀ x ∈ scope.names, x.2 = .free → ∃ c, env.cells.lookup x.1 = some c) : closureFor scope env = pure (clo env scope.names []) := by
  have go : ∀ (names : List (Str × NameKind)) (acc : List (Str × Addr)), (∀ x ∈ names, x.2 = .free → ∃ c, env.cells.lookup x.1 = some c) →
      (forIn names acc fun x cs => (match x with | (name, kind) => if (kind == .free) = true then do let c ← cellOf env name; pure (ForInStep.yield ((name, c) :: cs)) else pure (ForInStep.yield cs) : Sem (ForInStep (List (Str × Addr))))) = (pure (clo env names acc) : Sem (List (Str × Addr))) := by
    intro names
    induction names with
    | nil => intro acc _; rfl
    | cons p r ih =>
      intro acc hp
      obtain ⟨n, k⟩ := p
      have hr := fun x hx => hp x (List.mem_cons_of_mem _ hx)
      rw [List.forIn_cons]
      unfold clo
      by_cases hk : (k == NameKind.free) = true
      · obtain ⟨c, hc⟩ := hp (n, k) List.mem_cons_self (eq_of_beq hk)
        have hco : cellOf env n = pure c := by unfold cellOf; simp only at hc; rw [hc]
        simp only [hk, if_true, hco]
        simp only at hc
        rw [hc]
        exact ih ((n, c) :: acc) hr
      · simp only [hk, if_false]
        exact ih acc hr
  unfold closureFor
  dsimp only
  rw [go scope.names [] h]
  rfl
theorem lookup_relabel_free {env : Env} : ∀ {names : List (Str × NameKind)} {x : Str}, names.lookup x = some .free →
    (names.map fun (n, k) => if (k == NameKind.free && env.scope.kind == .function && env.kindOf n == some .cell) then (n, NameKind.cell) else (n, k)).lookup x = some .cell ∨
    (names.map fun (n, k) => if (k == NameKind.free && env.scope.kind == .function && env.kindOf n == some .cell) then (n, NameKind.cell) else (n, k)).lookup x = some .free
  | [], _, h => by simp at h
  | (n, k) :: r, x, h => by
    have ih := @lookup_relabel_free env r x
    show List.lookup x ((if (k == NameKind.free && env.scope.kind == .function && env.kindOf n == some .cell) = true then (n, NameKind.cell) else (n, k)) :: _) = _ ∨ List.lookup x ((if (k == NameKind.free && env.scope.kind == .function && env.kindOf n == some .cell) = true then (n, NameKind.cell) else (n, k)) :: _) = _
    cases hx : x == n with
    | true =>
      simp only [List.lookup_cons, hx] at h
      cases h
      by_cases hc : (NameKind.free == NameKind.free && env.scope.kind == .function && env.kindOf n == some .cell) = true
      · rw [if_pos hc]; simp only [List.lookup_cons, hx]; exact .inl trivial
      · rw [if_neg hc]; simp only [List.lookup_cons, hx]; exact .inr trivial
    | false =>
      simp only [List.lookup_cons, hx] at h
      by_cases hc : (k == NameKind.free && env.scope.kind == .function && env.kindOf n == some .cell) = true
      · rw [if_pos hc]; simp only [List.lookup_cons, hx]; exact ih h
      · rw [if_neg hc]; simp only [List.lookup_cons, hx]; exact ih h
def compX (X : Cx) (scope : Scope) (N' : List Str) (s : Shared) (H : Hp) (fp : List Addr) (C : Addr) : Cx :=
  { prog := X.prog, w := X.w, K := X.K, mg := X.mg, base := X.base, A := X.A, N := N', s₀ := s, H₀ := H, env := compEnvC scope (clo X.env scope.names []) C X.env, outer := X.stack, stack := X.stack, ex := fp, fn := fun _ => false,
    calm := X.calm, pn := [], xe := fun _ _ => False }
structure CompSc (N : List Str) (sc0 scope : Scope) (own fr : List Str) (js : List Nat) : Prop where
  kind : scope.kind = .function
  cell : ∀ y ∈ scope.names, y.2 ≠ .cell
  loc : ∀ x ∈ scope.names, x.2 = .local → scope.names.lookup x.1 = some .local
  free : ∀ x ∈ scope.names, x.2 = .free → sc0.names.lookup x.1 = some .cell ∨ sc0.names.lookup x.1 = some .free
  len : js.length = fr.length
  fr : ∀ p ∈ fr.zip js, N[p.2]? = some p.1 ∧ scope.names.lookup p.1 = some .free
def stOf (own : Nat) (js : List Nat) (σ : St) : St := List.replicate own none ++ js.map fun j => (σ[j]?).join
def tComp (wi : TI) (g : TG) (te : TE) (own : Nat) (js : List Nat) : TE := fun σ H Q => wi σ H fun J H1 => ∀ p, H1 p = none → ∃ W : Nat → Nat → St → Hp → Prop, (∃ m, W 0 m (stOf own js σ) (upd H1 p (.lst []))) ∧
  ∀ i m σ' H', W i m σ' H' → (J.stop i H' ∧ Q (.ref p) H') ∨ (J.go i H' ∧ ∀ x H2, J.yld i H' x H2 → g x σ' H2 fun σ2 H3 => te σ2 H3 fun v H4 => ∃ ys, H4 p = some (.lst ys) ∧ ys.length < sizeLine ∧ ∃ m', m' < m ∧ W (i + 1) m' σ2 (upd H4 p (.lst (ys ++ [v]))))
section
variable {X : Cx}
theorem comp_start {pins : List (Addr × Obj)} {σ : St} {H : Hp} {s : Shared} {h1 : Heap} {scope : Scope} {own fr : List Str} {js : List Nat} {sc0 : Scope} {N : List Str} {fp : List Addr} {tk : Nat} (I : Inv X pins σ H s) (hN : X.N = N) (hsc : X.env.scope = sc0) (S : CompSc N sc0 scope own fr js) (hf : ∀ b ∈ fp, FpOk X pins H b)
    (hlt : ∀ b ∈ fp, b < s.heap.objs.size) (hn : h1.Ns s.heap.objs.size (fun _ => none)) (hk : ∀ b o, s.heap.get? b = some o → h1.get? b = some o) :
    Inv (compX X scope (own ++ fr) s H fp s.heap.objs.size) [] (stOf own.length js σ) H { s with heap := h1, toks := tk } := by
  subst hN hsc
  have ok := I.ok
  have cl : ∀ x c, (clo X.env scope.names []).lookup x = some c → X.env.cells.lookup x = some c := fun x c h => clo_from (fun y d hy => by simp at hy) h
  have hasC : ∀ x, (X.env.scope.names.lookup x = some .cell ∨ X.env.scope.names.lookup x = some .free) → ∃ c, X.env.cells.lookup x = some c := fun x hx => ok.has x hx
  refine ⟨⟨ok.mod, S.kind, ok.glob, ok.blt, Nat.le_refl _, fun x y c h1 h2 => ok.inj x y c (cl x c h1) (cl y c h2), fun x hx => ?_, fun _ _ h => (Bool.false_ne_true h).elim, ok.hd, ok.frames, .inl rfl, fun b hb => ⟨Nat.ne_of_lt (hlt b hb), fun x c h => (hf b hb).2.2.2.2.1 x c (cl x c h)⟩,
    fun b o e => I.bs b o e, Nat.le_trans ok.bsz I.sz, fun b o e hb => ?_, fun b hb => fun z => ?_, I.stack, I.stkFree⟩, rfl, I.bare, Un.kept hk, ⟨_, hn, fun i x v h1 h2 h3 => ?_⟩, fun x c h => ?_, I.hok.fresh (Nat.le_refl _), fun x c h => I.freeC x c (cl x c h), fun p hp => absurd hp (by intro z; exact absurd (show p ∈ ([] : List (Addr × Obj)) from z) (by simp)), I.hok.kept hk, ?_⟩
  ·
    have hx' : (relabel scope X.env).names.lookup x = some .cell ∨ (relabel scope X.env).names.lookup x = some .free := hx
    have hfree : ∃ k, scope.names.lookup x = some k ∧ (k = .free ∨ k = .cell) := by
      have back : ∀ (names : List (Str × NameKind)), ((names.map fun (n, k) => if (k == NameKind.free && X.env.scope.kind == .function && X.env.kindOf n == some .cell) then (n, NameKind.cell) else (n, k)).lookup x = some .cell ∨
          (names.map fun (n, k) => if (k == NameKind.free && X.env.scope.kind == .function && X.env.kindOf n == some .cell) then (n, NameKind.cell) else (n, k)).lookup x = some .free) → ∃ k, names.lookup x = some k ∧ (k = .free ∨ k = .cell) := by
        intro names
        induction names with
        | nil => intro h; simp at h
        | cons p r ih =>
          obtain ⟨n, k⟩ := p
          intro h
          rw [List.map_cons] at h
          rw [List.lookup_cons]
          by_cases hc : (k == NameKind.free && X.env.scope.kind == .function && X.env.kindOf n == some .cell) = true
          · simp only [hc, if_true, List.lookup_cons] at h
            cases q : x == n with
            | true =>
              simp only [Bool.and_eq_true] at hc
              exact ⟨k, rfl, .inl (eq_of_beq hc.1.1)⟩
            | false => rw [q] at h; exact ih h
          · simp only [hc, Bool.false_eq_true, if_false, List.lookup_cons] at h
            cases q : x == n with
            | true =>
              rw [q] at h
              refine ⟨k, rfl, ?_⟩
              rcases h with h | h
              · exact .inr (Option.some.inj h)
              · exact .inl (Option.some.inj h)
            | false => rw [q] at h; exact ih h
      exact back _ hx'
    obtain ⟨k, e, z⟩ := hfree
    have hm : (x, k) ∈ scope.names := PySem.mem_of_lookup e
    rcases z with z | z
    · subst z
      obtain ⟨c, hc⟩ := hasC x (S.free _ hm rfl)
      exact ⟨c, clo_acc hc (.inr hm)⟩
    · exact absurd z (S.cell _ hm)
  · rcases (hf b hb).2.2.2.1 with z | z
    · exact ok.noex b o e z
    · exact absurd (Nat.lt_of_lt_of_le (Heap.lt_size (ok.bs b o e).1) z) (Nat.lt_irrefl _)
  · rcases List.mem_cons.mp (I.stkSub b z) with e | e
    · exact (hf b hb).2.1 e
    · exact (hf b hb).2.2.1 e
  · unfold stOf at h2
    by_cases hi : i < own.length
    · rw [List.getElem?_append_left (by simpa using hi), List.getElem?_replicate] at h2
      rw [if_pos hi] at h2
      cases h2
    · have hio : own.length ≤ i := Nat.le_of_not_lt hi
      rw [List.getElem?_append_right (by simpa using hio), List.length_replicate, List.getElem?_map] at h2
      have h1' : fr[i - own.length]? = some x := by
        have h1'' : (own ++ fr)[i]? = some x := h1
        rw [List.getElem?_append_right hio] at h1''
        exact h1''
      cases ej : js[i - own.length]? with
      | none => rw [ej] at h2; cases h2
      | some j =>
        rw [ej] at h2
        have h2' : (σ[j]?).join = some v := Option.some.inj h2
        have h2'' : σ[j]? = some (some v) := by
          cases q : σ[j]? with
          | none => rw [q] at h2'; cases h2'
          | some o => rw [q] at h2'; have : o = some v := h2'; rw [this]
        have hz : (x, j) ∈ fr.zip js := by
          refine List.mem_iff_getElem?.mpr ⟨i - own.length, ?_⟩
          rw [List.getElem?_zip_eq_some]
          exact ⟨h1', ej⟩
        obtain ⟨hj, hxf⟩ := S.fr _ hz
        have hcf := S.free _ (PySem.mem_of_lookup hxf) rfl
        obtain ⟨m, hm, hl⟩ := I.loc
        have hvis : Vis X.env.scope x := hcf.elim (fun z => .inr (.inl z)) fun z => .inr (.inr z)
        obtain ⟨u, r, l⟩ := hl j x v hj h2'' hvis
        refine ⟨u, r, .inr ⟨lookup_relabel_free hxf, ?_⟩⟩
        rcases l with ⟨lk, _⟩ | ⟨_, c, hc, hcell⟩
        · have lk' : X.env.scope.names.lookup x = some .local := lk
          rcases hcf with z | z
          · rw [lk'] at z; cases z
          · rw [lk'] at z; cases z
        · exact ⟨c, clo_acc hc (.inr (PySem.mem_of_lookup hxf)), hcell.keeps hk⟩
  · obtain ⟨v, z⟩ := I.cell x c (cl x c h)
    exact ⟨v, z.keeps hk⟩
  · show (stOf own.length js σ).length = (own ++ fr).length
    unfold stOf
    rw [List.length_append, List.length_replicate, List.length_map, List.length_append, S.len]
theorem compTurn_list1' (elt target iter : Expr) (scope : Scope) (pos : Pos) (it acc : Value) (env : Env) :
    compTurn (.ListComp elt [⟨target, iter, [], 0⟩] scope pos) 0 it acc env = (standAt iter.pos >>= fun _ => pyNext it >>= fun r => match r with
      | none => pure (.done .next)
      | some v => letOwnedTupleGo target it v >>= fun _ => assign target env v >>= fun _ =>
        (eval elt env >>= fun x => call (.builtin "list.append") [acc, x] >>= fun _ => pure ()) >>= fun _ =>
          again (.compLoop (.ListComp elt [⟨target, iter, [], 0⟩] scope pos) 0 it acc env)) := by rfl
theorem codeAny_compLoop_any {prog : Program} {w : World} {A : Around} {s : Shared} {R : Result → Shared → Prop} {elt target iter : Expr} {scope : Scope} {pos : Pos} {it acc : Value} {env : Env} (I : Nat → Shared → Prop)
    (turn : ∀ n s, I n s → wpAny (model prog w) A (pyNext it) (fun r s₁ => match r with
      | none => R (.ok .next) s₁
      | some v => wpAny (model prog w) A (letOwnedTupleGo target it v) (fun _ s₁' => wpAny (model prog w) A (assign target env v) (fun _ s₂ => wpAny (model prog w) A (eval elt env) (fun x s₃ =>
          wpAny (model prog w) A (call (.builtin "list.append") [acc, x]) (fun _ s₄ => ∃ m, m < n ∧ I m s₄) (fun _ _ => False) s₃)
          (fun _ _ => False) s₂) (fun _ _ => False) s₁') (fun _ _ => False) s₁) (fun _ _ => False) s)
    (n : Nat) (h : I n s) :
    codeAny (model prog w) A (.compLoop (.ListComp elt [⟨target, iter, [], 0⟩] scope pos) 0 it acc env) R s := by
  refine codeAny_loop rfl I (fun n s hI => ?_) n h
  show wpAny _ _ ((compTurn (.ListComp elt [⟨target, iter, [], 0⟩] scope pos) 0 it acc env).onRaise (fun x => do noteFrame x env; theTreesLotGoes x)) _ _ s
  refine wpAny_noted ?_
  rw [compTurn_list1']
  refine wpAny_bind (wpAny_standAt (wpAny_bind (wpAny_mono (turn n s hI) (fun r s₁ h₁ => ?_) fun _ _ h' => h'.elim)))
  cases r with
  | none => exact wpAny_pure h₁
  | some v =>
    exact wpAny_bind (wpAny_mono h₁ (fun _ s₁' h₁' => wpAny_bind (wpAny_mono h₁' (fun _ s₂ h₂ => wpAny_bind (wpAny_bind (wpAny_mono h₂ (fun x s₃ h₃ => wpAny_bind (wpAny_mono h₃
      (fun _ s₄ h₄ => wpAny_pure (wpAny_pure ⟨rfl, h₄⟩)) fun _ _ h' => h'.elim)) fun _ _ h' => h'.elim))) fun _ _ h' => h'.elim)) fun _ _ h' => h'.elim)
theorem pe_comp {tg iter elt : Expr} {scope : Scope} {pos : Pos} {wi : TI} {g : TG} {te : TE} (own fr : List Str) (js : List Nat) {sc0 : Scope} {N : List Str} (hc : X.calm = true) (hN : X.N = N) (hsc : X.env.scope = sc0) (S : CompSc N sc0 scope own fr js)
    (hi : PI X tg iter wi) (hg : ∀ s H fp C, PG (compX X scope (own ++ fr) s H fp C) tg g) (he : ∀ s H fp C, PE (compX X scope (own ++ fr) s H fp C) elt te)
    (hs : ∀ x, foldedSetIterable iter X.env x = pure x := by intro _; rfl) : PE X (.ListComp elt [⟨tg, iter, [], 0⟩] scope pos) (tComp wi g te own.length js) := by
  intro pins s σ H Q I h
  rw [eval_ListComp]
  have hclos : closureFor scope X.env = pure (clo X.env scope.names []) := closureFor_clo fun x hx e => by
    subst hsc
    exact I.ok.has x.1 (S.free x hx e)
  refine wpAny_comprehension_free (use := none) rfl hs hclos S.kind S.loc (thn (hi pins s σ H _ I h) fun xv s1 h1 => thn h1 fun itv s2 h2 => ?_)
  obtain ⟨it, fp, tn, J, H2, e, I2, T, st2, f2, rest⟩ := h2
  subst e
  refine wpAny_newObj_type ?_
  obtain ⟨W, ⟨m0, w0⟩, turn⟩ := rest s2.heap.objs.size (I2.hok.fresh (Nat.le_refl _))
  have I3 : Inv X pins σ (upd H2 s2.heap.objs.size (.lst [])) { s2 with heap := s2.heap.push { cls := .type "list", dict := none, data := .seq ([] : List Value).toArray } } :=
    I2.lnew (its := []) (t' := s2.toks) .nil (Nat.zero_le _)
  generalize hs3 : ({ s2 with heap := s2.heap.push { cls := .type "list", dict := none, data := .seq ([] : List Value).toArray } } : Shared) = s3 at I3 ⊢
  have ho3 : ∀ b o, s2.heap.get? b = some o → s3.heap.get? b = some o := fun b o e => by rw [← hs3]; exact Heap.get?_push_of_some _ e
  have f3 : ∀ b ∈ fp, FpOk X pins (upd H2 s2.heap.objs.size (.lst [])) b := fun b hb => by
    obtain ⟨o, e, _⟩ := T.obj _ _ st2 b hb
    exact ⟨by rw [upd_ne (Nat.ne_of_lt (Heap.lt_size e))]; exact (f2 b hb).1, (f2 b hb).2⟩
  have l3 : ∀ b ∈ fp, b < s3.heap.objs.size := fun b hb => by
    obtain ⟨o, e, _⟩ := T.obj _ _ st2 b hb
    exact Heap.lt_size (ho3 b o e)
  have st3 : tn 0 s3.heap := T.keep _ _ _ st2 fun b _ o e => ho3 b o e
  refine wpAny_newFunctionEnv S.cell (by intro y hy; simp at hy) (fun h4 hn4 sb4 => ?_) S.kind
  have ho4 : ∀ b o, s3.heap.get? b = some o → h4.get? b = some o := fun b o e => sb4.extBut b o (Nat.ne_of_lt (Heap.lt_size e)) (Heap.get?_push_of_some _ e)
  have hn4' : h4.Ns s3.heap.objs.size (fun _ => none) := hn4
  have J0 := comp_start (scope := scope) (own := own) (fr := fr) (js := js) (tk := s3.toks + ([] : List (Str × Value)).length) I3 hN hsc S f3 l3 hn4' ho4
  have st4 : tn 0 h4 := T.keep _ _ _ st3 fun b _ o e => ho4 b o e
  show codeAny (model X.prog X.w) X.A (.compStart (.ListComp elt [⟨tg, iter, [], 0⟩] scope pos) 0 (.ref it) (.ref s2.heap.objs.size) (compX X scope (own ++ fr) s3 (upd H2 s2.heap.objs.size (.lst [])) fp s3.heap.objs.size).env) (compPost (model X.prog X.w) X.A X.xe none (EP X pins σ Q) (.ref s2.heap.objs.size) s3.heap.objs.size) _
  generalize hX' : compX X scope (own ++ fr) s3 (upd H2 s2.heap.objs.size (.lst [])) fp s3.heap.objs.size = X' at J0 ⊢
  have hgX : PG X' tg g := hX' ▸ hg _ _ _ _
  have heX : PE X' elt te := hX' ▸ he _ _ _ _
  have eP : X'.prog = X.prog := by rw [← hX']; rfl
  have eW : X'.w = X.w := by rw [← hX']; rfl
  have eK : X'.K = X.K := by rw [← hX']; rfl
  have eC : X'.calm = true := by rw [← hX']; exact hc
  have eA : X'.A = X.A := by rw [← hX']; rfl
  have eX : X'.xe = fun _ _ => False := by rw [← hX']; rfl
  have eEx : X'.ex = fp := by rw [← hX']; rfl
  have eL : X'.env.locals = s3.heap.objs.size := by rw [← hX']; rfl
  have eN : X'.N = own ++ fr := by rw [← hX']; rfl
  have cl' : ∀ x c, X'.env.cells.lookup x = some c → X.env.cells.lookup x = some c := fun x c h => clo_from (names := scope.names) (acc := []) (fun y d hy => by simp at hy) (by rw [← hX'] at h; exact h)
  have eFs : X'.fs = frs X.stack := by rw [← hX']; rfl
  have ePn : X'.pn = [] := by rw [← hX']; rfl
  have fp' : ∀ {H' : Hp}, (∀ b ∈ fp, H' b = none) → ∀ b ∈ fp, FpOk X' [] H' b := fun hn b hb => ⟨hn b hb, by rw [eL]; exact Nat.ne_of_lt (l3 b hb), by
      rw [eFs]; intro z
      rcases List.mem_cons.mp (I3.stkSub b z) with e | e
      · exact (f3 b hb).2.1 e
      · exact (f3 b hb).2.2.1 e, .inl (by rw [eEx]; exact hb), fun x c h => (f3 b hb).2.2.2.2.1 x c (cl' x c h), fun p hp => by rw [ePn] at hp; exact absurd (show p ∈ ([] : List (Addr × Obj)) from hp) (by simp)⟩
  have loop : ∀ s4 : Shared, s4 = { s3 with heap := h4, toks := s3.toks + ([] : List (Str × Value)).length } →
      codeAny (model X.prog X.w) X.A (.compLoop (.ListComp elt [⟨tg, iter, [], 0⟩] scope pos) 0 (.ref it) (.ref s2.heap.objs.size) X'.env) (compPost (model X.prog X.w) X.A X.xe none (EP X pins σ Q) (.ref s2.heap.objs.size) s3.heap.objs.size) s4 := by
    rintro s4 rfl
    refine codeAny_compLoop_any (fun n s' => ∃ i σ' H', Inv X' [] σ' H' s' ∧ tn i s'.heap ∧ (∀ b ∈ fp, H' b = none) ∧ W i n σ' H') ?_ m0 ⟨0, _, _, J0, st4, fun b hb => (f3 b hb).1, w0⟩
    rintro n s5 ⟨i, σ5, H5, I5, st5, fr5, w5⟩
    rcases turn i n σ5 H5 w5 with ⟨stop, q⟩ | ⟨go, step⟩
    · have hd := T.done X' eP eW eK eC i [] s5 σ5 H5 (fun _ _ => False) I5 (fp' fr5) st5 stop
      rw [eA] at hd
      refine thn hd fun r s6 ⟨hr, I6⟩ => ?_
      subst hr
      obtain ⟨m6, hn6, _⟩ := I6.loc
      rw [eL] at hn6
      refine ⟨m6, hn6, fun h7 sb7 => ?_⟩
      have hC : H5 s3.heap.objs.size = none := by have := I6.free; rw [eL] at this; exact this
      have hok7 : HOk X.prog X.w H5 h7 := fun b ob e => by
        have e6 := I6.hok b ob e
        rw [eP, eW] at e6
        refine e6.stay (fun c w' hc q => (sb7.2 c ?_).trans q) (fun _ q => q) fun _ _ q => q
        rintro rfl
        rcases hc with z | z
        · rw [← z, hC] at e; cases e
        · rw [hC] at z; cases z
      have un : Un (frs X.stack) fp (upd H2 s2.heap.objs.size (.lst [])) H5 s3.heap h7 := by
        have b6 := I6.base
        have e0 : X'.H₀ = upd H2 s2.heap.objs.size (.lst []) := by rw [← hX']; rfl
        have e1 : X'.s₀ = s3 := by rw [← hX']; rfl
        rw [eFs, eEx, e0, e1] at b6
        have ne : ∀ b o, s3.heap.get? b = some o → b ≠ s3.heap.objs.size := fun b o e => Nat.ne_of_lt (Heap.lt_size e)
        exact ⟨fun b o e n hb hx => (sb7.2 b (ne b o e)).trans (b6.keep b o e n hb hx), fun b o e n hb hx => by
            obtain ⟨sl, z⟩ := b6.slot b o e n hb hx
            exact ⟨sl, (sb7.2 b (ne b o e)).trans z⟩, b6.free, fun b o e hx => by
            obtain ⟨o', z⟩ := b6.there b o e hx
            exact ⟨o', (sb7.2 b (ne b o e)).trans z⟩, b6.tups, b6.frzs, b6.tbls⟩
      have os7 : s6.os = s3.os := by have := I6.os; rw [← hX'] at this; exact this
      have I7 : Inv X pins σ H5 { s6 with heap := h7 } := I3.call' (s' := { s6 with heap := h7 }) (ch := fp) os7 un hok7 I6.bare fun b hb => ⟨(f3 b hb).2.2.2.1, (f3 b hb).2.1, (f3 b hb).2.2.2.2.1, (f3 b hb).2.2.2.2.2⟩
      exact ⟨.ref s2.heap.objs.size, H5, I7, rfl, q⟩
    · have hd := T.item X' eP eW eK eC i [] s5 σ5 H5 (fun _ _ => False) I5 (fp' fr5) st5 go
      rw [eA] at hd
      refine thn hd fun r s6 ⟨u, hr, h6⟩ => ?_
      subst hr
      refine thn h6 fun _ s7 ⟨x, H7, I7, r7, y7, st7, fr7⟩ => ?_
      have I7' := I7.pinned (fp' fr7) (T.obj _ _ st7)
      have hg7 := hgX _ s7 σ5 H7 x u _ I7' r7 (step x H7 y7)
      rw [eP, eW, eA, eX] at hg7
      refine thn hg7 fun _ s8 ⟨σ8, H8, I8, q8⟩ => ?_
      have he8 := heX _ s8 σ8 H8 _ I8 q8
      rw [eP, eW, eA, eX] at he8
      refine thn he8 fun v s9 ⟨z, H9, I9, r9, ys, hp9, hz9, m', hm', w9⟩ => ?_
      have ha := mt_append (X := X') _ s9 σ8 H9 (.ref s2.heap.objs.size) [z] (.ref s2.heap.objs.size) [v] (fun _ H' => ∃ m', m' < n ∧ W (i + 1) m' σ8 H') I9 rfl (.cons r9 .nil) ⟨_, ys, z, rfl, rfl, hp9, hz9, m', hm', w9⟩
      rw [eP, eW, eA, eX] at ha
      refine thn ha fun _ s10 ⟨_, H10, I10, _, m'', hm'', w10⟩ => ?_
      have pin10 : ∀ b ∈ fp, ∀ o, s7.heap.get? b = some o → s10.heap.get? b = some o ∧ H10 b = none := fun b hb o e =>
        let z := I10.pin (b, o) (List.mem_append_right _ (List.mem_append_right _ (mem_pinsAt hb e)))
        ⟨z.1, z.2.1⟩
      refine ⟨m'', hm'', i + 1, σ8, H10, I10.unpinned, T.keep _ _ _ st7 fun b hb o e => (pin10 b hb o e).1, fun b hb => ?_, w10⟩
      obtain ⟨o, e, _⟩ := T.obj _ _ st7 b hb
      exact (pin10 b hb o e).2
  have st4' : tn 0 ({ s3 with heap := h4, toks := s3.toks + ([] : List (Str × Value)).length } : Shared).heap := st4
  exact codeAny_compStart_list (loop _ rfl) (T.self X.A 0 _ _ _ st4' (loop _ rfl))
end
end L2
end
section
namespace PySem
open Sem (wp)
open AutoSeq1 (wpAny_loadPart')
section
variable {prog : Program} {w : World} {A : Around} {E : Value → Shared → Prop} {s : Shared}
end
end PySem
end
section
namespace L2
open PySem PySem.Spec PyProof.Rows
section
variable {X : Cx} {pins : List (Addr × Obj)} {σ : St} {H : Hp} {s : Shared} {h' : Heap}
theorem Inv.turnedL {ch : List Addr} {a : Addr} {o : HO} {t' : Nat} (I : Inv X pins σ H s) (hf : ∀ b ∈ ch, FpOk X pins H b) (k : ∀ b u, b ∉ ch → s.heap.get? b = some u → h'.get? b = some u) (hp : s.heap.objs.size ≤ a)
    (new : ObjOk X.prog X.w (upd H a o) h' a o) : Inv X pins σ (upd H a o) { s with heap := h', toks := t' } := by
  have hn : H a = none := I.hok.fresh hp
  have nch : ∀ b u, H b = some u → b ∉ ch := fun b u e z => by have := (hf b z).1; rw [e] at this; cases this
  have nea : ∀ b u, s.heap.get? b = some u → b ≠ a := fun b u e => Nat.ne_of_lt (Nat.lt_of_lt_of_le (Heap.lt_size e) hp)
  refine I.step (g' := s.gens) (d' := s.drawn) (ch := ch) (fun b hb => ⟨(hf b hb).2.2.2.1, (hf b hb).2.1, (hf b hb).2.2.2.2.1, (hf b hb).2.2.2.2.2⟩) (fun b u _ _ hc e _ => k b u hc e) (fun b u _ _ hc e _ => ⟨u.slots, k b u hc e⟩)
    (fun b u _ e n => by rw [upd_ne (nea b u e)]; exact n) (fun b u hc e => ⟨u, k b u hc e⟩) (fun b xs e => by rw [upd_ne (ne_of_none e hn)]; exact e) (fun b u xs e => by rw [upd_ne (ne_of_none e hn)]; exact e)
    (fun b ps e => ⟨#[], by rw [upd_ne (ne_of_none e hn), e]; simp⟩) (fun m hm => ?_) (fun b u e => ?_) I.bare
  · obtain ⟨ol, es, ep, ho, r⟩ := hm
    exact ⟨ol, es, ep, k _ ol (fun z => (hf _ z).2.1 rfl) ho, r⟩
  · by_cases hb : b = a
    · subst hb; rw [upd_same] at e; cases e; exact new
    · rw [upd_ne hb] at e
      refine (I.hok b u e).stay (fun c v hc q => k c v ?_ q) (fun c q => by rw [upd_ne (ne_of_none q hn)]; exact q) fun c xs q => by rw [upd_ne (ne_of_none q hn)]; exact q
      rcases hc with z | z
      · rw [z]; exact nch b u e
      · exact nch c _ z
end
def ItS (x : Str) : It := ⟨fun i _ => i < x.cps.size, fun i H v H' => ∃ t c, H t = none ∧ x.cps[i]? = some c ∧ v = .ref t ∧ H' = upd H t (.tup [.int i, .str ⟨#[c]⟩]), fun i _ => i = x.cps.size⟩
theorem drawsS {prog : Program} {w : World} {A : Around} (hh : A.handled = none) (it : Addr) (x : Str) (t : Tok) :
    Draws prog w A it [it] x.cps.size (fun i v => ∃ c u, x.cps[i]? = some c ∧ v = .str ⟨#[c]⟩ u) (fun i h => h.IsStrIter it (strIterType x) x t i) := by
  cases ha : x.cps.all (· < 128)
  · have e : strIterType x = "str_iterator" := by simp [strIterType, ha]
    rw [e]; exact Draws.strWide hh it x t
  · have e : strIterType x = "str_ascii_iterator" := by simp [strIterType, ha]
    rw [e]; exact Draws.strAscii hh it x t
theorem turn_enumS {P : Program} {w : World} {K : PySem.W.Frag} {elts : List Expr} {k : Nat} {pos : Pos} (x : Str) (t : Tok) (e it : Addr) (hei : e ≠ it) :
    Turn P w K (.Tuple elts k pos) (ItS x) [e, it] e (fun i h => (∃ old, IsEnum h e it i old) ∧ h.IsStrIter it (strIterType x) x t i) where
  mem := by simp
  obj := fun i h st b hb => by
    obtain ⟨⟨old, he⟩, o, ho, hc, hd⟩ := st
    rcases List.mem_cons.mp hb with z | z
    · subst z; exact ⟨_, he, fun v z => by have z' : Data.fields _ = Data.cell v := z; cases z'⟩
    · have z' : b = it := by simpa using z
      subst z'; exact ⟨o, ho, fun v z => by rw [hd] at z; cases z⟩
  keep := fun i h h' st kk => by
    obtain ⟨⟨old, he⟩, o, ho, r⟩ := st
    exact ⟨⟨old, kk e (by simp) _ he⟩, o, kk it (by simp) o ho, r⟩
  item := by
    intro X hP hw hK hc i pins s σ H E I hf st hg
    subst hP hw hK
    obtain ⟨⟨old, he⟩, hs⟩ := st
    have hh : X.A.in1.handled = none := I.ok.hd hc
    refine wpAny_pyNext_enum_itemD (drawsS hh it x t) he hs hg hei (by simp [hei]) fun v h1 tk hv ho hs1 hT hsz hk => ?_
    obtain ⟨c, u, hxc, rfl⟩ := hv
    refine ⟨_, rfl, wpAny_letOwnedTupleGo_enum ho fun h2 he2 sb2 => ?_⟩
    have hlt : e < s.heap.objs.size := Heap.lt_size he
    have sb2' : Heap.SameBut e h1 h2 := sb2
    have hT2 : h2.get? s.heap.objs.size = some { cls := .type "tuple", data := .seq #[.int i tk, .str ⟨#[c]⟩ u] } := (sb2'.2 _ (Nat.ne_of_gt hlt)).trans hT
    refine ⟨.ref s.heap.objs.size, upd H s.heap.objs.size (.tup [.int i, .str ⟨#[c]⟩]), ?_, rfl, ⟨_, c, I.hok.fresh (Nat.le_refl _), hxc, rfl, rfl⟩, ⟨⟨_, by simpa using he2⟩, ?_⟩, fun b hb => ?_⟩
    · refine I.turnedL (ch := [e, it]) (t' := tk + 1) hf (fun b o hb q => ?_) (Nat.le_refl _) ⟨by show 2 ≤ sizeLine; decide, [.int i tk, .str ⟨#[c]⟩ u], .cons ⟨_, rfl⟩ (.cons ⟨_, rfl⟩ .nil), _, hT2, rfl, _, rfl⟩
      have h1' : b ≠ e := fun z => hb (by simp [z])
      have h2' : b ≠ it := fun z => hb (by simp [z])
      exact (sb2'.2 b h1').trans (hk b o h1' h2' q)
    · obtain ⟨o, q, r⟩ := hs1
      exact ⟨o, (sb2'.2 it (Ne.symm hei)).trans q, r⟩
    · have hb0 := hf b hb
      have ne : b ≠ s.heap.objs.size := by
        rcases List.mem_cons.mp hb with z | z
        · rw [z]; exact Nat.ne_of_lt hlt
        · have z' : b = it := by simpa using z
          obtain ⟨o, q, _⟩ := hs
          rw [z']; exact Nat.ne_of_lt (Heap.lt_size q)
      rw [upd_ne ne]; exact hb0.1
  done := by
    intro X hP hw hK hc i pins s σ H E I hf st hg
    subst hP hw hK
    obtain ⟨⟨old, he⟩, hs⟩ := st
    have hh : X.A.in1.handled = none := I.ok.hd hc
    have hi : i = x.cps.size := hg
    obtain ⟨f0, f1, f2, f3, f4, f5⟩ := hf it (by simp)
    refine wpAny_pyNext_enum_endD (drawsS hh it x t) he (by rw [← hi]; exact hs) fun h1 eb => ⟨rfl, I.turned (t' := s.toks) (fun b o hb q => eb b o hb q) f0 f1 f3 f4 f5⟩
  self := fun _ _ _ _ _ st h => by
    obtain ⟨⟨old, he⟩, _⟩ := st
    exact wpAny_pyIter_enum he h
section
variable {X : Cx}
def iEnumS (ta : TE) : TI := fun σ H R => ta σ H fun v H1 => ∃ x, v = .str x ∧ R (ItS x) H1
theorem boot_enum : bootBuiltins "enumerate" = some (.type "enumerate") := by decide +kernel
theorem pi_enumS {elts : List Expr} {k : Nat} {tp : Pos} {a : Expr} {ta : TE} {p pos : Pos} (hg : Gl X "enumerate") (hm : X.mg "enumerate" = none) (ha : PE X a ta) (hs : starEach [a] X.env = [(false, eval a X.env)] := by rfl) :
    PI X (.Tuple elts k tp) (.Call (.Name "enumerate" p) [a] [] pos) (iEnumS ta) := by
  intro pins s σ H R I h
  refine Call_ (ld_blt I hg hm boot_enum (PyProof.Rows.callWith_type1 (thn (pa_cons ha pa_nil hs pos pins s σ H (fun vs H1 => ∃ x, vs = [.str x] ∧ R (ItS x) H1) I ?_) fun us s1 ⟨vs, H1, I1, r1, q1⟩ => ?_) hs rfl))
  · show ta σ H fun v H1 => ∃ x, [v] = [V.str x] ∧ R (ItS x) H1
    have h' : ta σ H fun v H1 => ∃ x, v = .str x ∧ R (ItS x) H1 := h
    have e : (fun (v : V) H1 => ∃ x, [v] = [V.str x] ∧ R (ItS x) H1) = fun v H1 => ∃ x, v = .str x ∧ R (ItS x) H1 := by
      funext v H1
      simp
    rw [e]; exact h'
  · obtain ⟨x, e, q⟩ := q1
    subst e
    cases r1 with
    | cons r rr =>
      cases rr
      obtain ⟨t, rfl⟩ := r
      refine call_enumerate_str fun h1 he hi hz hk => ?_
      have I2 : Inv X pins σ H1 { s1 with heap := h1 } := I1.kept (t' := s1.toks) hk
      refine wpAny_pyIter_enum he ⟨s1.heap.objs.size + 1, [s1.heap.objs.size + 1, s1.heap.objs.size], _, ItS x, H1, rfl, I2, turn_enumS x t _ _ (Nat.succ_ne_self _), ⟨⟨_, by simpa using he⟩, hi⟩, fun b hb => ?_, q⟩
      have hb' : s1.heap.objs.size ≤ b := by
        rcases List.mem_cons.mp hb with z | z
        · rw [z]; exact Nat.le_succ _
        · have z' : b = s1.heap.objs.size := by simpa using z
          rw [z']; exact Nat.le_refl _
      exact I1.fpOk hb' (I1.hok.fresh hb')
end
theorem for_enumS {x : Str} {g : TG} {tb : TS} {D : Ends} {σ : St} {H : Hp} (Pv : Nat → St → Hp → Prop) (h0 : Pv 0 σ H)
    (hs : ∀ i c t σ H, x.cps[i]? = some c → H t = none → Pv i σ H → g (.ref t) σ (upd H t (.tup [.int i, .str ⟨#[c]⟩])) fun σ2 H2 => tb { D with nx := Pv (i + 1), ct := Pv (i + 1), bk := D.nx } σ2 H2) (hd : ∀ σ H, Pv x.cps.size σ H → D.nx σ H) :
    ∃ W : Nat → Nat → St → Hp → Prop, (∃ m, W 0 m σ H) ∧ ∀ i m σ H, W i m σ H →
      ((ItS x).stop i H ∧ D.nx σ H) ∨ ((ItS x).go i H ∧ ∃ N : St → Hp → Prop, (∀ σ' H', N σ' H' → ∃ m', m' < m ∧ W (i + 1) m' σ' H') ∧ ∀ v H', (ItS x).yld i H v H' → g v σ H' fun σ2 H2 => tb { D with nx := N, ct := N, bk := D.nx } σ2 H2) := by
  refine ⟨fun i m σ H => m = x.cps.size - i ∧ i ≤ x.cps.size ∧ Pv i σ H, ⟨_, rfl, Nat.zero_le _, h0⟩, ?_⟩
  rintro i m σ H ⟨rfl, hi, p⟩
  by_cases hlt : i < x.cps.size
  · refine .inr ⟨hlt, Pv (i + 1), fun σ' H' p' => ⟨x.cps.size - (i + 1), by omega, rfl, hlt, p'⟩, fun v H' y => ?_⟩
    obtain ⟨t, c, ht, hc, rfl, rfl⟩ := y
    exact hs i c t σ H hc ht p
  · have e : i = x.cps.size := by omega
    subst e
    exact .inl ⟨rfl, hd σ H p⟩
end L2
end
section
namespace L2
open PySem PySem.Spec PyProof.Rows
section
variable {X : Cx}
def eqVs : List V → List V → Bool
  | [], [] => true
  | x :: xs, y :: ys => eqV x y && eqVs xs ys
  | _, _ => false
theorem eqVs_range : ∀ (xs ys : List V), xs.length = ys.length → (List.range xs.length).all (fun j => eqV (xs.getD j .non) (ys.getD j .non)) = eqVs xs ys
  | [], [], _ => rfl
  | x :: xs, y :: ys, h => by
    have ih := eqVs_range xs ys (by simpa using h)
    rw [List.length_cons, List.range_succ_eq_map, List.all_cons, List.all_map]
    show (eqV x y && _) = (eqV x y && eqVs xs ys)
    rw [← ih]; rfl
theorem eqVs_len : ∀ (xs ys : List V), xs.length ≠ ys.length → eqVs xs ys = false
  | [], [], h => absurd rfl h
  | [], _ :: _, _ => rfl
  | _ :: _, [], _ => rfl
  | x :: xs, y :: ys, h => by
    show (eqV x y && eqVs xs ys) = false
    rw [eqVs_len xs ys fun z => h (by simp [z])]; simp
theorem vals_getD {xs : List V} {us : List Value} (r : Vals xs us) {j : Nat} (h : j < us.length) : RelV (xs.getD j .non) us[j] := by
  have hx : j < xs.length := by rw [r.length]; exact h
  obtain ⟨u, hu, ru⟩ := r.get (i := j) (x := xs[j]) (by simp [hx])
  have e : us[j] = u := by
    have := hu
    rw [List.getElem?_eq_getElem h] at this
    exact Option.some.inj this
  have e2 : xs.getD j .non = xs[j] := by simp [List.getD, hx]
  rw [e, e2]; exact ru
theorem flat_getD {xs : List V} (f : xs.all flatV = true) {j : Nat} (h : j < xs.length) : flatV (xs.getD j .non) = true := by
  have e2 : xs.getD j .non = xs[j] := by simp [List.getD, h]
  rw [e2]
  exact List.all_eq_true.mp f _ (List.getElem_mem h)
theorem items_eqAt {A : Around} {s : Shared} {xs ys : List V} {us vs : List Value} (rx : Vals xs us) (ry : Vals ys vs) (fx : xs.all flatV = true) (fy : ys.all flatV = true) :
    ∀ j (h1 : j < us.toArray.size) (h2 : j < vs.toArray.size), SeqAt.EqAt A s us.toArray[j] vs.toArray[j] (eqV (xs.getD j .non) (ys.getD j .non)) := by
  intro j h1 h2
  have h1' : j < us.length := by simpa using h1
  have h2' : j < vs.length := by simpa using h2
  have q := eqAt_V (A := A) (s := s) (vals_getD rx h1') (vals_getD ry h2') (flat_getD fx (by rw [rx.length]; exact h1')) (flat_getD fy (by rw [ry.length]; exact h2'))
  simpa using q
def rEqL (K : PySem.W.Frag) : R2 := fun x y H Q => ∃ a b xs ys, x = .ref a ∧ y = .ref b ∧ SqL K H a xs ∧ SqL K H b ys ∧ xs.all flatV = true ∧ ys.all flatV = true ∧ Q (.bl (eqVs xs ys)) H
def rNeL (K : PySem.W.Frag) : R2 := fun x y H Q => ∃ a b xs ys, x = .ref a ∧ y = .ref b ∧ SqL K H a xs ∧ SqL K H b ys ∧ xs.all flatV = true ∧ ys.all flatV = true ∧ Q (.bl (!eqVs xs ys)) H
theorem op_eqL (hu : X.A.units < cLine) : OpR X (compareOp .Eq) (rEqL X.K) := by
  intro pins s σ H x y v u Q I rx ry h
  obtain ⟨a, b, xs, ys, rfl, rfl, hx, hy, fx, fy, q⟩ := h
  cases rx
  cases ry
  obtain ⟨us, r1, p1, z1⟩ := I.list hx
  obtain ⟨vs, r2, p2, z2⟩ := I.list hy
  by_cases hl : xs.length = ys.length
  · refine SeqAt.eq_listAt p1.isList p2.isList (by simp [← r1.length, ← r2.length, hl]) hu (items_eqAt r1 r2 fx fy) ⟨.bl (eqVs xs ys), H, I, ?_, q⟩
    show Value.bool _ = Value.bool _
    rw [← eqVs_range xs ys hl]; simp [← r1.length]
  · refine SeqAt.eq_list_lengthsAt p1.isList p2.isList (by simpa [← r1.length, ← r2.length] using hl) hu ⟨.bl (eqVs xs ys), H, I, ?_, q⟩
    show Value.bool _ = Value.bool _
    rw [eqVs_len xs ys hl]
theorem ne_at {prog : Program} {w : World} {A : Around} {E : Value → Shared → Prop} {s : Shared} {l b : Addr} {items items2 : Array Value} {e : Nat → Bool} {Q : Value → Shared → Prop} (hl : s.heap.IsList l items) (hb : s.heap.IsList b items2) (hsz : items.size = items2.size) (hu : A.units < cLine)
    (he : ∀ j (h1 : j < items.size) (h2 : j < items2.size), SeqAt.EqAt A.in1 s items[j] items2[j] (e j)) (h : Q (.bool (!((List.range items.size).all e))) s) : wpAny (model prog w) A (compareOp .NotEq (.ref l) (.ref b)) Q E s := by
  obtain ⟨⟨c, dd, dt, sl⟩, ho, hc, n, hd⟩ := hl
  obtain ⟨⟨c2, dd2, dt2, sl2⟩, ho2, hc2, n2, hd2⟩ := hb
  dsimp only at hc hd hc2 hd2
  subst hc hd hc2 hd2
  exact richCompare_meets_room (op := .NotEq) ⟨_, ho, rfl⟩ ⟨_, ho2, rfl⟩ F.slot_list_ne F.entry_list_ne (F.args_list_ne_2 _ _) (SeqAt.list_neAt l b items items2 n n2 dd dd2 sl sl2 hsz e)
    ⟨ho, ho2, he, ⟨(fun x => nomatch x), h⟩⟩ hu
theorem ne_at_len {prog : Program} {w : World} {A : Around} {E : Value → Shared → Prop} {s : Shared} {l b : Addr} {items items2 : Array Value} {Q : Value → Shared → Prop} (hl : s.heap.IsList l items) (hb : s.heap.IsList b items2) (hsz : (items.size != items2.size) = true) (hu : A.units < cLine)
    (h : Q (.bool true) s) : wpAny (model prog w) A (compareOp .NotEq (.ref l) (.ref b)) Q E s := by
  obtain ⟨⟨c, dd, dt, sl⟩, ho, hc, n, hd⟩ := hl
  obtain ⟨⟨c2, dd2, dt2, sl2⟩, ho2, hc2, n2, hd2⟩ := hb
  dsimp only at hc hd hc2 hd2
  subst hc hd hc2 hd2
  exact richCompare_meets_room (op := .NotEq) ⟨_, ho, rfl⟩ ⟨_, ho2, rfl⟩ F.slot_list_ne F.entry_list_ne (F.args_list_ne_2 _ _) (SeqAt.list_ne_lengthsAt l b items items2 n n2 dd dd2 sl sl2 hsz)
    ⟨ho, ho2, ⟨(fun x => nomatch x), h⟩⟩ hu
theorem op_neL (hu : X.A.units < cLine) : OpR X (compareOp .NotEq) (rNeL X.K) := by
  intro pins s σ H x y v u Q I rx ry h
  obtain ⟨a, b, xs, ys, rfl, rfl, hx, hy, fx, fy, q⟩ := h
  cases rx
  cases ry
  obtain ⟨us, r1, p1, z1⟩ := I.list hx
  obtain ⟨vs, r2, p2, z2⟩ := I.list hy
  by_cases hl : xs.length = ys.length
  · refine ne_at p1.isList p2.isList (by simp [← r1.length, ← r2.length, hl]) hu (items_eqAt r1 r2 fx fy) ⟨.bl (!eqVs xs ys), H, I, ?_, q⟩
    show Value.bool _ = Value.bool _
    rw [← eqVs_range xs ys hl]; simp [← r1.length]
  · refine ne_at_len p1.isList p2.isList (by simpa [← r1.length, ← r2.length] using hl) hu ⟨.bl (!eqVs xs ys), H, I, ?_, q⟩
    show Value.bool _ = Value.bool _
    rw [eqVs_len xs ys hl]; rfl
theorem range_all (bs : List Bool) : (List.range bs.length).all (fun i => bs.getD i false) = bs.all id := by
  induction bs with
  | nil => rfl
  | cons b r ih =>
    rw [List.length_cons, List.range_succ_eq_map, List.all_cons, List.all_map, List.all_cons, ← ih]; rfl
theorem truth_bools {prog : Program} {w : World} {A : Around} {bs : List Bool} {its : List Value} (r : Vals (bs.map V.bl) its) : TruthOf prog w A (fun i v => its.toArray[i]? = some v) (fun i => bs.getD i false) := by
  intro i v s Q E hv hq
  have hv' : its[i]? = some v := by simpa using hv
  have hi : i < its.length := (List.getElem?_eq_some_iff.mp hv').1
  have hb : i < bs.length := by have := r.length; simp at this; omega
  obtain ⟨u, hu, ru⟩ := r.get (i := i) (x := .bl bs[i]) (by simp [hb])
  rw [hv'] at hu
  cases hu
  cases ru
  have e : bs.getD i false = bs[i] := by simp [List.getD, hb]
  have hq' : Q (bs.getD i false) s := hq
  rw [e] at hq'
  exact wpAny_pure hq'
theorem call_allL (hc : X.calm = true) : CallR X (.builtin "all") (fun xs H Q => ∃ (p : Addr) (bs : List Bool), xs = [V.ref p] ∧ H p = some (.lst (bs.map V.bl)) ∧ Q (.bl (bs.all id)) H) := by
  intro pins s σ H xs us Q I r h
  obtain ⟨p, bs, rfl, hp, q⟩ := h
  obtain ⟨u, rfl, ru⟩ := vals1 r
  cases ru
  obtain ⟨its, rv, pl, hz⟩ := I.list (SqL.of (K := X.K) hp)
  have lt : p < s.heap.objs.size := by obtain ⟨o, n, e, _⟩ := pl; exact Heap.lt_size e
  refine call_all_walk (wpAny_pyIter_list pl.isList ⟨_, _, _, _, _, _, fun i => bs.getD i false, rfl, Walks.list (A := X.A.in1) (I.ok.hd hc) _ p (Nat.ne_of_lt lt) its.toArray, ⟨⟨_, Heap.get?_push_size _ rfl, rfl, rfl⟩, pl.isList.push _⟩, truth_bools rv, fun h' tk k => ?_⟩)
  refine ⟨.bl (bs.all id), H, ?_, ?_, q⟩
  · exact I.kept (t' := tk) fun b o e => k b o (by simp; exact Nat.ne_of_lt (Heap.lt_size e)) (Heap.get?_push_of_some _ e)
  · show Value.bool _ = Value.bool _
    have e : its.toArray.size = bs.length := by have := rv.length; simp at this; simp [this]
    rw [e, range_all]
theorem call_isi : CallR X (.builtin "isinstance") (fun xs H Q => ∃ x n t b, xs = [x, .ty n] ∧ TyOf X.K H x t ∧ PySem.W.kitOne X.K t (.type n) = some b ∧ Q (.bl b) H) := by
  intro pins s σ H xs us Q I r h
  obtain ⟨x, n, t, b, rfl, ty, e, q⟩ := h
  obtain ⟨u, c, rfl, r1, r2⟩ := vals2 r
  cases (show c = Value.type n from r2)
  exact isinst_ok I r1 ty e fun tk => ⟨.bl b, H, I.tok tk, rfl, q⟩
theorem ix_kd : IxR X (fun x y H Q => ∃ a es n z v u, x = .ref a ∧ y = .str z ∧ X.K.lookup a = some ⟨.type "dict", none, .dict es n, #[]⟩ ∧ PySem.W.KeysLit X.w.params es.toList ∧ PySem.W.nsIn X.K a z = some (some u) ∧ RelV v u ∧ Q v H) := by
  intro value slice pins s σ H x y v u Q I rx ry h hs
  obtain ⟨a, es, n, z, vv, uu, rfl, rfl, hl, hk, he, rv, q⟩ := h
  cases rx
  obtain ⟨t, rfl⟩ := ry
  obtain ⟨m, F⟩ := I.fr
  exact PySem.W.topItem_K F I.mod.kin hl hk he ⟨vv, H, I.tok _, rv, q⟩ hs
end
end L2
end
section
namespace L2
open PySem PySem.Spec PyProof.Rows
def SetO (w : World) (a : Addr) (ns : List Int) : HO := .ext fun h => SetX.SetAt w h a ns
section
variable {X : Cx} {pins : List (Addr × Obj)} {σ : St} {H : Hp} {s : Shared} {h' : Heap}
theorem Inv.laidS {a : Addr} {o : HO} {s' : Shared} (I : Inv X pins σ H s) (ho : s'.os = s.os) (hg : s'.gens = s.gens) (k : ∀ b u, s.heap.get? b = some u → s'.heap.get? b = some u) (hp : s.heap.objs.size ≤ a) (new : ObjOk X.prog X.w (upd H a o) s'.heap a o) : Inv X pins σ (upd H a o) s' := by
  have u : Un (frs X.stack) [] H (upd H a o) s.heap s'.heap := Un.laid k hp (I.hok.fresh hp)
  exact I.call' (ch := []) ho u (I.hok.laid k hp new) (by rw [hg]; exact I.bare) fun b hb => nomatch hb
theorem setO_ok {w : World} {P : Program} {a : Addr} {ns : List Int} {H' : Hp} (S : SetX.SetAt w h' a ns) : ObjOk P w H' h' a (SetO w a ns) :=
  ⟨S, (let ⟨o, _, _, _, e, _⟩ := S; ⟨o, e⟩), fun _ _ q k => q.keeps k⟩
theorem Inv.setAt {a : Addr} {ns : List Int} (I : Inv X pins σ H s) (e : H a = some (SetO X.w a ns)) : SetX.SetAt X.w s.heap a ns := (I.hok a _ e).1
end
section
variable {X : Cx}
theorem call_setL (hc : X.calm = true) : CallR X (.type "set") (fun xs H Q => ∃ (l : Addr) (ns : List Int), xs = [.ref l] ∧ SqL X.K H l (ns.map V.int) ∧ ns.length ≤ 1000 ∧ ∀ (p : Addr) (ms : List Int), H p = none → (∀ y, y ∈ ms ↔ y ∈ ns) → ms.Nodup → Q (.ref p) (upd H p (SetO X.w p ms))) := by
  intro pins s σ H xs us Q I r h
  obtain ⟨l, ns, rfl, hq, hl, q⟩ := h
  obtain ⟨u, rfl, ru⟩ := vals1 r
  cases ru
  obtain ⟨its, rv, p, hz⟩ := I.list hq
  have hi : IntsAre its ns := intsAre_of rv
  have hn : its.length = ns.length := hi.length
  refine SetX.call_set_listX (I.ok.hd hc) p.isList (by simpa using hi) (by have : scanBound = 4096 := rfl; simp; omega) fun h1 tk ms S m2 k => ?_
  have nd : ms.Nodup := by obtain ⟨_, _, _, _, _, _, _, _, rfl, z, _⟩ := S; exact z
  exact ⟨.ref s.heap.objs.size, _, I.laidS (s' := { s with heap := h1, toks := tk }) rfl rfl (fun b u e => k b u (Heap.lt_size e) e) (Nat.le_refl _) (setO_ok S), rfl, q _ ms (I.hok.fresh (Nat.le_refl _)) m2 nd⟩
theorem op_andS : OpR X (binaryOp .BitAnd) (fun x y H Q => ∃ (a b : Addr) (ns ms : List Int), x = .ref a ∧ y = .ref b ∧ b ≠ a ∧ H a = some (SetO X.w a ns) ∧ H b = some (SetO X.w b ms) ∧ ∀ (p : Addr) (ks : List Int), H p = none → (∀ y, y ∈ ks ↔ y ∈ ns ∧ y ∈ ms) → Q (.ref p) (upd H p (SetO X.w p ks))) := by
  intro pins s σ H x y v u Q I rx ry h
  obtain ⟨a, b, ns, ms, rfl, rfl, hab, ha, hb, q⟩ := h
  cases rx
  cases ry
  refine SetX.and_setsX hab (I.setAt ha) (I.setAt hb) fun h1 d ks S m2 k => ?_
  exact ⟨.ref s.heap.objs.size, _, I.laidS (s' := { s with heap := h1, drawn := d }) rfl rfl (fun b u e => k b u e) (Nat.le_refl _) (setO_ok S), rfl, q _ ks (I.hok.fresh (Nat.le_refl _)) m2⟩
theorem call_lenS : CallR X (.builtin "len") (fun xs H Q => ∃ (a : Addr) (ns : List Int), xs = [V.ref a] ∧ H a = some (SetO X.w a ns) ∧ Q (.int ns.length) H) := by
  intro pins s σ H xs us Q I r h
  obtain ⟨a, ns, rfl, ha, q⟩ := h
  obtain ⟨u, rfl, ru⟩ := vals1 r
  cases ru
  exact SetX.len_setX (I.setAt ha) fun t tk => ⟨.int ns.length, H, I.tok tk, ⟨t, rfl⟩, q⟩
def cntS (c : Nat) (z : Str) : Nat := z.cps.toList.count c
theorem cnt_count (c : Nat) : ∀ l : List Nat, PyProof.Rows.cnt c l = (l.count c : Int)
  | [] => rfl
  | n :: r => by
    rw [PyProof.Rows.cnt_cons, cnt_count c r, List.count_cons]
    by_cases e : n = c
    · subst e; simp; omega
    · simp [e]
theorem mt_count : MtR X "str.count" (fun x xs H Q => ∃ (z : Str) (c : Nat), x = .str z ∧ xs = [.str ⟨#[c]⟩] ∧ Q (.int (cntS c z)) H) := by
  intro pins s σ H x xs v us Q I rx rs h
  obtain ⟨z, c, rfl, rfl, q⟩ := h
  obtain ⟨t, rfl⟩ := rx
  obtain ⟨u, rfl, t', rfl⟩ := vals1 rs
  refine SC.count ⟨.int (cntS c z), H, I.tok _, ⟨s.toks, ?_⟩, q⟩
  have e : Txt.count z ⟨#[c]⟩ = PyProof.Rows.cnt c z.cps.toList := PyProof.Rows.count_is z c
  rw [e, cnt_count]; rfl
theorem mt_join : MtR X "str.join" (fun x xs H Q => ∃ (z : Str) (p : Addr) (ys : List Str), x = .str z ∧ xs = [.ref p] ∧ SqL X.K H p (ys.map V.str) ∧ (ys.map (·.length)).sum + ys.length * z.length ≤ 16777216 ∧ Q (.str (Txt.join z ys)) H) := by
  intro pins s σ H x xs v us Q I rx rs h
  obtain ⟨z, p, ys, rfl, rfl, hq, hz, q⟩ := h
  obtain ⟨t, rfl⟩ := rx
  obtain ⟨u, rfl, ru⟩ := vals1 rs
  cases ru
  obtain ⟨its, rv, pl, _⟩ := I.list hq
  have hs : StrsAre its ys := by
    have all : ∀ (ys : List Str) (its : List Value), Vals (ys.map V.str) its → StrsAre its ys := by
      intro ys
      induction ys with
      | nil => intro its r; cases r; exact .nil
      | cons y r ih =>
        intro its rr
        cases rr with
        | cons r1 r2 => obtain ⟨t, rfl⟩ := r1; exact .cons _ _ (ih _ r2)
    exact all ys its rv
  exact join_list pl.isList (by simpa using hs) hz fun t' k => ⟨.str (Txt.join z ys), H, I.tok _, ⟨t', rfl⟩, q⟩
theorem op_mulS : OpR X (binaryOp .Mult) (fun x y H Q => ∃ (z : Str) (n : Int), x = .str z ∧ y = .int n ∧ MulOk z n ∧ Q (.str (Txt.mul z n)) H) := by
  intro pins s σ H x y v u Q I rx ry h
  obtain ⟨z, n, rfl, rfl, hk, q⟩ := h
  obtain ⟨t, rfl⟩ := rx
  obtain ⟨t', rfl⟩ := ry
  exact SB.mul hk fun t1 k => ⟨.str (Txt.mul z n), H, I.tok _, ⟨t1, rfl⟩, q⟩
theorem sl_str : SlR X (fun x lo hi H Q => ∃ (z : Str), x = .str z ∧ z.length ≤ sizeLine ∧ Q (.str (Txt.slice z lo hi)) H) := by
  intro pins s σ H x v vl vu lo hi sl Q I rx hs pl pu h
  obtain ⟨z, rfl, hz, q⟩ := h
  obtain ⟨t, rfl⟩ := rx
  refine ⟨"str", _, F.slot_str_getitem.lookup, typeIs_str _ _ _, ?_⟩
  have fin : ∀ l u : Option (Int × Tok), s.heap.IsSlice sl l u none → l.map (·.1) = lo → u.map (·.1) = hi → wpAny (model X.prog X.w) X.A (getItem (.str z t) (.ref sl)) (EP X pins σ Q) X.xe s := by
    intro l u hS hl hu
    subst hl hu
    refine wpAny_getItem_str_slice (l := l) (u := u) (st := none) hS rfl ?_
    exact post_val_or_str ⟨Nat.le_trans (Txt.slice_le z _ _) hz, fun t' k => ⟨.str (Txt.slice z _ _), H, I.tok _, ⟨t', rfl⟩, q⟩⟩
  cases pl with
  | none => cases pu with
    | none => exact fin none none hs rfl rfl
    | int j u => exact fin none (some (j, u)) hs rfl rfl
  | int i u' => cases pu with
    | none => exact fin (some (i, u')) none hs rfl rfl
    | int j u => exact fin (some (i, u')) (some (j, u)) hs rfl rfl
end
end L2
end
section
namespace Mir
inductive P3 | L | R | E
  deriving DecidableEq
open P3
def other : P3 → P3 | L => R | R => L | E => E
def Sign (c : Nat) : Prop := c = 101 ∨ c = 104 ∨ c = 108 ∨ c = 103
def mayH (c : Nat) : Bool := c == 101 || c == 104
def mayL (c : Nat) : Bool := c == 101 || c == 108
def pl (l r : List Int) (k : Int) : P3 := if k ∈ r then R else if k ∈ l then L else E
def c1 (c : Nat) (p o : P3) : Nat := (if mayH c && decide (p = o) then 1 else 0) + (if mayL c && decide (other p = o) then 1 else 0)
def cs1 (l r : List Int) (o : P3) : Nat → List Nat → Nat
  | _, [] => 0
  | i, c :: cs => c1 c (pl l r i) o + cs1 l r o (i + 1) cs
theorem cs1_snoc {l r : List Int} {o : P3} : ∀ (cs : List Nat) (i c : Nat), cs1 l r o i (cs ++ [c]) = cs1 l r o i cs + c1 c (pl l r ((i + cs.length : Nat) : Int)) o
  | [], i, c => by show c1 c (pl l r i) o + 0 = 0 + _; simp
  | d :: cs, i, c => by
    show c1 d _ o + cs1 l r o (i + 1) (cs ++ [c]) = c1 d _ o + cs1 l r o (i + 1) cs + _
    rw [cs1_snoc cs (i + 1) c]
    have e : i + 1 + cs.length = i + (d :: cs).length := by simp; omega
    rw [e]; omega
structure Wg (n : Int) (l r : List Int) : Prop where
  risL : l.Pairwise (· < ·)
  risR : r.Pairwise (· < ·)
  inL : ∀ k ∈ l, 0 ≤ k ∧ k ≤ n
  inR : ∀ k ∈ r, 0 ≤ k ∧ k ≤ n
  len : l.length = r.length
  dis : ∀ k ∈ l, k ∉ r
end Mir
end
section
namespace PySem.W
open PySem PySem.Spec PySem.Calls PyProof.Rows
section
variable {prog : Program} {w : World} {A : Around} {E : Value → Shared → Prop} {s : Shared} {K : Frag} {x D : Addr} {ox : Obj}
structure XCls (K : Frag) (D : Addr) : Prop where
  ga : findIn K (.ref D) "__getattribute__" = some (some (.builtin "BaseException.__getattribute__"))
  gn : findIn K (.ref D) "__getattr__" = some none
  fo : findObj K D none "__class__" = some (.bind (.builtin "getset_descriptor.__get__") (.builtin "object.__class__"))
  be : mroIn K D (.type "BaseException") = some true
  ob : mroIn K D (.type "object") = some true
  cl : (clsIn K D).isSome = true
theorem xc_class {Q : Option Value → Shared → Prop} (C : XCls K D) (X : K.In s.heap) (I : InstAt s.heap x ox D none) (h : Q (some (.ref D)) { s with toks := s.toks + 1 }) : wpAny (model prog w) A (getAttr? (.ref x) "__class__") Q E s := by
  obtain ⟨hh, g, d, t, os⟩ := s
  have L0 := I.type (M := model prog w)
  have L1 := looks_findIn (M := model prog w) X C.ga
  have L2 := looks_findIn (M := model prog w) X C.gn
  have L3 := looks_find (M := model prog w) X I C.fo
  have L4 := looks_mroIn (M := model prog w) X C.be
  have hk : builtinKind "BaseException.__getattribute__" = some .slot := by decide +kernel
  have hsp : splitId "BaseException.__getattribute__" = some ("BaseException", "__getattribute__") := by decide +kernel
  have hne : (Value.builtin "BaseException.__getattribute__" == Value.builtin "object.__getattribute__") = false := by decide +kernel
  unfold getAttr? getAttrBy? getAttrBy
  refine wpAny_bind (wpAny_mkText (wpAny_bind (wpAny_attempt (wpAny_holding (wpAny_bind (L0.at (wpAny_bind (L1.at ?_))))))))
  show wpAny _ _ (if (onTheHeap (Value.ref D) && Value.builtin "BaseException.__getattribute__" == Value.builtin "object.__getattribute__") = true then _ else getAttrByItsOwn _ _ _ _ _ _) _ _ _
  rw [hne, Bool.and_false, if_neg Bool.false_ne_true]
  unfold getAttrByItsOwn hookBefore
  show wpAny _ _ (typeLookup (.ref D) "__getattr__" >>= _) _ _ _
  refine wpAny_bind (L2.at ?_)
  unfold callGetattribute boundAndCalled
  rw [F.attr_ValueError.ga.bind (.ref x)]
  refine wpAny_bind (wpAny_attempt (wpAny_holding ?_))
  rw [if_neg (show ¬ ((false && onTheHeap (Value.builtin "BaseException.__getattribute__")) = true) from fun z => nomatch z)]
  refine wpAny_bind (wpAny_pure ?_)
  refine wpAny_call (codeAny_call_builtin F.attr_ValueError.ga.plain F.entry_bexc_ga ?_)
  have ar := F.args_bexc_ga (.ref x) (.str "__class__" t)
  simp only [checkBuiltinCall, hk, hsp]
  unfold isInstance
  have L5 : Looks (model prog w) hh (isSubtype (Value.ref D) (Value.type "BaseException") >>= fun b => pure b) true := L4.andThen .now
  show wpAny _ _ (isInstance (.ref x) (.type "BaseException") >>= _) _ _ _
  unfold isInstance
  refine wpAny_bind (wpAny_bind (L0.at (L4.at ?_)))
  simp only [Bool.not_true, Bool.false_eq_true, if_false]
  repeat (any_goals (first | assumption | wp_step))
  refine wpAny_loadPart I.at_ (wpAny_pure ?_)
  rw [I.cls]
  refine wpAny_bind (L3.at ?_)
  show wpAny _ _ (Builtin.ObjectAttr.bindTo (Value.builtin "getset_descriptor.__get__") (Value.builtin "object.__class__") (Value.ref x) (Value.ref D)) _ _ _
  unfold Builtin.ObjectAttr.bindTo
  repeat (any_goals (first | assumption | with_reducible refine class_get (ox := ox) (od := none) X I C.ob ?_ | wp_step))
theorem kitx_exc (C : XCls K D) : KitX K (.ref x) (.ref D) (fun h => InstAt h x ox D none) where
  ty := fun _ _ _ I => I.type
  it := fun _ _ X _ => by
    have z := C.cl; unfold clsIn at z
    split at z
    · rename_i c' d' cd' sl' ho; intro A' Q' E' s' k q; unfold isType loadHead; exact wpAny_bind (wpAny_loadPart (k _ _ (X _ _ ho)) (wpAny_pure q))
    · cases z
  ne := fun h tp dd its n sl X htp => by
    refine Bool.eq_false_iff.mpr fun q => ?_
    have e : D = tp := Value.ref.inj (beq_iff_eq.mp q)
    subst e; have z := C.cl; unfold clsIn at z
    split at z
    · rename_i c' d' cd' sl' ho; exact nomatch (X _ _ ho).symm.trans htp
    · cases z
  ca := fun X I k => xc_class C X I k
end
end PySem.W
end
section
namespace PySem
open Sem (wp)
def ExcSh (h : Heap) (e : Addr) (C t1 c2 : Value) : Prop := ∃ oe vs, h.get? e = some oe ∧ oe.cls = C ∧ oe.dict = none ∧ oe.data = .fields vs ∧ vs[1]? = some t1 ∧ vs[2]? = some c2
def TbSh (h : Heap) (T : Addr) (fl : Value) : Prop := ∃ oT ts, h.get? T = some oT ∧ oT.data = .fields ts ∧ ts[3]? = some fl
def KeepX (fs ch : List Addr) (h h' : Heap) : Prop := (∀ b o, b ∉ ch → b ∉ fs → h.get? b = some o → h'.get? b = some o) ∧ ∀ b o, b ∉ ch → b ∈ fs → h.get? b = some o → ∃ sl, h'.get? b = some { o with slots := sl }
theorem KeepX.any {fs ch : List Addr} {h h' : Heap} (k : KeepX fs ch h h') {b : Addr} {o : Obj} (hb : b ∉ ch) (e : h.get? b = some o) : ∃ sl, h'.get? b = some { o with slots := sl } := by
  by_cases hf : b ∈ fs
  · exact k.2 b o hb hf e
  · exact ⟨o.slots, k.1 b o hb hf e⟩
theorem KeepX.mono {fs ch ch' : List Addr} {h1 h2 : Heap} (a : KeepX fs ch h1 h2) (s : ∀ b ∈ ch, b ∈ ch') : KeepX fs ch' h1 h2 := ⟨fun x o c f e => a.1 x o (fun z => c (s x z)) f e, fun x o c f e => a.2 x o (fun z => c (s x z)) f e⟩
theorem KeepX.then1 {fs ch : List Addr} {h1 h2 h3 : Heap} {T : Addr} (a : KeepX fs ch h1 h2) (b : KeepX fs [T] h2 h3) (n : h1.get? T = none ∨ T ∈ ch) : KeepX fs ch h1 h3 := by
  have ne : ∀ x o, x ∉ ch → h1.get? x = some o → x ∉ [T] := fun x o c e z => by
    simp at z; subst z
    rcases n with n | n
    · rw [n] at e; cases e
    · exact c n
  exact ⟨fun x o c f e => b.1 x o (ne x o c e) f (a.1 x o c f e), fun x o c f e => by obtain ⟨sl, e1⟩ := a.2 x o c f e; obtain ⟨sl', e2⟩ := b.2 x _ (ne x o c e) f e1; exact ⟨sl', e2⟩⟩
theorem dict_mapF (o : Obj) (f : Array Value → Array Value) : (o.mapFields f).dict = o.dict := by
  obtain ⟨c, d, dt, sl⟩ := o
  cases dt <;> rfl
section
variable {M : Model} {A : Around} {E : Value → Shared → Prop} {s : Shared}
theorem entryX {base : Heap} {env env' : Env} {outer : List Env} {L e : Addr} {C t1 c2 head : Value} {hadNext : Bool} {Q : Unit → Shared → Prop} (hfr : A.frames = some (env :: outer)) (hl : s.heap.FunFrames base (env :: outer)) (hf : env.frame = some L) (hf' : env'.frame = some L) (he : ExcSh s.heap e C t1 c2)
    (k : ∀ h' T, s.heap.objs.size ≤ T → T ≠ e → ExcSh h' e C (.ref T) c2 → TbSh h' T (rawInt L) → KeepX ((env :: outer).filterMap (·.frame)) [e] s.heap h' → Q () { s with heap := h' }) :
    wpAny M A (do let a ← frameOf env'; let pl ← entryPlaceOf L hadNext; let b ← EntryCells.newEntry head a .none (rawInt L) .none pl; setField (.ref e) 1 b) Q E s := by
  obtain ⟨oe, vs, h0, hc, hdc, hd, h1, h2⟩ := he
  have ef : frameOf env' = frameOf env := by unfold frameOf; rw [hf, hf']
  rw [ef]
  have nf : e ∉ (env :: outer).filterMap (·.frame) := fun hm => by obtain ⟨_, o, ho, hn⟩ := hl.mem hm; rw [h0] at ho; cases ho; exact hn vs hd
  refine wpAny_bind (wpAny_frameOf_fun hfr hl hf fun g1 sg => wpAny_bind (wpAny_entryPlaceOf fun pl hpl => ?_))
  unfold EntryCells.newEntry newFields
  refine wpAny_bind (wpAny_newObj_type ?_ (hpl.sizeOk5 _ _ _ _ _))
  have a1 : g1.get? e = some oe := (sg.2.1 e nf).trans h0
  generalize hoT : ({ cls := .type "traceback", dict := none, data := .fields ([head, .ref L, .none, rawInt L, .none] ++ (if pl.isEmpty then List.replicate 6 Value.none else pl)).toArray } : Obj) = oT
  have hsz : 1 < vs.size := (Array.getElem?_eq_some_iff.mp h1).1
  have a2 := Heap.get?_push_of_some (h := g1) oT a1
  refine wpAny_setField a2 hd hsz ?_
  have ne : g1.objs.size ≠ e := Nat.ne_of_gt (Heap.lt_size a1)
  have d3 := Obj.data_mapFields hd (·.setIfInBounds 1 (Value.ref g1.objs.size))
  have fr0 : oT.isFreed = false := by subst hoT; rfl
  refine k _ g1.objs.size (by rw [sg.1]; exact Nat.le_refl _) ne ⟨_, _, Heap.get?_update_self _ a2 (Obj.isFreed_of_fields d3), (Obj.cls_mapFields _ _).trans hc, ?_, d3, by simp [hsz], ?_⟩ ⟨oT, _, ?_, by subst hoT; rfl, ?_⟩ ⟨fun b o hb hfs eb => ?_, fun b o hb hfs eb => ?_⟩
  · rw [dict_mapF]; exact hdc
  · rw [Array.getElem?_setIfInBounds_ne (by decide)]; exact h2
  · rw [Heap.get?_update_other _ _ (Ne.symm ne)]; exact Heap.get?_push_size g1 fr0
  · simp
  · have hbe : b ≠ e := fun z => hb (by simp [z])
    rw [Heap.get?_update_other _ _ (Ne.symm hbe)]
    exact Heap.get?_push_of_some _ ((sg.2.1 b hfs).trans eb)
  · have hbe : b ≠ e := fun z => hb (by simp [z])
    obtain ⟨sl, q⟩ := sg.2.2 b o eb
    exact ⟨sl, by rw [Heap.get?_update_other _ _ (Ne.symm hbe)]; exact Heap.get?_push_of_some _ q⟩
def NoFl (h : Heap) (e : Addr) (t1 : Value) : Prop := t1 = .none ∨ ∃ T fl, t1 = .ref T ∧ T ≠ e ∧ TbSh h T fl
theorem setFlX {e T : Addr} {C c2 fl : Value} {fs : List Addr} {fr : Option Addr} {Q : Unit → Shared → Prop} (n : T ≠ e) (he : ExcSh s.heap e C (.ref T) c2) (ht : TbSh s.heap T fl)
    (k : ∀ h', (∀ o, s.heap.get? e = some o → h'.get? e = some o) → ExcSh h' e C (.ref T) c2 → TbSh h' T (fr.elim .none fun f => rawInt f) → KeepX fs [T] s.heap h' → Q () { s with heap := h' }) : wpAny M A (setFlight (.ref e) fr) Q E s := by
  obtain ⟨oe, vs, h0, hc, hdc, hd, h1, h2⟩ := he
  obtain ⟨oT, ts, g0, gd, g3⟩ := ht
  have sz : 3 < ts.size := (Array.getElem?_eq_some_iff.mp g3).1
  unfold setFlight
  refine wpAny_bind (wpAny_field h0 hd h1 ?_)
  rw [if_pos (show (Value.ref T != Value.none) = true from by simp)]
  refine wpAny_setField g0 gd sz (k _ (fun o q => by rw [Heap.get?_update_other _ _ n]; exact q) ⟨oe, vs, by rw [Heap.get?_update_other _ _ n]; exact h0, hc, hdc, hd, h1, h2⟩ ⟨_, _, Heap.get?_update_self _ g0 (Obj.isFreed_of_fields (Obj.data_mapFields gd _)), Obj.data_mapFields gd _, by simp [sz]⟩ ⟨fun b o hb _ q => ?_, fun b o hb _ q => ⟨o.slots, ?_⟩⟩)
  · rw [Heap.get?_update_other _ _ (fun z => hb (by simp [z]))]; exact q
  · rw [Heap.get?_update_other _ _ (fun z => hb (by simp [z]))]; exact q
theorem noteX {base : Heap} {env env' : Env} {outer : List Env} {L e : Addr} {C t1 c2 : Value} {ch : List Addr} {Q : Unit → Shared → Prop} (hfr : A.frames = some (env :: outer)) (hl : s.heap.FunFrames base (env :: outer)) (hf : env.frame = some L) (hf' : env'.frame = some L) (he : ExcSh s.heap e C t1 c2) (ht : NoFl s.heap e t1)
    (hch : e ∈ ch) (hch' : ∀ T, t1 = .ref T → T ∈ ch)
    (k : ∀ h' T, (s.heap.objs.size ≤ T ∨ t1 = .ref T) → T ≠ e → ExcSh h' e C (.ref T) c2 → TbSh h' T (rawInt L) → KeepX ((env :: outer).filterMap (·.frame)) ch s.heap h' → Q () { s with heap := h' }) :
    wpAny M A (noteFrame (.ref e) env') Q E s := by
  obtain ⟨oe, vs, h0, hc, hdc, hd, h1, h2⟩ := id he
  unfold noteFrame
  simp only [hf']
  refine wpAny_bind (wpAny_field h0 hd h1 ?_)
  rcases ht with rfl | ⟨T, fl, rfl, hTe, oT, ts, g0, gd, g3⟩
  · rw [if_neg (show ¬ ((Value.none != Value.none) = true) from by simp)]
    exact entryX hfr hl hf hf' he fun g T n1 n2 x1 x2 x3 => k g T (.inl n1) n2 x1 x2 (x3.mono fun b hb => by simp at hb; rw [hb]; exact hch)
  · rw [if_pos (show (Value.ref T != Value.none) = true from by simp)]
    refine wpAny_bind (wpAny_field g0 gd g3 ?_)
    by_cases hfl : (fl == rawInt L) = true
    · rw [if_pos hfl]
      have e3 : fl = rawInt L := eq_of_beq hfl
      subst e3
      exact wpAny_pure (k s.heap T (.inr rfl) hTe he ⟨oT, ts, g0, gd, g3⟩ ⟨fun _ _ _ _ q => q, fun _ o _ _ q => ⟨o.slots, q⟩⟩)
    rw [if_neg hfl]
    have sz : 3 < ts.size := (Array.getElem?_eq_some_iff.mp g3).1
    refine wpAny_bind (wpAny_setField g0 gd sz ?_)
    have oth : ∀ b, b ≠ T → (s.heap.update T (Obj.mapFields (·.setIfInBounds 3 Value.none))).get? b = s.heap.get? b := fun b hb => Heap.get?_update_other _ _ (Ne.symm hb)
    have szU : (s.heap.update T (Obj.mapFields (·.setIfInBounds 3 Value.none))).objs.size = s.heap.objs.size := by simp
    have nfT : ∀ b, b ∈ (env :: outer).filterMap (·.frame) → b ≠ T := fun b hb z => by obtain ⟨_, o, ho, hn⟩ := hl.mem hb; rw [z, g0] at ho; cases ho; exact hn ts gd
    have he' : ExcSh (s.heap.update T (Obj.mapFields (·.setIfInBounds 3 Value.none))) e C (.ref T) c2 := ⟨oe, vs, (oth e (Ne.symm hTe)).trans h0, hc, hdc, hd, h1, h2⟩
    have hl' : Heap.FunFrames (s.heap.update T (Obj.mapFields (·.setIfInBounds 3 Value.none))) base (env :: outer) := hl.of_keeps fun b o hb hn => ⟨o, (oth b fun z => by rw [z, g0] at hb; cases hb; exact hn ts gd).trans hb, rfl⟩
    refine entryX (s := { s with heap := s.heap.update T (Obj.mapFields (·.setIfInBounds 3 Value.none)) }) hfr hl' hf hf' he' fun g T' n1 n2 x1 x2 x3 => k g T' (.inl (by rw [← szU]; exact n1)) n2 x1 x2 ⟨fun b o hb hfs eb => ?_, fun b o hb hfs eb => ?_⟩
    · have nb : b ≠ T := fun z => hb (z ▸ hch' T rfl)
      exact x3.1 b o (fun z => by simp at z; exact hb (z ▸ hch)) hfs ((oth b nb).trans eb)
    · exact x3.2 b o (fun z => by simp at z; exact hb (z ▸ hch)) hfs ((oth b (nfT b hfs)).trans eb)
theorem leaveX {base : Heap} {env : Env} {outer : List Env} {L e : Addr} {C t1 c2 : Value} {ch : List Addr} {Q : Unit → Shared → Prop} (hfr : A.frames = some (env :: outer)) (hl : s.heap.FunFrames base (env :: outer)) (hf : env.frame = some L) (he : ExcSh s.heap e C t1 c2) (ht : NoFl s.heap e t1)
    (hch : e ∈ ch) (hch' : ∀ T, t1 = .ref T → T ∈ ch)
    (k : ∀ h' T, (s.heap.objs.size ≤ T ∨ t1 = .ref T) → T ≠ e → ExcSh h' e C (.ref T) c2 → TbSh h' T .none → KeepX ((env :: outer).filterMap (·.frame)) ch s.heap h' → Q () { s with heap := h' }) :
    wpAny M A (noteFrame (.ref e) env) (fun _ s2 => wpAny M A (setFlight (.ref e) none) Q E s2) E s :=
  noteX hfr hl hf hf he ht hch hch' fun g T n1 n2 x1 x2 x3 => setFlX (s := { s with heap := g }) n2 x1 x2 fun h' _ y1 y2 y3 => k h' T n1 n2 y1 y2 (x3.then1 y3 (n1.imp (fun z => Heap.get?_none_of_le z) (hch' T)))
end
end PySem
end
section
namespace L2
open PySem PySem.Spec PyProof.Rows
section
variable {P : Program} {w : World} {H H' : Hp} {h h' h0 : Heap} {a : Addr} {o : HO}
theorem ObjOk.there (x : ObjOk P w H h a o) : ∃ u, h.get? a = some u := by
  cases o with
  | lst xs => obtain ⟨_, _, _, _, e⟩ := x; exact ⟨_, e⟩
  | tup xs => obtain ⟨_, _, _, _, e, _⟩ := x; exact ⟨_, e⟩
  | dK kvs => obtain ⟨_, _, _, _, o, _, _, e, _⟩ := x; exact ⟨_, e⟩
  | dT kvs => obtain ⟨_, _, _, _, o, _, _, e, _⟩ := x; exact ⟨_, e⟩
  | set S n => obtain ⟨o, _, _, _, e, _⟩ := x; exact ⟨_, e⟩
  | ins C dx fs => obtain ⟨_, _, _, e, _⟩ := x; exact ⟨_, e⟩
  | own y => obtain ⟨_, e⟩ := x; exact ⟨_, e⟩
  | xd fs => obtain ⟨_, ⟨_, _, _, e, _⟩, _⟩ := x; exact ⟨_, e⟩
  | rng lo hi => obtain ⟨_, _, _, e⟩ := x; exact ⟨_, e⟩
  | frz ob u => obtain ⟨e, _⟩ := x; exact ⟨_, e⟩
  | tbl ps => exact ⟨_, (show h.get? a = some _ from x)⟩
  | met f y => exact ⟨_, (show h.get? a = some _ from x)⟩
  | ext φ => obtain ⟨_, ⟨_, e⟩, _⟩ := x; exact ⟨_, e⟩
theorem HOk.none_of (x : HOk P w H h) (e : h.get? a = none) : H a = none := by
  cases q : H a with
  | none => rfl
  | some u => obtain ⟨o, z⟩ := (x a u q).there; rw [e] at z; cases z
theorem HOk.leftX {fs ch : List Addr} (x : HOk P w H h) (k : KeepX fs ch h h') (hc : ∀ b ∈ ch, H b = none) (hf : ∀ b ∈ fs, H b = none) : HOk P w H h' := fun b u e => by
  refine (x b u e).stay (fun c v hc' q => k.1 c v (fun z => ?_) (fun z => ?_) q) (fun _ q => q) fun _ _ q => q
  · have n := hc c z
    rcases hc' with r | r
    · rw [r, e] at n; cases n
    · rw [r] at n; cases n
  · have n := hf c z
    rcases hc' with r | r
    · rw [r, e] at n; cases n
    · rw [r] at n; cases n
theorem Un.leftX {fs fs' ch ex : List Addr} {H0 : Hp} (u : Un fs ex H0 H h0 h) (k : KeepX fs' ch h h') (hc : ∀ b ∈ ch, h0.get? b = none) (hf : ∀ b o, h0.get? b = some o → b ∈ fs' → b ∈ fs) : Un fs ex H0 H h0 h' := by
  have nc : ∀ b o, h0.get? b = some o → b ∉ ch := fun b o e z => by rw [hc b z] at e; cases e
  refine ⟨fun b o e n hb hx => k.1 b o (nc b o e) (fun z => hb (hf b o e z)) (u.keep b o e n hb hx), fun b o e n hb hx => ?_, u.free, fun b o e hx => ?_, u.tups, u.frzs, u.tbls⟩
  · obtain ⟨sl, q⟩ := u.slot b o e n hb hx
    obtain ⟨sl', q'⟩ := k.any (nc b o e) q
    exact ⟨sl', q'⟩
  · obtain ⟨o', q⟩ := u.there b o e hx
    obtain ⟨sl', q'⟩ := k.any (nc b o e) q
    exact ⟨_, q'⟩
end
def New (h0 : Heap) (H : Hp) (b : Addr) : Prop := h0.get? b = none ∧ H b = none
def CtxOk (d : Bool) (h0 : Heap) (H : Hp) (a : Addr) (t1 c2 : Value) (h : Heap) : Prop := c2 = .none ∨ ∃ b ob vb, d = true ∧ c2 = .ref b ∧ b ≠ a ∧ t1 ≠ .ref b ∧ New h0 H b ∧ h.get? b = some ob ∧ ob.data = .fields vb ∧ vb[2]? = some .none
def FlX (d : Bool) (h0 : Heap) (H : Hp) (a C : Addr) (h : Heap) : Prop := New h0 H a ∧ ∃ t1 c2, ExcSh h a (.ref C) t1 c2 ∧ NoFl h a t1 ∧ (∀ T, t1 = .ref T → New h0 H T) ∧ CtxOk d h0 H a t1 c2 h
theorem CtxOk.new {d : Bool} {h0 h1 : Heap} {H H' : Hp} {a : Addr} {t1 c2 : Value} {h : Heap} (x : CtxOk d h0 H a t1 c2 h) (k : ∀ b, New h0 H b → New h1 H' b) : CtxOk d h1 H' a t1 c2 h := by
  rcases x with x | ⟨b, ob, vb, e0, e1, e2, e3, e4, e5⟩
  · exact .inl x
  · exact .inr ⟨b, ob, vb, e0, e1, e2, e3, k b e4, e5⟩
theorem FlX.new {d : Bool} {h0 h1 : Heap} {H H' : Hp} {a C : Addr} {h : Heap} (x : FlX d h0 H a C h) (k : ∀ b, New h0 H b → New h1 H' b) : FlX d h1 H' a C h := by
  obtain ⟨n, t1, c2, x1, x2, x3, x4⟩ := x
  exact ⟨k a n, t1, c2, x1, x2, fun T e => k T (x3 T e), x4.new k⟩
def CXE (d : Bool) (P : Program) (w : World) : CXT := fun outer H s E e s' => ∃ a C H', e = .ref a ∧ s'.os = s.os ∧ AllBare s'.gens ∧ Un (frs outer) [] H H' s.heap s'.heap ∧ HOk P w H' s'.heap ∧ FlX d s.heap H' a C s'.heap ∧ E (.ref C) none H'
def chX (a : Addr) (t1 : Value) : List Addr := a :: (match t1 with | .ref T => [T] | _ => [])
theorem chX_ref {a T : Addr} : T ∈ chX a (.ref T) := by simp [chX]
theorem chX_all {a : Addr} {t1 : Value} {p : Addr → Prop} (h1 : p a) (h2 : ∀ T, t1 = .ref T → p T) : ∀ b ∈ chX a t1, p b := fun b hb => by
  unfold chX at hb
  rcases List.mem_cons.mp hb with e | e
  · rw [e]; exact h1
  · cases t1 <;> simp at e
    rw [e]; exact h2 _ rfl
theorem CtxOk.step {d : Bool} {h0 : Heap} {H : Hp} {a T : Addr} {t1 c2 : Value} {h h' base : Heap} {l : List Env} (x : CtxOk d h0 H a t1 c2 h) (k : KeepX (l.filterMap (·.frame)) (chX a t1) h h') (hl : h.FunFrames base l) (n : h.objs.size ≤ T ∨ t1 = .ref T) : CtxOk d h0 H a (.ref T) c2 h' := by
  rcases x with x | ⟨b, ob, vb, e0, e1, e2, e3, e4, e5, e6, e7⟩
  · exact .inl x
  · have nb : b ∉ chX a t1 := fun hb => by
      unfold chX at hb
      rcases List.mem_cons.mp hb with z | z
      · exact e2 z
      · cases t1 <;> simp at z
        exact e3 (by rw [z])
    have nf : b ∉ l.filterMap (·.frame) := fun hb => by obtain ⟨_, o, ho, hn⟩ := hl.mem hb; rw [e5] at ho; cases ho; exact hn vb e6
    refine .inr ⟨b, ob, vb, e0, e1, e2, fun z => ?_, e4, k.1 b ob nb nf e5, e6, e7⟩
    have z' : T = b := by injection z
    rcases n with n | n
    · rw [z'] at n; exact absurd (Nat.lt_of_lt_of_le (Heap.lt_size e5) n) (Nat.lt_irrefl _)
    · exact e3 (by rw [n, z'])
def Lv (d : Bool) (X : Cx) (E : XK) : Prop := ∀ (pins : List (Addr × Obj)) (σ : St) (H' : Hp) (s' : Shared) (a C : Addr), Inv X pins σ H' s' → FlX d X.s₀.heap H' a C s'.heap → E (.ref C) none H' → X.xe (.ref a) s'
theorem Un.old {fs : List Addr} {H0 H : Hp} {h0 h : Heap} {b : Addr} (u : Un fs [] H0 H h0 h) (n : h.objs.size ≤ b) : h0.get? b = none := by
  cases e : h0.get? b with
  | none => rfl
  | some o => obtain ⟨o', e'⟩ := u.there b o e (by simp); exact absurd (Nat.lt_of_lt_of_le (Heap.lt_size e') n) (Nat.lt_irrefl _)
theorem lv_of {d : Bool} {P : Program} {w : World} {K : PySem.W.Frag} {mg : Str → Option Value} {base : Heap} {N : List Str} {qual : Str} {scope : Scope} {f : Addr} {cd : Value} {A : Around} {outer : List Env} {s : Shared} {H : Hp} {E : XK} :
    Lv d (cxOf (CXE d P w) P w K mg base N qual scope f cd A outer s H E) E := by
  intro pins σ H' s' a C I F q
  obtain ⟨n0, t1, c2, sh, nf, hT, hx⟩ := F
  show wpAny (model P w) (A.deeper (envOfC qual scope s.heap.objs.size f cd)) (leaving (envOfC qual scope s.heap.objs.size f cd) (.ref a)) (fun _ s'' => CXE d P w outer H s E (.ref a) s'') _ s'
  unfold leaving
  refine wpAny_bind (leaveX (base := base) (outer := outer) (ch := chX a t1) I.ok.frames I.stack rfl sh nf (by simp [chX]) (fun T e => by rw [e]; exact chX_ref) fun h' T zT neT sh' tb' kp => ?_)
  have nT : New s.heap H' T := by
    rcases zT with z | z
    · exact ⟨I.base.old z, I.hok.fresh z⟩
    · exact hT T z
  have frs' : ∀ b ∈ frs (envOfC qual scope s.heap.objs.size f cd :: outer), H' b = none := fun b hb => I.stkFree b hb
  refine ⟨a, C, H', rfl, I.os, I.bare, Un.leftX I.base kp (chX_all n0.1 fun T e => (hT T e).1) fun b o e hb => ?_, I.hok.leftX kp (chX_all n0.2 fun T e => (hT T e).2) frs', ⟨n0, .ref T, c2, sh', .inr ⟨T, _, rfl, neT, tb'⟩, fun T' e => ?_, hx.step kp I.stack zT⟩, q⟩
  · rcases List.mem_cons.mp (I.stkSub b hb) with z | z
    · exfalso
      have e' : s.heap.get? b = some o := e
      have : b = s.heap.objs.size := z
      rw [this] at e'
      exact absurd (Heap.lt_size e') (Nat.lt_irrefl _)
    · exact z
  · cases e
    exact nT
theorem Lv.pass {d : Bool} {X : Cx} {E : XK} (L : Lv d X E) (hx : X.ex = []) : Passes (CXE d X.prog X.w) X E := by
  intro pins σ H s e s' I h
  obtain ⟨a, C, H', rfl, os, bare, un, hok, fl, q⟩ := h
  have I' : Inv X pins σ H' s' := I.call' os un hok bare (fun b z => absurd z (by simp))
  have old : ∀ b, s.heap.get? b = none → X.s₀.heap.get? b = none := fun b e => by
    cases z : X.s₀.heap.get? b with
    | none => rfl
    | some o => obtain ⟨o', z'⟩ := I.base.there b o z (by rw [hx]; simp); rw [e] at z'; cases z'
  exact L pins σ H' s' a C I' (fl.new fun b n => ⟨old b n.1, n.2⟩) q
theorem Fun.okE {d : Bool} {P : Program} {w : World} {K : PySem.W.Frag} {mg : Str → Option Value} {base : Heap} {x qual : Str} {st : Stmt} {f : Addr} {fd : FuncData} {N ps : List Str} {k : Nat} {sp : Sp} (F : Fun K x qual st f fd) (S : FnScope N ps (defScope st)) (len : ∀ vs H Q E, sp vs H Q E → vs.length = ps.length)
    (hbody : ∀ (cdv : Value) (A : Around) (outer : List Env) (s : Shared) (H : Hp) (vs : List V) (Q : VK) (E : XK), Room k (A.deeper (envOfC qual (defScope st) s.heap.objs.size f cdv)) → sp vs H Q E → Lv d (cxOf (CXE d P w) P w K mg base N qual (defScope st) f cdv A outer s H E) E → Passes (CXE d P w) (cxOf (CXE d P w) P w K mg base N qual (defScope st) f cdv A outer s H E) E →
      ∃ t, PSs (cxOf (CXE d P w) P w K mg base N qual (defScope st) f cdv A outer s H E) (defBody st) t ∧ t { nx := fun _ H' => Q .non H', rt := Q } (start N vs) H) : FnOk P w K mg base (CXE d P w) (k + 1) f fd ps sp := by
  obtain ⟨oc, od, kV, doc, pm, an, cdv, ct, osl, rfl, lk, hcd⟩ := F.ex
  exact fn_of lk hcd S len fun A outer s H vs Q E hr hsp => hbody cdv A outer s H vs Q E hr hsp lv_of (lv_of.pass rfl)
theorem FnOk.mayE {d : Bool} {P : Program} {w : World} {K : PySem.W.Frag} {mg : Str → Option Value} {base : Heap} {k : Nat} {f : Addr} {fd : FuncData} {ps : List Str} {sp : Sp} (F : FnOk P w K mg base CX0 k f fd ps sp) : FnOk P w K mg base (CXE d P w) k f fd ps sp :=
  ⟨F.len, fun A outer s H args us vs Q E hr e0 hb hv hs => codeAny_mono (F.run A outer s H args us vs Q E hr e0 hb hv hs) fun r s' h => by
    cases r with
    | error e => exact False.elim h
    | ok fl => cases fl <;> exact h⟩
theorem FnOk.never {d : Bool} {P : Program} {w : World} {K : PySem.W.Frag} {mg : Str → Option Value} {base : Heap} {k : Nat} {f : Addr} {fd : FuncData} {ps : List Str} {sp : Sp} (F : FnOk P w K mg base (CXE d P w) k f fd ps sp) : FnOk P w K mg base CX0 k f fd ps (fun vs H Q _ => sp vs H Q E0) :=
  ⟨fun vs H Q E h => F.len vs H Q E0 h, fun A outer s H args us vs Q E hr e0 hb hv hs => codeAny_mono (F.run A outer s H args us vs Q E0 hr e0 hb hv hs) fun r s' h => by
    cases r with
    | error e => obtain ⟨_, _, _, _, _, _, _, _, _, z⟩ := h; exact False.elim z
    | ok fl => cases fl <;> exact h⟩
end L2
end
section
namespace L2
open PySem PySem.Spec PyProof.Rows
abbrev vMro : List Value := [.type "ValueError", .type "Exception", .type "BaseException", .type "object"]
theorem exc_obj {K : PySem.W.Frag} {h : Heap} {C : Addr} (X : K.In h) (q : PySem.W.excIn K C vMro "ValueError.__new__" = true) :
    ∃ tl N nm qn bs hdct sn sub ab col dd k0 k1 k2 k3 k5 mN, h.get? C = some (excClassObj nm qn C N bs tl hdct sn sub ab col dd k0 k1 k2 k3 k5 "ValueError.__new__") ∧ h.Ns N mN ∧ mN "__init__" = none ∧ OwnTail h vMro tl := by
  unfold PySem.W.excIn at q
  split at q
  · rename_i dd cd sl ho
    split at q
    · rename_i C' bm k0 k1 k2 k3 n k5 hm hs
      simp only [Bool.and_eq_true, beq_iff_eq, Bool.not_eq_true'] at q
      obtain ⟨⟨⟨⟨⟨rfl, rfl⟩, hdel⟩, ht⟩, hok⟩, hni⟩ := q
      obtain ⟨nm, bs, mro, ns, qn, hd, sn, sub, ab, col, del⟩ := cd
      dsimp only at hm hdel hok hni; subst hm hdel
      have hsl : sl = #[k0, k1, k2, k3, some (.builtin "ValueError.__new__"), k5] := by obtain ⟨l⟩ := sl; simp only at hs; rw [hs]
      subst hsl
      exact ⟨bm, ns, nm, qn, bs, hd, sn, sub, ab, col, dd, k0, k1, k2, k3, k5, _, X _ _ ho, .of_isNs (PySem.W.isNs_of_in X hok), PySem.W.nsMap_none_of_in X hok hni, PySem.W.tail_of_in X ht⟩
    · cases q
  · cases q
section
variable {X : Cx}
def tRaise (E : XK) (C : Addr) : TS := fun _ _ H => E (.ref C) none H
theorem ps_raise {d : Bool} {E : XK} {x z : Str} {C : Addr} {np cpos pos kp : Pos} {kj : Nat} (L : Lv d X E) (hc : X.calm = true) (hxe : X.ex = []) (hg : Gl X x) (hm : X.mg x = some (.ref C)) (hx : PySem.W.excIn X.K C vMro "ValueError.__new__" = true)
    (hd : (x == ("__debug__" : Str)) = false := by decide) (he : starEach [.Constant (.str z) kj kp] X.env = (false, eval (.Constant (.str z) kj kp) X.env) :: starEach [] X.env := by rfl) :
    PS X (.Raise (some (.Call (.Name x np) [.Constant (.str z) kj kp] [] cpos)) none pos) (tRaise E C) := by
  intro pins s σ H D I h
  obtain ⟨tl, N, nm, qn, bs, hdct, sn, sub, ab, col, dd, k0, k1, k2, k3, k5, mN, hC, hN, hni, T⟩ := exc_obj I.kIn hx
  refine wpAny_Raise_call_subU (C := C) (nm := nm) (q := qn) (N := N) (bs := bs) (bm := tl) (hdct := hdct) (sn := sn) (sub := sub) (ab := ab) (col := col) (dd := dd) (k0 := k0) (k1 := k1) (k2 := k2) (k3 := k3) (k5 := k5) (mN := mN)
    F.excBase_ValueError (by decide +kernel) F.excBase_ValueError (T.hasType F.excBase_ValueError.hasBase) (I.ok.hd hc) (by rw [he]; rfl) hni (ld_glob I hg hm ⟨rfl, ?_⟩ hd)
  rw [he]
  show wpAny _ _ (evalArgs (.ref C) true ((false, eval (.Constant (.str z) kj kp) X.env) :: backTo cpos (starEach [] X.env)) []) _ _ _
  have e0 : backTo cpos (starEach [] X.env) = [] := by rfl
  rw [e0]
  refine Calls.evalArgs_plain (Calls.spliced_cons (Calls.Constant_str (Calls.spliced_nil ⟨rfl, (by show 1 ≤ sizeLine; decide), hC, hN, T, fun h' e hm => ?_⟩)))
  obtain ⟨t, ht, _, _⟩ := hm.there
  have old : ∀ b, s.heap.get? b = none → X.s₀.heap.get? b = none := fun b e => by
    cases z : X.s₀.heap.get? b with
    | none => rfl
    | some o => obtain ⟨o', z'⟩ := I.base.there b o z (by rw [hxe]; simp); rw [e] at z'; cases z'
  exact L pins σ H _ e C (I.kept (t' := s.toks + 1) hm.keeps) ⟨⟨old e hm.new, I.hok.none_of hm.new⟩, .none, .none, ⟨_, _, ht, rfl, rfl, rfl, rfl, rfl⟩, .inl rfl, (fun T q => nomatch q), .inl rfl⟩ h
abbrev hX (X : Cx) (a : Addr) (oe : Obj) (px : List (Addr × Obj)) : Cx := { X with A := X.A.mark (some (.ref a)), calm := false, pn := (a, oe) :: (px ++ X.pn), xe := fun _ _ => False }
abbrev tX (X : Cx) (pn : List (Addr × Obj)) (E : Value → Shared → Prop) : Cx := { X with pn := pn, xe := E }
theorem Cx.Ok.hX {X : Cx} (ok : X.Ok) (a : Addr) (oe : Obj) (px : List (Addr × Obj)) : (hX X a oe px).Ok :=
  ⟨ok.mod, ok.kind, ok.glob, ok.blt, ok.above, ok.inj, ok.has, ok.cab, (fun z => nomatch z), ok.frames, ok.stk, ok.exf, ok.bs, ok.bsz, ok.noex, ok.exfs, ok.funs, ok.frf⟩
theorem Cx.Ok.tX {X : Cx} (ok : X.Ok) (pn : List (Addr × Obj)) (E : Value → Shared → Prop) : (tX X pn E).Ok :=
  ⟨ok.mod, ok.kind, ok.glob, ok.blt, ok.above, ok.inj, ok.has, ok.cab, ok.hd, ok.frames, ok.stk, ok.exf, ok.bs, ok.bsz, ok.noex, ok.exfs, ok.funs, ok.frf⟩
def HCtx (px : List (Addr × Obj)) (a : Addr) (c2 : Value) : Prop := c2 = .none ∨ ∃ b ob vb, c2 = .ref b ∧ b ≠ a ∧ (b, ob) ∈ px ∧ ob.data = .fields vb ∧ vb[2]? = some .none
structure Held (px : List (Addr × Obj)) (a : Addr) (oe : Obj) (C : Addr) : Prop where
  cls : oe.cls = .ref C
  dict : oe.dict = none
  fld : ∃ vs c2, oe.data = .fields vs ∧ vs[2]? = some c2 ∧ HCtx px a c2
def FTry (X : Cx) (B : Addr) (okC : Addr → Prop) (th : Addr → Addr → TS) (D : Ends) (i : Nat) : XK := fun Cv _ H' => ∃ C, Cv = .ref C ∧ okC C ∧ PySem.W.exmOne X.K (.ref C) (.ref B) = some true ∧
  ∀ a, th a C { nx := fun _ _ => False, rt := D.rt } ((List.replicate X.N.length none).set i (some (.ref a))) H'
def tTry (X : Cx) (B : Addr) (okC : Addr → Prop) (tb : XK → TS) (th : Addr → Addr → TS) (i : Nat) : TS := fun D σ H => tb (FTry X B okC th D i) D σ H
end
end L2
end
section
namespace L2
open PySem PySem.Spec PyProof.Rows
section
variable {X : Cx} {pins : List (Addr × Obj)} {σ : St} {H : Hp} {s : Shared}
def Pinned (X : Cx) (H : Hp) (h : Heap) (p : Addr × Obj) : Prop := h.get? p.1 = some p.2 ∧ H p.1 = none ∧ p.1 ≠ X.env.locals ∧ p.1 ∉ X.fs ∧ ∀ v, p.2.data ≠ .cell v
theorem Inv.hold (I : Inv X pins σ H s) {a : Addr} {oe : Obj} {px : List (Addr × Obj)} (k : ∀ p ∈ (a, oe) :: px, Pinned X H s.heap p) : Inv (hX X a oe px) pins σ H s :=
  ⟨I.ok.hX a oe px, I.os, I.bare, I.base, I.loc, I.cell, I.free, I.freeC, fun p hp => by
    have hp' : p ∈ ((a, oe) :: (px ++ X.pn)) ++ pins := hp
    simp only [List.mem_append, List.mem_cons] at hp'
    rcases hp' with (z | z | z) | z
    · exact k p (by rw [z]; exact List.mem_cons_self)
    · exact k p (List.mem_cons_of_mem _ z)
    · exact I.pin p (List.mem_append_left _ z)
    · exact I.pin p (List.mem_append_right _ z), I.hok, I.len⟩
theorem Inv.loose {a : Addr} {oe : Obj} {px : List (Addr × Obj)} (I : Inv (hX X a oe px) pins σ H s) (ok : X.Ok) : Inv X pins σ H s := ⟨ok, I.os, I.bare, I.base, I.loc, I.cell, I.free, I.freeC, fun p hp => I.pin p (by
    have : p ∈ X.pn ∨ p ∈ pins := List.mem_append.mp hp
    show p ∈ ((a, oe) :: (px ++ X.pn)) ++ pins
    simp only [List.mem_append, List.mem_cons]
    rcases this with z | z
    · exact .inl (.inr (.inr z))
    · exact .inr z), I.hok, I.len⟩
theorem Inv.goes {h' : Heap} {t' : Nat} {m' : Str → Option Value} (I : Inv X pins σ H s) (hs : Heap.SameBut X.env.locals s.heap h') (hn : h'.Ns X.env.locals m') : Inv X pins (List.replicate X.N.length none) H { s with heap := h', toks := t' } := by
  have ne : ∀ b o, X.s₀.heap.get? b = some o → b ≠ X.env.locals := fun b o e => Nat.ne_of_lt (Nat.lt_of_lt_of_le (Heap.lt_size e) I.ok.above)
  refine ⟨I.ok, I.os, I.bare, ⟨fun b o e n hb hx => (hs.2 b (ne b o e)).trans (I.base.keep b o e n hb hx), fun b o e n hb hx => ?_, I.base.free, fun b o e hx => ?_, I.base.tups, I.base.frzs, I.base.tbls⟩, ⟨m', hn, fun j y v e1 e2 e3 => ?_⟩, fun y c e => ?_, I.free, I.freeC, fun p hp => ?_, fun b ob e => ?_, by simp⟩
  · obtain ⟨sl, e1⟩ := I.base.slot b o e n hb hx; exact ⟨sl, (hs.2 b (ne b o e)).trans e1⟩
  · obtain ⟨o', e1⟩ := I.base.there b o e hx; exact ⟨o', (hs.2 b (ne b o e)).trans e1⟩
  · rw [List.getElem?_replicate] at e2; split at e2 <;> cases e2
  · obtain ⟨v, z⟩ := I.cell y c e; exact ⟨v, z.sameBut hs (I.cne y c e)⟩
  · obtain ⟨e, n, nl, nf, d⟩ := I.pin p hp; exact ⟨(hs.2 p.1 nl).trans e, n, nl, nf, d⟩
  · refine (I.hok b ob e).stay (fun c w' hc q => (hs.2 c ?_).trans q) (fun _ q => q) fun _ _ q => q
    rintro rfl
    rcases hc with z | z
    · rw [← z, I.free] at e; cases e
    · rw [I.free] at z; cases z
theorem catchX {d : Bool} {x : Str} {B : Addr} {nm : Option Str} {b0 : Stmt} {suite : List Stmt} {np hp : Pos} {σ1 : St} {H0 : Hp} {s1 s' : Shared} {F : XK} {e : Value} {Q : Flow → Shared → Prop} (hst : X.stack = X.env :: X.outer) (hfr : X.env.frame = some X.env.locals) (hg : Gl X x) (hm : X.mg x = some (.ref B)) (hdb : (x == ("__debug__" : Str)) = false)
    (I1 : Inv X pins σ1 H0 s1) (q : CXE d X.prog X.w X.stack H0 s1 F e s') (hF : ∀ C H1, F (.ref C) none H1 → PySem.W.exmOne X.K (.ref C) (.ref B) = some true)
    (k : ∀ a C H1 h3 T oe px c2, e = .ref a → T ≠ a → ExcSh h3 a (.ref C) (.ref T) c2 → TbSh h3 T .none → New s1.heap H1 a → New s1.heap H1 T → h3.get? a = some oe → (d = false → c2 = .none) → Held px a oe C → F (.ref C) none H1 →
      (∀ h4, (∀ o, h3.get? a = some o → h4.get? a = some o) → KeepX (frs X.stack) [T] h3 h4 → Inv X pins σ1 H1 { s' with heap := h4 } ∧ ∀ p ∈ (a, oe) :: px, Pinned X H1 h4 p) →
      codeAny (model X.prog X.w) (X.A.mark (some (.ref a))) (.handlers (.ref a) [.ExceptHandler none nm (b0 :: suite) hp] X.env) (fun r s₂ => match r with
          | .ok f => (match nm with
            | none => Q f s₂
            | some n => wpAny (model X.prog X.w) X.A (do bindName X.env n .none; unbindBehindTheSuite X.env n hp) (fun _ s₃ => Q f s₃) X.xe s₂)
          | .error x => cameBackBy (model X.prog X.w) X.A X.env X.xe x s₂) { s' with heap := h3 }) :
    wpAny (model X.prog X.w) X.A (noteFrame e X.env) (fun _ s2 => wpAny (model X.prog X.w) X.A (setFlight e none) (fun _ s3 => wpAny (model X.prog X.w) X.A (handleBy e X.env [.ExceptHandler (some (.Name x np)) nm (b0 :: suite) hp]) Q X.xe s3) X.xe s2) X.xe s' := by
  obtain ⟨a, C, H1, rfl, os, bare, un, hok, ⟨⟨n0, nH⟩, t1, c2, sh, nf, hT, hx⟩, qF⟩ := q
  have hex := hF C H1 qF
  have I2 : Inv X pins σ1 H1 s' := I1.call' os un hok bare (fun b z => absurd z (by simp))
  have hf2 : X.A.frames = some (X.env :: X.outer) := by rw [← hst]; exact I1.ok.frames
  have st2 : s'.heap.FunFrames X.base (X.env :: X.outer) := by rw [← hst]; exact I2.stack
  refine leaveX (ch := chX a t1) hf2 st2 hfr sh nf (by simp [chX]) (fun T e => by rw [e]; exact chX_ref) fun h3 T zT neT sh3 tb3 kp3 => ?_
  have hx3 := hx.step kp3 st2 zT
  rw [← hst] at kp3
  have u3 : Un (frs X.stack) [] H0 H1 s1.heap h3 := Un.leftX un kp3 (chX_all n0 fun T e => (hT T e).1) fun b o _ hb => hb
  have ok3 : HOk X.prog X.w H1 h3 := hok.leftX kp3 (chX_all nH fun T e => (hT T e).2) I2.stkFree
  have nT : New s1.heap H1 T := by
    rcases zT with z | z
    · exact ⟨un.old z, I2.hok.fresh z⟩
    · exact hT T z
  have inv : ∀ h4, KeepX (frs X.stack) [T] h3 h4 → Inv X pins σ1 H1 { s' with heap := h4 } := fun h4 kp4 =>
    I1.call' (s' := { s' with heap := h4 }) os (Un.leftX u3 kp4 (fun b hb => by simp at hb; rw [hb]; exact nT.1) fun b o _ hb => hb) (ok3.leftX kp4 (fun b hb => by simp at hb; rw [hb]; exact nT.2) I2.stkFree) bare (fun b z => absurd z (by simp))
  have away1 : ∀ b, s1.heap.get? b = none → b ≠ X.env.locals := fun b nb z => by
    obtain ⟨m, ⟨o, _, _, e, _⟩, _⟩ := I1.loc
    rw [← z, nb] at e
    cases e
  have away2 : ∀ b, s1.heap.get? b = none → b ∉ X.fs := fun b nb z => by
    obtain ⟨_, o, e, _⟩ := I1.stack.mem (show b ∈ X.stack.filterMap (·.frame) by rw [hst, List.filterMap_cons, hfr]; exact List.mem_cons_of_mem _ z)
    rw [nb] at e
    cases e
  have away : ∀ b, s1.heap.get? b = none → b ≠ X.env.locals ∧ b ∉ X.fs := fun b nb => ⟨away1 b nb, away2 b nb⟩
  obtain ⟨oe, vs, h0, hc, hdc, hdt, v1, v2⟩ := id sh3
  have ex : ∃ px, HCtx px a c2 ∧ ∀ h4, (∀ o, h3.get? a = some o → h4.get? a = some o) → KeepX (frs X.stack) [T] h3 h4 → ∀ p ∈ (a, oe) :: px, Pinned X H1 h4 p := by
    have pa : ∀ h4, (∀ o, h3.get? a = some o → h4.get? a = some o) → Pinned X H1 h4 (a, oe) := fun h4 k4 => ⟨k4 _ h0, nH, (away a n0).1, (away a n0).2, fun v z => by rw [show (a, oe).2.data = .fields vs from hdt] at z; cases z⟩
    rcases hx3 with z | ⟨b, ob, vb, e0, e1, e2, e3, e4, e5, e6, e7⟩
    · exact ⟨[], .inl z, fun h4 k4 _ p hp => by simp at hp; rw [hp]; exact pa h4 k4⟩
    · refine ⟨[(b, ob)], .inr ⟨b, ob, vb, e1, e2, by simp, e6, e7⟩, fun h4 k4 kp4 p hp => ?_⟩
      rcases List.mem_cons.mp hp with z | z
      · rw [z]; exact pa h4 k4
      · simp at z; rw [z]
        have nbT : b ∉ [T] := fun hb => by simp at hb; exact e3 (by rw [hb])
        have nbf : b ∉ frs X.stack := fun hb => by
          obtain ⟨_, o, e, _⟩ := I1.stack.mem hb
          rw [e4.1] at e; cases e
        exact ⟨kp4.1 b ob nbT nbf e5, e4.2, (away b e4.1).1, (away b e4.1).2, fun v z => by rw [show (b, ob).2.data = .fields vb from e6] at z; cases z⟩
  obtain ⟨px, hctx, hpin⟩ := ex
  have id3 : KeepX (frs X.stack) [T] h3 h3 := ⟨fun _ _ _ _ q => q, fun _ o _ _ q => ⟨o.slots, q⟩⟩
  have I3 := inv h3 id3
  have I3h : Inv (hX X a oe px) pins σ1 H1 { s' with heap := h3 } := I3.hold (hpin h3 (fun _ q => q) id3)
  refine wpAny_handleBy_cons (codeAny_handlers_test (ld_glob (X := hX X a oe px) I3h hg hm ?_ hdb)) (by intro q; cases q)
  have IA : PySem.W.InstAt h3 a oe C none := ⟨h0, hc, by unfold PySem.W.notCls; rw [hdt], by rw [hdc]; trivial⟩
  refine (PySem.W.exm_one (M := model X.prog X.w) I3.kIn IA.type hex).here ?_
  exact k a C H1 h3 T oe px c2 rfl neT sh3 tb3 ⟨n0, nH⟩ nT h0 (fun hd => by
    rcases hx with z | ⟨_, _, _, e0, _⟩
    · exact z
    · rw [hd] at e0; cases e0) ⟨hc, hdc, vs, c2, hdt, v2, hctx⟩ qF fun h4 k4 kp4 => ⟨inv h4 kp4, hpin h4 k4 kp4⟩
theorem tried {d : Bool} {body : List Stmt} {tb : XK → TS} {F : XK} {D : Ends} {Q : Flow → Shared → Prop} {EE : Value → Shared → Prop} (I : Inv X pins σ H s)
    (hb : ∀ (pn : List (Addr × Obj)) (E : Value → Shared → Prop), Passes (CXE d X.prog X.w) (tX X pn E) F → PSs (tX X pn E) body (tb F)) (h : tb F D σ H) (hQ : ∀ f s1, SP X pins D f s1 → Q f s1)
    (hE : ∀ e s', (∃ σ1 H0 s1, Inv X pins σ1 H0 s1 ∧ CXE d X.prog X.w X.stack H0 s1 F e s') → EE e s') : wpAny (model X.prog X.w) X.A (execs body X.env) Q EE s := by
  have pass : Passes (CXE d X.prog X.w) (tX X (X.pn ++ pins) fun e s' => ∃ σ1 H0 s1, Inv X pins σ1 H0 s1 ∧ CXE d X.prog X.w X.stack H0 s1 F e s') F := fun pins' σ1 H1 s1 e s' I1 q =>
    ⟨σ1, H1, s1, ⟨I.ok, I1.os, I1.bare, I1.base, I1.loc, I1.cell, I1.free, I1.freeC, fun p hp => I1.pin p (List.mem_append_left _ hp), I1.hok, I1.len⟩, q⟩
  have I0 : Inv (tX X (X.pn ++ pins) fun e s' => ∃ σ1 H0 s1, Inv X pins σ1 H0 s1 ∧ CXE d X.prog X.w X.stack H0 s1 F e s') [] σ H s := ⟨I.ok.tX _ _, I.os, I.bare, I.base, I.loc, I.cell, I.free, I.freeC, fun p hp => I.pin p (by simpa using hp), I.hok, I.len⟩
  have back : ∀ {σ' H' s'}, Inv (tX X (X.pn ++ pins) fun e s' => ∃ σ1 H0 s1, Inv X pins σ1 H0 s1 ∧ CXE d X.prog X.w X.stack H0 s1 F e s') [] σ' H' s' → Inv X pins σ' H' s' := fun {σ' H' s'} J => ⟨I.ok, J.os, J.bare, J.base, J.loc, J.cell, J.free, J.freeC, fun p hp => J.pin p (by simpa using hp), J.hok, J.len⟩
  refine wpAny_mono (hb _ _ pass [] s σ H D I0 h) (fun f s1 q => hQ f s1 ?_) hE
  cases f with
  | next => obtain ⟨σ', H', J, q⟩ := q; exact ⟨σ', H', back J, q⟩
  | brk => obtain ⟨σ', H', J, q⟩ := q; exact ⟨σ', H', back J, q⟩
  | cont => obtain ⟨σ', H', J, q⟩ := q; exact ⟨σ', H', back J, q⟩
  | ret u => obtain ⟨v, σ', H', J, r, q⟩ := q; exact ⟨v, σ', H', back J, r, q⟩
theorem ps_try {d : Bool} (okC : Addr → Prop) {x n : Str} {B : Addr} {body : List Stmt} {b0 : Stmt} {suite : List Stmt} {np hp pos : Pos} {tb : XK → TS} {th : Addr → Addr → TS} {i : Nat} (hst : X.stack = X.env :: X.outer) (hfr : X.env.frame = some X.env.locals) (hg : Gl X x) (hm : X.mg x = some (.ref B))
    (hN : X.N.Nodup) (hi : X.N[i]? = some n) (hl : X.env.scope.names.lookup n = some .local)
    (hb : ∀ (F : XK) (pn : List (Addr × Obj)) (E : Value → Shared → Prop), Passes (CXE d X.prog X.w) (tX X pn E) F → PSs (tX X pn E) body (tb F))
    (hs : ∀ (a : Addr) (oe : Obj) (px : List (Addr × Obj)) (C : Addr), okC C → Held px a oe C → PSs (hX X a oe px) (b0 :: suite) (th a C)) (hd : (x == ("__debug__" : Str)) = false := by decide) :
    PS X (.Try body [.ExceptHandler (some (.Name x np)) (some n) (b0 :: suite) hp] [] [] pos) (tTry X B okC tb th i) := by
  intro pins s σ H D I h
  refine wpAny_Try_except ?_
  refine tried (d := d) I (fun pn E => hb _ pn E) h (fun f s1 q => ?_) fun e s' q => ?_
  · cases f with
    | next => exact wpAny_execs_nil q
    | brk => exact q
    | cont => exact q
    | ret u => exact q
  · obtain ⟨σ1, H0, s1, I1, q⟩ := q
    refine catchX hst hfr hg hm hd I1 q (fun C H1 ⟨C', e, _, hex, _⟩ => by cases e; exact hex) fun a C H1 h3 T oe px c2 ea neT sh3 tb3 na nT h0 _ held qF keep => ?_
    obtain ⟨C', eC, hok', hex, rd⟩ := qF
    cases eC
    refine codeAny_handlers_suite_as (setFlX (s := { s' with heap := h3 }) (fs := frs X.stack) neT sh3 tb3 fun h4 e4 _ _ kp4 => ?_)
    obtain ⟨I4, hp4⟩ := keep h4 e4 kp4
    have I4h : Inv (hX X a oe px) pins σ1 H1 { s' with heap := h4 } := I4.hold hp4
    refine store_ok (X := hX X a oe px) (i := i) (v := .ref a) I4h hN hi (.inl hl) rfl (fun s5 I5 => ?_) (.inr hl)
    have iL : i < σ1.length := by rw [I1.len]; exact (List.getElem?_eq_some_iff.mp hi).1
    have I6 : Inv (hX X a oe px) pins ((List.replicate X.N.length none).set i (some (.ref a))) H1 s5 := I5.weak (by simp [I1.len]) fun j v e => by
      by_cases hj : j = i
      · subst hj
        rw [List.getElem?_set_self (by rw [List.length_replicate, ← I1.len]; exact iL)] at e
        cases e
        exact List.getElem?_set_self iL
      · rw [List.getElem?_set_ne (Ne.symm hj), List.getElem?_replicate] at e
        split at e <;> cases e
    refine wpAny_mono (hs a oe px C hok' held pins s5 _ H1 _ I6 (rd a)) (fun f s7 q => ?_) fun _ _ z => False.elim z
    cases f with
    | next => obtain ⟨_, _, _, z⟩ := q; exact False.elim z
    | brk => obtain ⟨_, _, _, z⟩ := q; exact False.elim z
    | cont => obtain ⟨_, _, _, z⟩ := q; exact False.elim z
    | ret u =>
      obtain ⟨v, σ7, H7, I7, r7, q7⟩ := q
      obtain ⟨m7, hn7, _⟩ := id I7.loc
      refine wpAny_nameGoes hl hn7 (by rw [I.ok.kind]; rfl) fun h8 m8 hn8 sb8 => ?_
      exact ⟨v, _, H7, (I7.loose I.ok).goes sb8 hn8, r7, q7⟩
end
end L2
end
section
namespace PySem
open Sem (wp)
section
variable {prog : Program} {w : World} {A : Around} {E : Value → Shared → Prop} {s : Shared}
end
end PySem
namespace L2
open PySem PySem.Spec PyProof.Rows
section
variable {X : Cx}
theorem call_isiH {K : PySem.W.Frag} {a : Addr} {oe : Obj} {px : List (Addr × Obj)} {C : Addr} (hK : X.K = K) (hd : Held px a oe C) (hc : PySem.W.XCls K C) (hm : (a, oe) ∈ X.pn) : CallR X (.builtin "isinstance") (fun xs H Q => ∃ c b, (xs = [.ref a, c]) ∧ ∃ cv, (∀ u, RelV c u → u = cv) ∧ PySem.W.kitOne K (.ref C) cv = some b ∧ Q (.bl b) H) := by
  subst hK
  intro pins s σ H xs us Q I r h
  obtain ⟨c, b, rfl, cv, hcv, e, q⟩ := h
  obtain ⟨u, c', rfl, r1, r2⟩ := vals2 r
  cases (show u = Value.ref a from r1)
  have := hcv _ r2
  subst this
  have pe := (I.pin (a, oe) (List.mem_append_left _ hm)).1
  obtain ⟨vs, c2, hd1, _⟩ := hd.fld
  have IA : PySem.W.InstAt s.heap a oe C none := ⟨pe, hd.cls, by unfold PySem.W.notCls; rw [hd1], by rw [hd.dict]; trivial⟩
  refine PySem.W.kia_one (PySem.W.kitx_exc hc) I.kIn IA e (fun z => nomatch z) fun tk => ⟨.bl b, H, I.tok tk, rfl, q⟩
end
end L2
end
section
namespace L2
open PySem PySem.Spec PyProof.Rows
theorem Same.put' {H H' : Hp} {p : PySem.Addr} {o : HO} (h : Same H H') (hp : H p = none) : Same H (L2.upd H' p o) := fun b u e => by rw [upd_ne (ne_of_none e hp)]; exact h b u e
theorem comp_gen {J : It} {g : TG} {te : TE} {H1 : Hp} {σ0 : St} {R : Hp → Prop} {p : Addr} (hp : H1 p = none) (n : Nat) (hz : n < sizeLine) (F : Nat → V) (Ps : St → Prop) (h0 : Ps σ0) (hstop : ∀ H', Same H1 H' → J.stop n H') (hgo : ∀ i H', i < n → Same H1 H' → J.go i H')
    (step : ∀ i σ' H' x H2, i < n → Ps σ' → Same H1 H' → J.yld i H' x H2 → ∀ K : V → St → Hp → Prop, (∀ σ2 H4, Ps σ2 → Same H' H4 → K (F i) σ2 H4) → g x σ' H2 fun σ2 H3 => te σ2 H3 fun v H4 => K v σ2 H4)
    (fin : ∀ H', Same H1 H' → H' p = some (.lst ((List.range n).map F)) → R H') :
    ∃ W : Nat → Nat → St → Hp → Prop, (∃ m, W 0 m σ0 (upd H1 p (.lst []))) ∧
      ∀ i m σ' H', W i m σ' H' → (J.stop i H' ∧ R H') ∨ (J.go i H' ∧ ∀ x H2, J.yld i H' x H2 → g x σ' H2 fun σ2 H3 => te σ2 H3 fun v H4 => ∃ ys, H4 p = some (.lst ys) ∧ ys.length < sizeLine ∧ ∃ m', m' < m ∧ W (i + 1) m' σ2 (upd H4 p (.lst (ys ++ [v])))) := by
  refine ⟨fun i m σ' H' => m = n - i ∧ i ≤ n ∧ Ps σ' ∧ Same H1 H' ∧ H' p = some (.lst ((List.range i).map F)), ⟨_, rfl, Nat.zero_le _, h0, (Same.refl H1).put' hp, upd_same⟩, ?_⟩
  rintro i m σ' H' ⟨rfl, hi, ps, sm, lp⟩
  by_cases hlt : i < n
  · refine .inr ⟨hgo i H' hlt sm, fun x H2 y => step i σ' H' x H2 hlt ps sm y _ fun σ2 H4 ps2 sm2 => ?_⟩
    refine ⟨_, sm2 _ _ lp, by simp; omega, n - (i + 1), by omega, rfl, hlt, ps2, (sm.trans sm2).put' hp, ?_⟩
    rw [upd_same, List.range_succ, List.map_append]; rfl
  · have e : i = n := by omega
    subst e
    exact .inl ⟨hstop H' sm, fin H' sm lp⟩
theorem comp_list {KK : PySem.W.Frag} {a : Addr} {xs : List V} {g : TG} {te : TE} {H1 : Hp} {σ0 : St} {R : Hp → Prop} {p : Addr} (hp : H1 p = none) (ha : H1 a = some (.lst xs)) (hz : xs.length < sizeLine) (F : V → V) (Ps : St → Prop) (h0 : Ps σ0)
    (step : ∀ (i : Nat) x σ' H', xs[i]? = some x → Ps σ' → Same H1 H' → ∀ K : V → St → Hp → Prop, (∀ σ2 H4, Ps σ2 → Same H' H4 → K (F x) σ2 H4) → g x σ' H' fun σ2 H3 => te σ2 H3 fun v H4 => K v σ2 H4)
    (fin : ∀ H', Same H1 H' → H' p = some (.lst (xs.map F)) → R H') :
    ∃ W : Nat → Nat → St → Hp → Prop, (∃ m, W 0 m σ0 (upd H1 p (.lst []))) ∧
      ∀ i m σ' H', W i m σ' H' → ((Itl KK a).stop i H' ∧ R H') ∨ ((Itl KK a).go i H' ∧ ∀ v H2, (Itl KK a).yld i H' v H2 → g v σ' H2 fun σ2 H3 => te σ2 H3 fun v H4 => ∃ ys, H4 p = some (.lst ys) ∧ ys.length < sizeLine ∧ ∃ m', m' < m ∧ W (i + 1) m' σ2 (upd H4 p (.lst (ys ++ [v])))) := by
  refine comp_gen (J := Itl KK a) hp xs.length hz (fun i => F (xs.getD i .non)) Ps h0 (fun H' sm => ⟨xs, SqL.of (sm _ _ ha), Nat.le_refl _⟩) (fun i H' hi sm => ⟨xs, xs[i], SqL.of (sm _ _ ha), by simp [hi]⟩) (fun i σ' H' v H2 hi ps sm y K k => ?_) (fun H' sm hq => fin H' sm ?_)
  · obtain ⟨e, y⟩ := y
    subst e
    have hv := y xs (SqL.of (sm _ _ ha))
    refine step i v σ' _ hv ps sm K fun σ2 H4 p2 s2 => ?_
    have := k σ2 H4 p2 s2
    rw [show xs.getD i V.non = v by simp [List.getD, hv]] at this
    exact this
  · rw [hq]
    congr 2
    refine List.ext_getElem (by simp) fun i h1 h2 => ?_
    simp at h1 h2
    simp [List.getD, h2]
theorem comp_range {lo : Int} {n : Nat} {g : TG} {te : TE} {H1 : Hp} {σ0 : St} {R : Hp → Prop} {p : Addr} (hp : H1 p = none) (hz : n < sizeLine) (F : Nat → V) (Ps : St → Prop) (h0 : Ps σ0)
    (step : ∀ i σ' H', i < n → Ps σ' → Same H1 H' → ∀ K : V → St → Hp → Prop, (∀ σ2 H4, Ps σ2 → Same H' H4 → K (F i) σ2 H4) → g (.int (lo + i)) σ' H' fun σ2 H3 => te σ2 H3 fun v H4 => K v σ2 H4)
    (fin : ∀ H', Same H1 H' → H' p = some (.lst ((List.range n).map F)) → R H') :
    ∃ W : Nat → Nat → St → Hp → Prop, (∃ m, W 0 m σ0 (upd H1 p (.lst []))) ∧
      ∀ i m σ' H', W i m σ' H' → ((Itr lo n).stop i H' ∧ R H') ∨ ((Itr lo n).go i H' ∧ ∀ v H2, (Itr lo n).yld i H' v H2 → g v σ' H2 fun σ2 H3 => te σ2 H3 fun v H4 => ∃ ys, H4 p = some (.lst ys) ∧ ys.length < sizeLine ∧ ∃ m', m' < m ∧ W (i + 1) m' σ2 (upd H4 p (.lst (ys ++ [v])))) := by
  refine comp_gen (J := Itr lo n) hp n hz F Ps h0 (fun _ _ => Nat.le_refl _) (fun i _ hi _ => hi) (fun i σ' H' v H2 hi ps sm y K k => ?_) fin
  obtain ⟨e, y⟩ := y
  subst e y
  exact step i σ' _ hi ps sm K k
end L2
end
section
namespace L2
open PySem PySem.Spec PyProof.Rows
section
variable {X : Cx} {K : PySem.W.Frag} {pos : Pos}
theorem ix_listK (hK : X.K = K) : IxR X (rIxL K) := hK ▸ ix_list
end
end L2
end
section
namespace L2
open PySem PySem.Spec PyProof.Rows
section
variable {X : Cx}
def tVs (vs : List V) : TA := fun _ H Q => Q vs H
def conV : Expr → Option V
  | .Constant (.int i) _ _ => some (.int i)
  | .Constant (.str x) _ _ => some (.str x)
  | .Constant (.bool b) _ _ => some (.bl b)
  | .Constant .none _ _ => some .non
  | _ => none
theorem pa_vs : ∀ (vs : List V) {es : List Expr}, es.map conV = vs.map some → PA X es (tVs vs)
  | [], [], _ => fun pos pins s σ H Q I h => pa_nil pos pins s σ H Q I h
  | [], e :: es, h => by simp at h
  | v :: vs, [], h => by simp at h
  | v :: vs, e :: es, h => by
    simp only [List.map_cons, List.cons.injEq] at h
    obtain ⟨h1, h2⟩ := h
    have ih := pa_vs vs h2
    intro pos pins s σ H Q I hq
    have step : ∀ {te : TE}, PE X e te → (∀ σ H Q, te σ H Q ↔ Q v H) → starEach (e :: es) X.env = (false, eval e X.env) :: starEach es X.env → wpAny (model X.prog X.w) X.A (spliced (backTo pos (starEach (e :: es) X.env))) (AP X pins σ Q) X.xe s := by
      intro te he ht hs
      exact pa_cons he ih hs pos pins s σ H Q I ((ht σ H _).mpr hq)
    cases e <;> simp only [conV, reduceCtorEq] at h1
    rename_i c k p
    cases c <;> simp only [conV, Option.some.injEq, reduceCtorEq] at h1
    all_goals subst h1
    · exact step pe_non (fun _ _ _ => Iff.rfl) rfl
    · exact step pe_bl (fun _ _ _ => Iff.rfl) rfl
    · exact step pe_int (fun _ _ _ => Iff.rfl) rfl
    · exact step pe_str (fun _ _ _ => Iff.rfl) rfl
end
end L2
end
section
namespace L2
open PySem PySem.Spec PyProof.Rows
section
variable {X : Cx} {K : PySem.W.Frag} {pos : Pos}
end
end L2
end
section
namespace L2
open PySem PySem.Spec PyProof.Rows
section
variable {X : Cx}
end
end L2
end
section
namespace L2
open PySem PySem.Spec PyProof.Rows
end L2
end
section
namespace PySem.StrLaws
open Builtin Builtin.Str
end PySem.StrLaws
namespace L2
open PySem PySem.Spec PyProof.Rows
section
variable {X : Cx} {e : Expr} {te : TE} {lo hi stp : Option Expr} {tl th ts : TO} {pos p2 : Pos}
end
end L2
end
section
namespace L2
open PySem PySem.Spec PyProof.Rows
section
variable {X : Cx} {C : Addr} {x : Str} {p pos : Pos}
structure Mk0 (K : PySem.W.Frag) (C : Addr) : Prop where
  makes : PySem.W.makesIn K C = true
  init : PySem.W.findIn K (.ref C) "__init__" = some (some (.builtin "object.__init__"))
  kp : PySem.W.keepIn K (.ref C) = true
end
end L2
end
section
namespace L2
open PySem PySem.Spec PyProof.Rows
section
variable {X : Cx}
end
end L2
namespace L2
open PySem PySem.Spec PyProof.Rows
end L2
end
section
namespace L2
open PySem PySem.Spec PyProof.Rows
def Can (P : Program) (w : World) (K : PySem.W.Frag) (mg : Str → Option Value) (base : Heap) (CX : CXT) (k : Nat) (x : Str) (ps : List Str) (sp : Sp) : Prop :=
  ∃ f fd, mg x = some (.ref f) ∧ PySem.W.keepIn K (.ref f) = true ∧ Binds K fd ps [] ∧ FnOk P w K mg base CX k f fd ps sp
theorem pe_can {X : Cx} {CX : CXT} {k : Nat} {x : Str} {ps : List Str} {sp : Sp} {E : XK} {e : Expr} {es : List Expr} {t : TA} {p pos : Pos} (C : Can X.prog X.w X.K X.mg X.base CX k x ps sp) (hr : Room k X.A) (hx : Passes CX X E) (ha : PA X (e :: es) t) (hg : Gl X x := by rfl)
    (hdb : (x == ("__debug__" : Str)) = false := by decide) (he : starEach (e :: es) X.env = (false, eval e X.env) :: starEach es X.env := by rfl) (hpl : (backTo pos (starEach es X.env)).any (·.1) = false := by rfl) : PE X (.Call (.Name x p) (e :: es) [] pos) (tCall sp [] E t) := by
  obtain ⟨f, fd, h1, h2, h3, h4⟩ := C
  exact pe_call h4 hr hg h1 h2 h3 .nil hx ha hdb he hpl
theorem tru {b : Bool} (h : b = true) {A B : Prop} (a : A) : if b = true then A else B := by rw [if_pos h]; exact a
theorem fls {b : Bool} (h : b = false) {A B : Prop} (a : B) : if b = true then A else B := by rw [if_neg (by rw [h]; simp)]; exact a
theorem Same.upd {H H' : Hp} {p : Addr} {o : HO} (h : Same H H') (hp : H' p = none) : Same H (L2.upd H' p o) := fun b u e => by rw [upd_ne (ne_of_none (h b u e) hp)]; exact h b u e
theorem Same.upd0 {H : Hp} {p : Addr} {o : HO} (hp : H p = none) : Same H (L2.upd H p o) := (Same.refl H).upd hp
end L2
namespace Ks
open PySem L2 Mir
abbrev ch1 (c : Nat) : Str := ⟨#[c]⟩
theorem s_e : ("e" : Str) = ch1 101 := by decide +kernel
theorem s_h : ("h" : Str) = ch1 104 := by decide +kernel
theorem s_l : ("l" : Str) = ch1 108 := by decide +kernel
theorem s_g : ("g" : Str) = ch1 103 := by decide +kernel
theorem ch1_inj {a b : Nat} : ch1 a = ch1 b ↔ a = b := by
  constructor
  · intro h
    have : (ch1 a).cps.toList = (ch1 b).cps.toList := by rw [h]
    simpa using this
  · intro h; rw [h]
def p3 : P3 → Str | .L => "left" | .R => "right" | .E => "even"
theorem p3_inj {a b : P3} : p3 a = p3 b ↔ a = b := by
  constructor
  · intro h
    cases a <;> cases b <;> first | rfl | exact absurd h (by decide +kernel)
  · intro h; rw [h]
structure Blt (mg : Str → Option Value) : Prop where
  isi : mg "isinstance" = none
  int : mg "int" = none
  bool : mg "bool" = none
  str : mg "str" = none
  list : mg "list" = none
  tuple : mg "tuple" = none
  len : mg "len" = none
  set : mg "set" = none
  enum : mg "enumerate" = none
  range : mg "range" = none
  any : mg "any" = none
  all : mg "all" = none
  sorted : mg "sorted" = none
  max : mg "max" = none
  min : mg "min" = none
structure Kit (K : PySem.W.Frag) : Prop where
  ii : PySem.W.kitOne K (.type "int") (.type "int") = some true
  ib : PySem.W.kitOne K (.type "int") (.type "bool") = some false
  bb : PySem.W.kitOne K (.type "bool") (.type "bool") = some true
  ss : PySem.W.kitOne K (.type "str") (.type "str") = some true
  ll : PySem.W.kitOne K (.type "list") (.type "list") = some true
  tt : PySem.W.kitOne K (.type "tuple") (.type "tuple") = some true
theorem boot_isi : bootBuiltins "isinstance" = some (.builtin "isinstance") := by decide +kernel
theorem boot_intT : bootBuiltins "int" = some (.type "int") := by decide +kernel
theorem boot_boolT : bootBuiltins "bool" = some (.type "bool") := by decide +kernel
theorem boot_strT : bootBuiltins "str" = some (.type "str") := by decide +kernel
theorem boot_listT : bootBuiltins "list" = some (.type "list") := by decide +kernel
theorem boot_setT : bootBuiltins "set" = some (.type "set") := by decide +kernel
theorem boot_lenB : bootBuiltins "len" = some (.builtin "len") := by decide +kernel
theorem inV_two (c a b : Nat) : inV (.str (ch1 c)) [.str (ch1 a), .str (ch1 b)] = (c == a || c == b) := by
  show ((ch1 a == ch1 c) || ((ch1 b == ch1 c) || false)) = _
  have e : ∀ x y : Nat, (ch1 x == ch1 y) = (y == x) := fun x y => by
    by_cases h : y = x
    · subst h; simp
    · have h' : ¬ ch1 x = ch1 y := fun z => h (ch1_inj.mp z).symm
      rw [beq_eq_false_iff_ne.mpr h', beq_eq_false_iff_ne.mpr h]
  rw [e, e]; simp
section
variable {P : Program} {w : World} {K : PySem.W.Frag} {mg : Str → Option Value} {base : Heap}
def spWhole : Sp := fun vs H Q _ => ∃ i, vs = [.int i] ∧ Q (.bl true) H
theorem scWhole : FnScope ["value"] ["value"] (defScope (top 11)) := ⟨rfl, rfl, rfl, by decide +kernel, rfl, by decide +kernel, by decide +kernel⟩
def spMayH : Sp := fun vs H Q _ => ∃ c, vs = [.str (ch1 c)] ∧ ∀ H', Same H H' → Q (.bl (mayH c)) H'
theorem scMayH : FnScope ["sign"] ["sign"] (defScope (top 21)) := ⟨rfl, rfl, rfl, by decide +kernel, rfl, by decide +kernel, by decide +kernel⟩
theorem ok_mayH {f : Addr} {fd : FuncData} (F : Fun K "may_be_heavy" "may_be_heavy" (top 21) f fd) : FnOk P w K mg base CX0 1 f fd ["sign"] spMayH := by
  refine F.ok scMayH (fun vs H Q E h => ?_) (fun cdv A outer s H vs Q E hr h => ?_)
  · obtain ⟨i, rfl, _⟩ := h; rfl
  · obtain ⟨c, rfl, k⟩ := h
    refine ⟨_, pss_one (ps_ret (pe_cmpR op_in_seq (pv 0) (pe_tup (pa_cons pe_str (pa_cons pe_str pa_nil))) rfl)), ?_⟩
    refine ⟨_, rfl, by show 2 ≤ sizeLine; decide, fun p hp => ⟨p, _, rfl, .inr (SqT.of upd_same), rfl, rfl, ?_⟩⟩
    have e : inV (.str (ch1 c)) [.str "e", .str "h"] = mayH c := by rw [s_e, s_h, inV_two]; rfl
    show Q (.bl (inV (.str (ch1 c)) [.str "e", .str "h"])) _
    rw [e]
    exact k _ (Same.upd0 hp)
theorem scMayL : FnScope ["sign"] ["sign"] (defScope (top 22)) := ⟨rfl, rfl, rfl, by decide +kernel, rfl, by decide +kernel, by decide +kernel⟩
def spMayL : Sp := fun vs H Q _ => ∃ c, vs = [.str (ch1 c)] ∧ ∀ H', Same H H' → Q (.bl (mayL c)) H'
theorem ok_mayL {f : Addr} {fd : FuncData} (F : Fun K "may_be_light" "may_be_light" (top 22) f fd) : FnOk P w K mg base CX0 1 f fd ["sign"] spMayL := by
  refine F.ok scMayL (fun vs H Q E h => ?_) (fun cdv A outer s H vs Q E hr h => ?_)
  · obtain ⟨i, rfl, _⟩ := h; rfl
  · obtain ⟨c, rfl, k⟩ := h
    refine ⟨_, pss_one (ps_ret (pe_cmpR op_in_seq (pv 0) (pe_tup (pa_cons pe_str (pa_cons pe_str pa_nil))) rfl)), ?_⟩
    refine ⟨_, rfl, by show 2 ≤ sizeLine; decide, fun p hp => ⟨p, _, rfl, .inr (SqT.of upd_same), rfl, rfl, ?_⟩⟩
    have e : inV (.str (ch1 c)) [.str "e", .str "l"] = mayL c := by rw [s_e, s_l, inV_two]; rfl
    show Q (.bl (inV (.str (ch1 c)) [.str "e", .str "l"])) _
    rw [e]
    exact k _ (Same.upd0 hp)
def allG (z : Str) : Bool := !decide (104 ∈ z.cps.toList) && !decide (108 ∈ z.cps.toList)
theorem occ1 (c : Nat) (z : Str) : (!(!(Builtin.Str.occurrences z (ch1 c) 0 z.length 1).isEmpty)) = !decide (c ∈ z.cps.toList) := by
  rw [PySem.StrLaws.found_one]
theorem scAllG : FnScope ["marks"] ["marks"] (defScope (top 23)) := ⟨rfl, rfl, rfl, by decide +kernel, rfl, by decide +kernel, by decide +kernel⟩
def spAllG : Sp := fun vs H Q _ => ∃ z, vs = [.str z] ∧ Q (.bl (allG z)) H
theorem ok_allG {f : Addr} {fd : FuncData} (F : Fun K "may_all_be_good" "may_all_be_good" (top 23) f fd) : FnOk P w K mg base CX0 1 f fd ["marks"] spAllG := by
  refine F.ok scAllG (fun vs H Q E h => ?_) (fun cdv A outer s H vs Q E hr h => ?_)
  · obtain ⟨i, rfl, _⟩ := h; rfl
  · obtain ⟨z, rfl, k⟩ := h
    refine ⟨_, pss_one (ps_ret (pe_and (pe_cmpR op_notin_str pe_str (pv 0) rfl) (pe_one (pe_cmpR op_notin_str pe_str (pv 0) rfl)))), ?_⟩
    refine ⟨_, rfl, _, _, rfl, rfl, _, rfl, ?_⟩
    rw [s_h, occ1]
    have fin : ∀ b, b = (!decide (104 ∈ z.cps.toList)) → if b = true then tOp (fun x y H Q => ∃ i j, x = V.str i ∧ y = V.str j ∧ Q (.bl (!(!(Builtin.Str.occurrences j i 0 j.length 1).isEmpty))) H) (tC (.str "l")) (tVar 0) (start ["marks"] [V.str z]) H Q else Q (.bl false) H := by
      intro b hb
      by_cases hx : 104 ∈ z.cps.toList
      · refine fls (by rw [hb]; simp [hx]) ?_
        have e : allG z = false := by unfold allG; simp [hx]
        rw [← e]; exact k
      · refine tru (by rw [hb]; simp [hx]) ?_
        refine ⟨_, rfl, _, _, rfl, rfl, ?_⟩
        rw [s_l, occ1]
        have e : allG z = !decide (108 ∈ z.cps.toList) := by unfold allG; simp [hx]
        rw [← e]; exact k
    exact fin _ rfl
end
end Ks
end
section
namespace Ks
open PySem L2 Mir
def Oth (K : PySem.W.Frag) (w : World) (mg : Str → Option Value) : Prop :=
  ∃ (d : Addr) (es : Array DictEntry) (n : Nat), mg "OTHER" = some (.ref d) ∧ K.lookup d = some ⟨.type "dict", none, .dict es n, #[]⟩ ∧ PySem.W.KeysLit w.params es.toList ∧ ∀ p : P3, ∃ u, PySem.W.nsIn K d (p3 p) = some (some u) ∧ RelV (.str (p3 (other p))) u
def Outs (K : PySem.W.Frag) (mg : Str → Option Value) : Prop := ∃ (d : Addr) (o : Obj) (its : Array Value) (n : Nat), mg "OUTCOMES" = some (.ref d) ∧ K.lookup d = some o ∧ o.cls = .type "tuple" ∧ o.dict = none ∧ o.data = .seq its n ∧ Vals [.str "left", .str "right", .str "even"] its.toList
section
variable {P : Program} {w : World} {K : PySem.W.Frag} {mg : Str → Option Value} {base : Heap}
def spOut : Sp := fun vs H Q _ => ∃ (p : P3) (hv : Bool), vs = [.str (p3 p), .bl hv] ∧ Q (.str (p3 (if hv then p else other p))) H
theorem scOut : FnScope ["place", "heavy"] ["place", "heavy"] (defScope (top 20)) := ⟨rfl, rfl, rfl, by decide +kernel, rfl, by decide +kernel, by decide +kernel⟩
theorem ok_out {f : Addr} {fd : FuncData} (F : Fun K "outcome_by" "outcome_by" (top 20) f fd) (O : Oth K w mg) : FnOk P w K mg base CX0 1 f fd ["place", "heavy"] spOut := by
  refine F.ok scOut (fun vs H Q E h => ?_) (fun cdv A outer s H vs Q E hr h => ?_)
  · obtain ⟨i, b, rfl, _⟩ := h; rfl
  · obtain ⟨p, hv, rfl, k⟩ := h
    obtain ⟨d, es, n, m1, m2, m3, m4⟩ := O
    obtain ⟨u, u1, u2⟩ := m4 p
    refine ⟨_, pss_one (ps_ret (pe_ifExp (pt_val (pv 1)) (pv 0) (pe_ix ix_kd (pe_glob (v := .ref d) (by rfl) m1 rfl) (pv 0) (fun _ _ => rfl)))), ?_⟩
    refine ⟨_, rfl, _, rfl, ?_⟩
    cases hv with
    | true => exact iteT ⟨_, rfl, k⟩
    | false => exact iteF ⟨_, rfl, d, es, n, _, _, u, rfl, rfl, m2, m3, u1, u2, k⟩
end
end Ks
end
section
namespace Ks
open PySem L2 Mir
structure MkOk (z : Str) : Prop where
  sg : ∀ c ∈ z.cps.toList, Sign c
  ex : 101 ∈ z.cps.toList → 104 ∉ z.cps.toList ∧ 108 ∉ z.cps.toList
  len : z.length ≤ 100
theorem signs_count : ∀ {l : List Nat}, (∀ c ∈ l, Sign c) → l.count 101 + (l.count 104 + l.count 108) + l.count 103 = l.length
  | [], _ => rfl
  | c :: l, h => by
    have ih := signs_count fun d hd => h d (List.mem_cons_of_mem _ hd)
    have e : ∀ d, (c :: l).count d = l.count d + [c].count d := fun d => by rw [List.count_cons, List.count_cons, List.count_nil]; omega
    rw [e, e, e, e, List.length_cons]
    have q : [c].count 101 + ([c].count 104 + [c].count 108) + [c].count 103 = 1 := by
      rcases h c List.mem_cons_self with rfl | rfl | rfl | rfl <;> rfl
    omega
theorem str_len (z : Str) : z.length = z.cps.toList.length := by rw [Array.length_toList]; rfl
section
variable {P : Program} {w : World} {K : PySem.W.Frag} {mg : Str → Option Value} {base : Heap}
def spCM : Sp := fun vs H Q _ => ∃ z, vs = [.str z] ∧ MkOk z ∧ Q .non H
theorem scCM : FnScope ["marks", "either", "one_way"] ["marks"] (defScope (top 12)) := ⟨rfl, rfl, rfl, by decide +kernel, rfl, by decide +kernel, by decide +kernel⟩
theorem ok_cm {f : Addr} {fd : FuncData} (F : Fun K "check_marks" "check_marks" (top 12) f fd) (B : Blt mg) (T : Kit K) : FnOk P w K mg base CX0 1 f fd ["marks"] spCM := by
  refine F.ok scCM (fun vs H Q E h => ?_) (fun cdv A outer s H vs Q E hr h => ?_)
  · obtain ⟨z, rfl, _⟩ := h; rfl
  · obtain ⟨z, rfl, M, k⟩ := h
    refine ⟨_, pss_cons (ps_if (pt_not (pt_val (pe_callB call_isi (by rfl) B.isi boot_isi (pa_cons (pv 0) (pa_cons (pe_bltn (v := .ty "str") (by rfl) B.str boot_strT rfl) pa_nil))))) pss_never pss_nil)
      (pss_cons (ps_set (i := 1) scCM.nd rfl (Or.inl rfl) (pe_bm PySem.F.plainAttrs_str PySem.F.slot_str_count PySem.F.type_str_count mt_count (pv 0) (pa_cons pe_str pa_nil)))
      (pss_cons (ps_set (i := 2) scCM.nd rfl (Or.inl rfl) (pe_op op_add (pe_bm PySem.F.plainAttrs_str PySem.F.slot_str_count PySem.F.type_str_count mt_count (pv 0) (pa_cons pe_str pa_nil)) (pe_bm PySem.F.plainAttrs_str PySem.F.slot_str_count PySem.F.type_str_count mt_count (pv 0) (pa_cons pe_str pa_nil))))
      (pss_cons (ps_if (pt_cmpR op_ne (pe_op op_add (pe_op op_add (pv 1) (pv 2)) (pe_bm PySem.F.plainAttrs_str PySem.F.slot_str_count PySem.F.type_str_count mt_count (pv 0) (pa_cons pe_str pa_nil))) (pe_callB call_len_str (by rfl) B.len boot_lenB (pa_cons (pv 0) pa_nil)) (nomark _)) pss_never pss_nil)
      (pss_one (ps_if (PW.pt (pw_and (pt_cmpR op_gt (pv 1) pe_int (nomark _)) (pw_and1 (pt_cmpR op_gt (pv 2) pe_int (nomark _))))) pss_never pss_nil))))), ?_⟩
    refine ⟨_, rfl, _, _, _, _, rfl, .str z, T.ss, _, rfl, iteF ?_⟩
    refine ⟨_, rfl, rfl, z, 101, rfl, by rw [s_e], ?_⟩
    refine ⟨_, rfl, rfl, z, 104, rfl, by rw [s_h], _, rfl, rfl, z, 108, rfl, by rw [s_l], _, _, rfl, rfl, ?_⟩
    have hz : z.length ≤ sizeLine := Nat.le_trans M.len (by decide)
    refine ⟨_, rfl, _, rfl, _, _, rfl, rfl, _, rfl, rfl, z, 103, rfl, by rw [s_g], _, _, rfl, rfl, _, rfl, z, rfl, hz, rfl, _, rfl, ?_⟩
    have hc := signs_count M.sg
    refine iteNS (by
      show V.int _ = V.int _
      refine congrArg V.int ?_
      rw [str_len]; unfold cntS; omega) ?_
    refine ⟨_, rfl, _, _, rfl, rfl, _, rfl, ?_⟩
    by_cases h1 : (0 : Int) < (cntS 101 z : Int)
    · refine tru (decide_eq_true h1) ⟨_, rfl, _, _, rfl, rfl, _, rfl, ?_⟩
      have hm : 101 ∈ z.cps.toList := List.count_pos_iff.mp (by unfold cntS at h1; omega)
      obtain ⟨q1, q2⟩ := M.ex hm
      have z1 : cntS 104 z = 0 := List.count_eq_zero_of_not_mem q1
      have z2 : cntS 108 z = 0 := List.count_eq_zero_of_not_mem q2
      refine fls (by rw [z1, z2]; rfl) ?_
      exact k
    · refine fls (decide_eq_false h1) (fls rfl ?_)
      exact k
theorem ints_at {ks : List Int} {i : Nat} {y : V} (h : (ks.map V.int)[i]? = some y) : ∃ z, ks[i]? = some z ∧ y = .int z := by
  rw [List.getElem?_map] at h
  cases e : ks[i]? with
  | none => rw [e] at h; cases h
  | some z => rw [e] at h; exact ⟨z, rfl, (Option.some.inj h).symm⟩
theorem inV_p3 (o : P3) : inV (.str (p3 o)) [.str "left", .str "right", .str "even"] = true := by cases o <;> decide +kernel
theorem outs_sq {H : Hp} {d : Addr} {o : Obj} {its : Array Value} {n : Nat} (h1 : K.lookup d = some o) (h2 : o.cls = .type "tuple") (h3 : o.data = .seq its n) (h4 : Vals [.str "left", .str "right", .str "even"] its.toList) : SqT K H d [.str "left", .str "right", .str "even"] :=
  .inr ⟨o, its, n, h1, h2, h3, by have := h4.length; simp at this; rw [← this]; decide, h4⟩
def spPl : Sp := fun vs H Q _ => ∃ (a b : Addr) (l r : List Int), vs = [.ref a, .ref b] ∧ H a = some (.lst (l.map V.int)) ∧ H b = some (.lst (r.map V.int)) ∧ l.length ≤ 100 ∧ r.length ≤ 100 ∧
  ∀ (p : Addr) (kvs : List (Key × V)) (H' : Hp), H p = none → Same H H' → H' p = some (.dK kvs) → (∀ k : Int, ((valV kvs (Sum.inl k : Key)).getD (.str "even")) = .str (p3 (pl l r k))) → Q (.ref p) H'
theorem scPl : FnScope ["left", "right", "places", "coin"] ["left", "right"] (defScope (top 19)) := ⟨rfl, rfl, rfl, by decide +kernel, rfl, by decide +kernel, by decide +kernel⟩
theorem ok_pl {f : Addr} {fd : FuncData} (F : Fun K "placed" "placed" (top 19) f fd) : FnOk P w K mg base CX0 1 f fd ["left", "right"] spPl := by
  refine F.ok scPl (fun vs H Q E h => ?_) (fun cdv A outer s H vs Q E hr h => ?_)
  · obtain ⟨a, b, l, r, rfl, _⟩ := h; rfl
  · obtain ⟨a, b, l, r, rfl, ha, hb, hl, hrr, k⟩ := h
    have hu := hu_of hr
    refine ⟨_, pss_cons (ps_set (i := 2) scPl.nd rfl (Or.inl rfl) pe_dnewK)
      (pss_cons (ps_for PassesOwn.never rfl (pi_list (pv 0)) (pg_name (i := 3) scPl.nd rfl (Or.inl rfl)) (pss_one (ps_dput hu (pv 2) (pv 3) pe_str rfl)))
      (pss_cons (ps_for PassesOwn.never rfl (pi_list (pv 1)) (pg_name (i := 3) scPl.nd rfl (Or.inl rfl)) (pss_one (ps_dput hu (pv 2) (pv 3) pe_str rfl)))
      (pss_one (ps_ret (pv 2))))), ?_⟩
    intro p hp
    have na : a ≠ p := ne_of_none ha hp
    have nb : b ≠ p := ne_of_none hb hp
    refine ⟨_, rfl, a, rfl, ⟨_, SqL.of (by rw [upd_ne na]; exact ha)⟩, for_list (K := K) (a := a) (xs := l.map V.int) (fun i σ H2 => ∃ (kvs : List (Key × V)) (v : Option V), σ = [some (.ref a), some (.ref b), some (.ref p), v] ∧ H2 = upd H p (.dK kvs) ∧ kvs.length ≤ i ∧ ∀ k : Int, valV kvs (Sum.inl k : Key) = if k ∈ l.take i then some (.str "left") else none)
      ⟨[], none, rfl, rfl, Nat.le_refl _, fun k => by simp [valV_nil]⟩ (fun i σ H2 _ ⟨kvs, v, _, e, _⟩ => by rw [e]; exact SqL.of (by rw [upd_ne na]; exact ha)) ?_ ?_⟩
    · rintro i y σ H2 hi ⟨kvs, v, rfl, rfl, hk, hv⟩
      obtain ⟨z, hz, rfl⟩ := ints_at hi
      have hil : i < l.length := (List.getElem?_eq_some_iff.mp hz).1
      refine ⟨_, rfl, _, rfl, p, _, rfl, DPut.k (k := Sum.inl z) upd_same (small1000 (by omega)), ?_⟩
      refine ⟨_, _, rfl, by rw [upd_upd], Nat.le_trans (length_putK _ _ _) (by omega), fun k => ?_⟩
      rw [valV_put, hv k]
      have ht : l.take (i + 1) = l.take i ++ [z] := by rw [List.take_succ, hz]; rfl
      rw [ht]
      by_cases e : k = z
      · subst e; simp
      · have e' : ¬ (Sum.inl k : Key) = Sum.inl z := fun q => e (Sum.inl.inj q)
        rw [if_neg e']
        simp [e]
    · rintro σ H2 ⟨kvs0, v0, rfl, rfl, hk0, hv0⟩
      have hvL : ∀ k : Int, valV kvs0 (Sum.inl k : Key) = if k ∈ l then some (.str "left") else none := fun k => by
        have := hv0 k
        rw [List.length_map] at this
        rwa [List.take_length] at this
      rw [List.length_map] at hk0
      refine ⟨_, rfl, b, rfl, ⟨_, SqL.of (by rw [upd_ne nb]; exact hb)⟩, for_list (K := K) (a := b) (xs := r.map V.int) (fun i σ H2 => ∃ (kvs : List (Key × V)) (v : Option V), σ = [some (.ref a), some (.ref b), some (.ref p), v] ∧ H2 = upd H p (.dK kvs) ∧ kvs.length ≤ 100 + i ∧ ∀ k : Int, valV kvs (Sum.inl k : Key) = if k ∈ r.take i then some (.str "right") else if k ∈ l then some (.str "left") else none)
        ⟨kvs0, _, rfl, rfl, by omega, fun k => by rw [hvL]; simp⟩ (fun i σ H2 _ ⟨kvs, v, _, e, _⟩ => by rw [e]; exact SqL.of (by rw [upd_ne nb]; exact hb)) ?_ ?_⟩
      · rintro i y σ H2 hi ⟨kvs, v, rfl, rfl, hk, hv⟩
        obtain ⟨z, hz, rfl⟩ := ints_at hi
        have hil : i < r.length := (List.getElem?_eq_some_iff.mp hz).1
        refine ⟨_, rfl, _, rfl, p, _, rfl, DPut.k (k := Sum.inl z) upd_same (small1000 (by omega)), ?_⟩
        refine ⟨_, _, rfl, by rw [upd_upd], Nat.le_trans (length_putK _ _ _) (by omega), fun k => ?_⟩
        rw [valV_put, hv k]
        have ht : r.take (i + 1) = r.take i ++ [z] := by rw [List.take_succ, hz]; rfl
        rw [ht]
        by_cases e : k = z
        · subst e; simp
        · have e' : ¬ (Sum.inl k : Key) = Sum.inl z := fun q => e (Sum.inl.inj q)
          rw [if_neg e']
          simp [e]
      · rintro σ H2 ⟨kvs, v, rfl, rfl, hk, hv⟩
        refine ⟨_, rfl, k p kvs _ hp (Same.upd0 hp) upd_same fun k' => ?_⟩
        have := hv k'
        rw [List.length_map, List.take_length] at this
        rw [this]
        unfold pl
        by_cases h1 : k' ∈ r
        · simp [h1, p3]
        · by_cases h2 : k' ∈ l
          · simp [h1, h2, p3]
          · simp [h1, h2, p3]
end
end Ks
end
section
namespace L2
open PySem PySem.Spec PyProof.Rows
theorem cx_own {CX : CXT} {P : Program} {w : World} {K : PySem.W.Frag} {mg : Str → Option Value} {base : Heap} {N : List Str} {qual : Str} {scope : Scope} {f : Addr} {cd : Value} {A : Around} {outer : List Env} {s : Shared} {H : Hp} {E : XK} :
    PassesOwn (model P w) (cxOf CX P w K mg base N qual scope f cd A outer s H E).A (cxOf CX P w K mg base N qual scope f cd A outer s H E).env (cxOf CX P w K mg base N qual scope f cd A outer s H E).xe := fun e s' h => wpAny_leaving_again (SameStack.refl _) h
end L2
namespace Ks
open PySem L2
def up (hi : Int) : Int → List Int → Bool
  | _, [] => true
  | last, k :: ks => decide (last < k) && decide (k ≤ hi) && up hi k ks
theorem drop_at {α : Type} {ks : List α} {i : Nat} {z : α} (h : ks[i]? = some z) : ks.drop i = z :: ks.drop (i + 1) := by
  obtain ⟨hl, e⟩ := List.getElem?_eq_some_iff.mp h
  rw [List.drop_eq_getElem_cons hl, e]
section
variable {P : Program} {w : World} {K : PySem.W.Frag} {mg : Str → Option Value} {base : Heap}
def spSdE (c : Addr) : Sp := fun vs H Q E => ∃ (n : Int) (a : Addr) (ks : List Int), vs = [.int n, .ref a] ∧ H a = some (.lst (ks.map V.int)) ∧ (up n (-1) ks = true → Q .non H) ∧ (up n (-1) ks = false → E (.ref c) none H)
theorem sc_check_side : FnScope ["highest", "side", "last", "coin"] ["highest", "side"] (defScope (top 13)) := ⟨rfl, rfl, rfl, by decide +kernel, rfl, by decide +kernel, by decide +kernel⟩
theorem ok_check_side {f : Addr} {fd : FuncData} {c : Addr} (F : Fun K "check_side" "check_side" (top 13) f fd) (B : Blt mg) (T : Kit K) (m_BadWeighing : mg "BadWeighing" = some (.ref c)) (x_BadWeighing : PySem.W.excIn K c vMro "ValueError.__new__" = true)
    (c_is_whole : Can P w K mg base CX0 1 "is_whole" ["value"] spWhole) : FnOk P w K mg base (CXE false P w) 2 f fd ["highest", "side"] (spSdE c) := by
  refine F.okE sc_check_side (fun vs H Q E h => ?_) (fun cdv A outer s H vs Q E hr h L pass => ?_)
  · obtain ⟨n, a, ks, rfl, _⟩ := h; rfl
  · obtain ⟨n, a, ks, rfl, ha, k, kn⟩ := h
    refine ⟨_, (pss_cons (ps_if (pt_not (pt_val (pe_callB call_isi (by rfl) B.isi boot_isi (pa_cons (pv 1) (pa_cons (pe_bltn (v := .ty "list") (by rfl) B.list boot_listT rfl) pa_nil))))) (pss_one (ps_raise L rfl rfl (by rfl) m_BadWeighing x_BadWeighing)) pss_nil)
      (pss_cons (ps_set (i := 2) sc_check_side.nd rfl (Or.inl rfl) (pe_un un_neg pe_int))
      (pss_one (ps_for cx_own rfl (pi_list (pv 1)) (pg_name (i := 3) sc_check_side.nd rfl (Or.inl rfl)) (pss_cons (ps_if (pt_not (pt_val (pe_can c_is_whole (hr.mono (by decide)) (E := E0) pass0 (pa_cons (pv 3) pa_nil)))) (pss_one (ps_raise L rfl rfl (by rfl) m_BadWeighing x_BadWeighing)) pss_nil) (pss_cons (ps_if (pt_cmpR op_le (pv 3) (pv 2) (nomark _)) (pss_one (ps_raise L rfl rfl (by rfl) m_BadWeighing x_BadWeighing)) pss_nil) (pss_cons (ps_if (pt_cmpR op_gt (pv 3) (pv 0) (nomark _)) (pss_one (ps_raise L rfl rfl (by rfl) m_BadWeighing x_BadWeighing)) pss_nil) (pss_one (ps_set (i := 2) sc_check_side.nd rfl (Or.inl rfl) (pv 3)))))))))), ?_⟩
    refine ⟨_, rfl, _, _, _, _, rfl, .lst ha, T.ll, _, rfl, iteF ?_⟩
    refine ⟨_, rfl, ?_⟩
    refine ⟨_, rfl, a, rfl, ⟨_, SqL.of ha⟩, for_list (K := K) (a := a) (xs := ks.map V.int) (fun i σ H2 => H2 = H ∧ ∃ (last : Int) (v : Option V), σ = [some (.int n), some (.ref a), some (.int last), v] ∧ up n (-1) ks = up n last (ks.drop i))
      ⟨rfl, _, _, rfl, rfl⟩ (fun i σ H2 _ ⟨e, _⟩ => by rw [e]; exact SqL.of ha) ?_ ?_⟩
    · rintro i y σ H2 hi ⟨rfl, last, v, rfl, hl⟩
      obtain ⟨z, hz, rfl⟩ := ints_at hi
      rw [drop_at hz] at hl
      refine ⟨_, rfl, z, rfl, _, rfl, iteF ?_⟩
      refine ⟨_, rfl, _, rfl, _, _, rfl, rfl, _, rfl, ?_⟩
      by_cases h1 : z ≤ last
      · refine tru (decide_eq_true h1) (kn ?_)
        rw [hl]; unfold up; rw [decide_eq_false (by omega)]; rfl
      refine fls (decide_eq_false h1) ?_
      refine ⟨_, rfl, _, rfl, _, _, rfl, rfl, _, rfl, ?_⟩
      by_cases h2 : z > n
      · refine tru (decide_eq_true h2) (kn ?_)
        rw [hl]; unfold up; rw [decide_eq_true (show last < z by omega), decide_eq_false (show ¬ z ≤ n by omega)]; rfl
      refine fls (decide_eq_false h2) ?_
      refine ⟨_, rfl, rfl, z, _, rfl, ?_⟩
      rw [hl]
      show up n last (z :: _) = _
      rw [up, decide_eq_true (show last < z by omega), decide_eq_true (show z ≤ n by omega)]; rfl
    · rintro σ H2 ⟨rfl, last, v, rfl, hl⟩
      refine k ?_
      rw [hl, List.length_map, List.drop_length]; rfl
def cwOk (n : Int) (l r : List Int) : Bool := up n (-1) l && up n (-1) r && decide (l.length = r.length) && decide (∀ k ∈ l, k ∉ r)
def spCwE (c : Addr) : Sp := fun vs H Q E => ∃ (n : Int) (a b : Addr) (l r : List Int), vs = [.int n, .ref a, .ref b] ∧ H a = some (.lst (l.map V.int)) ∧ H b = some (.lst (r.map V.int)) ∧ l.length ≤ 100 ∧ r.length ≤ 100 ∧ (cwOk n l r = true → ∀ H', Same H H' → Q .non H') ∧ (cwOk n l r = false → ∀ H', Same H H' → E (.ref c) none H')
theorem sc_check_weighing : FnScope ["highest", "left", "right"] ["highest", "left", "right"] (defScope (top 14)) := ⟨rfl, rfl, rfl, by decide +kernel, rfl, by decide +kernel, by decide +kernel⟩
theorem ok_check_weighing {f : Addr} {fd : FuncData} {c : Addr} (F : Fun K "check_weighing" "check_weighing" (top 14) f fd) (B : Blt mg) (m_BadWeighing : mg "BadWeighing" = some (.ref c)) (x_BadWeighing : PySem.W.excIn K c vMro "ValueError.__new__" = true)
    (c_check_side : Can P w K mg base (CXE false P w) 2 "check_side" ["highest", "side"] (spSdE c)) : FnOk P w K mg base (CXE false P w) 3 f fd ["highest", "left", "right"] (spCwE c) := by
  refine F.okE sc_check_weighing (fun vs H Q E h => ?_) (fun cdv A outer s H vs Q E hr h L pass => ?_)
  · obtain ⟨n, a, b, l, r, rfl, _⟩ := h; rfl
  · obtain ⟨n, a, b, l, r, rfl, ha, hb, hll, hlr, k, kn⟩ := h
    refine ⟨_, (pss_cons (ps_expr (pe_can c_check_side (hr.mono (by decide)) pass (pa_cons (pv 0) (pa_cons (pv 1) pa_nil))))
      (pss_cons (ps_expr (pe_can c_check_side (hr.mono (by decide)) pass (pa_cons (pv 0) (pa_cons (pv 2) pa_nil))))
      (pss_cons (ps_if (pt_cmpR op_ne (pe_callB call_len_seq (by rfl) B.len boot_lenB (pa_cons (pv 1) pa_nil)) (pe_callB call_len_seq (by rfl) B.len boot_lenB (pa_cons (pv 2) pa_nil)) (nomark _)) (pss_one (ps_raise L rfl rfl (by rfl) m_BadWeighing x_BadWeighing)) pss_nil)
      (pss_one (ps_if (pt_cmpR op_gt (pe_callB call_lenS (by rfl) B.len boot_lenB (pa_cons (pe_op op_andS (pe_callTy (call_setL rfl) (by rfl) B.set boot_setT (pa_cons (pv 1) pa_nil)) (pe_callTy (call_setL rfl) (by rfl) B.set boot_setT (pa_cons (pv 2) pa_nil))) pa_nil)) pe_int (nomark _)) (pss_one (ps_raise L rfl rfl (by rfl) m_BadWeighing x_BadWeighing)) pss_nil))))), ?_⟩
    refine ⟨_, rfl, _, rfl, n, a, l, rfl, ha, fun u1 => ?_, fun u1 => kn (by unfold cwOk; rw [u1]; rfl) H (Same.refl H)⟩
    refine ⟨_, rfl, _, rfl, n, b, r, rfl, hb, fun u2 => ?_, fun u2 => kn (by unfold cwOk; rw [u1, u2]; rfl) H (Same.refl H)⟩
    refine ⟨_, rfl, a, _, rfl, .inl (SqL.of ha), _, rfl, b, _, rfl, .inl (SqL.of hb), rfl, _, rfl, ?_⟩
    by_cases hlen : l.length = r.length
    · refine iteNS (by
        show V.int _ = V.int _
        rw [List.length_map, List.length_map, hlen]) ?_
      refine ⟨_, rfl, a, l, rfl, SqL.of ha, by omega, fun p1 m1 hp1 e1 n1 => ?_⟩
      have hb1 : upd H p1 (SetO w p1 m1) b = some (.lst (r.map V.int)) := by rw [upd_ne (ne_of_none hb hp1)]; exact hb
      refine ⟨_, rfl, b, r, rfl, SqL.of hb1, by omega, fun p2 m2 hp2 e2 n2 => ?_⟩
      have h12 : p2 ≠ p1 := fun z => by rw [z, upd_same] at hp2; cases hp2
      have q1 : upd (upd H p1 (SetO w p1 m1)) p2 (SetO w p2 m2) p1 = some (SetO w p1 m1) := by rw [upd_ne (Ne.symm h12), upd_same]
      refine ⟨p1, p2, m1, m2, rfl, rfl, h12, q1, upd_same, fun p3' ks hp3 e3 => ?_⟩
      have s1 : Same H (upd H p1 (SetO w p1 m1)) := Same.upd0 hp1
      have s3 := (s1.upd (o := SetO w p2 m2) hp2).upd (o := SetO w p3' ks) hp3
      refine ⟨p3', ks, rfl, upd_same, _, _, rfl, rfl, _, rfl, ?_⟩
      by_cases hd : ∀ k ∈ l, k ∉ r
      · have hk : ks = [] := by
          cases ks with
          | nil => rfl
          | cons y t =>
            have := (e3 y).mp List.mem_cons_self
            exact absurd ((e2 y).mp this.2) (hd y ((e1 y).mp this.1))
        subst hk
        exact iteF (k (by unfold cwOk; rw [u1, u2, decide_eq_true hlen, decide_eq_true hd]; rfl) _ s3)
      · have hk : 0 < ks.length := by
          cases ks with
          | nil =>
            exfalso
            refine hd fun y hy hy' => ?_
            have := (e3 y).mpr ⟨(e1 y).mpr hy, (e2 y).mpr hy'⟩
            simp at this
          | cons y t => simp
        refine tru (decide_eq_true (show (ks.length : Int) > 0 by omega)) (kn (by unfold cwOk; rw [u1, u2, decide_eq_true hlen, decide_eq_false hd]; rfl) _ s3)
    · refine tru ?_ (kn (by unfold cwOk; rw [u1, u2, decide_eq_false hlen]; rfl) H (Same.refl H))
      show (!decide (V.int _ = V.int _)) = true
      rw [List.length_map, List.length_map, decide_eq_false (fun z => hlen (by injection z with z; omega))]; rfl
end
end Ks
end
section
namespace L2
theorem Same.put {H H' : Hp} {p : PySem.Addr} {o : HO} (h : Same H H') (hp : H p = none) : Same H (L2.upd H' p o) := fun b u e => by rw [upd_ne (ne_of_none e hp)]; exact h b u e
end L2
namespace Ks
open PySem L2 Mir
def jd (z : Str) (l r : List Int) (o : P3) : Nat := cs1 l r o 0 z.cps.toList + (if o = .E ∧ allG z = true then 1 else 0)
def CSt (H : Hp) (pd cd : Addr) (pk : List (Key × V)) (f : P3 → Nat) (n : Nat) (H4 : Hp) : Prop :=
  Same H H4 ∧ H4 pd = some (.dK pk) ∧ ∃ kvs : List (Key × V), H4 cd = some (.dK kvs) ∧ kvs.length ≤ n ∧ ∀ o : P3, valV kvs (Sum.inr (p3 o) : Key) = some (.int (f o))
theorem CSt.same {H : Hp} {pd cd : Addr} {pk : List (Key × V)} {f : P3 → Nat} {n : Nat} {H4 H5 : Hp} (h : CSt H pd cd pk f n H4) (s : Same H4 H5) : CSt H pd cd pk f n H5 := by
  obtain ⟨s1, e1, kvs, e2, hl, hv⟩ := h
  exact ⟨s1.trans s, s _ _ e1, kvs, s _ _ e2, hl, hv⟩
theorem CSt.put {H : Hp} {pd cd : Addr} {pk : List (Key × V)} {f : P3 → Nat} {n : Nat} {H4 : Hp} {kvs : List (Key × V)} (hc : H cd = none) (ne : pd ≠ cd) (s1 : Same H H4) (e1 : H4 pd = some (.dK pk)) (hl : kvs.length ≤ n) (hv : ∀ o : P3, valV kvs (Sum.inr (p3 o) : Key) = some (.int (f o))) (q : P3) :
    CSt H pd cd pk (fun o => f o + if decide (q = o) then 1 else 0) (n + 1) (upd H4 cd (.dK (putK kvs (Sum.inr (p3 q)) (.int ((f q : Int) + 1))))) := by
  refine ⟨s1.put hc, by rw [upd_ne ne]; exact e1, _, upd_same, Nat.le_trans (length_putK _ _ _) (by omega), fun o => ?_⟩
  rw [valV_put]
  by_cases e : o = q
  · subst e; simp
  · have e' : ¬ (Sum.inr (p3 o) : Key) = Sum.inr (p3 q) := fun z => e (p3_inj.mp (Sum.inr.inj z))
    rw [if_neg e', hv o]
    have e2 : ¬ q = o := fun z => e z.symm
    simp [e2]
section
variable {P : Program} {w : World} {K : PySem.W.Frag} {mg : Str → Option Value} {base : Heap}
def spJd (cw : Addr) : Sp := fun vs H Q E => ∃ (z : Str) (a b : Addr) (l r : List Int), vs = [.str z, .ref a, .ref b] ∧ MkOk z ∧ H a = some (.lst (l.map V.int)) ∧ H b = some (.lst (r.map V.int)) ∧ l.length ≤ 100 ∧ r.length ≤ 100 ∧ (cwOk z.length l r = false → ∀ H', Same H H' → E (.ref cw) none H') ∧
  (cwOk z.length l r = true → ∀ (H' : Hp) (p : Addr), Same H H' → H p = none → H' p = some (.tup [.int (jd z l r .L), .int (jd z l r .R), .int (jd z l r .E)]) → Q (.ref p) H')
theorem scJd : FnScope ["marks", "left", "right", "places", "counts", "coin", "sign", "place", "outcome"] ["marks", "left", "right"] (defScope (top 25)) := ⟨rfl, rfl, rfl, by decide +kernel, rfl, by decide +kernel, by decide +kernel⟩
theorem p3L : p3 .L = "left" := rfl
theorem p3R : p3 .R = "right" := rfl
theorem p3E : p3 .E = "even" := rfl
theorem ok_jd {f : Addr} {fd : FuncData} {cw : Addr} (F : Fun K "judged" "judged" (top 25) f fd) (B : Blt mg) (cM : Can P w K mg base CX0 1 "check_marks" ["marks"] spCM) (cW : Can P w K mg base (CXE false P w) 3 "check_weighing" ["highest", "left", "right"] (spCwE cw))
    (cP : Can P w K mg base CX0 1 "placed" ["left", "right"] spPl) (cH : Can P w K mg base CX0 1 "may_be_heavy" ["sign"] spMayH) (cL : Can P w K mg base CX0 1 "may_be_light" ["sign"] spMayL) (cO : Can P w K mg base CX0 1 "outcome_by" ["place", "heavy"] spOut)
    (cG : Can P w K mg base CX0 1 "may_all_be_good" ["marks"] spAllG) : FnOk P w K mg base (CXE false P w) 4 f fd ["marks", "left", "right"] (spJd cw) := by
  refine F.okE scJd (fun vs H Q E h => ?_) (fun cdv A outer s H vs Q E hr h L pass => ?_)
  · obtain ⟨z, a, b, l, r, rfl, _⟩ := h; rfl
  · obtain ⟨z, a, b, l, r, rfl, M, ha, hb, hlen, hlen2, kn, k⟩ := h
    have hu := hu_of hr
    have hr1 : Room 1 _ := hr.mono (by decide)
    refine ⟨_, pss_cons (ps_expr (pe_can cM hr1 pass0 (pa_cons (pv 0) pa_nil)))
      (pss_cons (ps_expr (pe_can cW (hr.mono (by decide)) pass (pa_cons (pe_callB call_len_str (by rfl) B.len boot_lenB (pa_cons (pv 0) pa_nil)) (pa_cons (pv 1) (pa_cons (pv 2) pa_nil)))))
      (pss_cons (ps_set (i := 3) scJd.nd rfl (Or.inl rfl) (pe_can cP hr1 pass0 (pa_cons (pv 1) (pa_cons (pv 2) pa_nil))))
      (pss_cons (ps_set (i := 4) scJd.nd rfl (Or.inl rfl) (pe_disp (pps_cons pe_str pe_int (pps_cons pe_str pe_int (pps_cons pe_str pe_int pps_nil))) rfl rfl (by simp) (by decide)))
      (pss_cons (ps_for cx_own rfl (pi_enumS (by rfl) B.enum (pv 0)) (pg_tup rfl (pgs_cons (pg_name (i := 5) scJd.nd rfl (Or.inl rfl)) (pgs_cons (pg_name (i := 6) scJd.nd rfl (Or.inl rfl)) pgs_nil)))
        (pss_cons (ps_set (i := 7) scJd.nd rfl (Or.inl rfl) (pe_dget2 hu (pv 3) (pv 5) pe_str ⟨rfl, rfl, rfl, rfl⟩))
        (pss_cons (ps_if (pt_val (pe_can cH hr1 pass0 (pa_cons (pv 6) pa_nil)))
          (pss_cons (ps_set (i := 8) scJd.nd rfl (Or.inl rfl) (pe_can cO hr1 pass0 (pa_cons (pv 7) (pa_cons pe_bl pa_nil))))
          (pss_one (ps_dput hu (pv 4) (pv 8) (pe_op op_add (pe_dget hu (pv 4) (pv 8) (fun _ _ => rfl)) pe_int) rfl))) pss_nil)
        (pss_one (ps_if (pt_val (pe_can cL hr1 pass0 (pa_cons (pv 6) pa_nil)))
          (pss_cons (ps_set (i := 8) scJd.nd rfl (Or.inl rfl) (pe_can cO hr1 pass0 (pa_cons (pv 7) (pa_cons pe_bl pa_nil))))
          (pss_one (ps_dput hu (pv 4) (pv 8) (pe_op op_add (pe_dget hu (pv 4) (pv 8) (fun _ _ => rfl)) pe_int) rfl))) pss_nil)))))
      (pss_cons (ps_if (pt_val (pe_can cG hr1 pass0 (pa_cons (pv 0) pa_nil))) (pss_one (ps_dput hu (pv 4) pe_str (pe_op op_add (pe_dget hu (pv 4) pe_str (fun _ _ => rfl)) pe_int) rfl)) pss_nil)
      (pss_one (ps_ret (pe_tup (pa_cons (pe_dget hu (pv 4) pe_str (fun _ _ => rfl)) (pa_cons (pe_dget hu (pv 4) pe_str (fun _ _ => rfl)) (pa_cons (pe_dget hu (pv 4) pe_str (fun _ _ => rfl)) pa_nil))))))))))), ?_⟩
    have hz : z.length ≤ sizeLine := Nat.le_trans M.len (by decide)
    refine ⟨_, rfl, z, rfl, M, ?_⟩
    refine ⟨_, rfl, z, rfl, hz, _, rfl, _, rfl, z.length, a, b, l, r, rfl, ha, hb, hlen, hlen2, fun cok => ?_, fun cno H' s' => kn cno H' s'⟩
    intro H1 s1
    have k := k cok
    refine ⟨_, rfl, _, rfl, a, b, l, r, rfl, s1 _ _ ha, s1 _ _ hb, hlen, hlen2, fun pd pk H2 hpd s2 e2 hpl => ?_⟩
    have s02 := s1.trans s2
    have hpd0 : H pd = none := s1.free hpd
    intro cd hcd
    have hcd0 : H cd = none := s02.free hcd
    have ned : pd ≠ cd := ne_of_none e2 hcd
    refine ⟨upd_same, [(Sum.inr "left", .int 0), (Sum.inr "right", .int 0), (Sum.inr "even", .int 0)], rfl, by decide, ?_⟩
    have start0 : CSt H pd cd pk (fun _ => 0) 3 (upd (upd H2 cd (.dK [])) cd (.dK (mergeK [] [(Sum.inr "left", V.int 0), (Sum.inr "right", V.int 0), (Sum.inr "even", V.int 0)]))) := by
      rw [upd_upd]
      refine ⟨s02.put hcd0, by rw [upd_ne ned]; exact e2, _, upd_same, by decide +kernel, fun o => ?_⟩
      cases o <;> decide +kernel
    refine ⟨_, rfl, z, rfl, for_enumS (x := z) (fun i σ H4 => ∃ (v5 v6 v7 v8 : Option V), σ = [some (.str z), some (.ref a), some (.ref b), some (.ref pd), some (.ref cd), v5, v6, v7, v8] ∧ CSt H pd cd pk (fun o => cs1 l r o 0 (z.cps.toList.take i)) (3 + 2 * i) H4)
      ⟨none, none, none, none, rfl, start0⟩ ?_ ?_⟩
    · rintro i c t σ H4 hi ht ⟨v5, v6, v7, v8, rfl, C0⟩
      have hil : i < z.cps.size := (Array.getElem?_eq_some_iff.mp hi).1
      have hi100 : i < 100 := by have := M.len; have e : z.length = z.cps.size := rfl; omega
      have hic : z.cps.toList[i]? = some c := by simpa using hi
      refine ⟨t, _, rfl, SqT.of upd_same, rfl, _, _, rfl, _, _, rfl, rfl, ?_⟩
      have C1 := C0.same (Same.upd0 (o := .tup [V.int i, V.str ⟨#[c]⟩]) ht)
      obtain ⟨_, ep, _⟩ := id C1
      refine ⟨_, rfl, pd, rfl, .inl ⟨pk, .inl ep⟩, _, rfl, _, DGet.k (k := Sum.inl (i : Int)) ep, ?_⟩
      rw [show (valV pk (Sum.inl (i : Int) : Key)).getD (V.str "even") = V.str (p3 (pl l r i)) from hpl i]
      generalize hp : pl l r i = p
      have done : ∀ (v8' : Option V) (H7 : Hp), CSt H pd cd pk (fun o => cs1 l r o 0 (z.cps.toList.take i) + c1 c p o) (3 + 2 * i + 2) H7 →
          ∃ (v5 v6 v7 v8 : Option V), [some (V.str z), some (.ref a), some (.ref b), some (.ref pd), some (.ref cd), some (.int i), some (.str ⟨#[c]⟩), some (.str (p3 p)), v8'] = [some (.str z), some (.ref a), some (.ref b), some (.ref pd), some (.ref cd), v5, v6, v7, v8] ∧
            CSt H pd cd pk (fun o => cs1 l r o 0 (z.cps.toList.take (i + 1))) (3 + 2 * (i + 1)) H7 := by
        intro v8' H7 C7
        refine ⟨_, _, _, _, rfl, ?_⟩
        have ef : (fun o => cs1 l r o 0 (z.cps.toList.take (i + 1))) = fun o => cs1 l r o 0 (z.cps.toList.take i) + c1 c p o := by
          funext o
          have ht : z.cps.toList.take (i + 1) = z.cps.toList.take i ++ [c] := by rw [List.take_succ, hic]; rfl
          rw [ht, cs1_snoc]
          have hlen' : (z.cps.toList.take i).length = i := by rw [List.length_take]; simp; omega
          rw [hlen', Nat.zero_add, hp]
        rw [ef]
        exact C7
      have light : ∀ (v8' : Option V) (H5 : Hp) (g : P3 → Nat), CSt H pd cd pk g (3 + 2 * i + 1) H5 → (∀ o, g o + (if mayL c && decide (other p = o) then 1 else 0) = cs1 l r o 0 (z.cps.toList.take i) + c1 c p o) →
          tIfS (tB (tCall spMayL [] E0 (tCons (tVar 6) tNil))) (tSeq (tAsg (tCall spOut [] E0 (tCons (tVar 7) (tCons (tC (.bl false)) tNil))) (gName 8)) (sDPut (tVar 4) (tVar 8) (tOp (rI0 fun i j => .int (i + j)) (tDGet (tVar 4) (tVar 8)) (tC (.int 1))))) tNext
            { nx := fun σ H4 => ∃ (v5 v6 v7 v8 : Option V), σ = [some (.str z), some (.ref a), some (.ref b), some (.ref pd), some (.ref cd), v5, v6, v7, v8] ∧ CSt H pd cd pk (fun o => cs1 l r o 0 (z.cps.toList.take (i + 1))) (3 + 2 * (i + 1)) H4, rt := Q }
            [some (V.str z), some (.ref a), some (.ref b), some (.ref pd), some (.ref cd), some (.int i), some (.str ⟨#[c]⟩), some (.str (p3 p)), v8'] H5 := by
        intro v8' H5 g C5 hg
        refine ⟨_, rfl, c, rfl, fun H6 s6 => ⟨_, rfl, ?_⟩⟩
        have C6 := C5.same s6
        cases e2 : mayL c with
        | true =>
          refine iteT ⟨_, rfl, p, false, rfl, ?_⟩
          obtain ⟨q1, q2, kvs, q3, q4, q5⟩ := C6
          refine ⟨_, rfl, _, rfl, cd, _, rfl, by have := DGet.k (k := Sum.inr (p3 (other p))) q3; rw [q5] at this; exact this, _, _, rfl, rfl, ?_⟩
          refine ⟨_, rfl, _, rfl, cd, _, rfl, DPut.k (k := Sum.inr (p3 (other p))) q3 (small1000 (by omega)), ?_⟩
          refine done _ _ ?_
          have C7 := CSt.put (n := 3 + 2 * i + 1) hcd0 ned q1 q2 q4 q5 (other p)
          have eg : (fun o => g o + if decide (other p = o) then 1 else 0) = fun o => cs1 l r o 0 (z.cps.toList.take i) + c1 c p o := by
            funext o; rw [← hg o, e2]; rfl
          rw [eg] at C7
          exact C7
        | false =>
          refine iteF ?_
          refine done _ _ ?_
          have eg : g = fun o => cs1 l r o 0 (z.cps.toList.take i) + c1 c p o := by
            funext o; rw [← hg o, e2]; simp
          rw [← eg]
          obtain ⟨q1, q2, kvs, q3, q4, q5⟩ := C6
          exact ⟨q1, q2, kvs, q3, by omega, q5⟩
      refine ⟨_, rfl, c, rfl, fun H5 s5 => ⟨_, rfl, ?_⟩⟩
      have C2 := C1.same s5
      cases e1 : mayH c with
      | true =>
        refine iteT ⟨_, rfl, p, true, rfl, ?_⟩
        obtain ⟨q1, q2, kvs, q3, q4, q5⟩ := C2
        refine ⟨_, rfl, _, rfl, cd, _, rfl, by have := DGet.k (k := Sum.inr (p3 p)) q3; rw [q5] at this; exact this, _, _, rfl, rfl, ?_⟩
        refine ⟨_, rfl, _, rfl, cd, _, rfl, DPut.k (k := Sum.inr (p3 p)) q3 (small1000 (by omega)), ?_⟩
        refine light _ _ _ (CSt.put (n := 3 + 2 * i) hcd0 ned q1 q2 q4 q5 p) fun o => ?_
        unfold c1; rw [e1]; simp; omega
      | false =>
        refine iteF ?_
        obtain ⟨q1, q2, kvs, q3, q4, q5⟩ := C2
        refine light _ _ _ ⟨q1, q2, kvs, q3, by omega, q5⟩ fun o => ?_
        unfold c1; rw [e1]; simp
    · rintro σ H4 ⟨v5, v6, v7, v8, rfl, C0⟩
      have e0 : z.cps.toList.take z.cps.size = z.cps.toList := List.take_of_length_le (by simp)
      rw [e0] at C0
      have hsz : z.cps.size ≤ 100 := M.len
      have fin : ∀ (H5 : Hp) (n : Nat), CSt H pd cd pk (jd z l r) n H5 → n ≤ 500 →
          tRet (tTup (tCons (tDGet (tVar 4) (tC (.str "left"))) (tCons (tDGet (tVar 4) (tC (.str "right"))) (tCons (tDGet (tVar 4) (tC (.str "even"))) tNil)))) { nx := fun _ H' => Q .non H', rt := Q }
            [some (V.str z), some (.ref a), some (.ref b), some (.ref pd), some (.ref cd), v5, v6, v7, v8] H5 := by
        intro H5 n C5 _
        obtain ⟨q1, q2, kvs, q3, q4, q5⟩ := C5
        refine ⟨_, rfl, cd, .int (jd z l r .L), rfl, by have := DGet.k (k := Sum.inr "left") q3; rw [← p3L, q5] at this; exact this, ?_⟩
        refine ⟨_, rfl, cd, .int (jd z l r .R), rfl, by have := DGet.k (k := Sum.inr "right") q3; rw [← p3R, q5] at this; exact this, ?_⟩
        refine ⟨_, rfl, cd, .int (jd z l r .E), rfl, by have := DGet.k (k := Sum.inr "even") q3; rw [← p3E, q5] at this; exact this, ?_⟩
        refine ⟨by show 3 ≤ sizeLine; decide, fun t ht => ?_⟩
        exact k _ t (q1.upd ht) (q1.free ht) upd_same
      refine ⟨_, rfl, z, rfl, _, rfl, ?_⟩
      cases eG : allG z with
      | true =>
        refine iteT ?_
        obtain ⟨q1, q2, kvs, q3, q4, q5⟩ := C0
        refine ⟨_, rfl, cd, .int (cs1 l r .E 0 z.cps.toList), rfl, by have := DGet.k (k := Sum.inr "even") q3; rw [← p3E, q5] at this; exact this, _, _, rfl, rfl, ?_⟩
        refine ⟨_, rfl, cd, _, rfl, DPut.k (k := Sum.inr (p3 .E)) q3 (small1000 (by omega)), ?_⟩
        have C5 := CSt.put hcd0 ned q1 q2 q4 q5 .E
        have eg : (fun o => cs1 l r o 0 z.cps.toList + if decide (P3.E = o) then 1 else 0) = jd z l r := by
          funext o; unfold jd; rw [eG]; cases o <;> simp
        rw [eg] at C5
        exact fin _ _ C5 (by omega)
      | false =>
        refine iteF ?_
        have eg : (fun o => cs1 l r o 0 z.cps.toList) = jd z l r := by
          funext o; unfold jd; rw [eG]; simp
        rw [eg] at C0
        exact fin _ _ C0 (by omega)
end
end Ks
end
section
namespace Ks
open PySem L2 Mir
def oix : P3 → Nat | .L => 0 | .R => 1 | .E => 2
theorem str_ext {a b : Str} (h : a.cps.toList = b.cps.toList) : a = b := by
  obtain ⟨⟨a⟩⟩ := a; obtain ⟨⟨b⟩⟩ := b; simp at h; rw [h]
theorem app_cps (a b : Str) : (a ++ b).cps.toList = a.cps.toList ++ b.cps.toList := by
  show (a.cps ++ b.cps).toList = _
  simp
theorem join0 : ∀ l : List Str, (Str.join "" l).cps.toList = (l.map fun x => x.cps.toList).flatten
  | [] => rfl
  | [x] => by simp [Str.join]
  | x :: y :: r => by
    rw [PyProof.Rows.join_cons_cons, app_cps, app_cps, join0 (y :: r)]
    simp; rfl
theorem join_ones (cs : List Nat) : Txt.join "" (cs.map ch1) = ⟨cs.toArray⟩ := by
  show Builtin.Str.glued "" (cs.map ch1) = _
  rw [PySem.StrLaws.glued_eq_join]
  refine str_ext ?_
  rw [join0]
  show _ = cs
  induction cs with
  | nil => rfl
  | cons c cs ih => simp at ih ⊢; exact ih
theorem sum_ones (cs : List Nat) : ((cs.map ch1).map (·.length)).sum = cs.length := by
  induction cs with
  | nil => rfl
  | cons c cs ih => simp at ih ⊢; rw [ih]; show 1 + _ = _; omega
theorem outs_hit (o : P3) : ∃ z : V, ([.str "left", .str "right", .str "even"] : List V)[oix o]? = some z ∧ eqV z (.str (p3 o)) = true := by
  cases o
  · exact ⟨_, rfl, by decide +kernel⟩
  · exact ⟨_, rfl, by decide +kernel⟩
  · exact ⟨_, rfl, by decide +kernel⟩
theorem outs_no (o : P3) : ∀ (i : Nat) (z : V), i < oix o → ([.str "left", .str "right", .str "even"] : List V)[i]? = some z → eqV z (.str (p3 o)) = false := by
  intro i z hi hz
  cases o with
  | L => exact absurd hi (by simp [oix])
  | R =>
    have e : i = 0 := by simp [oix] at hi; exact hi
    subst e; cases hz; decide +kernel
  | E =>
    have e : i = 0 ∨ i = 1 := by simp [oix] at hi; omega
    rcases e with rfl | rfl
    · cases hz; decide +kernel
    · cases hz; decide +kernel
section
variable {P : Program} {w : World} {K : PySem.W.Frag} {mg : Str → Option Value} {base : Heap}
end
end Ks
end
section
namespace Ks
open PySem L2 Mir
section
variable {P : Program} {w : World} {K : PySem.W.Frag} {mg : Str → Option Value} {base : Heap}
def cellF (ns : List Int) (k : Int) : Int := ns.getD k.toNat 0
def spCell (K : PySem.W.Frag) : Sp := fun vs H Q _ => ∃ (a : Addr) (ns : List Int) (k : Int), vs = [.ref a, .int k] ∧ SqL K H a (ns.map V.int) ∧ 0 ≤ k ∧ Q (.int (cellF ns k)) H
theorem sc__law_cell_at : FnScope ["_law_script", "_law_k"] ["_law_script", "_law_k"] (defScope (top 51)) := ⟨rfl, rfl, rfl, by decide +kernel, rfl, by decide +kernel, by decide +kernel⟩
theorem ok_cell {f : Addr} {fd : FuncData} (F : Fun K "_law_cell_at" "_law_cell_at" (top 51) f fd) (B : Blt mg) : FnOk P w K mg base CX0 1 f fd ["_law_script", "_law_k"] (spCell K) := by
  refine F.ok sc__law_cell_at (fun vs H Q E h => ?_) (fun cdv A outer s H vs Q E hr h => ?_)
  · obtain ⟨a, ns, k, rfl, _⟩ := h; rfl
  · obtain ⟨a, ns, k, rfl, ha, hk, q⟩ := h
    refine ⟨_, (pss_cons (ps_if (pt_cmpR op_lt (pv 1) (pe_callB call_len_seq (by rfl) B.len boot_lenB (pa_cons (pv 0) pa_nil)) (nomark _)) (pss_one (ps_ret (pe_ix ix_list (pv 0) (pv 1) (fun _ _ => rfl)))) pss_nil)
      (pss_one (ps_ret pe_int))), ?_⟩
    refine ⟨_, rfl, _, rfl, a, _, rfl, .inl ha, _, _, rfl, rfl, _, rfl, ?_⟩
    by_cases h : k < ((ns.map V.int).length : Int)
    · refine tru (decide_eq_true h) ?_
      have hn : k.toNat < ns.length := by simp at h; omega
      have e : cellF ns k = ns[k.toNat] := by unfold cellF; simp [List.getD, hn]
      rw [e] at q
      refine ⟨_, rfl, _, rfl, a, _, _, .int ns[k.toNat], rfl, rfl, ha, ?_, q⟩
      have := atI_nat (xs := ns.map V.int) (j := k.toNat) (v := V.int ns[k.toNat]) (by simp [hn])
      rw [Int.toNat_of_nonneg hk] at this
      exact this
    · have e : cellF ns k = 0 := by unfold cellF; simp at h; simp [List.getD, show ns.length ≤ k.toNat by omega]
      rw [e] at q
      exact fls (decide_eq_false h) q
def primes : List Int := [1000003, 1000033, 1000037, 1000039, 1000081, 1000099, 1000117, 1000121, 1000133, 1000151, 1000159, 1000171, 1000183, 1000187, 1000193, 1000199]
def drawF (c k m : Int) : Int := (c * 48271 + k * 69621) % (primes.getD (k % 16).toNat 0) % m
theorem drawF_nonneg {c k m : Int} (h : 0 < m) : 0 ≤ drawF c k m := Int.emod_nonneg _ (by omega)
theorem drawF_lt {c k m : Int} (h : 0 < m) : drawF c k m < m := Int.emod_lt_of_pos _ h
def spDraw : Sp := fun vs H Q _ => ∃ (c k m : Int), vs = [.int c, .int k, .int m] ∧ 0 ≤ k ∧ 0 < m ∧ ∀ (H' : Hp), Same H H' → Q (.int (drawF c k m)) H'
theorem sc__law_draw : FnScope ["_law_cell", "_law_k", "_law_many", "_law_primes"] ["_law_cell", "_law_k", "_law_many"] (defScope (top 52)) := ⟨rfl, rfl, rfl, by decide +kernel, rfl, by decide +kernel, by decide +kernel⟩
def primesE : List Expr := [.Constant (.int 1000003) 0 ⟨211, 19, 211, 26⟩, .Constant (.int 1000033) 0 ⟨211, 28, 211, 35⟩, .Constant (.int 1000037) 0 ⟨211, 37, 211, 44⟩, .Constant (.int 1000039) 0 ⟨211, 46, 211, 53⟩, .Constant (.int 1000081) 0 ⟨211, 55, 211, 62⟩, .Constant (.int 1000099) 0 ⟨211, 64, 211, 71⟩, .Constant (.int 1000117) 0 ⟨211, 73, 211, 80⟩, .Constant (.int 1000121) 0 ⟨211, 82, 211, 89⟩, .Constant (.int 1000133) 0 ⟨211, 91, 211, 98⟩, .Constant (.int 1000151) 0 ⟨211, 100, 211, 107⟩, .Constant (.int 1000159) 0 ⟨211, 109, 211, 116⟩, .Constant (.int 1000171) 0 ⟨211, 118, 211, 125⟩, .Constant (.int 1000183) 0 ⟨211, 127, 211, 134⟩, .Constant (.int 1000187) 0 ⟨211, 136, 211, 143⟩, .Constant (.int 1000193) 0 ⟨211, 145, 211, 152⟩, .Constant (.int 1000199) 0 ⟨211, 154, 211, 161⟩]
theorem primesE_is : primesE.map conV = (primes.map V.int).map some := by kernel_rfl
theorem pa_primes {X : Cx} : PA X primesE (tVs (primes.map V.int)) := @pa_vs X (primes.map V.int) primesE primesE_is
theorem pe_primes {X : Cx} {k : Nat} {p : Pos} : PE X (.Tuple primesE k p) (tTup (tVs (primes.map V.int))) := by
  have h := @pa_primes X
  revert h
  generalize primesE = es
  intro h
  exact pe_tup h
theorem pss_primes {X : Cx} {rest : List Stmt} {u : TS} {k : Nat} {p p1 p2 : Pos} (hN : X.N.Nodup) (hi : X.N[3]? = some ("_law_primes" : Str)) (hx : X.env.scope.names.lookup ("_law_primes" : Str) = some .local) (hs : swapsWith (.Tuple primesE k p) (some (.Name "_law_primes" p1)) p2.line X.env = pure false) (hr : PSs X rest u) :
    PSs X (.Assign [.Name "_law_primes" p1] (.Tuple primesE k p) p2 :: rest) (tSeq (tAsg (tTup (tVs (primes.map V.int))) (gName 3)) u) := by
  have h := @pe_primes X k p
  revert h hs
  generalize primesE = es
  intro hs h
  exact pss_cons (ps_set hN hi (.inl hx) h hs (.inr hx)) hr
theorem primes_at (i : Nat) (h : i < 16) : (primes.map V.int)[i]? = some (.int (primes.getD i 0)) ∧ 0 < primes.getD i 0 := by
  have hl : i < primes.length := h
  have e : primes.getD i 0 = primes[i] := by simp [List.getD, hl]
  rw [e]
  refine ⟨by rw [List.getElem?_map, List.getElem?_eq_getElem hl]; rfl, ?_⟩
  have ha : primes.all (fun p => decide (0 < p)) = true := by decide +kernel
  exact of_decide_eq_true (List.all_eq_true.mp ha _ (List.getElem_mem hl))
theorem ok_draw {f : Addr} {fd : FuncData} (F : Fun K "_law_draw" "_law_draw" (top 52) f fd) : FnOk P w K mg base CX0 1 f fd ["_law_cell", "_law_k", "_law_many"] spDraw := by
  refine F.ok sc__law_draw (fun vs H Q E h => ?_) (fun cdv A outer s H vs Q E hr h => ?_)
  · obtain ⟨c, k, m, rfl, _⟩ := h; rfl
  · obtain ⟨c, k, m, rfl, hk, hm, q⟩ := h
    refine ⟨_, @pss_primes _ _ _ _ _ _ _ sc__law_draw.nd rfl rfl (by kernel_rfl) (pss_one (ps_ret (pe_op op_mod (pe_op op_mod (pe_op op_add (pe_op op_mul (pv 0) pe_int) (pe_op op_mul (pv 1) pe_int)) (pe_ix ix_tup (pv 3) (pe_op op_mod (pv 1) pe_int) (fun _ _ => rfl))) (pv 2)))), ?_⟩
    refine ⟨by show 16 ≤ sizeLine; decide, fun t ht => ?_⟩
    have h16 : 0 ≤ k % 16 ∧ k % 16 < 16 := ⟨Int.emod_nonneg _ (by decide), Int.emod_lt_of_pos _ (by decide)⟩
    obtain ⟨hp1, hp2⟩ := primes_at (k % 16).toNat (by omega)
    have hat := atI_nat hp1
    rw [Int.toNat_of_nonneg h16.1] at hat
    refine ⟨_, rfl, _, _, rfl, rfl, .inr ⟨by decide, by decide⟩, _, rfl, _, _, rfl, rfl, .inr ⟨by decide, by decide⟩, _, _, rfl, rfl, _, rfl, _, rfl, _, _, rfl, rfl, (by show (0 : Int) < 16; decide), t, primes.map V.int, _, _, rfl, rfl, SqT.of upd_same, hat, _, _, rfl, rfl, hp2, _, rfl, _, _, rfl, rfl, hm, ?_⟩
    exact q _ (Same.upd0 ht)
end
end Ks
end
section
namespace Ks
open PySem L2 Mir
def sgns : List Str := ["eeeg", "hlg", "hhhl", "eg", "gggl"]
def signsF (ns : List Int) : Str := sgns.getD (drawF (cellF ns 0) 6 5).toNat "eg"
def markF (ns : List Int) (i : Nat) : Nat := (signsF ns).cps.getD (drawF (ns.getD i 0) (i % 5 + 1) (signsF ns).length).toNat 0
def marksF (ns : List Int) : Str := ⟨((List.range ns.length).map (markF ns)).toArray⟩
theorem signsF_mem (ns : List Int) : signsF ns ∈ sgns := by
  unfold signsF
  have h1 := drawF_nonneg (c := cellF ns 0) (k := 6) (m := 5) (by decide)
  have h2 := drawF_lt (c := cellF ns 0) (k := 6) (m := 5) (by decide)
  have hl : (drawF (cellF ns 0) 6 5).toNat < sgns.length := by show _ < 5; omega
  simp only [List.getD, List.getElem?_eq_getElem hl, Option.getD_some]
  exact List.getElem_mem hl
theorem signs_all {x : Str} (h : x ∈ sgns) : 0 < x.length ∧ x.length ≤ 10 ∧ (∀ c ∈ x.cps.toList, Sign c) ∧ (101 ∈ x.cps.toList → 104 ∉ x.cps.toList ∧ 108 ∉ x.cps.toList) := by
  have : ∀ x ∈ sgns, (decide (0 < x.length) && decide (x.length ≤ 10) && x.cps.toList.all (fun c => c == 101 || c == 104 || c == 108 || c == 103) && (!x.cps.toList.contains 101 || (!x.cps.toList.contains 104 && !x.cps.toList.contains 108))) = true := by decide +kernel
  have q := this x h
  simp only [Bool.and_eq_true, decide_eq_true_eq, List.all_eq_true, Bool.or_eq_true, beq_iff_eq, Bool.not_eq_true', List.contains_eq_mem, decide_eq_false_iff_not] at q
  obtain ⟨⟨⟨a, b⟩, c⟩, d⟩ := q
  refine ⟨a, b, fun e he => ?_, fun he => ?_⟩
  · rcases c e he with ((z | z) | z) | z
    · exact .inl z
    · exact .inr (.inl z)
    · exact .inr (.inr (.inl z))
    · exact .inr (.inr (.inr z))
  · rcases d with z | z
    · exact absurd he z
    · exact z
theorem markF_mem (ns : List Int) (i : Nat) : markF ns i ∈ (signsF ns).cps.toList := by
  obtain ⟨a, b, _⟩ := signs_all (signsF_mem ns)
  unfold markF
  have h1 := drawF_nonneg (c := ns.getD i 0) (k := i % 5 + 1) (m := (signsF ns).length) (by omega)
  have h2 := drawF_lt (c := ns.getD i 0) (k := i % 5 + 1) (m := (signsF ns).length) (by omega)
  have hl : (drawF (ns.getD i 0) (i % 5 + 1) (signsF ns).length).toNat < (signsF ns).cps.size := by
    show _ < (signsF ns).length
    omega
  simp only [Array.getD, hl, dite_true]
  exact Array.getElem_mem_toList hl
theorem marksF_len (ns : List Int) : (marksF ns).length = ns.length := by
  show (marksF ns).cps.size = _
  simp [marksF]
theorem marksF_ok {ns : List Int} (h : ns.length ≤ 100) : MkOk (marksF ns) := by
  obtain ⟨_, _, hs, hx⟩ := signs_all (signsF_mem ns)
  have mem : ∀ c ∈ (marksF ns).cps.toList, c ∈ (signsF ns).cps.toList := fun c hc => by
    have : c ∈ (List.range ns.length).map (markF ns) := hc
    obtain ⟨i, _, rfl⟩ := List.mem_map.mp this
    exact markF_mem ns i
  refine ⟨fun c hc => hs c (mem c hc), fun he => ?_, by rw [marksF_len]; exact h⟩
  obtain ⟨a, b⟩ := hx (mem _ he)
  exact ⟨fun z => a (mem _ z), fun z => b (mem _ z)⟩
section
variable {P : Program} {w : World} {K : PySem.W.Frag} {mg : Str → Option Value} {base : Heap}
def spMarks (K : PySem.W.Frag) : Sp := fun vs H Q _ => ∃ (a : Addr) (ns : List Int), vs = [.ref a] ∧ SqL K H a (ns.map V.int) ∧ ns.length ≤ 63 ∧ ∀ H', Same H H' → Q (.str (marksF ns)) H'
theorem sc__law_marks : FnScope ["_law_script", "_law_kind", "_law_signs"] ["_law_script"] (defScope (top 53)) := ⟨rfl, rfl, rfl, by decide +kernel, rfl, by decide +kernel, by decide +kernel⟩
theorem ok_marks {f : Addr} {fd : FuncData} (F : Fun K "_law_marks" "_law_marks" (top 53) f fd) (B : Blt mg) (c__law_cell_at : Can P w K mg base CX0 1 "_law_cell_at" ["_law_script", "_law_k"] (spCell K)) (c__law_draw : Can P w K mg base CX0 1 "_law_draw" ["_law_cell", "_law_k", "_law_many"] spDraw) :
    FnOk P w K mg base CX0 2 f fd ["_law_script"] (spMarks K) := by
  refine F.ok sc__law_marks (fun vs H Q E h => ?_) (fun cdv A outer s H vs Q E hr h => ?_)
  · obtain ⟨a, ns, rfl, _⟩ := h; rfl
  · obtain ⟨a, ns, rfl, ha, hn, q⟩ := h
    refine ⟨_, (pss_cons (ps_set (i := 1) sc__law_marks.nd rfl (Or.inl rfl) (pe_can c__law_draw (hr.mono (by decide)) pass0 (pa_cons (pe_can c__law_cell_at (hr.mono (by decide)) pass0 (pa_cons (pv 0) (pa_cons pe_int pa_nil))) (pa_cons pe_int (pa_cons pe_int pa_nil)))))
      (pss_cons (ps_set (i := 2) sc__law_marks.nd rfl (Or.inr rfl) (pe_ix ix_tup (pe_tup (pa_cons pe_str (pa_cons pe_str (pa_cons pe_str (pa_cons pe_str (pa_cons pe_str pa_nil)))))) (pv 1) (fun _ _ => rfl)))
      (pss_one (ps_ret (pe_bm PySem.F.plainAttrs_str PySem.F.slot_str_join PySem.F.type_str_join mt_join pe_str (pa_cons (pe_comp (N := ["_law_script", "_law_kind", "_law_signs"]) (sc0 := defScope (top 53)) ["_law_k"] ["_law_signs", "_law_script"] [2, 0] rfl rfl rfl ⟨rfl, by decide +kernel, by decide +kernel, by decide +kernel, rfl, by decide +kernel⟩ (pi_range1 (by rfl) B.range (pa_cons (pe_callB call_len_seq (by rfl) B.len boot_lenB (pa_cons (pv 0) pa_nil)) pa_nil)) (fun _ _ _ _ => (pg_name (i := 0) (by decide +kernel : (["_law_k", "_law_signs", "_law_script"] : List Str).Nodup) rfl (Or.inl rfl) (.inr rfl))) (fun _ _ _ _ => (pe_ix ix_str (pv 1) (pe_can c__law_draw (hr.mono (by decide)) pass0 (pa_cons (pe_ix (ix_listK (K := K) rfl) (pv 2) (pv 0) (fun _ _ => rfl)) (pa_cons (pe_op op_add (pe_op op_mod (pv 0) pe_int) pe_int) (pa_cons (pe_callB call_len_str (by rfl) B.len boot_lenB (pa_cons (pv 1) pa_nil)) pa_nil)))) (fun _ _ => rfl)))) pa_nil)))))), ?_⟩
    refine ⟨_, rfl, a, ns, 0, rfl, ha, by decide, _, 6, 5, rfl, by decide, by decide, fun H1 s1 => ?_⟩
    have h1 := drawF_nonneg (c := cellF ns 0) (k := 6) (m := 5) (by decide)
    have h2 := drawF_lt (c := cellF ns 0) (k := 6) (m := 5) (by decide)
    refine ⟨by show 5 ≤ sizeLine; decide, fun t ht => ?_⟩
    have hat : atI (sgns.map V.str) (drawF (cellF ns 0) 6 5) = some (.str (signsF ns)) := by
      have hl : (drawF (cellF ns 0) 6 5).toNat < sgns.length := by show _ < 5; omega
      have := atI_nat (xs := sgns.map V.str) (j := (drawF (cellF ns 0) 6 5).toNat) (v := .str (signsF ns)) (by rw [List.getElem?_map, List.getElem?_eq_getElem hl]; unfold signsF; simp [List.getD, hl])
      rw [Int.toNat_of_nonneg h1] at this
      exact this
    refine ⟨_, rfl, t, sgns.map V.str, _, _, rfl, rfl, SqT.of upd_same, hat, ?_⟩
    obtain ⟨g1, g2, _, _⟩ := signs_all (signsF_mem ns)
    have z1 : (signsF ns).length ≤ sizeLine := Nat.le_trans g2 (by decide)
    refine ⟨rfl, _, rfl, a, _, rfl, .inl ((s1.upd ht).seq ha), (ns.length : Int), by simp, by omega, by omega, fun p hp => ?_⟩
    refine comp_range (lo := 0) (n := ns.length) hp (Nat.lt_of_le_of_lt hn (by decide)) (fun i => V.str (ch1 (markF ns i))) (fun σ' => ∃ v0, σ' = [v0, some (.str (signsF ns)), some (.ref a)]) ?_ ?_ ?_
    · exact ⟨none, rfl⟩
    · rintro i σ' H' hi ⟨v0, rfl⟩ sm KK kk
      have hd := drawF_nonneg (c := ns.getD i 0) (k := i % 5 + 1) (m := (signsF ns).length) (by omega)
      have hd2 := drawF_lt (c := ns.getD i 0) (k := i % 5 + 1) (m := (signsF ns).length) (by omega)
      have ha' : SqL K H' a (ns.map V.int) := sm.seq ((s1.upd ht).seq ha)
      have hat2 : atI (ns.map V.int) (0 + (i : Int)) = some (.int (ns.getD i 0)) := by
        rw [Int.zero_add]
        exact atI_nat (by rw [List.getElem?_map, List.getElem?_eq_getElem hi]; simp [List.getD, hi])
      refine ⟨_, rfl, _, rfl, _, rfl, a, _, _, _, rfl, rfl, ha', hat2, _, rfl, _, _, rfl, rfl, (by show (0 : Int) < 5; decide), _, _, rfl, rfl, _, rfl, _, rfl, z1, _, _, _, rfl, ?_, ?_, fun H4 s4 => ?_⟩
      · rw [Int.zero_add]; omega
      · omega
      · have hc : atI (signsF ns).cps.toList (drawF (ns.getD i 0) ((0 + (i : Int)) % 5 + 1) ((signsF ns).length : Int)) = some (markF ns i) := by
          rw [Int.zero_add]
          have hl : (drawF (ns.getD i 0) (i % 5 + 1) (signsF ns).length).toNat < (signsF ns).cps.size := by
            show _ < (signsF ns).length
            omega
          have := atI_nat (xs := (signsF ns).cps.toList) (j := (drawF (ns.getD i 0) (i % 5 + 1) (signsF ns).length).toNat) (v := markF ns i) (by unfold markF; rw [Array.getElem?_toList, Array.getElem?_eq_getElem hl]; simp only [Array.getD, hl, dite_true]; rfl)
          rw [Int.toNat_of_nonneg hd] at this
          exact this
        refine ⟨_, _, _, rfl, rfl, z1, hc, ?_⟩
        exact kk [some (.int (0 + (i : Int))), some (.str (signsF ns)), some (.ref a)] H4 ⟨_, rfl⟩ s4
    · intro H' sm hq
      have e3 : (List.range ns.length).map (fun i => V.str (ch1 (markF ns i))) = (((List.range ns.length).map (markF ns)).map ch1).map V.str := by
        rw [List.map_map, List.map_map]; rfl
      rw [e3] at hq
      refine ⟨_, p, _, rfl, rfl, SqL.of hq, ?_, ?_⟩
      · rw [sum_ones, List.length_map, List.length_map, List.length_range]
        show _ + _ * 0 ≤ _
        omega
      · rw [join_ones]
        exact q H' ((s1.upd ht).trans sm)
end
end Ks
end
section
namespace Ks
open PySem L2 Mir
def csF (z : Str) : Nat := if 0 < cntS 104 z + cntS 108 z then cntS 104 z + cntS 108 z else 2 * cntS 101 z + 1
def IsFew (n m : Nat) : Prop := n ≤ 3 ^ m ∧ ∀ j, j < m → 3 ^ j < n
theorem lt_pow3 (w : Nat) : w < 3 ^ w := by
  induction w with
  | zero => decide
  | succ w ih => rw [Nat.pow_succ]; omega
theorem IsFew.uniq {n m k : Nat} (h : IsFew n m) (g : IsFew n k) : m = k := by
  rcases Nat.lt_trichotomy m k with z | z | z
  · have := g.2 m z; have := h.1; omega
  · exact z
  · have := h.2 k z; have := g.1; omega
theorem cs_le {z : Str} (M : MkOk z) : csF z ≤ 201 := by
  have h := signs_count M.sg
  have hl := M.len
  rw [str_len] at hl
  unfold csF cntS
  split <;> omega
section
variable {P : Program} {w : World} {K : PySem.W.Frag} {mg : Str → Option Value} {base : Heap}
def spCases : Sp := fun vs H Q _ => ∃ z, vs = [.str z] ∧ MkOk z ∧ Q (.int (csF z)) H
theorem sc_cases : FnScope ["marks", "one_way"] ["marks"] (defScope (top 29)) := ⟨rfl, rfl, rfl, by decide +kernel, rfl, by decide +kernel, by decide +kernel⟩
theorem ok_cases {f : Addr} {fd : FuncData} (F : Fun K "cases" "cases" (top 29) f fd) (c_check_marks : Can P w K mg base CX0 1 "check_marks" ["marks"] spCM) : FnOk P w K mg base CX0 2 f fd ["marks"] spCases := by
  refine F.ok sc_cases (fun vs H Q E h => ?_) (fun cdv A outer s H vs Q E hr h => ?_)
  · obtain ⟨z, rfl, _⟩ := h; rfl
  · obtain ⟨z, rfl, M, k⟩ := h
    refine ⟨_, (pss_cons (ps_expr (pe_can c_check_marks (hr.mono (by decide)) pass0 (pa_cons (pv 0) pa_nil)))
      (pss_cons (ps_set (i := 1) sc_cases.nd rfl (Or.inl rfl) (pe_op op_add (pe_bm PySem.F.plainAttrs_str PySem.F.slot_str_count PySem.F.type_str_count mt_count (pv 0) (pa_cons pe_str pa_nil)) (pe_bm PySem.F.plainAttrs_str PySem.F.slot_str_count PySem.F.type_str_count mt_count (pv 0) (pa_cons pe_str pa_nil))))
      (pss_cons (ps_if (pt_cmpR op_gt (pv 1) pe_int (nomark _)) (pss_one (ps_ret (pv 1))) pss_nil)
      (pss_one (ps_ret (pe_op op_add (pe_op op_mul pe_int (pe_bm PySem.F.plainAttrs_str PySem.F.slot_str_count PySem.F.type_str_count mt_count (pv 0) (pa_cons pe_str pa_nil))) pe_int)))))), ?_⟩
    refine ⟨_, rfl, z, rfl, M, ?_⟩
    refine ⟨_, rfl, rfl, z, 104, rfl, by rw [s_h], _, rfl, rfl, z, 108, rfl, by rw [s_l], _, _, rfl, rfl, ?_⟩
    refine ⟨_, rfl, _, _, rfl, rfl, _, rfl, ?_⟩
    unfold csF at k
    by_cases h : 0 < cntS 104 z + cntS 108 z
    · rw [if_pos h] at k
      refine tru (decide_eq_true (by omega)) ⟨_, rfl, ?_⟩
      have e : ((cntS 104 z : Int) + (cntS 108 z : Int)) = ((cntS 104 z + cntS 108 z : Nat) : Int) := by push_cast; rfl
      show Q (.int ((cntS 104 z : Int) + (cntS 108 z : Int))) H
      rw [e]; exact k
    · rw [if_neg h] at k
      refine fls (decide_eq_false (by omega)) ⟨_, rfl, rfl, z, 101, rfl, by rw [s_e], _, _, rfl, rfl, .inl ⟨by decide, by decide⟩, _, _, rfl, rfl, ?_⟩
      have e : (2 * (cntS 101 z : Int) + 1) = ((2 * cntS 101 z + 1 : Nat) : Int) := by push_cast; rfl
      show Q (.int (2 * (cntS 101 z : Int) + 1)) H
      rw [e]; exact k
def spMost : Sp := fun vs H Q _ => ∃ k : Int, vs = [.int k] ∧ k ≤ 1000 ∧ -1000 ≤ k ∧ Q (.int ((3 ^ k.toNat : Nat) : Int)) H
theorem sc_most_cases : FnScope ["weighings", "most", "step"] ["weighings"] (defScope (top 30)) := ⟨rfl, rfl, rfl, by decide +kernel, rfl, by decide +kernel, by decide +kernel⟩
theorem ok_most {f : Addr} {fd : FuncData} (F : Fun K "most_cases" "most_cases" (top 30) f fd) (B : Blt mg) : FnOk P w K mg base CX0 1 f fd ["weighings"] spMost := by
  refine F.ok sc_most_cases (fun vs H Q E h => ?_) (fun cdv A outer s H vs Q E hr h => ?_)
  · obtain ⟨k, rfl, _⟩ := h; rfl
  · obtain ⟨k, rfl, h1, h2, q⟩ := h
    refine ⟨_, (pss_cons (ps_set (i := 1) sc_most_cases.nd rfl (Or.inl rfl) pe_int)
      (pss_cons (ps_for PassesOwn.never rfl (pi_range1 (by rfl) B.range (pa_cons (pv 0) pa_nil)) (pg_name (i := 2) sc_most_cases.nd rfl (Or.inl rfl)) (pss_one (ps_set (i := 1) sc_most_cases.nd rfl (Or.inl rfl) (pe_op op_mul (pv 1) pe_int))))
      (pss_one (ps_ret (pv 1))))), ?_⟩
    refine ⟨_, rfl, k, rfl, by omega, by omega, ?_⟩
    refine for_range (lo := 0) (n := k.toNat) (fun i σ H2 => H2 = H ∧ ∃ v, σ = [some (.int k), some (.int ((3 ^ i : Nat) : Int)), v]) ?_ ?_ ?_
    · exact ⟨rfl, none, rfl⟩
    · rintro i σ H2 hi ⟨rfl, v, rfl⟩
      refine ⟨_, rfl, _, _, rfl, rfl, .inr ⟨by decide, by decide⟩, ?_⟩
      refine ⟨rfl, some (.int (0 + (i : Int))), ?_⟩
      have e : ((3 ^ i : Nat) : Int) * 3 = ((3 ^ (i + 1) : Nat) : Int) := by rw [Nat.pow_succ]; push_cast; rfl
      show [some (V.int k), some (V.int (((3 ^ i : Nat) : Int) * 3)), some (.int (0 + (i : Int)))] = _
      rw [e]
    · rintro σ H2 ⟨rfl, v, rfl⟩
      exact ⟨_, rfl, q⟩
def spFew : Sp := fun vs H Q _ => ∃ z, vs = [.str z] ∧ MkOk z ∧ ∀ m, IsFew (csF z) m → Q (.int m) H
theorem sc_fewest : FnScope ["marks", "many", "weighings"] ["marks"] (defScope (top 31)) := ⟨rfl, rfl, rfl, by decide +kernel, rfl, by decide +kernel, by decide +kernel⟩
theorem ok_few {f : Addr} {fd : FuncData} (F : Fun K "fewest" "fewest" (top 31) f fd) (c_cases : Can P w K mg base CX0 2 "cases" ["marks"] spCases) (c_most_cases : Can P w K mg base CX0 1 "most_cases" ["weighings"] spMost) : FnOk P w K mg base CX0 3 f fd ["marks"] spFew := by
  refine F.ok sc_fewest (fun vs H Q E h => ?_) (fun cdv A outer s H vs Q E hr h => ?_)
  · obtain ⟨z, rfl, _⟩ := h; rfl
  · obtain ⟨z, rfl, M, q⟩ := h
    have hcs := cs_le M
    refine ⟨_, (pss_cons (ps_set (i := 1) sc_fewest.nd rfl (Or.inl rfl) (pe_can c_cases (hr.mono (by decide)) pass0 (pa_cons (pv 0) pa_nil)))
      (pss_cons (ps_set (i := 2) sc_fewest.nd rfl (Or.inl rfl) pe_int)
      (pss_cons (ps_while PassesOwn.never (pt_cmpR op_lt (pe_can c_most_cases (hr.mono (by decide)) pass0 (pa_cons (pv 2) pa_nil)) (pv 1) (nomark _)) (pss_one (ps_set (i := 2) sc_fewest.nd rfl (Or.inl rfl) (pe_op op_add (pv 2) pe_int))))
      (pss_one (ps_ret (pv 2)))))), ?_⟩
    refine ⟨_, rfl, z, rfl, M, ?_⟩
    refine while_by (fun σ H2 => H2 = H ∧ ∃ k : Nat, σ = [some (.str z), some (.int (csF z)), some (.int k)] ∧ ∀ j, j < k → 3 ^ j < csF z) (fun σ _ => match σ with | [_, _, some (.int k)] => csF z - k.toNat | _ => 0) ?_ ?_ ?_
    · exact ⟨rfl, 0, rfl, fun j h => by omega⟩
    · rintro σ H2 ⟨rfl, k, rfl, hk⟩
      have hkb : k ≤ 201 := by
        cases k with
        | zero => omega
        | succ k => have := hk k (by omega); have := lt_pow3 k; omega
      refine ⟨_, rfl, (k : Int), rfl, by omega, by omega, _, rfl, _, _, rfl, rfl, _, rfl, ?_⟩
      rw [Int.toNat_natCast]
      by_cases h : 3 ^ k < csF z
      · refine tru (decide_eq_true (by exact_mod_cast h)) ⟨_, rfl, _, _, rfl, rfl, ?_⟩
        refine ⟨⟨rfl, k + 1, rfl, fun j hj => ?_⟩, ?_⟩
        · rcases Nat.lt_succ_iff_lt_or_eq.mp hj with z | z
          · exact hk j z
          · rw [z]; exact h
        · have := lt_pow3 k
          show csF z - ((k : Int) + 1).toNat < csF z - (k : Int).toNat
          omega
      · refine fls (decide_eq_false (by intro z; exact h (by exact_mod_cast z))) ⟨_, rfl, ?_⟩
        exact q k ⟨by omega, hk⟩
    · rintro σ H2 Q1 Q2 mono ⟨v, h1, k, hv, hb1, hb2, v2, h3, i, j, e1, e2, c, e3, h4⟩
      exact ⟨v, h1, k, hv, hb1, hb2, v2, h3, i, j, e1, e2, c, e3, mono _ _ h4⟩
end
end Ks
end
section
namespace L2
open PySem PySem.Spec PyProof.Rows
theorem FnOk.alt {P : Program} {w : World} {K : PySem.W.Frag} {mg : Str → Option Value} {base : Heap} {CX : CXT} {k : Nat} {f : Addr} {fd : FuncData} {ps : List Str} {sp sp' : Sp} (F : FnOk P w K mg base CX k f fd ps sp) (F' : FnOk P w K mg base CX k f fd ps sp') :
    FnOk P w K mg base CX k f fd ps (fun vs H Q E => sp vs H Q E ∨ sp' vs H Q E) :=
  ⟨fun vs H Q E h => h.elim (F.len vs H Q E) (F'.len vs H Q E), fun A outer s H args us vs Q E hr he hb hv hs => hs.elim (F.run A outer s H args us vs Q E hr he hb hv) (F'.run A outer s H args us vs Q E hr he hb hv)⟩
theorem Can.imp {P : Program} {w : World} {K : PySem.W.Frag} {mg : Str → Option Value} {base : Heap} {CX : CXT} {k : Nat} {x : Str} {ps : List Str} {sp sp' : Sp} (C : Can P w K mg base CX k x ps sp) (h : ∀ vs H Q E, sp' vs H Q E → sp vs H Q E) : Can P w K mg base CX k x ps sp' := by
  obtain ⟨f, fd, a, b, c, d⟩ := C
  exact ⟨f, fd, a, b, c, d.imp h⟩
theorem Can.never {d : Bool} {P : Program} {w : World} {K : PySem.W.Frag} {mg : Str → Option Value} {base : Heap} {k : Nat} {x : Str} {ps : List Str} {sp : Sp} (C : Can P w K mg base (CXE d P w) k x ps sp) : Can P w K mg base CX0 k x ps (fun vs H Q _ => sp vs H Q E0) := by
  obtain ⟨f, fd, a, b, c, e⟩ := C
  exact ⟨f, fd, a, b, c, e.never⟩
section
variable {P : Program} {w : World} {K : PySem.W.Frag} {mg : Str → Option Value} {base : Heap}
abbrev cxH (P : Program) (w : World) (K : PySem.W.Frag) (mg : Str → Option Value) (base : Heap) (N : List Str) (qual : Str) (scope : Scope) (f : Addr) (cd : Value) (A : Around) (outer : List Env) (s : Shared) (H : Hp) (a : Addr) (oe : Obj) : Cx :=
  { cxOf CX0 P w K mg base N qual scope f cd A outer s H E0 with calm := false, pn := [(a, oe)], xe := fun _ _ => False }
theorem inv_startH {N ps : List Str} {qual : Str} {scope : Scope} {f : Addr} {cd : Value} {A : Around} {outer : List Env} {s s1 : Shared} {H : Hp} {us : List Value} {vs : List V} {a : Addr} {oe : Obj}
    (S : FnScope N ps scope) (e0 : Env0 P w K mg base A outer s H) (hl : vs.length = ps.length) (r : Vals vs us) (hp : s.heap.get? a = some oe ∧ H a = none ∧ a ∉ frs outer ∧ ∀ v, oe.data ≠ .cell v)
    (x : InCallC s s.heap.objs.size (bindL (envOfC qual scope s.heap.objs.size f cd).kindOf (ps.zip us) fun _ => none) (cellsFrom (s.heap.objs.size + 1) scope.names []) (bindC (envOfC qual scope s.heap.objs.size f cd).kindOf (ps.zip us) fun _ => none) s1) :
    Inv (cxH P w K mg base N qual scope f cd A outer s H a oe) [] (start N vs) H s1 := by
  have e0' : Env0 P w K mg base { A with handled := none } outer s H := ⟨e0.frames, e0.mod, e0.bs, e0.bsz, e0.funs, e0.frf, e0.hok, e0.bare⟩
  have I := inv_start (CX := CX0) (P := P) (w := w) (K := K) (mg := mg) (base := base) (qual := qual) (f := f) (cd := cd) (A := { A with handled := none }) (E := E0) S rfl e0' hl r x
  obtain ⟨h1, tk, rfl, hk⟩ := x.done
  refine ⟨⟨I.ok.mod, I.ok.kind, I.ok.glob, I.ok.blt, I.ok.above, I.ok.inj, I.ok.has, I.ok.cab, (fun z => nomatch z), Around.frames_deeper e0.frames, .inr ⟨rfl, rfl⟩, I.ok.exf, I.ok.bs, I.ok.bsz, I.ok.noex, I.ok.exfs, I.ok.funs, I.ok.frf⟩, I.os, I.bare, I.base, I.loc, I.cell, I.free, I.freeC, fun p hp' => ?_, I.hok, I.len⟩
  have e : p = (a, oe) := by simpa using hp'
  subst e
  exact ⟨hk _ _ hp.1, hp.2.1, Nat.ne_of_lt (Heap.lt_size hp.1), hp.2.2.1, hp.2.2.2⟩
theorem fn_ofH {x qual : Str} {st : Stmt} {f : Addr} {fd : FuncData} {N ps : List Str} {A : Around} {outer : List Env} {s : Shared} {H : Hp} {args : Args} {us : List Value} {vs : List V} {Q : VK} {a : Addr} {oe : Obj} (F : Fun K x qual st f fd) (S : FnScope N ps (defScope st)) (hdp : A.depth < recursionLimit)
    (e0 : Env0 P w K mg base A outer s H) (hb : BindsTo s fd args (ps.zip us)) (hl : vs.length = ps.length) (r : Vals vs us) (hp : s.heap.get? a = some oe ∧ H a = none ∧ a ∉ frs outer ∧ ∀ v, oe.data ≠ .cell v)
    (hbody : ∀ cdv, ∃ t, PSs (cxH P w K mg base N qual (defScope st) f cdv A outer s H a oe) (defBody st) t ∧ t { nx := fun _ H' => Q .non H', rt := Q } (start N vs) H) : codeAny (model P w) A (.call (.ref f) args) (CR CX0 outer P w H s Q E0) s := by
  obtain ⟨oc, od, kV, doc, pm, an, cdv, ct, osl, rfl, lk, hcd⟩ := F.ex
  have KX : K.In s.heap := e0.mod.kin.keeps fun b o e => (e0.bs b o e).1
  have lim : s.heap.NoLimit := e0.mod.nolimit.keeps fun b o e => (e0.bs b o e).1
  have hkind : ∀ y ∈ ps.zip us, (defScope st).names.lookup y.1 = some .local ∨ ((defScope st).names.lookup y.1 = some .cell ∧ ((cellsFrom (s.heap.objs.size + 1) (defScope st).names []).lookup y.1).isSome = true) := fun ⟨n, v⟩ hy => by
    rcases S.par n (List.of_mem_zip hy).1 with q | q
    · exact .inl q
    · exact .inr ⟨q, PySem.W.cellsFrom_some _ _ _ (.inl q)⟩
  refine codeAny_call_function hdp (KX _ _ lk) rfl S.co S.gen rfl (PySem.W.codeRec_of KX hcd) (hb _ _ _ _ ?_)
  refine wpAny_newFunctionEnv_cells S.kind hkind fun env he s1 x => ?_
  subst he
  refine ⟨lim.keeps x.toInCall.keep, codeAny_func ?_⟩
  obtain ⟨t, ht, hq⟩ := hbody cdv
  have I := inv_startH (P := P) (w := w) (qual := qual) (f := f) (cd := cdv) S e0 hl r hp x
  refine wpAny_mono (ht [] s1 (start N vs) H _ I hq) (fun fl s' hs => ?_) fun e s' hs => False.elim hs
  have fin : ∀ {σ' : St} {H' : Hp} {v : V} {u : Value}, Inv (cxH P w K mg base N qual (defScope st) f cdv A outer s H a oe) [] σ' H' s' → RelV v u → Q v H' → CE outer P w H s Q u s' :=
    fun {σ' H' v u} J rv q => ⟨v, H', J.os, J.bare, J.base, J.hok, rv, q⟩
  cases fl with
  | ret u => obtain ⟨v, σ', H', J, rv, q⟩ := hs; exact fin J rv q
  | next => obtain ⟨σ', H', J, q⟩ := hs; exact fin (v := V.non) (u := Value.none) J rfl q
  | brk => obtain ⟨_, _, _, q⟩ := hs; exact False.elim q
  | cont => obtain ⟨_, _, _, q⟩ := hs; exact False.elim q
end
def CanH (P : Program) (w : World) (K : PySem.W.Frag) (mg : Str → Option Value) (base : Heap) (x : Str) (ps : List Str) (sp : Addr → Addr → Sp) : Prop :=
  ∃ f fd, mg x = some (.ref f) ∧ PySem.W.keepIn K (.ref f) = true ∧ Binds K fd ps [] ∧ (∀ a C vs H Q E, sp a C vs H Q E → vs.length = ps.length) ∧
    ∀ (A : Around) (outer : List Env) (s : Shared) (H : Hp) (args : Args) (us : List Value) (vs : List V) (Q : VK) (a C : Addr) (oe : Obj) (px : List (Addr × Obj)), A.depth < recursionLimit → Env0 P w K mg base A outer s H → BindsTo s fd args (ps.zip us) → Vals vs us → Held px a oe C →
      (s.heap.get? a = some oe ∧ H a = none ∧ a ∉ frs outer ∧ ∀ v, oe.data ≠ .cell v) → sp a C vs H Q E0 → codeAny (model P w) A (.call (.ref f) args) (CR CX0 outer P w H s Q E0) s
theorem pe_canH {X : Cx} {x : Str} {ps : List Str} {sp : Addr → Addr → Sp} {e : Expr} {es : List Expr} {t : TA} {p pos : Pos} {a C : Addr} {oe : Obj} {px : List (Addr × Obj)} (N : CanH X.prog X.w X.K X.mg X.base x ps sp) (hdp : X.A.depth < recursionLimit) (hh : Held px a oe C) (hpn : (a, oe) ∈ X.pn) (ha : PA X (e :: es) t) (hg : Gl X x := by rfl)
    (hdb : (x == ("__debug__" : Str)) = false := by decide) (he : starEach (e :: es) X.env = (false, eval e X.env) :: starEach es X.env := by rfl) (hpl : (backTo pos (starEach es X.env)).any (·.1) = false := by rfl) : PE X (.Call (.Name x p) (e :: es) [] pos) (fun σ H Q => t σ H fun vs H1 => sp a C vs H1 Q E0) := by
  obtain ⟨f, fd, hm, hk, hb, hlen, run⟩ := N
  intro pins s σ H Q I h
  refine wpAny_Call_Name_kw (ld_glob I hg hm ?_ hdb)
  refine PySem.W.callWith_K (h₀ := X.base) I.ok.mod.kin hk (thn (ha pos pins s σ H _ I h) fun us s1 ⟨vs, H1, I1, r, q⟩ => ⟨I1.kIn, ?_⟩) he hpl
  have hl := hlen _ _ _ _ _ _ q
  have hl' : us.length = ps.length := by rw [← r.length]; exact hl
  obtain ⟨p1, p2, p3, p4, p5⟩ := I1.pin (a, oe) (List.mem_append_left _ hpn)
  have nst : a ∉ frs X.stack := fun hb => by
    rcases List.mem_cons.mp (I1.stkSub a hb) with z | z
    · exact p3 z
    · exact p4 z
  have hb' : BindsTo s1 fd ⟨us, []⟩ (ps.zip us) := by have := hb s1 us I1.kIn (by simpa using hl'); simpa using this
  refine wpAny_call (codeAny_mono (run X.A X.stack s1 H1 ⟨us, []⟩ us vs Q a C oe px hdp I1.env0 hb' r hh ⟨p1, p2, nst, p5⟩ q) fun r s' hq => ?_)
  cases r with
  | error e => exact False.elim hq
  | ok fl =>
    cases fl with
    | ret u => exact I1.after hq
    | next => exact False.elim hq
    | brk => exact False.elim hq
    | cont => exact False.elim hq
def Raises (P : Program) (w : World) (K : PySem.W.Frag) (mg : Str → Option Value) (base : Heap) (k : Nat) (f : Addr) (vs : List V) (H : Hp) (C : Addr) : Prop :=
  ∃ fd ps sp, PySem.W.keepIn K (.ref f) = true ∧ Binds K fd ps [] ∧ FnOk P w K mg base (CXE false P w) k f fd ps sp ∧ ∀ E : XK, (∀ H', Same H H' → E (.ref C) none H') → sp vs H (fun _ _ => False) E
theorem Raises.of {P : Program} {w : World} {K : PySem.W.Frag} {mg : Str → Option Value} {base : Heap} {k : Nat} {x : Str} {ps : List Str} {sp : Sp} {vs : List V} {H : Hp} {C : Addr} {f : Addr} (hf : mg x = some (.ref f)) (N : Can P w K mg base (CXE false P w) k x ps sp) (h : ∀ E : XK, (∀ H', Same H H' → E (.ref C) none H') → sp vs H (fun _ _ => False) E) : Raises P w K mg base k f vs H C := by
  obtain ⟨g, fd, a, b, c, d⟩ := N
  rw [hf] at a
  cases a
  exact ⟨fd, ps, sp, b, c, d, h⟩
def tAsk (P : Program) (w : World) (K : PySem.W.Frag) (mg : Str → Option Value) (base : Heap) (k i : Nat) (E : XK) (t : TA) : TE := fun σ H _ => ∃ f, σ[i]? = some (some (.ref f)) ∧ PySem.W.keepIn K (.ref f) = true ∧ t σ H fun vs H1 => ∃ C, Raises P w K mg base k f vs H1 C ∧ ∀ H', Same H1 H' → E (.ref C) none H'
theorem pe_ask {X : Cx} {P : Program} {w : World} {K : PySem.W.Frag} {mg : Str → Option Value} {base : Heap} {k i : Nat} {E : XK} {x : Str} {e : Expr} {es : List Expr} {t : TA} {p pos : Pos} (hP : X.prog = P) (hW : X.w = w) (hK : X.K = K) (hM : X.mg = mg) (hB : X.base = base) (hr : Room k X.A) (hx : Passes (CXE false X.prog X.w) X E) (ha : PA X (e :: es) t) (hN : X.N[i]? = some x := by rfl) (hv : Vis X.env.scope x := by first | exact Or.inl rfl | exact Or.inr (Or.inl rfl) | exact Or.inr (Or.inr rfl))
    (hdb : (x == ("__debug__" : Str)) = false := by decide) (hcd : (x == ("__classdict__" : Str)) = false := by decide) (he : starEach (e :: es) X.env = (false, eval e X.env) :: starEach es X.env := by rfl) (hpl : (backTo pos (starEach es X.env)).any (·.1) = false := by rfl) :
    PE X (.Call (.Name x p) (e :: es) [] pos) (tAsk P w K mg base k i E t) := by
  subst hP hW hK hM hB
  intro pins s σ H Q I h
  obtain ⟨f, hi, hk, h⟩ := h
  refine wpAny_Call_Name_kw ?_
  refine thn (pe_var (i := i) (x := x) (pos := p) hN hv hdb hcd pins s σ H (fun v H' => v = .ref f ∧ H' = H) I ⟨_, hi, rfl, rfl⟩) fun u s0 ⟨v, H0, I0, r0, hv0, hH⟩ => ?_
  subst hv0 hH
  cases r0
  refine PySem.W.callWith_K (h₀ := X.base) I0.ok.mod.kin hk (thn (ha pos pins s0 σ H0 _ I0 h) fun us s1 ⟨vs, H1, I1, r, C, R, q⟩ => ⟨I1.kIn, ?_⟩) he hpl
  obtain ⟨fd, ps, sp, _, hb, F, hs⟩ := R
  exact (wpAny_mono (run_fn (Q := fun _ _ => False) (ds := []) (dvs := []) F hr hb .nil hx I1 r (by simpa using hs E q)) (fun u s' ⟨v, H', J, rv, z⟩ => False.elim z) fun _ _ z => z)
end L2
end
section
namespace L2
open PySem PySem.Spec PyProof.Rows
theorem TyOf.same {K : PySem.W.Frag} {H H' : Hp} {v : V} {t : Value} (s : Same H H') (h : TyOf K H v t) : TyOf K H' v t := by
  cases h with
  | non => exact .non
  | bl x => exact .bl x
  | int i => exact .int i
  | str x => exact .str x
  | flt x => exact .flt x
  | lst e => exact .lst (s _ _ e)
  | frz e => exact .frz (s _ _ e)
  | tup e => exact .tup (s _ _ e)
  | dK e => exact .dK (s _ _ e)
  | dT e => exact .dT (s _ _ e)
  | ins e a b c d f => exact .ins (s _ _ e) a b c d f
end L2
namespace Ks
open PySem L2 Mir
def kds : List String := ["NoneType", "int", "bool", "str", "list", "tuple"]
def kitW (t c : String) : Bool := decide (t = c) || (decide (t = "bool") && decide (c = "int"))
def Kx (K : PySem.W.Frag) : Prop := ∀ t ∈ kds, ∀ c ∈ kds, PySem.W.kitOne K (.type t) (.type c) = some (kitW t c)
def Kd (K : PySem.W.Frag) (H : Hp) (v : V) (t : String) : Prop := t ∈ kds ∧ TyOf K H v (.type t)
theorem Kd.same {K : PySem.W.Frag} {H H' : Hp} {v : V} {t : String} (s : Same H H') (h : Kd K H v t) : Kd K H' v t := ⟨h.1, h.2.same s⟩
theorem kd_non {K : PySem.W.Frag} {H : Hp} : Kd K H .non "NoneType" := ⟨by decide, .non⟩
theorem kd_int {K : PySem.W.Frag} {H : Hp} (i : Int) : Kd K H (.int i) "int" := ⟨by decide, .int i⟩
theorem kd_bl {K : PySem.W.Frag} {H : Hp} (b : Bool) : Kd K H (.bl b) "bool" := ⟨by decide, .bl b⟩
theorem kd_str {K : PySem.W.Frag} {H : Hp} (z : Str) : Kd K H (.str z) "str" := ⟨by decide, .str z⟩
theorem kd_lst {K : PySem.W.Frag} {H : Hp} {a : Addr} {xs : List V} (h : H a = some (.lst xs)) : Kd K H (.ref a) "list" := ⟨by decide, .lst h⟩
theorem kd_tup {K : PySem.W.Frag} {H : Hp} {a : Addr} {xs : List V} (h : H a = some (.tup xs)) : Kd K H (.ref a) "tuple" := ⟨by decide, .tup h⟩
theorem kd_flat {K : PySem.W.Frag} {H : Hp} {v : V} (h : flatV v = true) : ∃ t, Kd K H v t ∧ ((∃ i, v = .int i) ∨ t ≠ "int") := by
  cases v with
  | non => exact ⟨_, kd_non, .inr (by decide)⟩
  | bl b => exact ⟨_, kd_bl b, .inr (by decide)⟩
  | int i => exact ⟨_, kd_int i, .inl ⟨i, rfl⟩⟩
  | str z => exact ⟨_, kd_str z, .inr (by decide)⟩
  | _ => cases h
structure EA where
  coin : Addr
  marks : Addr
  weigh : Addr
  out : Addr
  never : Addr
  bcoin : Addr
  text : Addr
def EA.six (e : EA) : List Addr := [e.marks, e.weigh, e.out, e.never, e.bcoin, e.text]
structure Errs (K : PySem.W.Frag) (mg : Str → Option Value) (e : EA) : Prop where
  m_coin : mg "CoinError" = some (.ref e.coin)
  m_marks : mg "BadMarks" = some (.ref e.marks)
  m_weigh : mg "BadWeighing" = some (.ref e.weigh)
  m_out : mg "BadOutcome" = some (.ref e.out)
  m_never : mg "Never" = some (.ref e.never)
  m_bcoin : mg "BadCoin" = some (.ref e.bcoin)
  m_text : mg "BadText" = some (.ref e.text)
  val : mg "ValueError" = none
  nd : e.six.Nodup
  exc : ∀ c ∈ e.six, PySem.W.excIn K c vMro "ValueError.__new__" = true
  xc : ∀ c ∈ e.six, PySem.W.XCls K c
  exm : ∀ c ∈ e.six, PySem.W.exmOne K (.ref c) (.ref e.coin) = some true
  kit : ∀ c ∈ e.six, ∀ d ∈ e.six, PySem.W.kitOne K (.ref c) (.ref d) = some (decide (c = d))
  kitV : ∀ c ∈ e.six, PySem.W.kitOne K (.ref c) (.type "ValueError") = some true
section
variable {P : Program} {w : World} {K : PySem.W.Frag} {mg : Str → Option Value} {base : Heap} {e : EA}
theorem Errs.x1 (Er : Errs K mg e) : PySem.W.excIn K e.marks vMro "ValueError.__new__" = true := Er.exc _ (by simp [EA.six])
theorem Errs.x2 (Er : Errs K mg e) : PySem.W.excIn K e.weigh vMro "ValueError.__new__" = true := Er.exc _ (by simp [EA.six])
theorem Errs.x3 (Er : Errs K mg e) : PySem.W.excIn K e.out vMro "ValueError.__new__" = true := Er.exc _ (by simp [EA.six])
theorem Errs.x4 (Er : Errs K mg e) : PySem.W.excIn K e.never vMro "ValueError.__new__" = true := Er.exc _ (by simp [EA.six])
theorem Errs.x5 (Er : Errs K mg e) : PySem.W.excIn K e.bcoin vMro "ValueError.__new__" = true := Er.exc _ (by simp [EA.six])
def spWh (K : PySem.W.Frag) : Sp := fun vs H Q _ => ∃ v t, vs = [v] ∧ Kd K H v t ∧ Q (.bl (decide (t = "int"))) H
theorem ok_wh {f : Addr} {fd : FuncData} (F : Fun K "is_whole" "is_whole" (top 11) f fd) (B : Blt mg) (T : Kx K) : FnOk P w K mg base CX0 1 f fd ["value"] (spWh K) := by
  refine F.ok scWhole (fun vs H Q E h => ?_) (fun cdv A outer s H vs Q E hr h => ?_)
  · obtain ⟨v, t, rfl, _⟩ := h; rfl
  · obtain ⟨v, t, rfl, ⟨ht, ty⟩, k⟩ := h
    refine ⟨_, pss_one (ps_ret (pe_and (pe_callB call_isi (by rfl) B.isi boot_isi (pa_cons (pv 0) (pa_cons (pe_bltn (v := .ty "int") (by rfl) B.int boot_intT rfl) pa_nil)))
      (pe_one (pe_not (pe_callB call_isi (by rfl) B.isi boot_isi (pa_cons (pv 0) (pa_cons (pe_bltn (v := .ty "bool") (by rfl) B.bool boot_boolT rfl) pa_nil))))))), ?_⟩
    refine ⟨_, rfl, _, _, _, _, rfl, ty, T t ht "int" (by decide), _, rfl, ?_⟩
    have tt : t = "int" ∨ t = "bool" ∨ (t ≠ "int" ∧ t ≠ "bool") := by
      by_cases h1 : t = "int"
      · exact .inl h1
      · by_cases h2 : t = "bool"
        · exact .inr (.inl h2)
        · exact .inr (.inr ⟨h1, h2⟩)
    rcases tt with rfl | rfl | ⟨n1, n2⟩
    · exact tru (by decide) ⟨_, rfl, _, _, _, _, rfl, ty, T "int" ht "bool" (by decide), _, rfl, k⟩
    · exact tru (by decide) ⟨_, rfl, _, _, _, _, rfl, ty, T "bool" ht "bool" (by decide), _, rfl, k⟩
    · refine fls (by unfold kitW; rw [decide_eq_false n1, decide_eq_false n2]; rfl) ?_
      rw [decide_eq_false n1] at k
      exact k
theorem whole_of {k : Nat} (C : Can P w K mg base CX0 k "is_whole" ["value"] (spWh K)) : Can P w K mg base CX0 k "is_whole" ["value"] spWhole := C.imp fun vs H Q E ⟨i, e, q⟩ => ⟨_, _, e, kd_int i, q⟩
def cmB (z : Str) : Bool := decide (cntS 101 z + (cntS 104 z + cntS 108 z) + cntS 103 z = z.length) && !(decide (0 < cntS 101 z) && decide (0 < cntS 104 z + cntS 108 z))
def MBad (K : PySem.W.Frag) (H : Hp) (v : V) : Prop := (∃ t, Kd K H v t ∧ t ≠ "str") ∨ ∃ z, v = .str z ∧ z.length ≤ 1000 ∧ cmB z = false
theorem MBad.same {H H' : Hp} {v : V} (s : Same H H') (h : MBad K H v) : MBad K H' v := h.imp (fun ⟨t, k, n⟩ => ⟨t, k.same s, n⟩) id
def spCMb (K : PySem.W.Frag) (c : Addr) : Sp := fun vs H _ E => ∃ v, vs = [v] ∧ MBad K H v ∧ E (.ref c) none H
theorem ok_cmb {f : Addr} {fd : FuncData} {c : Addr} (F : Fun K "check_marks" "check_marks" (top 12) f fd) (B : Blt mg) (T : Kx K) (m_BadMarks : mg "BadMarks" = some (.ref c)) (x_BadMarks : PySem.W.excIn K c vMro "ValueError.__new__" = true) : FnOk P w K mg base (CXE false P w) 1 f fd ["marks"] (spCMb K c) := by
  refine F.okE scCM (fun vs H Q E h => ?_) (fun cdv A outer s H vs Q E hr h L pass => ?_)
  · obtain ⟨v, rfl, _⟩ := h; rfl
  · obtain ⟨v, rfl, bad, k⟩ := h
    refine ⟨_, (pss_cons (ps_if (pt_not (pt_val (pe_callB call_isi (by rfl) B.isi boot_isi (pa_cons (pv 0) (pa_cons (pe_bltn (v := .ty "str") (by rfl) B.str boot_strT rfl) pa_nil))))) (pss_one (ps_raise L rfl rfl (by rfl) m_BadMarks x_BadMarks)) pss_nil)
      (pss_cons (ps_set (i := 1) scCM.nd rfl (Or.inl rfl) (pe_bm PySem.F.plainAttrs_str PySem.F.slot_str_count PySem.F.type_str_count mt_count (pv 0) (pa_cons pe_str pa_nil)))
      (pss_cons (ps_set (i := 2) scCM.nd rfl (Or.inl rfl) (pe_op op_add (pe_bm PySem.F.plainAttrs_str PySem.F.slot_str_count PySem.F.type_str_count mt_count (pv 0) (pa_cons pe_str pa_nil)) (pe_bm PySem.F.plainAttrs_str PySem.F.slot_str_count PySem.F.type_str_count mt_count (pv 0) (pa_cons pe_str pa_nil))))
      (pss_cons (ps_if (pt_cmpR op_ne (pe_op op_add (pe_op op_add (pv 1) (pv 2)) (pe_bm PySem.F.plainAttrs_str PySem.F.slot_str_count PySem.F.type_str_count mt_count (pv 0) (pa_cons pe_str pa_nil))) (pe_callB call_len_str (by rfl) B.len boot_lenB (pa_cons (pv 0) pa_nil)) (nomark _)) (pss_one (ps_raise L rfl rfl (by rfl) m_BadMarks x_BadMarks)) pss_nil)
      (pss_one (ps_if (PW.pt (pw_and (pt_cmpR op_gt (pv 1) pe_int (nomark _)) (pw_and1 (pt_cmpR op_gt (pv 2) pe_int (nomark _))))) (pss_one (ps_raise L rfl rfl (by rfl) m_BadMarks x_BadMarks)) pss_nil)))))), ?_⟩
    rcases bad with ⟨t, ⟨ht, ty⟩, n⟩ | ⟨z, rfl, hz0, hb⟩
    · refine ⟨_, rfl, _, _, _, _, rfl, ty, T t ht "str" (by decide), _, rfl, tru ?_ k⟩
      unfold kitW; rw [decide_eq_false n, decide_eq_false (show ¬ ("str" : String) = "int" by decide), Bool.and_false]; rfl
    · refine ⟨_, rfl, _, _, _, _, rfl, .str z, T "str" (by decide) "str" (by decide), _, rfl, fls (by decide) ?_⟩
      refine ⟨_, rfl, rfl, z, 101, rfl, by rw [s_e], ?_⟩
      refine ⟨_, rfl, rfl, z, 104, rfl, by rw [s_h], _, rfl, rfl, z, 108, rfl, by rw [s_l], _, _, rfl, rfl, ?_⟩
      have hz : z.length ≤ sizeLine := Nat.le_trans hz0 (by decide)
      refine ⟨_, rfl, _, rfl, _, _, rfl, rfl, _, rfl, rfl, z, 103, rfl, by rw [s_g], _, _, rfl, rfl, _, rfl, z, rfl, hz, rfl, _, rfl, ?_⟩
      by_cases h1 : cntS 101 z + (cntS 104 z + cntS 108 z) + cntS 103 z = z.length
      · refine iteNS (by
          show V.int _ = V.int _
          refine congrArg V.int ?_
          rw [← h1]; push_cast; omega) ?_
        unfold cmB at hb
        rw [decide_eq_true h1, Bool.true_and, Bool.not_eq_false', Bool.and_eq_true, decide_eq_true_eq, decide_eq_true_eq] at hb
        refine ⟨_, rfl, _, _, rfl, rfl, _, rfl, tru (decide_eq_true (by omega)) ?_⟩
        exact ⟨_, rfl, _, _, rfl, rfl, _, rfl, tru (decide_eq_true (by omega)) k⟩
      · refine tru ?_ k
        show (!decide (V.int _ = V.int _)) = true
        rw [decide_eq_false fun q => h1 (by have := V.int.inj q; omega)]; rfl
def upV (hi : Int) : Int → List V → Bool
  | _, [] => true
  | last, .int k :: ks => decide (last < k) && decide (k ≤ hi) && upV hi k ks
  | _, _ :: _ => false
def SdBad (K : PySem.W.Frag) (H : Hp) (n : Int) (v : V) : Prop := (∃ t, Kd K H v t ∧ t ≠ "list") ∨ ∃ a xs, v = .ref a ∧ H a = some (.lst xs) ∧ xs.all flatV = true ∧ upV n (-1) xs = false
theorem SdBad.same {H H' : Hp} {n : Int} {v : V} (s : Same H H') (h : SdBad K H n v) : SdBad K H' n v := h.imp (fun ⟨t, k, n⟩ => ⟨t, k.same s, n⟩) fun ⟨a, xs, e, h1, h2⟩ => ⟨a, xs, e, s _ _ h1, h2⟩
def spSdb (K : PySem.W.Frag) (c : Addr) : Sp := fun vs H _ E => ∃ (n : Int) (v : V), vs = [.int n, v] ∧ SdBad K H n v ∧ E (.ref c) none H
theorem ok_sdb {f : Addr} {fd : FuncData} {c : Addr} (F : Fun K "check_side" "check_side" (top 13) f fd) (B : Blt mg) (T : Kx K) (m_BadWeighing : mg "BadWeighing" = some (.ref c)) (x_BadWeighing : PySem.W.excIn K c vMro "ValueError.__new__" = true)
    (c_is_whole : Can P w K mg base CX0 1 "is_whole" ["value"] (spWh K)) : FnOk P w K mg base (CXE false P w) 2 f fd ["highest", "side"] (spSdb K c) := by
  refine F.okE sc_check_side (fun vs H Q E h => ?_) (fun cdv A outer s H vs Q E hr h L pass => ?_)
  · obtain ⟨n, v, rfl, _⟩ := h; rfl
  · obtain ⟨n, v, rfl, bad, k⟩ := h
    refine ⟨_, (pss_cons (ps_if (pt_not (pt_val (pe_callB call_isi (by rfl) B.isi boot_isi (pa_cons (pv 1) (pa_cons (pe_bltn (v := .ty "list") (by rfl) B.list boot_listT rfl) pa_nil))))) (pss_one (ps_raise L rfl rfl (by rfl) m_BadWeighing x_BadWeighing)) pss_nil)
      (pss_cons (ps_set (i := 2) sc_check_side.nd rfl (Or.inl rfl) (pe_un un_neg pe_int))
      (pss_one (ps_for cx_own rfl (pi_list (pv 1)) (pg_name (i := 3) sc_check_side.nd rfl (Or.inl rfl)) (pss_cons (ps_if (pt_not (pt_val (pe_can c_is_whole (hr.mono (by decide)) (E := E0) pass0 (pa_cons (pv 3) pa_nil)))) (pss_one (ps_raise L rfl rfl (by rfl) m_BadWeighing x_BadWeighing)) pss_nil) (pss_cons (ps_if (pt_cmpR op_le (pv 3) (pv 2) (nomark _)) (pss_one (ps_raise L rfl rfl (by rfl) m_BadWeighing x_BadWeighing)) pss_nil) (pss_cons (ps_if (pt_cmpR op_gt (pv 3) (pv 0) (nomark _)) (pss_one (ps_raise L rfl rfl (by rfl) m_BadWeighing x_BadWeighing)) pss_nil) (pss_one (ps_set (i := 2) sc_check_side.nd rfl (Or.inl rfl) (pv 3)))))))))), ?_⟩
    rcases bad with ⟨t, ⟨ht, ty⟩, ne⟩ | ⟨a, xs, rfl, ha, fl, hu⟩
    · refine ⟨_, rfl, _, _, _, _, rfl, ty, T t ht "list" (by decide), _, rfl, tru ?_ k⟩
      unfold kitW; rw [decide_eq_false ne, decide_eq_false (show ¬ ("list" : String) = "int" by decide), Bool.and_false]; rfl
    · refine ⟨_, rfl, _, _, _, _, rfl, .lst ha, T "list" (by decide) "list" (by decide), _, rfl, fls (by decide) ?_⟩
      refine ⟨_, rfl, ?_⟩
      refine ⟨_, rfl, a, rfl, ⟨_, SqL.of ha⟩, for_list (K := K) (a := a) (xs := xs) (fun i σ H2 => H2 = H ∧ ∃ (last : Int) (v : Option V), σ = [some (.int n), some (.ref a), some (.int last), v] ∧ upV n (-1) xs = upV n last (xs.drop i))
        ⟨rfl, _, _, rfl, rfl⟩ (fun i σ H2 _ ⟨e, _⟩ => by rw [e]; exact SqL.of ha) ?_ ?_⟩
      · rintro i y σ H2 hi ⟨rfl, last, v, rfl, hl⟩
        rw [drop_at hi] at hl
        have fy : flatV y = true := List.all_eq_true.mp fl y (List.mem_of_getElem? hi)
        obtain ⟨t, kd, hk⟩ := kd_flat (K := K) (H := H2) fy
        refine ⟨_, rfl, y, t, rfl, kd, _, rfl, ?_⟩
        rcases hk with ⟨z, rfl⟩ | hk
        · have et : t = "int" := by
            obtain ⟨_, ty⟩ := kd
            cases ty; rfl
          refine fls (by rw [et]; decide) ?_
          refine ⟨_, rfl, _, rfl, _, _, rfl, rfl, _, rfl, ?_⟩
          by_cases h1 : z ≤ last
          · exact tru (decide_eq_true h1) k
          refine fls (decide_eq_false h1) ?_
          refine ⟨_, rfl, _, rfl, _, _, rfl, rfl, _, rfl, ?_⟩
          by_cases h2 : z > n
          · exact tru (decide_eq_true h2) k
          refine fls (decide_eq_false h2) ?_
          refine ⟨_, rfl, rfl, z, _, rfl, ?_⟩
          rw [hl]
          show upV n last (V.int z :: _) = _
          rw [upV, decide_eq_true (show last < z by omega), decide_eq_true (show z ≤ n by omega)]; rfl
        · exact tru (by rw [decide_eq_false hk]; rfl) k
      · rintro σ H2 ⟨rfl, last, v, rfl, hl⟩
        rw [hl, List.drop_length] at hu
        cases hu
def SdOk (H : Hp) (n : Int) (v : V) : Prop := ∃ a ks, v = .ref a ∧ H a = some (.lst (ks.map V.int)) ∧ up n (-1) ks = true
theorem SdOk.same {H H' : Hp} {n : Int} {v : V} (s : Same H H') (h : SdOk H n v) : SdOk H' n v := by
  obtain ⟨a, ks, e, h1, h2⟩ := h
  exact ⟨a, ks, e, s _ _ h1, h2⟩
def WBad (K : PySem.W.Frag) (H : Hp) (n : Int) (l r : V) : Prop := SdBad K H n l ∨ (SdOk H n l ∧ SdBad K H n r) ∨ ∃ a b xs ys, l = .ref a ∧ r = .ref b ∧ H a = some (.lst (xs.map V.int)) ∧ H b = some (.lst (ys.map V.int)) ∧ xs.length ≤ 100 ∧ ys.length ≤ 100 ∧ cwOk n xs ys = false
theorem WBad.same {H H' : Hp} {n : Int} {l r : V} (s : Same H H') (h : WBad K H n l r) : WBad K H' n l r := by
  rcases h with h | ⟨h1, h2⟩ | ⟨a, b, xs, ys, h1, h2, h3, h4, h5⟩
  · exact .inl (h.same s)
  · exact .inr (.inl ⟨h1.same s, h2.same s⟩)
  · exact .inr (.inr ⟨a, b, xs, ys, h1, h2, s _ _ h3, s _ _ h4, h5⟩)
def spSdA (K : PySem.W.Frag) (c : Addr) : Sp := fun vs H Q E => spSdE c vs H Q E ∨ spSdb K c vs H Q E
def spCWb (K : PySem.W.Frag) (c : Addr) : Sp := fun vs H _ E => ∃ (n : Int) (l r : V), vs = [.int n, l, r] ∧ (SdBad K H n l ∨ (SdOk H n l ∧ SdBad K H n r)) ∧ E (.ref c) none H
theorem ok_cwb {f : Addr} {fd : FuncData} {c : Addr} (F : Fun K "check_weighing" "check_weighing" (top 14) f fd) (c_check_side : Can P w K mg base (CXE false P w) 2 "check_side" ["highest", "side"] (spSdA K c)) : FnOk P w K mg base (CXE false P w) 3 f fd ["highest", "left", "right"] (spCWb K c) := by
  refine F.okE sc_check_weighing (fun vs H Q E h => ?_) (fun cdv A outer s H vs Q E hr h L pass => ?_)
  · obtain ⟨n, a, b, rfl, _⟩ := h; rfl
  · obtain ⟨n, l, r, rfl, bad, k⟩ := h
    refine ⟨_, (pss_cons (ps_expr (pe_can c_check_side (hr.mono (by decide)) pass (pa_cons (pv 0) (pa_cons (pv 1) pa_nil))))
      (pss_cons (ps_expr (pe_can c_check_side (hr.mono (by decide)) pass (pa_cons (pv 0) (pa_cons (pv 2) pa_nil)))) pss_never)), ?_⟩
    rcases bad with bad | ⟨⟨a, ks, rfl, ha, hu⟩, bad⟩
    · exact ⟨_, rfl, _, rfl, .inr ⟨n, l, rfl, bad, k⟩⟩
    · refine ⟨_, rfl, _, rfl, .inl ⟨n, a, ks, rfl, ha, fun _ => ?_, fun z => by rw [hu] at z; cases z⟩⟩
      exact ⟨_, rfl, _, rfl, .inr ⟨n, r, rfl, bad, k⟩⟩
def spCWA (K : PySem.W.Frag) (c : Addr) : Sp := fun vs H Q E => spCwE c vs H Q E ∨ spCWb K c vs H Q E
theorem cwa_bad {c : Addr} {n : Int} {l r : V} {H : Hp} {Q : VK} {E : XK} (h : WBad K H n l r) (k : ∀ H', Same H H' → E (.ref c) none H') : spCWA K c [.int n, l, r] H Q E := by
  rcases h with h | h | ⟨a, b, xs, ys, rfl, rfl, h1, h2, h3, h4, h5⟩
  · exact .inr ⟨n, l, r, rfl, .inl h, k H (Same.refl H)⟩
  · exact .inr ⟨n, l, r, rfl, .inr h, k H (Same.refl H)⟩
  · exact .inl ⟨n, a, b, xs, ys, rfl, h1, h2, h3, h4, (fun z => by rw [h5] at z; cases z), fun _ => k⟩
end
end Ks
end
section
namespace L2
open PySem PySem.Spec PyProof.Rows
theorem tidx_loop {prog : Program} {w : World} {A : Around} {E : Value → Shared → Prop} {s : Shared} {its : List Value} {u : Value} {e : Value → Bool} {j : Nat} (he : ∀ y ∈ its, SeqAt.EqAt A s y u (e y)) (hj : ∃ z, its[j]? = some z ∧ e z = true) (hno : ∀ i z, i < j → its[i]? = some z → e z = false)
    {Q : Option Fin × Unit → Shared → Prop} (hQ : Q (some (.done (.ret (.int j s.toks))), ()) { s with toks := s.toks + 1 }) : ∀ (k i : Nat), i ≤ j → i + k = its.length →
    wpAny (model prog w) A (forIn (List.range' i k) ((none, ()) : Option Fin × Unit) fun (i : Nat) __s => match its.toArray[i]? with
      | some y => do
        let b ← eqBool y u
        if b = true then do
          let r ← retInt (i : Int)
          pure (ForInStep.done (some r, ()))
        else pure (ForInStep.yield (none, ()))
      | x => pure (ForInStep.yield (none, ()))) Q E s
  | 0, i, hij, hk => by
    obtain ⟨z, hz, _⟩ := hj
    have := (List.getElem?_eq_some_iff.mp hz).1
    omega
  | k + 1, i, hij, hk => by
    have hi : i < its.length := by omega
    have e1 : its.toArray[i]? = some its[i] := by simp [hi]
    rw [List.range'_succ, List.forIn_cons, e1]
    refine wpAny_bind (wpAny_bind (he its[i] (List.getElem_mem hi) prog w _ _ ?_))
    by_cases hij' : i = j
    · subst hij'
      obtain ⟨z, hz, ez⟩ := hj
      rw [List.getElem?_eq_getElem hi] at hz
      cases hz
      rw [ez, if_pos rfl]
      exact wpAny_bind (wpAny_bind (wpAny_mkInt (wpAny_pure (wpAny_pure (wpAny_pure hQ)))))
    · rw [hno i its[i] (by omega) (List.getElem?_eq_getElem hi), if_neg Bool.false_ne_true]
      exact wpAny_pure (tidx_loop he hj hno hQ k (i + 1) (by omega) (by omega))
section
variable {X : Cx}
theorem mt_tidx : MtR X "tuple.index" (fun x xs H Q => ∃ (a : Addr) (ys : List V) (y : V) (j : Nat), x = .ref a ∧ xs = [y] ∧ SqT X.K H a ys ∧ flatV y = true ∧ ys.all flatV = true ∧ (∃ z, ys[j]? = some z ∧ eqV z y = true) ∧ (∀ i z, i < j → ys[i]? = some z → eqV z y = false) ∧ Q (.int j) H) := by
  intro pins s σ H x xs v us Q I rx rs h
  obtain ⟨a, ys, y, j, rfl, rfl, hq, fy, fs, hit, hno, q⟩ := h
  cases rx
  obtain ⟨u, rfl, ru⟩ := vals1 rs
  obtain ⟨its, r, pl, hz⟩ := I.tuple hq
  obtain ⟨o, ho, hc, n, hd⟩ := id pl
  refine wpAny_call (codeAny_call_builtin PySem.F.slot_tuple_index.plain PySem.F.entry_tuple_index (PySem.F.slot_tuple_index.check _ _ _ _ _ _ _ _ (show s.TypeIs (.ref a) "tuple" from ⟨o, ho, hc⟩) (PySem.F.args_tuple_index_2 _ _) ?_))
  unfold Builtin.«tuple.index»
  obtain ⟨hp, g, d, tk, os⟩ := s
  refine wpAny_bind (wpAny_of_eq (a := (Value.ref a, [u])) (by rfl) ?_)
  dsimp only
  unfold PySem.Builtin.Tuple.tupleItemsOf
  refine wpAny_bind (wpAny_bind (wpAny_seqItems ho hd (wpAny_pure ?_)))
  refine wpAny_bind (wpAny_pure (wpAny_bind (wpAny_pure (wpAny_bind ?_))))
  rw [Std.Legacy.Range.forIn_eq_forIn_range']
  have hsz : (min its.toArray.size its.toArray.size - 0 + 1 - 1) / 1 = its.length := by simp
  show wpAny _ _ (forIn (List.range' 0 ((min its.toArray.size its.toArray.size - 0 + 1 - 1) / 1) 1) _ _) _ _ _
  rw [hsz]
  refine tidx_loop (e := eqU y) (j := j) (mem_eqAt ru fy r fs) ?_ ?_ ?_ its.length 0 (Nat.zero_le _) (by omega)
  · obtain ⟨z, hz1, hz2⟩ := hit
    obtain ⟨w', hw, rw'⟩ := r.get hz1
    refine ⟨w', hw, ?_⟩
    rw [eqU_of rw' (List.all_eq_true.mp fs z (List.mem_of_getElem? hz1))]; exact hz2
  · intro i w' hi hw
    have hl : i < ys.length := by rw [r.length]; exact (List.getElem?_eq_some_iff.mp hw).1
    obtain ⟨w2, hw2, rw'⟩ := r.get (List.getElem?_eq_getElem hl)
    rw [hw] at hw2; cases hw2
    rw [eqU_of rw' (List.all_eq_true.mp fs _ (List.getElem_mem hl))]
    exact hno i _ hi (List.getElem?_eq_getElem hl)
  · exact wpAny_pure ⟨.int j, H, I.tok _, ⟨_, rfl⟩, q⟩
end
end L2
end
section
namespace Ks
open PySem L2 Mir
def outs3 : List V := [.str "left", .str "right", .str "even"]
def OBad (K : PySem.W.Frag) (H : Hp) (v : V) : Prop := (∃ t, Kd K H v t ∧ t ≠ "str") ∨ ∃ z, v = .str z ∧ inV (.str z) outs3 = false
theorem cs1_none (o : P3) (h : o ≠ .E) : ∀ (cs : List Nat) (i : Nat), cs1 [] [] o i cs = 0
  | [], _ => rfl
  | c :: cs, i => by
    show c1 c (pl [] [] i) o + cs1 [] [] o (i + 1) cs = 0
    rw [cs1_none o h cs (i + 1)]
    have : pl [] [] (i : Int) = .E := by simp [pl]
    rw [this]
    cases o with
    | E => exact absurd rfl h
    | L => simp [c1, other]
    | R => simp [c1, other]
theorem jd_none (z : Str) {o : P3} (h : o ≠ .E) : jd z [] [] o = 0 := by
  unfold jd
  rw [cs1_none o h, if_neg fun q => h q.1]
section
variable {P : Program} {w : World} {K : PySem.W.Frag} {mg : Str → Option Value} {base : Heap} {e : EA}
theorem OBad.same {H H' : Hp} {v : V} (s : Same H H') (h : OBad K H v) : OBad K H' v := h.imp (fun ⟨t, k, n⟩ => ⟨t, k.same s, n⟩) id
def spCO (K : PySem.W.Frag) (c : Addr) : Sp := fun vs H Q E => ∃ v, vs = [v] ∧ ((∃ o, v = .str (p3 o) ∧ Q .non H) ∨ (OBad K H v ∧ E (.ref c) none H))
theorem sc_check_outcome : FnScope ["outcome"] ["outcome"] (defScope (top 15)) := ⟨rfl, rfl, rfl, by decide +kernel, rfl, by decide +kernel, by decide +kernel⟩
theorem ok_co {f : Addr} {fd : FuncData} {c : Addr} (F : Fun K "check_outcome" "check_outcome" (top 15) f fd) (B : Blt mg) (T : Kx K) (O : Outs K mg) (m_BadOutcome : mg "BadOutcome" = some (.ref c)) (x_BadOutcome : PySem.W.excIn K c vMro "ValueError.__new__" = true) :
    FnOk P w K mg base (CXE false P w) 1 f fd ["outcome"] (spCO K c) := by
  refine F.okE sc_check_outcome (fun vs H Q E h => ?_) (fun cdv A outer s H vs Q E hr h L pass => ?_)
  · obtain ⟨v, rfl, _⟩ := h; rfl
  · obtain ⟨v, rfl, h⟩ := h
    obtain ⟨d_OUTCOMES, ob, its, n, m_OUTCOMES, m2, m3, m4, m5, m6⟩ := O
    refine ⟨_, (pss_one (ps_if (PW.pt (pw_or (pt_not (pt_val (pe_callB call_isi (by rfl) B.isi boot_isi (pa_cons (pv 0) (pa_cons (pe_bltn (v := .ty "str") (by rfl) B.str boot_strT rfl) pa_nil))))) (pw_or1 (pt_cmpR op_notIn_seq (pv 0) (pe_glob (v := .ref d_OUTCOMES) (by rfl) m_OUTCOMES rfl) rfl)))) (pss_one (ps_raise L rfl rfl (by rfl) m_BadOutcome x_BadOutcome)) pss_nil)), ?_⟩
    rcases h with ⟨o, rfl, q⟩ | ⟨⟨t, ⟨ht, ty⟩, ne⟩ | ⟨z, rfl, hz⟩, q⟩
    · refine ⟨_, rfl, _, _, _, _, rfl, .str _, T "str" (by decide) "str" (by decide), _, rfl, fls (by decide) ?_⟩
      refine ⟨_, rfl, d_OUTCOMES, _, rfl, .inr (outs_sq m2 m3 m5 m6), rfl, rfl, _, rfl, ?_⟩
      exact fls (show (!inV (.str (p3 o)) [.str "left", .str "right", .str "even"]) = false by rw [inV_p3]; rfl) q
    · refine ⟨_, rfl, _, _, _, _, rfl, ty, T t ht "str" (by decide), _, rfl, tru ?_ (tru rfl q)⟩
      unfold kitW; rw [decide_eq_false ne, decide_eq_false (show ¬ ("str" : String) = "int" by decide), Bool.and_false]; rfl
    · refine ⟨_, rfl, _, _, _, _, rfl, .str _, T "str" (by decide) "str" (by decide), _, rfl, fls (by decide) ?_⟩
      refine ⟨_, rfl, d_OUTCOMES, _, rfl, .inr (outs_sq m2 m3 m5 m6), rfl, rfl, _, rfl, ?_⟩
      exact tru (show (!inV (.str z) outs3) = true by rw [hz]; rfl) q
def CBad (K : PySem.W.Frag) (H : Hp) (c o h : V) : Prop := (∃ t, Kd K H c t ∧ t ≠ "int") ∨ ∃ n, c = .int n ∧ (n < 0 ∨ (0 ≤ n ∧ ((∃ t, Kd K H o t ∧ t ≠ "int") ∨ ∃ k, o = .int k ∧ (k < -1 ∨ n ≤ k ∨ ((-1 ≤ k ∧ k < n) ∧ ∃ t, Kd K H h t ∧ t ≠ "bool")))))
def COk (c o h : V) : Prop := ∃ n k b, c = .int n ∧ o = .int k ∧ h = .bl b ∧ 0 ≤ n ∧ -1 ≤ k ∧ k < n
theorem CBad.same {H H' : Hp} {c o h : V} (s : Same H H') (x : CBad K H c o h) : CBad K H' c o h := by
  rcases x with ⟨t, k, n⟩ | ⟨n, e, x | ⟨h0, ⟨t, k, n⟩ | ⟨k, e2, x | x | ⟨h1, t, kd, n⟩⟩⟩⟩
  · exact .inl ⟨t, k.same s, n⟩
  · exact .inr ⟨n, e, .inl x⟩
  · exact .inr ⟨_, e, .inr ⟨h0, .inl ⟨t, k.same s, n⟩⟩⟩
  · exact .inr ⟨_, e, .inr ⟨h0, .inr ⟨k, e2, .inl x⟩⟩⟩
  · exact .inr ⟨_, e, .inr ⟨h0, .inr ⟨k, e2, .inr (.inl x)⟩⟩⟩
  · exact .inr ⟨_, e, .inr ⟨h0, .inr ⟨k, e2, .inr (.inr ⟨h1, t, kd.same s, n⟩)⟩⟩⟩
def spOd (K : PySem.W.Frag) (c : Addr) : Sp := fun vs H Q E => ∃ a b d, vs = [a, b, d] ∧ ((COk a b d ∧ Q .non H) ∨ (CBad K H a b d ∧ E (.ref c) none H))
theorem sc_check_odd : FnScope ["coins", "odd", "heavy"] ["coins", "odd", "heavy"] (defScope (top 16)) := ⟨rfl, rfl, rfl, by decide +kernel, rfl, by decide +kernel, by decide +kernel⟩
theorem ok_od {f : Addr} {fd : FuncData} {c : Addr} (F : Fun K "check_odd" "check_odd" (top 16) f fd) (B : Blt mg) (T : Kx K) (m_BadCoin : mg "BadCoin" = some (.ref c)) (x_BadCoin : PySem.W.excIn K c vMro "ValueError.__new__" = true) (c_is_whole : Can P w K mg base CX0 1 "is_whole" ["value"] (spWh K)) :
    FnOk P w K mg base (CXE false P w) 2 f fd ["coins", "odd", "heavy"] (spOd K c) := by
  refine F.okE sc_check_odd (fun vs H Q E h => ?_) (fun cdv A outer s H vs Q E hr h L pass => ?_)
  · obtain ⟨a, b, d, rfl, _⟩ := h; rfl
  · obtain ⟨a, b, d, rfl, h⟩ := h
    refine ⟨_, (pss_cons (ps_if (PW.pt (pw_or (pt_not (pt_val (pe_can c_is_whole (hr.mono (by decide)) (E := E0) pass0 (pa_cons (pv 0) pa_nil)))) (pw_or1 (pt_cmpR op_lt (pv 0) pe_int (nomark _))))) (pss_one (ps_raise L rfl rfl (by rfl) m_BadCoin x_BadCoin)) pss_nil)
      (pss_cons (ps_if (PW.pt (pw_or (pt_not (pt_val (pe_can c_is_whole (hr.mono (by decide)) (E := E0) pass0 (pa_cons (pv 1) pa_nil)))) (pw_or (pt_cmpR op_lt (pv 1) (pe_un un_neg pe_int) (nomark _)) (pw_or1 (pt_cmpR op_ge (pv 1) (pv 0) (nomark _)))))) (pss_one (ps_raise L rfl rfl (by rfl) m_BadCoin x_BadCoin)) pss_nil)
      (pss_one (ps_if (pt_not (pt_val (pe_callB call_isi (by rfl) B.isi boot_isi (pa_cons (pv 2) (pa_cons (pe_bltn (v := .ty "bool") (by rfl) B.bool boot_boolT rfl) pa_nil))))) (pss_one (ps_raise L rfl rfl (by rfl) m_BadCoin x_BadCoin)) pss_nil)))), ?_⟩
    have nb : ∀ t : String, t ≠ "bool" → kitW t "bool" = false := fun t ne => by unfold kitW; rw [decide_eq_false ne, decide_eq_false (show ¬ ("bool" : String) = "int" by decide), Bool.and_false]; rfl
    rcases h with ⟨⟨n, k, b', rfl, rfl, rfl, h0, h1, h2⟩, q⟩ | ⟨⟨t, kd, ne⟩ | ⟨n, rfl, x | ⟨h0, ⟨t, kd, ne⟩ | ⟨k, rfl, x | x | ⟨⟨h1, h2⟩, t, kd, ne⟩⟩⟩⟩, q⟩
    · refine ⟨_, rfl, _, _, rfl, kd_int n, _, rfl, fls (by decide) ⟨_, rfl, _, _, rfl, rfl, _, rfl, fls (decide_eq_false (by omega)) ?_⟩⟩
      refine ⟨_, rfl, _, _, rfl, kd_int k, _, rfl, fls (by decide) ⟨_, rfl, _, rfl, _, _, rfl, rfl, _, rfl, fls (decide_eq_false (by omega)) ⟨_, rfl, _, rfl, _, _, rfl, rfl, _, rfl, fls (decide_eq_false (by omega)) ?_⟩⟩⟩
      exact ⟨_, rfl, _, _, _, _, rfl, .bl b', T "bool" (by decide) "bool" (by decide), _, rfl, fls (by decide) q⟩
    · exact ⟨_, rfl, _, _, rfl, kd, _, rfl, tru (by rw [decide_eq_false ne]; rfl) (tru rfl q)⟩
    · exact ⟨_, rfl, _, _, rfl, kd_int n, _, rfl, fls (by decide) ⟨_, rfl, _, _, rfl, rfl, _, rfl, tru (decide_eq_true x) q⟩⟩
    · refine ⟨_, rfl, _, _, rfl, kd_int n, _, rfl, fls (by decide) ⟨_, rfl, _, _, rfl, rfl, _, rfl, fls (decide_eq_false (by omega)) ?_⟩⟩
      exact ⟨_, rfl, _, _, rfl, kd, _, rfl, tru (by rw [decide_eq_false ne]; rfl) (tru rfl q)⟩
    · refine ⟨_, rfl, _, _, rfl, kd_int n, _, rfl, fls (by decide) ⟨_, rfl, _, _, rfl, rfl, _, rfl, fls (decide_eq_false (by omega)) ?_⟩⟩
      exact ⟨_, rfl, _, _, rfl, kd_int k, _, rfl, fls (by decide) ⟨_, rfl, _, rfl, _, _, rfl, rfl, _, rfl, tru (decide_eq_true (by omega)) (tru rfl q)⟩⟩
    · refine ⟨_, rfl, _, _, rfl, kd_int n, _, rfl, fls (by decide) ⟨_, rfl, _, _, rfl, rfl, _, rfl, fls (decide_eq_false (by omega)) ?_⟩⟩
      by_cases hk : k < -1
      · exact ⟨_, rfl, _, _, rfl, kd_int k, _, rfl, fls (by decide) ⟨_, rfl, _, rfl, _, _, rfl, rfl, _, rfl, tru (decide_eq_true (by omega)) (tru rfl q)⟩⟩
      · exact ⟨_, rfl, _, _, rfl, kd_int k, _, rfl, fls (by decide) ⟨_, rfl, _, rfl, _, _, rfl, rfl, _, rfl, fls (decide_eq_false (by omega)) ⟨_, rfl, _, rfl, _, _, rfl, rfl, _, rfl, tru (decide_eq_true (by omega)) q⟩⟩⟩
    · refine ⟨_, rfl, _, _, rfl, kd_int n, _, rfl, fls (by decide) ⟨_, rfl, _, _, rfl, rfl, _, rfl, fls (decide_eq_false (by omega)) ?_⟩⟩
      refine ⟨_, rfl, _, _, rfl, kd_int k, _, rfl, fls (by decide) ⟨_, rfl, _, rfl, _, _, rfl, rfl, _, rfl, fls (decide_eq_false (by omega)) ⟨_, rfl, _, rfl, _, _, rfl, rfl, _, rfl, fls (decide_eq_false (by omega)) ?_⟩⟩⟩
      exact ⟨_, rfl, _, _, _, _, rfl, kd.2, T t kd.1 "bool" (by decide), _, rfl, tru (by rw [nb t ne]; rfl) q⟩
def spCMA (K : PySem.W.Frag) (c : Addr) : Sp := fun vs H Q E => spCM vs H Q E ∨ spCMb K c vs H Q E
def JBad (K : PySem.W.Frag) (e : EA) (H : Hp) (m l r : V) (C : Addr) : Prop := (MBad K H m ∧ C = e.marks) ∨ ∃ z, m = .str z ∧ MkOk z ∧ WBad K H z.length l r ∧ C = e.weigh
def spJdb (K : PySem.W.Frag) (e : EA) : Sp := fun vs H _ E => ∃ m l r C, vs = [m, l, r] ∧ JBad K e H m l r C ∧ ∀ H', Same H H' → E (.ref C) none H'
theorem ok_jdb {f : Addr} {fd : FuncData} (F : Fun K "judged" "judged" (top 25) f fd) (B : Blt mg) (c_check_marks : Can P w K mg base (CXE false P w) 1 "check_marks" ["marks"] (spCMA K e.marks)) (c_check_weighing : Can P w K mg base (CXE false P w) 3 "check_weighing" ["highest", "left", "right"] (spCWA K e.weigh)) :
    FnOk P w K mg base (CXE false P w) 4 f fd ["marks", "left", "right"] (spJdb K e) := by
  refine F.okE scJd (fun vs H Q E h => ?_) (fun cdv A outer s H vs Q E hr h L pass => ?_)
  · obtain ⟨m, l, r, C, rfl, _⟩ := h; rfl
  · obtain ⟨m, l, r, C, rfl, bad, k⟩ := h
    refine ⟨_, (pss_cons (ps_expr (pe_can c_check_marks (hr.mono (by decide)) pass (pa_cons (pv 0) pa_nil)))
      (pss_cons (ps_expr (pe_can c_check_weighing (hr.mono (by decide)) pass (pa_cons (pe_callB call_len_str (by rfl) B.len boot_lenB (pa_cons (pv 0) pa_nil)) (pa_cons (pv 1) (pa_cons (pv 2) pa_nil))))) pss_never)), ?_⟩
    rcases bad with ⟨bad, rfl⟩ | ⟨z, rfl, M, bad, rfl⟩
    · exact ⟨_, rfl, .inr ⟨m, rfl, bad, k H (Same.refl H)⟩⟩
    · refine ⟨_, rfl, .inl ⟨z, rfl, M, ?_⟩⟩
      have hz : z.length ≤ sizeLine := Nat.le_trans M.len (by decide)
      exact ⟨_, rfl, z, rfl, hz, _, rfl, _, rfl, cwa_bad bad k⟩
def spJdA (K : PySem.W.Frag) (e : EA) : Sp := fun vs H Q E => spJd e.weigh vs H Q E ∨ spJdb K e vs H Q E
def BBad (K : PySem.W.Frag) (e : EA) (H : Hp) (m l r o : V) (C : Addr) : Prop := JBad K e H m l r C ∨ ∃ z a b, m = .str z ∧ MkOk z ∧ l = .ref a ∧ r = .ref b ∧ H a = some (.lst []) ∧ H b = some (.lst []) ∧ ((OBad K H o ∧ C = e.out) ∨ ∃ p, p ≠ P3.E ∧ o = .str (p3 p) ∧ C = e.never)
def spBhb (K : PySem.W.Frag) (e : EA) : Sp := fun vs H _ E => ∃ m l r o C, vs = [m, l, r, o] ∧ BBad K e H m l r o C ∧ ∀ H', Same H H' → E (.ref C) none H'
theorem sc_behind : FnScope ["marks", "left", "right", "outcome", "counts", "places"] ["marks", "left", "right", "outcome"] (defScope (top 26)) := ⟨rfl, rfl, rfl, by decide +kernel, rfl, by decide +kernel, by decide +kernel⟩
theorem ok_bhb {f : Addr} {fd : FuncData} (F : Fun K "behind" "behind" (top 26) f fd) (Er : Errs K mg e) (O : Outs K mg) (c_judged : Can P w K mg base (CXE false P w) 4 "judged" ["marks", "left", "right"] (spJdA K e)) (c_check_outcome : Can P w K mg base (CXE false P w) 1 "check_outcome" ["outcome"] (spCO K e.out)) :
    FnOk P w K mg base (CXE false P w) 5 f fd ["marks", "left", "right", "outcome"] (spBhb K e) := by
  refine F.okE sc_behind (fun vs H Q E h => ?_) (fun cdv A outer s H vs Q E hr h L pass => ?_)
  · obtain ⟨m, l, r, o, C, rfl, _⟩ := h; rfl
  · obtain ⟨m, l, r, o, C, rfl, bad, k⟩ := h
    obtain ⟨d_OUTCOMES, ob, its, n, m_OUTCOMES, m2, m3, m4, m5, m6⟩ := O
    refine ⟨_, (pss_cons (ps_set (i := 4) sc_behind.nd rfl (Or.inl rfl) (pe_can c_judged (hr.mono (by decide)) pass (pa_cons (pv 0) (pa_cons (pv 1) (pa_cons (pv 2) pa_nil)))))
      (pss_cons (ps_expr (pe_can c_check_outcome (hr.mono (by decide)) pass (pa_cons (pv 3) pa_nil)))
      (pss_cons (ps_if (pt_cmpR op_eq (pe_ix ix_tup (pv 4) (pe_bm PySem.F.plainAttrs_tuple PySem.F.slot_tuple_index PySem.F.type_tuple_index mt_tidx (pe_glob (v := .ref d_OUTCOMES) (by rfl) m_OUTCOMES rfl) (pa_cons (pv 3) pa_nil)) (fun _ _ => rfl)) pe_int (nomark _)) (pss_one (ps_raise L rfl rfl (by rfl) Er.m_never Er.x4)) pss_nil)
      pss_never))), ?_⟩
    rcases bad with bad | ⟨z, a, b, rfl, M, rfl, rfl, ha, hb, bad⟩
    · exact ⟨_, rfl, _, rfl, _, rfl, .inr ⟨m, l, r, C, rfl, bad, k⟩⟩
    · refine ⟨_, rfl, _, rfl, _, rfl, .inl ⟨z, a, b, [], [], rfl, M, ha, hb, by decide, by decide, (fun z => nomatch z), fun _ H1 t s1 ht e1 => ?_⟩⟩
      rcases bad with ⟨bad, rfl⟩ | ⟨p, hp, rfl, rfl⟩
      · exact ⟨_, rfl, o, rfl, .inr ⟨bad.same s1, k H1 s1⟩⟩
      · refine ⟨_, rfl, _, rfl, .inl ⟨p, rfl, ?_⟩⟩
        have at1 : atI [V.int (jd z [] [] .L), V.int (jd z [] [] .R), V.int (jd z [] [] .E)] (oix p) = some (V.int (jd z [] [] p)) := by cases p <;> rfl
        refine ⟨_, rfl, .inr (.inl ⟨rfl, ob, m2, m3, m4⟩), _, rfl, d_OUTCOMES, _, _, oix p, rfl, rfl, outs_sq m2 m3 m5 m6, rfl, rfl, outs_hit p, outs_no p, t, _, _, _, rfl, rfl, SqT.of e1, at1, rfl, _, rfl, ?_⟩
        exact tru (by rw [jd_none z hp]; rfl) (k H1 s1)
def DBad (K : PySem.W.Frag) (e : EA) (H : Hp) (c o h l r : V) (C : Addr) : Prop := (CBad K H c o h ∧ C = e.bcoin) ∨ (COk c o h ∧ ∃ n, c = .int n ∧ WBad K H n l r ∧ C = e.weigh)
def spWdb (K : PySem.W.Frag) (e : EA) : Sp := fun vs H _ E => ∃ c o h l r C, vs = [c, o, h, l, r] ∧ DBad K e H c o h l r C ∧ ∀ H', Same H H' → E (.ref C) none H'
theorem sc_weighed : FnScope ["coins", "odd", "heavy", "left", "right"] ["coins", "odd", "heavy", "left", "right"] (defScope (top 27)) := ⟨rfl, rfl, rfl, by decide +kernel, rfl, by decide +kernel, by decide +kernel⟩
theorem ok_wdb {f : Addr} {fd : FuncData} (F : Fun K "weighed" "weighed" (top 27) f fd) (c_check_odd : Can P w K mg base (CXE false P w) 2 "check_odd" ["coins", "odd", "heavy"] (spOd K e.bcoin)) (c_check_weighing : Can P w K mg base (CXE false P w) 3 "check_weighing" ["highest", "left", "right"] (spCWA K e.weigh)) :
    FnOk P w K mg base (CXE false P w) 4 f fd ["coins", "odd", "heavy", "left", "right"] (spWdb K e) := by
  refine F.okE sc_weighed (fun vs H Q E h => ?_) (fun cdv A outer s H vs Q E hr h L pass => ?_)
  · obtain ⟨c, o, h, l, r, C, rfl, _⟩ := h; rfl
  · obtain ⟨c, o, h, l, r, C, rfl, bad, k⟩ := h
    refine ⟨_, (pss_cons (ps_expr (pe_can c_check_odd (hr.mono (by decide)) pass (pa_cons (pv 0) (pa_cons (pv 1) (pa_cons (pv 2) pa_nil)))))
      (pss_cons (ps_expr (pe_can c_check_weighing (hr.mono (by decide)) pass (pa_cons (pv 0) (pa_cons (pv 3) (pa_cons (pv 4) pa_nil))))) pss_never)), ?_⟩
    rcases bad with ⟨bad, rfl⟩ | ⟨ok, n, rfl, bad, rfl⟩
    · exact ⟨_, rfl, _, rfl, _, rfl, _, _, _, rfl, .inr ⟨bad, k H (Same.refl H)⟩⟩
    · refine ⟨_, rfl, _, rfl, _, rfl, _, _, _, rfl, .inl ⟨ok, ?_⟩⟩
      exact ⟨_, rfl, _, rfl, _, rfl, cwa_bad bad k⟩
def spMb (K : PySem.W.Frag) (c : Addr) : Sp := fun vs H _ E => ∃ v, vs = [v] ∧ MBad K H v ∧ E (.ref c) none H
theorem ok_csb {f : Addr} {fd : FuncData} {c : Addr} (F : Fun K "cases" "cases" (top 29) f fd) (c_check_marks : Can P w K mg base (CXE false P w) 1 "check_marks" ["marks"] (spCMA K c)) : FnOk P w K mg base (CXE false P w) 2 f fd ["marks"] (spMb K c) := by
  refine F.okE sc_cases (fun vs H Q E h => ?_) (fun cdv A outer s H vs Q E hr h L pass => ?_)
  · obtain ⟨v, rfl, _⟩ := h; rfl
  · obtain ⟨v, rfl, bad, k⟩ := h
    exact ⟨_, pss_cons (ps_expr (pe_can c_check_marks (hr.mono (by decide)) pass (pa_cons (pv 0) pa_nil))) pss_never, _, rfl, .inr ⟨v, rfl, bad, k⟩⟩
def spCsA (K : PySem.W.Frag) (c : Addr) : Sp := fun vs H Q E => spCases vs H Q E ∨ spMb K c vs H Q E
theorem ok_fwb {f : Addr} {fd : FuncData} {c : Addr} (F : Fun K "fewest" "fewest" (top 31) f fd) (c_cases : Can P w K mg base (CXE false P w) 2 "cases" ["marks"] (spCsA K c)) : FnOk P w K mg base (CXE false P w) 3 f fd ["marks"] (spMb K c) := by
  refine F.okE sc_fewest (fun vs H Q E h => ?_) (fun cdv A outer s H vs Q E hr h L pass => ?_)
  · obtain ⟨v, rfl, _⟩ := h; rfl
  · obtain ⟨v, rfl, bad, k⟩ := h
    exact ⟨_, pss_cons (ps_set (i := 1) sc_fewest.nd rfl (Or.inl rfl) (pe_can c_cases (hr.mono (by decide)) pass (pa_cons (pv 0) pa_nil))) pss_never, _, rfl, .inr ⟨v, rfl, bad, k⟩⟩
def spFwA (K : PySem.W.Frag) (c : Addr) : Sp := fun vs H Q E => spFew vs H Q E ∨ spMb K c vs H Q E
theorem sc_told : FnScope ["marks", "many"] ["marks"] (defScope (top 43)) := ⟨rfl, rfl, rfl, by decide +kernel, rfl, by decide +kernel, by decide +kernel⟩
theorem ok_tdb {f : Addr} {fd : FuncData} {c : Addr} (F : Fun K "told" "told" (top 43) f fd) (c_fewest : Can P w K mg base (CXE false P w) 3 "fewest" ["marks"] (spFwA K c)) : FnOk P w K mg base (CXE false P w) 4 f fd ["marks"] (spMb K c) := by
  refine F.okE sc_told (fun vs H Q E h => ?_) (fun cdv A outer s H vs Q E hr h L pass => ?_)
  · obtain ⟨v, rfl, _⟩ := h; rfl
  · obtain ⟨v, rfl, bad, k⟩ := h
    exact ⟨_, pss_cons (ps_set (i := 1) sc_told.nd rfl (Or.inl rfl) (pe_can c_fewest (hr.mono (by decide)) pass (pa_cons (pv 0) pa_nil))) pss_never, _, rfl, .inr ⟨v, rfl, bad, k⟩⟩
end
end Ks
end
section
namespace L2
open PySem PySem.Spec PyProof.Rows
end L2
namespace Ks
open PySem L2 Mir
structure Glb (mg : Str → Option Value) : Prop where
  high : ∃ t, mg "HIGHEST" = some (.int 999999999 t)
  betw : ∃ t, mg "BETWEEN_SIDES" = some (.str " | " t)
  none : ∃ t, mg "NONE" = some (.str "-" t)
section
variable {P : Program} {w : World} {K : PySem.W.Frag} {mg : Str → Option Value} {base : Heap} {e : EA}
theorem s_0 : Str.ofString (toString (0 : Int)) = "0" := by decide +kernel
theorem s_9 : Str.ofString (toString (999999999 : Int)) = "999999999" := by decide +kernel
def spSW : Sp := fun vs H Q _ => ∃ (a : Addr) (k : Int) (z : Str), vs = [.ref a] ∧ H a = some (.lst [.int k]) ∧ 0 ≤ k ∧ k ≤ 999999999 ∧ Str.ofString (toString k) = z ∧ z.length ≤ 20 ∧ Txt.join " " [z] = z ∧ ∀ H', Same H H' → Q (.str z) H'
theorem sc_side_written : FnScope ["side"] ["side"] (defScope (top 48)) := ⟨rfl, rfl, rfl, by decide +kernel, rfl, by decide +kernel, by decide +kernel⟩
theorem log_small {i : Int} (h : 0 ≤ i ∧ i ≤ 999999999) : i.natAbs.log2 < 1920 := by
  by_cases h0 : i.natAbs = 0
  · rw [h0]; decide
  · exact (Nat.log2_lt h0).mpr (Nat.lt_of_le_of_lt (show i.natAbs ≤ 999999999 by omega) (by decide))
theorem ok_side_written {f : Addr} {fd : FuncData} (F : Fun K "side_written" "side_written" (top 48) f fd) (B : Blt mg) : FnOk P w K mg base CX0 1 f fd ["side"] spSW := by
  refine F.ok sc_side_written (fun vs H Q E h => ?_) (fun cdv A outer s H vs Q E hr h => ?_)
  · obtain ⟨a, k, z, rfl, _⟩ := h; rfl
  · obtain ⟨a, k, z, rfl, ha, h0, h9, hz, hlen, hj, q⟩ := h
    refine ⟨_, (pss_one (ps_ret (pe_bm PySem.F.plainAttrs_str PySem.F.slot_str_join PySem.F.type_str_join mt_join pe_str (pa_cons (pe_comp (N := ["side"]) (sc0 := defScope (top 48)) ["coin"] [] [] rfl rfl rfl ⟨rfl, by decide +kernel, by decide +kernel, by decide +kernel, rfl, by decide +kernel⟩ (pi_list (pv 0)) (fun _ _ _ _ => (pg_name (i := 0) (by decide +kernel : (["coin"] : List Str).Nodup) rfl (Or.inl rfl) (.inr rfl))) (fun _ _ _ _ => (pe_callTy call_str_int (by rfl) B.str boot_strT (pa_cons (pv 0) pa_nil)))) pa_nil)))), ?_⟩
    refine ⟨rfl, _, rfl, a, rfl, ⟨_, SqL.of ha⟩, fun p hp => comp_list hp ha (by show 1 < sizeLine; decide) (fun _ => .str z) (fun σ' => ∃ v0, σ' = [v0]) ⟨none, rfl⟩ ?_ ?_⟩
    · rintro i x σ' H' hx ⟨v0, rfl⟩ sm KK kk
      have hx' : x = .int k := by
        cases i with
        | zero => exact (Option.some.inj hx).symm
        | succ i => simp at hx
      subst hx'
      refine ⟨_, rfl, k, rfl, log_small ⟨h0, h9⟩, ?_⟩
      have := kk [some (.int k)] H' ⟨_, rfl⟩ (Same.refl _)
      rw [← hz] at this
      exact this
    · intro H' sm hq
      refine ⟨_, p, [z], rfl, rfl, SqL.of hq, ?_, ?_⟩
      · have e1 : (" " : Str).length = 1 := by decide +kernel
        simp; rw [e1]; omega
      · rw [hj]; exact q H' sm
def spWr (K : PySem.W.Frag) (e : EA) : Sp := fun vs H Q E => ∃ l r, vs = [l, r] ∧ ((WBad K H 999999999 l r ∧ ∀ H', Same H H' → E (.ref e.weigh) none H') ∨ (∃ a b, l = .ref a ∧ r = .ref b ∧ H a = some (.lst [.int 0]) ∧ H b = some (.lst [.int 999999999]) ∧ ∀ H', Same H H' → Q (.str "0 | 999999999") H'))
theorem sc_written : FnScope ["left", "right"] ["left", "right"] (defScope (top 49)) := ⟨rfl, rfl, rfl, by decide +kernel, rfl, by decide +kernel, by decide +kernel⟩
theorem cat_09 : (("0" : Str) ++ " | ") ++ "999999999" = "0 | 999999999" := by decide +kernel
theorem ok_wr {f : Addr} {fd : FuncData} (F : Fun K "written" "written" (top 49) f fd) (B : Blt mg) (G : Glb mg) (c_check_weighing : Can P w K mg base (CXE false P w) 3 "check_weighing" ["highest", "left", "right"] (spCWA K e.weigh))
    (c_side_written : Can P w K mg base CX0 1 "side_written" ["side"] spSW) : FnOk P w K mg base (CXE false P w) 4 f fd ["left", "right"] (spWr K e) := by
  refine F.okE sc_written (fun vs H Q E h => ?_) (fun cdv A outer s H vs Q E hr h L pass => ?_)
  · obtain ⟨l, r, rfl, _⟩ := h; rfl
  · obtain ⟨l, r, rfl, h⟩ := h
    obtain ⟨t1, m_HIGHEST⟩ := G.high
    obtain ⟨t2, m_NONE⟩ := G.none
    obtain ⟨t3, m_BETWEEN_SIDES⟩ := G.betw
    refine ⟨_, (pss_cons (ps_expr (pe_can c_check_weighing (hr.mono (by decide)) pass (pa_cons (pe_glob (v := .int 999999999) (by rfl) m_HIGHEST ⟨_, rfl⟩) (pa_cons (pv 0) (pa_cons (pv 1) pa_nil)))))
      (pss_cons (ps_if (pt_cmpR op_eq (pe_callB call_len_seq (by rfl) B.len boot_lenB (pa_cons (pv 0) pa_nil)) pe_int (nomark _)) (pss_one (ps_ret (pe_glob (v := .str "-") (by rfl) m_NONE ⟨_, rfl⟩))) pss_nil)
      (pss_one (ps_ret (pe_op op_add_str (pe_op op_add_str (pe_can c_side_written (hr.mono (by decide)) pass0 (pa_cons (pv 0) pa_nil)) (pe_glob (v := .str " | ") (by rfl) m_BETWEEN_SIDES ⟨_, rfl⟩)) (pe_can c_side_written (hr.mono (by decide)) pass0 (pa_cons (pv 1) pa_nil))))))), ?_⟩
    rcases h with ⟨bad, k⟩ | ⟨a, b, rfl, rfl, ha, hb, q⟩
    · exact ⟨_, rfl, _, rfl, cwa_bad bad k⟩
    · refine ⟨_, rfl, _, rfl, .inl ⟨999999999, a, b, [0], [999999999], rfl, ha, hb, by decide, by decide, fun _ H1 s1 => ?_, fun z => ?_⟩⟩
      · refine ⟨_, rfl, a, _, rfl, .inl (SqL.of (s1 _ _ ha)), rfl, _, rfl, fls (by decide) ?_⟩
        refine ⟨_, rfl, a, 0, "0", rfl, s1 _ _ ha, by decide, by decide, s_0, by decide +kernel, by decide +kernel, fun H2 s2 => ?_⟩
        refine ⟨_, _, rfl, rfl, by decide +kernel, _, rfl, b, 999999999, "999999999", rfl, s2 _ _ (s1 _ _ hb), by decide, by decide, s_9, by decide +kernel, by decide +kernel, fun H3 s3 => ?_⟩
        refine ⟨_, _, rfl, rfl, by decide +kernel, ?_⟩
        rw [cat_09]
        exact q H3 ((s1.trans s2).trans s3)
      · have : cwOk 999999999 [0] [999999999] = true := by decide +kernel
        rw [this] at z; cases z
def spWM (K : PySem.W.Frag) (e : EA) : Sp := fun vs H _ E => ∃ (d : Int) (v : V), vs = [.int d, v] ∧ 0 ≤ d ∧ d < 5 ∧ MBad K H v ∧ ∀ H', Same H H' → E (.ref e.marks) none H'
theorem sc_wM : FnScope ["_law_door", "_law_marks_here"] ["_law_door", "_law_marks_here"] (defScope (top 61)) := ⟨rfl, rfl, rfl, by decide +kernel, rfl, by decide +kernel, by decide +kernel⟩
theorem ok_wM {f : Addr} {fd : FuncData} (F : Fun K "_law_with_marks" "_law_with_marks" (top 61) f fd) (c_cases : Can P w K mg base (CXE false P w) 2 "cases" ["marks"] (spCsA K e.marks)) (c_fewest : Can P w K mg base (CXE false P w) 3 "fewest" ["marks"] (spFwA K e.marks)) (c_told : Can P w K mg base (CXE false P w) 4 "told" ["marks"] (spMb K e.marks))
    (c_behind : Can P w K mg base (CXE false P w) 5 "behind" ["marks", "left", "right", "outcome"] (spBhb K e)) (c_judged : Can P w K mg base (CXE false P w) 4 "judged" ["marks", "left", "right"] (spJdA K e)) : FnOk P w K mg base (CXE false P w) 6 f fd ["_law_door", "_law_marks_here"] (spWM K e) := by
  refine F.okE sc_wM (fun vs H Q E h => ?_) (fun cdv A outer s H vs Q E hr h L pass => ?_)
  · obtain ⟨d, v, rfl, _⟩ := h; rfl
  · obtain ⟨d, v, rfl, h0, h5, bad, k⟩ := h
    refine ⟨_, (pss_cons (ps_if (pt_cmpR op_lt (pv 0) pe_int (nomark _)) (pss_one (ps_ret (pe_ifExp (pt_cmpR op_eq (pv 0) pe_int (nomark _)) (pe_can c_cases (hr.mono (by decide)) pass (pa_cons (pv 1) pa_nil)) (pe_ifExp (pt_cmpR op_eq (pv 0) pe_int (nomark _)) (pe_can c_fewest (hr.mono (by decide)) pass (pa_cons (pv 1) pa_nil)) (pe_can c_told (hr.mono (by decide)) pass (pa_cons (pv 1) pa_nil)))))) pss_nil)
      (pss_one (ps_ret (pe_ifExp (pt_cmpR op_eq (pv 0) pe_int (nomark _)) (pe_can c_behind (hr.mono (by decide)) pass (pa_cons (pv 1) (pa_cons pe_non (pa_cons pe_non (pa_cons pe_non pa_nil))))) (pe_can c_judged (hr.mono (by decide)) pass (pa_cons (pv 1) (pa_cons (pe_lst (pa_cons pe_int pa_nil)) (pa_cons (pe_lst pa_nil) pa_nil)))))))), ?_⟩
    have kk := k H (Same.refl H)
    refine ⟨_, rfl, _, _, rfl, rfl, _, rfl, ?_⟩
    have dd : d = 0 ∨ d = 1 ∨ d = 2 ∨ d = 3 ∨ d = 4 := by omega
    rcases dd with rfl | rfl | rfl | rfl | rfl
    · exact tru (by decide) ⟨_, rfl, rfl, _, rfl, tru (by decide) ⟨_, rfl, .inr ⟨v, rfl, bad, kk⟩⟩⟩
    · exact tru (by decide) ⟨_, rfl, rfl, _, rfl, fls (by decide) ⟨_, rfl, rfl, _, rfl, tru (by decide) ⟨_, rfl, .inr ⟨v, rfl, bad, kk⟩⟩⟩⟩
    · exact tru (by decide) ⟨_, rfl, rfl, _, rfl, fls (by decide) ⟨_, rfl, rfl, _, rfl, fls (by decide) ⟨_, rfl, v, rfl, bad, kk⟩⟩⟩
    · exact fls (by decide) ⟨_, rfl, rfl, _, rfl, tru (by decide) ⟨_, rfl, v, .non, .non, .non, e.marks, rfl, .inl (.inl ⟨bad, rfl⟩), k⟩⟩
    · refine fls (by decide) ⟨_, rfl, rfl, _, rfl, fls (by decide) ⟨_, rfl, by show 1 ≤ sizeLine; decide, fun p hp => ⟨by show 0 ≤ sizeLine; decide, fun p2 hp2 => ?_⟩⟩⟩
      have s2 : Same H (upd (upd H p (.lst [.int 0])) p2 (.lst [])) := (Same.upd0 hp).upd hp2
      exact .inr ⟨v, _, _, e.marks, rfl, .inl ⟨bad.same s2, rfl⟩, fun H' s' => k H' (s2.trans s')⟩
end
end Ks
end
section
namespace Ks
open PySem L2 Mir
section
variable {P : Program} {w : World} {K : PySem.W.Frag} {mg : Str → Option Value} {base : Heap} {e : EA}
def spWW (K : PySem.W.Frag) (e : EA) : Sp := fun vs H _ E => ∃ (z : Str) (p : Addr) (l r : V), vs = [.str z, .ref p] ∧ MkOk z ∧ H p = some (.tup [l, r]) ∧ WBad K H z.length l r ∧ ∀ H', Same H H' → E (.ref e.weigh) none H'
theorem sc_wW : FnScope ["_law_marks_here", "_law_pair"] ["_law_marks_here", "_law_pair"] (defScope (top 62)) := ⟨rfl, rfl, rfl, by decide +kernel, rfl, by decide +kernel, by decide +kernel⟩
theorem ok_wW {f : Addr} {fd : FuncData} (F : Fun K "_law_with_weighing" "_law_with_weighing" (top 62) f fd) (c_behind : Can P w K mg base (CXE false P w) 5 "behind" ["marks", "left", "right", "outcome"] (spBhb K e)) : FnOk P w K mg base (CXE false P w) 6 f fd ["_law_marks_here", "_law_pair"] (spWW K e) := by
  refine F.okE sc_wW (fun vs H Q E h => ?_) (fun cdv A outer s H vs Q E hr h L pass => ?_)
  · obtain ⟨z, p, l, r, rfl, _⟩ := h; rfl
  · obtain ⟨z, p, l, r, rfl, M, hp, bad, k⟩ := h
    refine ⟨_, pss_one (ps_ret (pe_can c_behind (hr.mono (by decide)) pass (pa_cons (pv 0) (pa_cons (pe_ix ix_tup (pv 1) pe_int (fun _ _ => rfl)) (pa_cons (pe_ix ix_tup (pv 1) pe_int (fun _ _ => rfl)) (pa_cons pe_str pa_nil)))))), ?_⟩
    exact ⟨_, rfl, _, rfl, p, _, 0, l, rfl, rfl, SqT.of hp, rfl, _, rfl, p, _, 1, r, rfl, rfl, SqT.of hp, rfl, _, _, _, _, e.weigh, rfl, .inl (.inr ⟨z, rfl, M, bad, rfl⟩), k⟩
theorem sc_wJ : FnScope ["_law_marks_here", "_law_pair"] ["_law_marks_here", "_law_pair"] (defScope (top 63)) := ⟨rfl, rfl, rfl, by decide +kernel, rfl, by decide +kernel, by decide +kernel⟩
theorem ok_wJ {f : Addr} {fd : FuncData} (F : Fun K "_law_with_judged" "_law_with_judged" (top 63) f fd) (c_judged : Can P w K mg base (CXE false P w) 4 "judged" ["marks", "left", "right"] (spJdA K e)) : FnOk P w K mg base (CXE false P w) 6 f fd ["_law_marks_here", "_law_pair"] (spWW K e) := by
  refine F.okE sc_wJ (fun vs H Q E h => ?_) (fun cdv A outer s H vs Q E hr h L pass => ?_)
  · obtain ⟨z, p, l, r, rfl, _⟩ := h; rfl
  · obtain ⟨z, p, l, r, rfl, M, hp, bad, k⟩ := h
    refine ⟨_, pss_one (ps_ret (pe_can c_judged (hr.mono (by decide)) pass (pa_cons (pv 0) (pa_cons (pe_ix ix_tup (pv 1) pe_int (fun _ _ => rfl)) (pa_cons (pe_ix ix_tup (pv 1) pe_int (fun _ _ => rfl)) pa_nil))))), ?_⟩
    exact ⟨_, rfl, _, rfl, p, _, 0, l, rfl, rfl, SqT.of hp, rfl, _, rfl, p, _, 1, r, rfl, rfl, SqT.of hp, rfl, .inr ⟨_, _, _, e.weigh, rfl, .inr ⟨z, rfl, M, bad, rfl⟩, k⟩⟩
def spWD (K : PySem.W.Frag) (e : EA) : Sp := fun vs H _ E => ∃ (n : Int) (p : Addr) (l r : V), vs = [.int n, .ref p] ∧ 0 ≤ n ∧ H p = some (.tup [l, r]) ∧ WBad K H n l r ∧ ∀ H', Same H H' → E (.ref e.weigh) none H'
theorem sc_wD : FnScope ["_law_coins", "_law_pair"] ["_law_coins", "_law_pair"] (defScope (top 64)) := ⟨rfl, rfl, rfl, by decide +kernel, rfl, by decide +kernel, by decide +kernel⟩
theorem ok_wD {f : Addr} {fd : FuncData} (F : Fun K "_law_with_weighed" "_law_with_weighed" (top 64) f fd) (c_weighed : Can P w K mg base (CXE false P w) 4 "weighed" ["coins", "odd", "heavy", "left", "right"] (spWdb K e)) : FnOk P w K mg base (CXE false P w) 6 f fd ["_law_coins", "_law_pair"] (spWD K e) := by
  refine F.okE sc_wD (fun vs H Q E h => ?_) (fun cdv A outer s H vs Q E hr h L pass => ?_)
  · obtain ⟨n, p, l, r, rfl, _⟩ := h; rfl
  · obtain ⟨n, p, l, r, rfl, h0, hp, bad, k⟩ := h
    refine ⟨_, pss_one (ps_ret (pe_can c_weighed (hr.mono (by decide)) pass (pa_cons (pv 0) (pa_cons (pe_un un_neg pe_int) (pa_cons pe_bl (pa_cons (pe_ix ix_tup (pv 1) pe_int (fun _ _ => rfl)) (pa_cons (pe_ix ix_tup (pv 1) pe_int (fun _ _ => rfl)) pa_nil))))))), ?_⟩
    exact ⟨_, rfl, _, rfl, _, rfl, p, _, 0, l, rfl, rfl, SqT.of hp, rfl, _, rfl, p, _, 1, r, rfl, rfl, SqT.of hp, rfl, _, _, _, _, _, e.weigh, rfl, .inr ⟨⟨n, -1, true, rfl, rfl, rfl, h0, by decide, by omega⟩, n, rfl, bad, rfl⟩, k⟩
def spWT (K : PySem.W.Frag) (e : EA) : Sp := fun vs H _ E => ∃ (v : V) (p : Addr) (l r : V), vs = [v, .ref p] ∧ H p = some (.tup [l, r]) ∧ WBad K H 999999999 l r ∧ ∀ H', Same H H' → E (.ref e.weigh) none H'
theorem sc_wT : FnScope ["_law_nothing", "_law_pair"] ["_law_nothing", "_law_pair"] (defScope (top 65)) := ⟨rfl, rfl, rfl, by decide +kernel, rfl, by decide +kernel, by decide +kernel⟩
theorem ok_wT {f : Addr} {fd : FuncData} (F : Fun K "_law_with_written" "_law_with_written" (top 65) f fd) (c_written : Can P w K mg base (CXE false P w) 4 "written" ["left", "right"] (spWr K e)) : FnOk P w K mg base (CXE false P w) 6 f fd ["_law_nothing", "_law_pair"] (spWT K e) := by
  refine F.okE sc_wT (fun vs H Q E h => ?_) (fun cdv A outer s H vs Q E hr h L pass => ?_)
  · obtain ⟨v, p, l, r, rfl, _⟩ := h; rfl
  · obtain ⟨v, p, l, r, rfl, hp, bad, k⟩ := h
    refine ⟨_, pss_one (ps_ret (pe_can c_written (hr.mono (by decide)) pass (pa_cons (pe_ix ix_tup (pv 1) pe_int (fun _ _ => rfl)) (pa_cons (pe_ix ix_tup (pv 1) pe_int (fun _ _ => rfl)) pa_nil)))), ?_⟩
    exact ⟨_, rfl, p, _, 0, l, rfl, rfl, SqT.of hp, rfl, _, rfl, p, _, 1, r, rfl, rfl, SqT.of hp, rfl, _, _, rfl, .inl ⟨bad, k⟩⟩
def spWO (K : PySem.W.Frag) (e : EA) : Sp := fun vs H _ E => ∃ (z : Str) (o : V) (C : Addr), vs = [.str z, o] ∧ MkOk z ∧ ((OBad K H o ∧ C = e.out) ∨ ∃ p, p ≠ P3.E ∧ o = .str (p3 p) ∧ C = e.never) ∧ ∀ H', Same H H' → E (.ref C) none H'
theorem sc_wO : FnScope ["_law_marks_here", "_law_outcome"] ["_law_marks_here", "_law_outcome"] (defScope (top 66)) := ⟨rfl, rfl, rfl, by decide +kernel, rfl, by decide +kernel, by decide +kernel⟩
theorem ok_wO {f : Addr} {fd : FuncData} (F : Fun K "_law_with_outcome" "_law_with_outcome" (top 66) f fd) (c_behind : Can P w K mg base (CXE false P w) 5 "behind" ["marks", "left", "right", "outcome"] (spBhb K e)) : FnOk P w K mg base (CXE false P w) 6 f fd ["_law_marks_here", "_law_outcome"] (spWO K e) := by
  refine F.okE sc_wO (fun vs H Q E h => ?_) (fun cdv A outer s H vs Q E hr h L pass => ?_)
  · obtain ⟨z, o, C, rfl, _⟩ := h; rfl
  · obtain ⟨z, o, C, rfl, M, bad, k⟩ := h
    refine ⟨_, pss_one (ps_ret (pe_can c_behind (hr.mono (by decide)) pass (pa_cons (pv 0) (pa_cons (pe_lst pa_nil) (pa_cons (pe_lst pa_nil) (pa_cons (pv 1) pa_nil)))))), ?_⟩
    refine ⟨_, rfl, by show 0 ≤ sizeLine; decide, fun p1 hp1 => ⟨by show 0 ≤ sizeLine; decide, fun p2 hp2 => ⟨_, rfl, ?_⟩⟩⟩
    have s2 : Same H (upd (upd H p1 (.lst [])) p2 (.lst [])) := (Same.upd0 hp1).upd hp2
    have n12 : p1 ≠ p2 := fun z => by rw [← z, upd_same] at hp2; cases hp2
    refine ⟨_, _, _, _, C, rfl, .inr ⟨z, p1, p2, rfl, M, rfl, rfl, by rw [upd_ne n12]; exact upd_same, upd_same, ?_⟩, fun H' s' => k H' (s2.trans s')⟩
    exact bad.imp (fun ⟨a, b⟩ => ⟨a.same s2, b⟩) id
def spWC (K : PySem.W.Frag) (e : EA) : Sp := fun vs H _ E => ∃ (c o : V), vs = [c, o] ∧ CBad K H c o (.bl true) ∧ ∀ H', Same H H' → E (.ref e.bcoin) none H'
theorem sc_wC : FnScope ["_law_coins", "_law_odd"] ["_law_coins", "_law_odd"] (defScope (top 67)) := ⟨rfl, rfl, rfl, by decide +kernel, rfl, by decide +kernel, by decide +kernel⟩
theorem ok_wC {f : Addr} {fd : FuncData} (F : Fun K "_law_with_coins" "_law_with_coins" (top 67) f fd) (c_weighed : Can P w K mg base (CXE false P w) 4 "weighed" ["coins", "odd", "heavy", "left", "right"] (spWdb K e)) : FnOk P w K mg base (CXE false P w) 6 f fd ["_law_coins", "_law_odd"] (spWC K e) := by
  refine F.okE sc_wC (fun vs H Q E h => ?_) (fun cdv A outer s H vs Q E hr h L pass => ?_)
  · obtain ⟨c, o, rfl, _⟩ := h; rfl
  · obtain ⟨c, o, rfl, bad, k⟩ := h
    refine ⟨_, pss_one (ps_ret (pe_can c_weighed (hr.mono (by decide)) pass (pa_cons (pv 0) (pa_cons (pv 1) (pa_cons pe_bl (pa_cons pe_non (pa_cons pe_non pa_nil))))))), ?_⟩
    exact ⟨_, rfl, _, rfl, _, _, _, _, _, e.bcoin, rfl, .inl ⟨bad, rfl⟩, k⟩
def spWH (K : PySem.W.Frag) (e : EA) : Sp := fun vs H _ E => ∃ (n : Int) (h : V) (t : String), vs = [.int n, h] ∧ 0 ≤ n ∧ Kd K H h t ∧ t ≠ "bool" ∧ ∀ H', Same H H' → E (.ref e.bcoin) none H'
theorem sc_wH : FnScope ["_law_coins", "_law_heavy"] ["_law_coins", "_law_heavy"] (defScope (top 68)) := ⟨rfl, rfl, rfl, by decide +kernel, rfl, by decide +kernel, by decide +kernel⟩
theorem ok_wH {f : Addr} {fd : FuncData} (F : Fun K "_law_with_truth" "_law_with_truth" (top 68) f fd) (c_weighed : Can P w K mg base (CXE false P w) 4 "weighed" ["coins", "odd", "heavy", "left", "right"] (spWdb K e)) : FnOk P w K mg base (CXE false P w) 6 f fd ["_law_coins", "_law_heavy"] (spWH K e) := by
  refine F.okE sc_wH (fun vs H Q E h => ?_) (fun cdv A outer s H vs Q E hr h L pass => ?_)
  · obtain ⟨n, h, t, rfl, _⟩ := h; rfl
  · obtain ⟨n, h, t, rfl, h0, kd, ne, k⟩ := h
    refine ⟨_, pss_one (ps_ret (pe_can c_weighed (hr.mono (by decide)) pass (pa_cons (pv 0) (pa_cons (pe_un un_neg pe_int) (pa_cons (pv 1) (pa_cons pe_non (pa_cons pe_non pa_nil))))))), ?_⟩
    exact ⟨_, rfl, _, rfl, _, rfl, _, _, _, _, _, e.bcoin, rfl, .inl ⟨.inr ⟨n, rfl, .inr ⟨h0, .inr ⟨-1, rfl, .inr (.inr ⟨⟨by decide, by omega⟩, t, kd, ne⟩)⟩⟩⟩, rfl⟩, k⟩
def kinds (e : EA) (C : Addr) : List Bool := [decide (C = e.marks), decide (C = e.weigh), decide (C = e.out), decide (C = e.never), decide (C = e.bcoin), decide (C = e.text), true]
def spKi (e : EA) (a C : Addr) : Sp := fun vs H Q _ => vs = [.ref a] ∧ C ∈ e.six ∧ ∀ H' p, Same H H' → H p = none → H' p = some (.lst ((kinds e C).map V.bl)) → Q (.ref p) H'
theorem boot_valT : bootBuiltins "ValueError" = some (.type "ValueError") := by decide +kernel
theorem sc__law_kinds : FnScope ["_law_error", "_law_found"] ["_law_error"] (defScope (top 60)) := ⟨rfl, rfl, rfl, by decide +kernel, rfl, by decide +kernel, by decide +kernel⟩
theorem m1 (e : EA) : e.marks ∈ e.six := by simp [EA.six]
theorem m2 (e : EA) : e.weigh ∈ e.six := by simp [EA.six]
theorem m3 (e : EA) : e.out ∈ e.six := by simp [EA.six]
theorem m4 (e : EA) : e.never ∈ e.six := by simp [EA.six]
theorem m5 (e : EA) : e.bcoin ∈ e.six := by simp [EA.six]
theorem m6 (e : EA) : e.text ∈ e.six := by simp [EA.six]
theorem ok_ki {f : Addr} {fd : FuncData} (F : Fun K "_law_kinds" "_law_kinds" (top 60) f fd) (B : Blt mg) (Er : Errs K mg e) (A : Around) (outer : List Env) (s : Shared) (H : Hp) (args : Args) (us : List Value) (vs : List V) (Q : VK) (a C : Addr) (oe : Obj) (px : List (Addr × Obj))
    (hdp : A.depth < recursionLimit) (e0 : Env0 P w K mg base A outer s H) (hb : BindsTo s fd args ((["_law_error"] : List Str).zip us)) (r : Vals vs us) (hd : Held px a oe C) (hp : s.heap.get? a = some oe ∧ H a = none ∧ a ∉ frs outer ∧ ∀ v, oe.data ≠ .cell v) (h : spKi e a C vs H Q E0) :
    codeAny (model P w) A (.call (.ref f) args) (CR CX0 outer P w H s Q E0) s := by
  obtain ⟨rfl, hC, q⟩ := h
  refine fn_ofH F sc__law_kinds hdp e0 hb rfl r hp fun cdv => ?_
  refine ⟨_, (pss_cons (ps_set (i := 1) sc__law_kinds.nd rfl (Or.inl rfl) (pe_lst (pa_cons (pe_callB (call_isiH (a := a) rfl hd (Er.xc _ hC) List.mem_cons_self) (by rfl) B.isi boot_isi (pa_cons (pv 0) (pa_cons (pe_glob (v := .ref e.marks) (by rfl) Er.m_marks rfl) pa_nil))) (pa_cons (pe_callB (call_isiH (a := a) rfl hd (Er.xc _ hC) List.mem_cons_self) (by rfl) B.isi boot_isi (pa_cons (pv 0) (pa_cons (pe_glob (v := .ref e.weigh) (by rfl) Er.m_weigh rfl) pa_nil))) (pa_cons (pe_callB (call_isiH (a := a) rfl hd (Er.xc _ hC) List.mem_cons_self) (by rfl) B.isi boot_isi (pa_cons (pv 0) (pa_cons (pe_glob (v := .ref e.out) (by rfl) Er.m_out rfl) pa_nil))) pa_nil)))))
    (pss_cons (ps_set (i := 1) sc__law_kinds.nd rfl (Or.inl rfl) (pe_op op_cat (pv 1) (pe_lst (pa_cons (pe_callB (call_isiH (a := a) rfl hd (Er.xc _ hC) List.mem_cons_self) (by rfl) B.isi boot_isi (pa_cons (pv 0) (pa_cons (pe_glob (v := .ref e.never) (by rfl) Er.m_never rfl) pa_nil))) (pa_cons (pe_callB (call_isiH (a := a) rfl hd (Er.xc _ hC) List.mem_cons_self) (by rfl) B.isi boot_isi (pa_cons (pv 0) (pa_cons (pe_glob (v := .ref e.bcoin) (by rfl) Er.m_bcoin rfl) pa_nil))) (pa_cons (pe_callB (call_isiH (a := a) rfl hd (Er.xc _ hC) List.mem_cons_self) (by rfl) B.isi boot_isi (pa_cons (pv 0) (pa_cons (pe_glob (v := .ref e.text) (by rfl) Er.m_text rfl) pa_nil))) pa_nil))))))
    (pss_one (ps_ret (pe_op op_cat (pv 1) (pe_lst (pa_cons (pe_callB (call_isiH (a := a) rfl hd (Er.xc _ hC) List.mem_cons_self) (by rfl) B.isi boot_isi (pa_cons (pv 0) (pa_cons (pe_bltn (v := .ty "ValueError") (by rfl) Er.val boot_valT rfl) pa_nil))) pa_nil))))))), ?_⟩
  refine ⟨_, rfl, _, _, rfl, _, fun u h => h, Er.kit _ hC _ (m1 e), _, rfl, _, _, rfl, _, fun u h => h, Er.kit _ hC _ (m2 e), _, rfl, _, _, rfl, _, fun u h => h, Er.kit _ hC _ (m3 e), by show 3 ≤ sizeLine; decide, fun p1 hp1 => ?_⟩
  refine ⟨_, rfl, _, rfl, _, _, rfl, _, fun u h => h, Er.kit _ hC _ (m4 e), _, rfl, _, _, rfl, _, fun u h => h, Er.kit _ hC _ (m5 e), _, rfl, _, _, rfl, _, fun u h => h, Er.kit _ hC _ (m6 e), by show 3 ≤ sizeLine; decide, fun p2 hp2 => ?_⟩
  have n12 : p1 ≠ p2 := fun z => by rw [← z, upd_same] at hp2; cases hp2
  refine ⟨p1, p2, _, _, rfl, rfl, by rw [upd_ne n12]; exact upd_same, upd_same, by show 3 + 3 ≤ sizeLine; decide, fun p3 hp3 => ?_⟩
  refine ⟨_, rfl, _, rfl, _, _, rfl, _, fun u h => h, Er.kitV _ hC, by show 1 ≤ sizeLine; decide, fun p4 hp4 => ?_⟩
  have n34 : p3 ≠ p4 := fun z => by rw [← z, upd_same] at hp4; cases hp4
  refine ⟨p3, p4, _, _, rfl, rfl, by rw [upd_ne n34]; exact upd_same, upd_same, by show 3 + 3 + 1 ≤ sizeLine; decide, fun p5 hp5 => ?_⟩
  have s4 := ((((Same.upd0 (o := HO.lst [V.bl (decide (C = e.marks)), .bl (decide (C = e.weigh)), .bl (decide (C = e.out))]) hp1).upd (o := HO.lst [V.bl (decide (C = e.never)), .bl (decide (C = e.bcoin)), .bl (decide (C = e.text))]) hp2).upd hp3).upd (o := HO.lst [V.bl true]) hp4)
  exact q _ p5 (s4.upd hp5) (s4.free hp5) upd_same
def spTo (P : Program) (w : World) (K : PySem.W.Frag) (mg : Str → Option Value) (base : Heap) (e : EA) : Sp := fun vs H Q _ => ∃ f v u C, vs = [.ref f, v, u] ∧ C ∈ e.six ∧ PySem.W.keepIn K (.ref f) = true ∧ Raises P w K mg base 6 f [v, u] H C ∧ ∀ H' p, Same H H' → H p = none → H' p = some (.lst ((kinds e C).map V.bl)) → Q (.ref p) H'
theorem sc__law_told : FnScope ["_law_ask", "_law_one", "_law_other", "_law_error"] ["_law_ask", "_law_one", "_law_other"] (defScope (top 69)) := ⟨rfl, rfl, rfl, by decide +kernel, rfl, by decide +kernel, by decide +kernel⟩
theorem ok_to {f : Addr} {fd : FuncData} (F : Fun K "_law_told" "_law_told" (top 69) f fd) (Er : Errs K mg e) (c_kinds : CanH P w K mg base "_law_kinds" ["_law_error"] (spKi e)) : FnOk P w K mg base CX0 7 f fd ["_law_ask", "_law_one", "_law_other"] (spTo P w K mg base e) := by
  refine F.ok sc__law_told (fun vs H Q E h => ?_) (fun cdv A outer s H vs Q E hr h => ?_)
  · obtain ⟨f, v, u, C, rfl, _⟩ := h; rfl
  · obtain ⟨f, v, u, C, rfl, hC, hk, R, q⟩ := h
    refine ⟨_, pss_cons (ps_try (d := false) (B := e.coin) (· ∈ e.six) (i := 3) rfl rfl (by rfl) Er.m_coin sc__law_told.nd rfl rfl
      (fun F pn E' hp => pss_one (ps_expr (pe_ask (P := P) (w := w) (K := K) (mg := mg) (base := base) (i := 0) rfl rfl rfl rfl rfl hr hp (pa_cons (pv 1) (pa_cons (pv 2) pa_nil)))))
      (fun ad oe px C hC hd => pss_one (ps_ret (pe_canH c_kinds hr.depth hd List.mem_cons_self (pa_cons (pv 3) pa_nil)))))
      (pss_one (ps_ret (pe_lst pa_nil))), ?_⟩
    refine ⟨f, rfl, hk, _, rfl, _, rfl, C, R, fun H1 s1 => ?_⟩
    refine ⟨C, rfl, hC, Er.exm _ hC, fun ad => ?_⟩
    exact ⟨_, rfl, rfl, hC, fun H' p s' hp e' => q H' p (s1.trans s') (s1.free hp) e'⟩
def spAl (P : Program) (w : World) (K : PySem.W.Frag) (mg : Str → Option Value) (base : Heap) (e : EA) : Sp := fun vs H Q _ => ∃ (f : Addr) (v : V) (a d : Addr) (xs : List V) (C : Addr), vs = [.ref f, v, .ref a, .ref d] ∧ H a = some (.lst xs) ∧ xs.length ≤ 100 ∧ C ∈ e.six ∧ H d = some (.lst ((kinds e C).map V.bl)) ∧
  PySem.W.keepIn K (.ref f) = true ∧ (∀ x ∈ xs, ∀ H', Same H H' → Raises P w K mg base 6 f [v, x] H' C) ∧ ∀ H', Same H H' → Q (.bl true) H'
theorem boot_allB : bootBuiltins "all" = some (.builtin "all") := by decide +kernel
theorem sc__law_all : FnScope ["_law_ask", "_law_one", "_law_things", "_law_due"] ["_law_ask", "_law_one", "_law_things", "_law_due"] (defScope (top 70)) := ⟨rfl, rfl, rfl, by decide +kernel, rfl, by decide +kernel, by decide +kernel⟩
theorem kinds_eq (ks : List Bool) : eqVs (ks.map V.bl) (ks.map V.bl) = true := by
  induction ks with
  | nil => rfl
  | cons k ks ih => show (k == k && eqVs (ks.map V.bl) (ks.map V.bl)) = true; rw [ih]; simp
theorem kinds_flat (ks : List Bool) : (ks.map V.bl).all flatV = true := by
  induction ks with
  | nil => rfl
  | cons k ks ih => show (true && (ks.map V.bl).all flatV) = true; rw [ih]; rfl
theorem op_eqLK {X : Cx} {K : PySem.W.Frag} (hK : X.K = K) (hu : X.A.units < cLine) : OpR X (compareOp .Eq) (rEqL K) := hK ▸ op_eqL hu
theorem ok_al {f : Addr} {fd : FuncData} (F : Fun K "_law_all" "_law_all" (top 70) f fd) (B : Blt mg) (c__law_told : Can P w K mg base CX0 7 "_law_told" ["_law_ask", "_law_one", "_law_other"] (spTo P w K mg base e)) : FnOk P w K mg base CX0 8 f fd ["_law_ask", "_law_one", "_law_things", "_law_due"] (spAl P w K mg base e) := by
  refine F.ok sc__law_all (fun vs H Q E h => ?_) (fun cdv A outer s H vs Q E hr h => ?_)
  · obtain ⟨f, v, a, d, xs, C, rfl, _⟩ := h; rfl
  · obtain ⟨f, v, a, d, xs, C, rfl, ha, hl, hC, hd, hk, R, q⟩ := h
    have hu := hu_of hr
    refine ⟨_, (pss_one (ps_ret (pe_callB (call_allL rfl) (by rfl) B.all boot_allB (pa_cons (pe_comp (N := ["_law_ask", "_law_one", "_law_things", "_law_due"]) (sc0 := defScope (top 70)) ["_law_thing"] ["_law_due", "_law_ask", "_law_one"] [3, 0, 1] rfl rfl rfl ⟨rfl, by decide +kernel, by decide +kernel, by decide +kernel, rfl, by decide +kernel⟩ (pi_list (pv 2)) (fun _ _ _ _ => (pg_name (i := 0) (by decide +kernel : (["_law_thing", "_law_due", "_law_ask", "_law_one"] : List Str).Nodup) rfl (Or.inl rfl) (.inr rfl))) (fun _ _ _ _ => (pe_cmpR (op_eqLK (K := K) rfl hr.units0) (pe_can c__law_told (hr.mono (by decide)) pass0 (pa_cons (pv 2) (pa_cons (pv 3) (pa_cons (pv 0) pa_nil)))) (pv 1) (nomark _)))) pa_nil)))), ?_⟩
    refine ⟨_, rfl, a, rfl, ⟨_, SqL.of ha⟩, fun p hp => comp_list hp ha (Nat.lt_of_le_of_lt hl (by decide)) (fun _ => .bl true) (fun σ' => ∃ v0, σ' = [v0, some (.ref d), some (.ref f), some v]) ⟨none, rfl⟩ ?_ ?_⟩
    · rintro i x σ' H' hx ⟨v0, rfl⟩ sm KK kk
      refine ⟨_, rfl, _, rfl, _, rfl, f, v, x, C, rfl, hC, hk, R x (List.mem_of_getElem? hx) H' sm, fun H2 p2 s2 hp2 e2 => ?_⟩
      refine ⟨_, rfl, p2, d, _, _, rfl, rfl, SqL.of e2, SqL.of (s2 _ _ (sm _ _ hd)), kinds_flat _, kinds_flat _, ?_⟩
      rw [kinds_eq]
      exact kk _ H2 ⟨_, rfl⟩ s2
    · intro H' sm hq
      have e : xs.map (fun _ => V.bl true) = (xs.map fun _ => true).map V.bl := by rw [List.map_map]; rfl
      rw [e] at hq
      refine ⟨p, _, rfl, hq, ?_⟩
      have : (xs.map fun _ => true).all id = true := by simp
      rw [this]
      exact q H' sm
end
end Ks
end
section
namespace L2
open PySem PySem.Spec PyProof.Rows
section
variable {X : Cx}
theorem PE.imp {e : Expr} {t t' : TE} (h : PE X e t) (k : ∀ σ H Q, t' σ H Q → t σ H Q) : PE X e t' := fun pins s σ H Q I q => h pins s σ H Q I (k σ H Q q)
def tOne (G : St → Prop) (R : Hp → V → Prop) : TE := fun σ H Q => G σ ∧ ∀ H' v, Same H H' → R H' v → Q v H'
def tAll (G : St → Prop) (R : Hp → V → Prop) (k : Nat) : TA := fun σ H Q => G σ ∧ ∀ H' vs, Same H H' → vs.length = k → (∀ v ∈ vs, R H' v) → Q vs H'
theorem pa_nilA {G : St → Prop} {R : Hp → V → Prop} : PA X [] (tAll G R 0) := fun pos pins s σ H Q I h => pa_nil pos pins s σ H Q I (h.2 H [] (Same.refl H) rfl fun v hv => absurd hv (by simp))
theorem pa_consA {G : St → Prop} {R : Hp → V → Prop} {k : Nat} {e : Expr} {es : List Expr} (mono : ∀ H H' v, Same H H' → R H v → R H' v) (he : PE X e (tOne G R)) (ha : PA X es (tAll G R k)) (hs : starEach (e :: es) X.env = (false, eval e X.env) :: starEach es X.env := by rfl) : PA X (e :: es) (tAll G R (k + 1)) :=
  fun pos pins s σ H Q I h => pa_cons he ha hs pos pins s σ H Q I ⟨h.1, fun H1 v s1 r1 => ⟨h.1, fun H2 vs s2 hl r2 => h.2 H2 (v :: vs) (s1.trans s2) (by simp [hl]) fun u hu => by
    rcases List.mem_cons.mp hu with z | z
    · rw [z]; exact mono H1 H2 v s2 r1
    · exact r2 u z⟩⟩
theorem pa_consT {G : St → Prop} {R : Hp → V → Prop} {n k : Nat} {q : Pos} {xs es : List Expr} (mono : ∀ H H' v, Same H H' → R H v → R H' v) (he : PE X (.Tuple xs k q) (tOne G R)) (ha : PA X es (tAll G R n)) : PA X (.Tuple xs k q :: es) (tAll G R (n + 1)) := pa_consA mono he ha rfl
theorem pa_consL {G : St → Prop} {R : Hp → V → Prop} {n : Nat} {q : Pos} {xs es : List Expr} (mono : ∀ H H' v, Same H H' → R H v → R H' v) (he : PE X (.List xs q) (tOne G R)) (ha : PA X es (tAll G R n)) : PA X (.List xs q :: es) (tAll G R (n + 1)) := pa_consA mono he ha rfl
theorem pa_consC {G : St → Prop} {R : Hp → V → Prop} {n k : Nat} {q : Pos} {c : Const} {es : List Expr} (mono : ∀ H H' v, Same H H' → R H v → R H' v) (he : PE X (.Constant c k q) (tOne G R)) (ha : PA X es (tAll G R n)) : PA X (.Constant c k q :: es) (tAll G R (n + 1)) := pa_consA mono he ha rfl
theorem pa_consB {G : St → Prop} {R : Hp → V → Prop} {n : Nat} {q : Pos} {a b : Expr} {o : Operator} {es : List Expr} (mono : ∀ H H' v, Same H H' → R H v → R H' v) (he : PE X (.BinOp a o b q) (tOne G R)) (ha : PA X es (tAll G R n)) : PA X (.BinOp a o b q :: es) (tAll G R (n + 1)) := pa_consA mono he ha rfl
theorem pa_consU {G : St → Prop} {R : Hp → V → Prop} {n : Nat} {q : Pos} {a : Expr} {o : UnaryOp} {es : List Expr} (mono : ∀ H H' v, Same H H' → R H v → R H' v) (he : PE X (.UnaryOp o a q) (tOne G R)) (ha : PA X es (tAll G R n)) : PA X (.UnaryOp o a q :: es) (tAll G R (n + 1)) := pa_consA mono he ha rfl
theorem pa_consN {G : St → Prop} {R : Hp → V → Prop} {n : Nat} {q : Pos} {x : Str} {es : List Expr} (mono : ∀ H H' v, Same H H' → R H v → R H' v) (he : PE X (.Name x q) (tOne G R)) (ha : PA X es (tAll G R n)) : PA X (.Name x q :: es) (tAll G R (n + 1)) := pa_consA mono he ha rfl
theorem one_non {G : St → Prop} {R : Hp → V → Prop} {j : Nat} {pos : Pos} (h : ∀ H, R H .non) : PE X (.Constant .none j pos) (tOne G R) := PE.imp pe_non fun σ H Q q => q.2 H _ (Same.refl H) (h H)
theorem one_int {G : St → Prop} {R : Hp → V → Prop} {i : Int} {j : Nat} {pos : Pos} (h : ∀ H, R H (.int i)) : PE X (.Constant (.int i) j pos) (tOne G R) := PE.imp pe_int fun σ H Q q => q.2 H _ (Same.refl H) (h H)
theorem one_bl {G : St → Prop} {R : Hp → V → Prop} {b : Bool} {j : Nat} {pos : Pos} (h : ∀ H, R H (.bl b)) : PE X (.Constant (.bool b) j pos) (tOne G R) := PE.imp pe_bl fun σ H Q q => q.2 H _ (Same.refl H) (h H)
theorem one_str {G : St → Prop} {R : Hp → V → Prop} {z : Str} {j : Nat} {pos : Pos} (h : ∀ H, R H (.str z)) : PE X (.Constant (.str z) j pos) (tOne G R) := PE.imp pe_str fun σ H Q q => q.2 H _ (Same.refl H) (h H)
theorem one_val {G : St → Prop} {R : Hp → V → Prop} {e : Expr} {t : TE} (v : V) (he : PE X e t) (hv : ∀ σ H (Q : VK), G σ → Q v H → t σ H Q) (h : ∀ H, R H v) : PE X e (tOne G R) := PE.imp he fun σ H Q q => hv σ H Q q.1 (q.2 H _ (Same.refl H) (h H))
theorem one_lst {G : St → Prop} {R : Hp → V → Prop} {es : List Expr} {t : TA} {pos : Pos} (vs : List V) (he : PA X es t) (hv : ∀ σ H (Q : List V → Hp → Prop), G σ → Q vs H → t σ H Q) (hl : vs.length ≤ 1000) (h : ∀ H p, H p = some (.lst vs) → R H (.ref p)) : PE X (.List es pos) (tOne G R) :=
  PE.imp (pe_lst he) fun σ H Q q => hv σ H _ q.1 ⟨Nat.le_trans hl (by decide), fun p hp => q.2 _ _ (Same.upd0 hp) (h _ p upd_same)⟩
theorem one_tup {G : St → Prop} {R : Hp → V → Prop} {es : List Expr} {t : TA} {k : Nat} {pos : Pos} (vs : List V) (he : PA X es t) (hv : ∀ σ H (Q : List V → Hp → Prop), G σ → Q vs H → t σ H Q) (hl : vs.length ≤ 1000) (h : ∀ H p, H p = some (.tup vs) → R H (.ref p)) : PE X (.Tuple es k pos) (tOne G R) :=
  PE.imp (pe_tup he) fun σ H Q q => hv σ H _ q.1 ⟨Nat.le_trans hl (by decide), fun p hp => q.2 _ _ (Same.upd0 hp) (h _ p upd_same)⟩
theorem one_pair {G : St → Prop} {R1 R2 R : Hp → V → Prop} {e1 e2 : Expr} {k : Nat} {pos : Pos} (h1 : PE X e1 (tOne G R1)) (h2 : PE X e2 (tOne G R2)) (mo1 : ∀ H H' v, Same H H' → R1 H v → R1 H' v) (mo2 : ∀ H H' v, Same H H' → R2 H v → R2 H' v)
    (h : ∀ H p l r, H p = some (.tup [l, r]) → R1 H l → R2 H r → R H (.ref p)) (hs1 : starEach [e1, e2] X.env = (false, eval e1 X.env) :: starEach [e2] X.env := by rfl) (hs2 : starEach [e2] X.env = (false, eval e2 X.env) :: starEach [] X.env := by rfl) : PE X (.Tuple [e1, e2] k pos) (tOne G R) :=
  PE.imp (pe_tup (pa_cons h1 (pa_cons h2 pa_nil hs2) hs1)) fun σ H Q q => ⟨q.1, fun H1 v s1 r1 => ⟨q.1, fun H2 u s2 r2 => ⟨by show 2 ≤ sizeLine; decide, fun p hp => q.2 _ _ ((s1.trans s2).upd hp) (h _ p v u upd_same (mo1 _ _ _ (s2.trans (Same.upd0 hp)) r1) (mo2 _ _ _ (Same.upd0 hp) r2))⟩⟩⟩
end
end L2
namespace Ks
open PySem L2 Mir
section
variable {P : Program} {w : World} {K : PySem.W.Frag} {mg : Str → Option Value} {base : Heap} {e : EA}
def PB (K : PySem.W.Frag) (N : Int → Prop) (H : Hp) (v : V) : Prop := ∃ p l r, v = .ref p ∧ H p = some (.tup [l, r]) ∧ ∀ n, N n → WBad K H n l r
theorem PB.same {N : Int → Prop} (H H' : Hp) (v : V) (s : Same H H') (h : PB K N H v) : PB K N H' v := by
  obtain ⟨p, l, r, h1, h2, h3⟩ := h
  exact ⟨p, l, r, h1, s _ _ h2, fun n hn => (h3 n hn).same s⟩
def LV (vs : List V) (H : Hp) (v : V) : Prop := ∃ a, v = .ref a ∧ H a = some (.lst vs)
theorem LV.same {vs : List V} (H H' : Hp) (v : V) (s : Same H H') (h : LV vs H v) : LV vs H' v := by
  obtain ⟨a, h1, h2⟩ := h
  exact ⟨a, h1, s _ _ h2⟩
def AnyV (_ : Hp) (_ : V) : Prop := True
theorem any_same (H H' : Hp) (v : V) (_ : Same H H') (h : AnyV H v) : AnyV H' v := h
theorem pb_ints {N : Int → Prop} {xs ys : List Int} (hx : xs.length ≤ 100) (hy : ys.length ≤ 100) (h : ∀ n, N n → cwOk n xs ys = false) (H : Hp) (p : Addr) (l r : V) (hp : H p = some (.tup [l, r])) (h1 : LV (xs.map V.int) H l) (h2 : LV (ys.map V.int) H r) : PB K N H (.ref p) := by
  obtain ⟨a, rfl, ha⟩ := h1
  obtain ⟨b, rfl, hb⟩ := h2
  exact ⟨p, _, _, rfl, hp, fun n hn => .inr (.inr ⟨a, b, xs, ys, rfl, rfl, ha, hb, hx, hy, h n hn⟩)⟩
theorem sd_list {H : Hp} {n : Int} {l : V} {xs : List V} (hf : xs.all flatV = true) (hu : upV n (-1) xs = false) (h : LV xs H l) : SdBad K H n l := by
  obtain ⟨a, rfl, ha⟩ := h
  exact .inr ⟨a, xs, rfl, ha, hf, hu⟩
theorem mul_one (c : Nat) (n : Nat) : (Txt.mul (ch1 c) (n : Int)).cps.toList = List.replicate n c := by
  unfold Txt.mul
  split
  · have : n = 0 := by omega
    subst this; rfl
  · split
    · rename_i h1 h2
      have h2' : ((n : Int) == 1) = true := by
        rcases Bool.or_eq_true_iff.mp h2 with z | z
        · exact z
        · have z' : (ch1 c).length = 0 := by simpa using z
          exact absurd z' (show ¬ (1 = 0) by decide)
      have : n = 1 := by have := beq_iff_eq.mp h2'; omega
      subst this; rfl
    · rw [Int.toNat_natCast]
      have go : ∀ (k : Nat) (acc : Array Nat), (List.foldl (fun x1 x2 => x1 ++ x2) acc (List.replicate k (ch1 c).cps)).toList = acc.toList ++ List.replicate k c := by
        intro k
        induction k with
        | zero => intro acc; simp
        | succ k ih =>
          intro acc
          rw [List.replicate_succ, List.foldl_cons, ih, Array.toList_append, List.append_assoc]
          rfl
      have := go n #[]
      simpa using this
theorem mulOk_1 {x : Str} (hx : x.length = 1) (n : Nat) (h : n ≤ 1000) : MulOk x (n : Int) := by
  refine ⟨by simp; omega, fun h1 _ h2 => ?_, fun h1 _ => ?_⟩
  · rw [hx] at h2
    have : (1 : Int) ≤ (2 ^ 63 - 1) / (n : Int) := by
      rw [Int.le_ediv_iff_mul_le (by omega)]; omega
    omega
  · rw [hx, Nat.one_mul, Int.toNat_natCast]
    unfold Builtin.Str.tooLong
    refine decide_eq_false ?_
    have : (1000 : Nat) ≤ sizeLine := by decide
    omega
theorem eg_mk (n : Nat) (h : n ≤ 90) : MkOk ("eeee" ++ Txt.mul "g" (n : Int)) ∧ ("eeee" ++ Txt.mul "g" (n : Int)).length = 4 + n ∧ ("eeee" : Str).length + (Txt.mul "g" (n : Int)).length ≤ 200 := by
  have key := mul_one 103 n
  rw [← s_g] at key
  have k2 : ("eeee" ++ Txt.mul "g" (n : Int)).cps.toList = [101, 101, 101, 101] ++ List.replicate n 103 := by rw [app_cps, key]; rfl
  have hl : ("eeee" ++ Txt.mul "g" (n : Int)).length = 4 + n := by rw [str_len, k2]; simp; omega
  have hm : (Txt.mul "g" (n : Int)).length = n := by rw [str_len, key]; simp
  have he : ("eeee" : Str).length = 4 := by decide +kernel
  refine ⟨⟨fun c hc => ?_, fun _ => ?_, by rw [hl]; omega⟩, hl, by rw [he, hm]; omega⟩
  · rw [k2] at hc
    rcases List.mem_append.mp hc with z | z
    · simp at z; exact .inl z
    · exact .inr (.inr (.inr (List.eq_of_mem_replicate z)))
  · rw [k2]
    constructor
    · intro z
      rcases List.mem_append.mp z with z | z
      · simp at z
      · exact absurd (List.eq_of_mem_replicate z) (by decide)
    · intro z
      rcases List.mem_append.mp z with z | z
      · simp at z
      · exact absurd (List.eq_of_mem_replicate z) (by decide)
def TV (vs : List V) (H : Hp) (v : V) : Prop := ∃ a, v = .ref a ∧ H a = some (.tup vs)
theorem TV.same {vs : List V} (H H' : Hp) (v : V) (s : Same H H') (h : TV vs H v) : TV vs H' v := by
  obtain ⟨a, h1, h2⟩ := h
  exact ⟨a, h1, s _ _ h2⟩
def IsV (u : V) (_ : Hp) (v : V) : Prop := v = u
theorem is_same {u : V} (H H' : Hp) (v : V) (_ : Same H H') (h : IsV u H v) : IsV u H' v := h
theorem cw_1 (n : Int) : cwOk n [0] [] = false := by simp [cwOk]
theorem cw_2 (n : Int) : cwOk n [0] [0] = false := by simp [cwOk]
theorem cw_3 (n : Int) : cwOk n [-1] [0] = false := by simp [cwOk, up]
theorem cw_4 (n fr : Int) (h : 0 ≤ fr) : cwOk n [0] [-1 - fr] = false := by
  have : up n (-1) [-1 - fr] = false := by unfold up; rw [decide_eq_false (show ¬ (-1 : Int) < -1 - fr by omega)]; rfl
  unfold cwOk; rw [this]; simp
theorem cw_5 (n : Int) : cwOk n [1, 0] [2, 3] = false := by simp [cwOk, up]
theorem cw_6 (n : Int) : cwOk n [0, 0] [1, 2] = false := by simp [cwOk, up]
theorem cw_7 (n : Int) : cwOk n [0, 1] [1, 2] = false := by simp [cwOk]
theorem cw_8 (n : Int) : cwOk n [2, 3] [1, 1] = false := by simp [cwOk, up]
theorem cw_9 (c : Int) : cwOk c [c + 1] [0] = false := by
  have : up c (-1) [c + 1] = false := by unfold up; rw [decide_eq_false (show ¬ c + 1 ≤ c by omega)]; simp
  unfold cwOk; rw [this]; rfl
theorem cw_10 (c fr : Int) (h : 0 ≤ fr) : cwOk c [0] [c + 1 + fr] = false := by
  have : up c (-1) [c + 1 + fr] = false := by unfold up; rw [decide_eq_false (show ¬ c + 1 + fr ≤ c by omega)]; simp
  unfold cwOk; rw [this]; simp
theorem cw_11 (fr : Int) (h : 0 ≤ fr) : cwOk 999999999 [1000000000 + fr] [0] = false := by
  have : up 999999999 (-1) [1000000000 + fr] = false := by unfold up; rw [decide_eq_false (show ¬ (1000000000 : Int) + fr ≤ 999999999 by omega)]; simp
  unfold cwOk; rw [this]; rfl
end
end Ks
end
section
namespace Ks
open PySem L2 Mir
section
variable {P : Program} {w : World} {K : PySem.W.Frag} {mg : Str → Option Value} {base : Heap} {e : EA}
def GW (c fr : Int) (σ : St) : Prop := σ[1]? = some (some (.int c)) ∧ σ[3]? = some (some (.int fr))
def N0 (n : Int) : Prop := 0 ≤ n
theorem pb_nl (H : Hp) (p : Addr) (l r : V) (hp : H p = some (.tup [l, r])) (h1 : IsV .non H l) (_ : AnyV H r) : PB K N0 H (.ref p) := ⟨p, l, r, rfl, hp, fun n _ => .inl (.inl ⟨_, by rw [show l = .non from h1]; exact kd_non, by decide⟩)⟩
theorem pb_ln (H : Hp) (p : Addr) (l r : V) (hp : H p = some (.tup [l, r])) (h1 : LV [] H l) (h2 : IsV .non H r) : PB K N0 H (.ref p) := by
  obtain ⟨a, rfl, ha⟩ := h1
  exact ⟨p, _, r, rfl, hp, fun n _ => .inr (.inl ⟨⟨a, [], rfl, ha, rfl⟩, .inl ⟨_, by rw [show r = .non from h2]; exact kd_non, by decide⟩⟩)⟩
theorem pb_tt (H : Hp) (p : Addr) (l r : V) (hp : H p = some (.tup [l, r])) (h1 : TV [] H l) (_ : TV [] H r) : PB K N0 H (.ref p) := by
  obtain ⟨a, rfl, ha⟩ := h1
  exact ⟨p, _, r, rfl, hp, fun n _ => .inl (.inl ⟨_, kd_tup ha, by decide⟩)⟩
theorem pb_ss (H : Hp) (p : Addr) (l r : V) (hp : H p = some (.tup [l, r])) (h1 : IsV (.str "0") H l) (_ : AnyV H r) : PB K N0 H (.ref p) := ⟨p, l, r, rfl, hp, fun n _ => .inl (.inl ⟨_, by rw [show l = .str "0" from h1]; exact kd_str _, by decide⟩)⟩
theorem pb_sl (H : Hp) (p : Addr) (l r : V) (hp : H p = some (.tup [l, r])) (h1 : LV [.str "0"] H l) (_ : AnyV H r) : PB K N0 H (.ref p) := ⟨p, l, r, rfl, hp, fun n _ => .inl (sd_list rfl rfl h1)⟩
theorem pb_bl (H : Hp) (p : Addr) (l r : V) (hp : H p = some (.tup [l, r])) (h1 : LV [.bl true] H l) (_ : AnyV H r) : PB K N0 H (.ref p) := ⟨p, l, r, rfl, hp, fun n _ => .inl (sd_list rfl rfl h1)⟩
section
variable {X : Cx} {G : St → Prop}
theorem li1 {i : Int} {j : Nat} {p q : Pos} : PE X (.List [.Constant (.int i) j p] q) (tOne G (LV [.int i])) := one_lst [.int i] (pa_cons pe_int pa_nil) (fun _ _ _ _ q => q) (by show 1 ≤ 1000; decide) fun _ p h => ⟨p, rfl, h⟩
theorem li2 {i i' : Int} {j j' : Nat} {p p' q : Pos} : PE X (.List [.Constant (.int i) j p, .Constant (.int i') j' p'] q) (tOne G (LV [.int i, .int i'])) := one_lst [.int i, .int i'] (pa_cons pe_int (pa_cons pe_int pa_nil)) (fun _ _ _ _ q => q) (by show 2 ≤ 1000; decide) fun _ p h => ⟨p, rfl, h⟩
theorem li0 {q : Pos} : PE X (.List [] q) (tOne G (LV [])) := one_lst [] pa_nil (fun _ _ _ _ q => q) (by decide) fun _ p h => ⟨p, rfl, h⟩
theorem tu0 {k : Nat} {q : Pos} : PE X (.Tuple [] k q) (tOne G (TV [])) := one_tup [] pa_nil (fun _ _ _ _ q => q) (by decide) fun _ p h => ⟨p, rfl, h⟩
theorem anyP {e : Expr} {R : Hp → V → Prop} (h : PE X e (tOne G R)) : PE X e (tOne G AnyV) := PE.imp h fun σ H Q q => ⟨q.1, fun H' v s _ => q.2 H' v s trivial⟩
theorem lis {z : Str} {j : Nat} {p q : Pos} : PE X (.List [.Constant (.str z) j p] q) (tOne G (LV [.str z])) := one_lst [.str z] (pa_cons pe_str pa_nil) (fun _ _ _ _ q => q) (by show 1 ≤ 1000; decide) fun _ p h => ⟨p, rfl, h⟩
theorem lib {b : Bool} {j : Nat} {p q : Pos} : PE X (.List [.Constant (.bool b) j p] q) (tOne G (LV [.bl b])) := one_lst [.bl b] (pa_cons pe_bl pa_nil) (fun _ _ _ _ q => q) (by show 1 ≤ 1000; decide) fun _ p h => ⟨p, rfl, h⟩
theorem lie {x : Expr} {t : TE} {q : Pos} (i : Int) (h : PE X x t) (hv : ∀ σ H (Q : VK), G σ → Q (.int i) H → t σ H Q) (hs : starEach [x] X.env = (false, eval x X.env) :: starEach [] X.env) : PE X (.List [x] q) (tOne G (LV [.int i])) := one_lst [.int i] (pa_cons h pa_nil hs) (fun σ H Q g q => hv σ H _ g q) (by show 1 ≤ 1000; decide) fun _ p h => ⟨p, rfl, h⟩
def pairsE : List Expr := [.Tuple [.Constant .none 0 ⟨285, 19, 285, 23⟩, .List [] ⟨285, 25, 285, 27⟩] 0 ⟨285, 18, 285, 28⟩, .Tuple [.List [] ⟨285, 31, 285, 33⟩, .Constant .none 0 ⟨285, 35, 285, 39⟩] 0 ⟨285, 30, 285, 40⟩, .Tuple [.Tuple [] 0 ⟨285, 43, 285, 45⟩, .Tuple [] 0 ⟨285, 47, 285, 49⟩] 0 ⟨285, 42, 285, 50⟩, .Tuple [.List [.Constant (.int 0) 0 ⟨285, 54, 285, 55⟩] ⟨285, 53, 285, 56⟩, .List [] ⟨285, 58, 285, 60⟩] 0 ⟨285, 52, 285, 61⟩, .Tuple [.List [.Constant (.int 0) 0 ⟨285, 65, 285, 66⟩] ⟨285, 64, 285, 67⟩, .List [.Constant (.int 0) 0 ⟨285, 70, 285, 71⟩] ⟨285, 69, 285, 72⟩] 0 ⟨285, 63, 285, 73⟩, .Tuple [.List [.Constant (.str "0") 0 ⟨285, 77, 285, 80⟩] ⟨285, 76, 285, 81⟩, .List [.Constant (.int 1) 0 ⟨285, 84, 285, 85⟩] ⟨285, 83, 285, 86⟩] 0 ⟨285, 75, 285, 87⟩, .Tuple [.List [.Constant (.bool true) 0 ⟨285, 91, 285, 95⟩] ⟨285, 90, 285, 96⟩, .List [.Constant (.int 0) 0 ⟨285, 99, 285, 100⟩] ⟨285, 98, 285, 101⟩] 0 ⟨285, 89, 285, 102⟩, .Tuple [.Constant (.str "0") 0 ⟨285, 105, 285, 108⟩, .Constant (.str "1") 0 ⟨285, 110, 285, 113⟩] 0 ⟨285, 104, 285, 114⟩]
theorem pr_nl {j k : Nat} {q1 q2 q : Pos} : PE X (.Tuple [.Constant .none j q1, .List [] q2] k q) (tOne G (PB K N0)) := one_pair (R1 := IsV .non) (R2 := AnyV) (one_non fun _ => rfl) (anyP li0) is_same any_same pb_nl
theorem pr_ln {j k : Nat} {q1 q2 q : Pos} : PE X (.Tuple [.List [] q1, .Constant .none j q2] k q) (tOne G (PB K N0)) := one_pair (R2 := IsV .non) li0 (one_non fun _ => rfl) LV.same is_same pb_ln
theorem pr_tt {j1 j2 k : Nat} {q1 q2 q : Pos} : PE X (.Tuple [.Tuple [] j1 q1, .Tuple [] j2 q2] k q) (tOne G (PB K N0)) := one_pair tu0 tu0 TV.same TV.same pb_tt
theorem pr_10 {a : Int} {j1 k : Nat} {q1 q2 q3 q : Pos} (h : ∀ n, cwOk n [a] [] = false) : PE X (.Tuple [.List [.Constant (.int a) j1 q1] q2, .List [] q3] k q) (tOne G (PB K N0)) := one_pair li1 li0 LV.same LV.same (pb_ints (xs := [a]) (ys := []) (by show 1 ≤ 100; decide) (by decide) fun n _ => h n)
theorem pr_11 {a b : Int} {j1 j2 k : Nat} {q1 q2 q3 q4 q : Pos} (h : ∀ n, cwOk n [a] [b] = false) : PE X (.Tuple [.List [.Constant (.int a) j1 q1] q2, .List [.Constant (.int b) j2 q3] q4] k q) (tOne G (PB K N0)) := one_pair li1 li1 LV.same LV.same (pb_ints (xs := [a]) (ys := [b]) (by show 1 ≤ 100; decide) (by show 1 ≤ 100; decide) fun n _ => h n)
theorem pr_s1 {b : Int} {j1 j2 k : Nat} {q1 q2 q3 q4 q : Pos} : PE X (.Tuple [.List [.Constant (.str "0") j1 q1] q2, .List [.Constant (.int b) j2 q3] q4] k q) (tOne G (PB K N0)) := one_pair lis (anyP li1) LV.same any_same pb_sl
theorem pr_b1 {b : Int} {j1 j2 k : Nat} {q1 q2 q3 q4 q : Pos} : PE X (.Tuple [.List [.Constant (.bool true) j1 q1] q2, .List [.Constant (.int b) j2 q3] q4] k q) (tOne G (PB K N0)) := one_pair lib (anyP li1) LV.same any_same pb_bl
theorem pr_ss {z : Str} {j1 j2 k : Nat} {q1 q2 q : Pos} : PE X (.Tuple [.Constant (.str "0") j1 q1, .Constant (.str z) j2 q2] k q) (tOne G (PB K N0)) := one_pair (R1 := IsV (.str "0")) (R2 := AnyV) (one_str fun _ => rfl) (one_str fun _ => trivial) is_same any_same pb_ss
theorem pr_22 {a b c d : Int} {j1 j2 j3 j4 k : Nat} {q1 q2 q3 q4 q5 q6 q : Pos} (h : ∀ n, cwOk n [a, b] [c, d] = false) : PE X (.Tuple [.List [.Constant (.int a) j1 q1, .Constant (.int b) j2 q2] q3, .List [.Constant (.int c) j3 q4, .Constant (.int d) j4 q5] q6] k q) (tOne G (PB K N0)) := one_pair li2 li2 LV.same LV.same (pb_ints (xs := [a, b]) (ys := [c, d]) (by show 2 ≤ 100; decide) (by show 2 ≤ 100; decide) fun n _ => h n)
theorem pa_pairs : PA X pairsE (tAll G (PB K N0) 8) :=
  @pa_consT _ _ _ _ _ _ _ _ PB.same pr_nl (@pa_consT _ _ _ _ _ _ _ _ PB.same pr_ln (@pa_consT _ _ _ _ _ _ _ _ PB.same pr_tt (@pa_consT _ _ _ _ _ _ _ _ PB.same (pr_10 cw_1) (@pa_consT _ _ _ _ _ _ _ _ PB.same (pr_11 cw_2) (@pa_consT _ _ _ _ _ _ _ _ PB.same pr_s1 (@pa_consT _ _ _ _ _ _ _ _ PB.same pr_b1 (@pa_consT _ _ _ _ _ _ _ _ PB.same pr_ss pa_nilA)))))))
def lowE : List Expr := [.Tuple [.List [.UnaryOp .USub (.Constant (.int 1) 0 ⟨287, 19, 287, 20⟩) ⟨287, 18, 287, 20⟩] ⟨287, 17, 287, 21⟩, .List [.Constant (.int 0) 0 ⟨287, 24, 287, 25⟩] ⟨287, 23, 287, 26⟩] 0 ⟨287, 16, 287, 27⟩, .Tuple [.List [.Constant (.int 0) 0 ⟨287, 31, 287, 32⟩] ⟨287, 30, 287, 33⟩, .List [.BinOp (.UnaryOp .USub (.Constant (.int 1) 0 ⟨287, 37, 287, 38⟩) ⟨287, 36, 287, 38⟩) .Sub (.Name "_law_far" ⟨287, 41, 287, 49⟩) ⟨287, 36, 287, 49⟩] ⟨287, 35, 287, 50⟩] 0 ⟨287, 29, 287, 51⟩]
theorem pa_low {c fr : Int} (h0 : 0 ≤ fr) (hN : X.N[3]? = some ("_law_far" : Str)) (hv : Vis X.env.scope "_law_far") : PA X lowE (tAll (GW c fr) (PB K N0) 2) :=
  @pa_consT _ _ _ _ _ _ _ _ PB.same (one_pair (lie (-1) (pe_un un_neg pe_int) (fun _ _ _ _ q => ⟨_, rfl, q⟩) rfl) li1 LV.same LV.same (pb_ints (xs := [-1]) (ys := [0]) (by decide) (by decide) fun n _ => cw_3 n))
  (@pa_consT _ _ _ _ _ _ _ _ PB.same (one_pair li1 (lie (-1 - fr) (pe_op op_sub (pe_un un_neg pe_int) (pv 3 hN hv)) (fun _ _ _ g q => ⟨_, rfl, _, g.2, _, _, rfl, rfl, q⟩) rfl) LV.same LV.same (pb_ints (xs := [0]) (ys := [-1 - fr]) (by decide) (by show 1 ≤ 100; decide) fun n _ => cw_4 n fr h0)) pa_nilA)
def moreE : List Expr := [.Tuple [.List [.Constant (.int 1) 0 ⟨288, 19, 288, 20⟩, .Constant (.int 0) 0 ⟨288, 22, 288, 23⟩] ⟨288, 18, 288, 24⟩, .List [.Constant (.int 2) 0 ⟨288, 27, 288, 28⟩, .Constant (.int 3) 0 ⟨288, 30, 288, 31⟩] ⟨288, 26, 288, 32⟩] 0 ⟨288, 17, 288, 33⟩, .Tuple [.List [.Constant (.int 0) 0 ⟨288, 37, 288, 38⟩, .Constant (.int 0) 0 ⟨288, 40, 288, 41⟩] ⟨288, 36, 288, 42⟩, .List [.Constant (.int 1) 0 ⟨288, 45, 288, 46⟩, .Constant (.int 2) 0 ⟨288, 48, 288, 49⟩] ⟨288, 44, 288, 50⟩] 0 ⟨288, 35, 288, 51⟩, .Tuple [.List [.Constant (.int 0) 0 ⟨288, 55, 288, 56⟩, .Constant (.int 1) 0 ⟨288, 58, 288, 59⟩] ⟨288, 54, 288, 60⟩, .List [.Constant (.int 1) 0 ⟨288, 63, 288, 64⟩, .Constant (.int 2) 0 ⟨288, 66, 288, 67⟩] ⟨288, 62, 288, 68⟩] 0 ⟨288, 53, 288, 69⟩, .Tuple [.List [.Constant (.int 2) 0 ⟨288, 73, 288, 74⟩, .Constant (.int 3) 0 ⟨288, 76, 288, 77⟩] ⟨288, 72, 288, 78⟩, .List [.Constant (.int 1) 0 ⟨288, 81, 288, 82⟩, .Constant (.int 1) 0 ⟨288, 84, 288, 85⟩] ⟨288, 80, 288, 86⟩] 0 ⟨288, 71, 288, 87⟩]
theorem pa_more : PA X moreE (tAll G (PB K N0) 4) := @pa_consT _ _ _ _ _ _ _ _ PB.same (pr_22 cw_5) (@pa_consT _ _ _ _ _ _ _ _ PB.same (pr_22 cw_6) (@pa_consT _ _ _ _ _ _ _ _ PB.same (pr_22 cw_7) (@pa_consT _ _ _ _ _ _ _ _ PB.same (pr_22 cw_8) pa_nilA)))
def beyE : List Expr := [.Tuple [.List [.BinOp (.Name "_law_coins" ⟨289, 48, 289, 58⟩) .Add (.Constant (.int 1) 0 ⟨289, 61, 289, 62⟩) ⟨289, 48, 289, 62⟩] ⟨289, 47, 289, 63⟩, .List [.Constant (.int 0) 0 ⟨289, 66, 289, 67⟩] ⟨289, 65, 289, 68⟩] 0 ⟨289, 46, 289, 69⟩, .Tuple [.List [.Constant (.int 0) 0 ⟨289, 73, 289, 74⟩] ⟨289, 72, 289, 75⟩, .List [.BinOp (.BinOp (.Name "_law_coins" ⟨289, 78, 289, 88⟩) .Add (.Constant (.int 1) 0 ⟨289, 91, 289, 92⟩) ⟨289, 78, 289, 92⟩) .Add (.Name "_law_far" ⟨289, 95, 289, 103⟩) ⟨289, 78, 289, 103⟩] ⟨289, 77, 289, 104⟩] 0 ⟨289, 71, 289, 105⟩]
theorem pa_bey {c fr : Int} (h0 : 0 ≤ fr) (hN1 : X.N[1]? = some ("_law_coins" : Str)) (hv1 : Vis X.env.scope "_law_coins") (hN : X.N[3]? = some ("_law_far" : Str)) (hv : Vis X.env.scope "_law_far") : PA X beyE (tAll (GW c fr) (PB K (· = c)) 2) :=
  @pa_consT _ _ _ _ _ _ _ _ PB.same (one_pair (lie (c + 1) (pe_op op_add (pv 1 hN1 hv1) pe_int) (fun _ _ _ g q => ⟨_, g.1, _, _, rfl, rfl, q⟩) rfl) li1 LV.same LV.same (pb_ints (xs := [c + 1]) (ys := [0]) (by show 1 ≤ 100; decide) (by decide) fun n hn => by rw [hn]; exact cw_9 c))
  (@pa_consT _ _ _ _ _ _ _ _ PB.same (one_pair li1 (lie (c + 1 + fr) (pe_op op_add (pe_op op_add (pv 1 hN1 hv1) pe_int) (pv 3 hN hv)) (fun _ _ _ g q => ⟨_, g.1, _, _, rfl, rfl, _, g.2, _, _, rfl, rfl, q⟩) rfl) LV.same LV.same (pb_ints (xs := [0]) (ys := [c + 1 + fr]) (by decide) (by show 1 ≤ 100; decide) fun n hn => by rw [hn]; exact cw_10 c fr h0)) pa_nilA)
def lastE : List Expr := [.Tuple [.List [.BinOp (.Constant (.int 1000000000) 0 ⟨296, 81, 296, 91⟩) .Add (.Name "_law_far" ⟨296, 94, 296, 102⟩) ⟨296, 81, 296, 102⟩] ⟨296, 80, 296, 103⟩, .List [.Constant (.int 0) 0 ⟨296, 106, 296, 107⟩] ⟨296, 105, 296, 108⟩] 0 ⟨296, 79, 296, 109⟩]
theorem pa_last {c fr : Int} (h0 : 0 ≤ fr) (hN : X.N[3]? = some ("_law_far" : Str)) (hv : Vis X.env.scope "_law_far") : PA X lastE (tAll (GW c fr) (PB K (· = (999999999 : Int))) 1) :=
  @pa_consT _ _ _ _ _ _ _ _ PB.same (one_pair (lie (1000000000 + fr) (pe_op op_add pe_int (pv 3 hN hv)) (fun _ _ _ g q => ⟨_, g.2, _, _, rfl, rfl, q⟩) rfl) li1 LV.same LV.same (pb_ints (xs := [1000000000 + fr]) (ys := [0]) (by show 1 ≤ 100; decide) (by decide) fun n hn => by rw [hn]; exact cw_11 fr h0)) pa_nilA
end
theorem raiseW {x : Str} {fa : Addr} {z : Str} {v : V} {H : Hp} {N : Int → Prop} (hm : mg x = some (.ref fa)) (c : Can P w K mg base (CXE false P w) 6 x ["_law_marks_here", "_law_pair"] (spWW K e)) (M : MkOk z) (hn : N z.length) (h : PB K N H v) : Raises P w K mg base 6 fa [.str z, v] H e.weigh := by
  obtain ⟨p, l, r, rfl, hp, hb⟩ := h
  exact Raises.of hm c fun E k => ⟨z, p, l, r, rfl, M, hp, hb _ hn, k⟩
theorem raiseD {x : Str} {fa : Addr} {n : Int} {v : V} {H : Hp} {N : Int → Prop} (hm : mg x = some (.ref fa)) (c : Can P w K mg base (CXE false P w) 6 x ["_law_coins", "_law_pair"] (spWD K e)) (h0 : 0 ≤ n) (hn : N n) (h : PB K N H v) : Raises P w K mg base 6 fa [.int n, v] H e.weigh := by
  obtain ⟨p, l, r, rfl, hp, hb⟩ := h
  exact Raises.of hm c fun E k => ⟨n, p, l, r, rfl, h0, hp, hb _ hn, k⟩
theorem raiseT {x : Str} {fa : Addr} {u v : V} {H : Hp} {N : Int → Prop} (hm : mg x = some (.ref fa)) (c : Can P w K mg base (CXE false P w) 6 x ["_law_nothing", "_law_pair"] (spWT K e)) (hn : N 999999999) (h : PB K N H v) : Raises P w K mg base 6 fa [u, v] H e.weigh := by
  obtain ⟨p, l, r, rfl, hp, hb⟩ := h
  exact Raises.of hm c fun E k => ⟨u, p, l, r, rfl, hp, hb _ hn, k⟩
theorem PB.sub {N N' : Int → Prop} {H : Hp} {v : V} (h : PB K N H v) (k : ∀ n, N' n → N n) : PB K N' H v := by
  obtain ⟨p, l, r, h1, h2, h3⟩ := h
  exact ⟨p, l, r, h1, h2, fun n hn => h3 n (k n hn)⟩
theorem pss_setL {X : Cx} {es : List Expr} {t : TA} {rest : List Stmt} {u : TS} {p p1 p2 : Pos} {x : Str} {i : Nat} (h : PA X es t) (hN : X.N.Nodup) (hi : X.N[i]? = some x) (hx : X.env.scope.names.lookup x = some .local) (hr : PSs X rest u) :
    PSs X (.Assign [.Name x p1] (.List es p) p2 :: rest) (tSeq (tAsg (tLst t) (gName i)) u) := pss_cons (ps_set hN hi (.inl hx) (pe_lst h) rfl (.inr hx)) hr
end
end Ks
end
section
namespace Ks
open PySem L2 Mir
section
variable {P : Program} {w : World} {K : PySem.W.Frag} {mg : Str → Option Value} {base : Heap} {e : EA}
theorem pe_iter {X : Cx} {c fr : Int} {q1 q2 q3 q4 q5 : Pos} (h0 : 0 ≤ fr) (hN1 : X.N[1]? = some ("_law_coins" : Str)) (hv1 : Vis X.env.scope "_law_coins") (hN : X.N[3]? = some ("_law_far" : Str)) (hv : Vis X.env.scope "_law_far") (hN4 : X.N[4]? = some ("_law_pairs" : Str)) (hv4 : Vis X.env.scope "_law_pairs") (hN5 : X.N[5]? = some ("_law_low" : Str)) (hv5 : Vis X.env.scope "_law_low") :
    PE X (.BinOp (.BinOp (.Name "_law_pairs" q1) .Add (.Name "_law_low" q2) q3) .Add (.List beyE q4) q5) (tOp rCat (tOp rCat (tVar 4) (tVar 5)) (tLst (tAll (GW c fr) (PB K (· = c)) 2))) := by
  have h := @pa_bey K X c fr h0 hN1 hv1 hN hv
  revert h
  generalize beyE = es
  intro h
  exact pe_op op_cat (pe_op op_cat (pv 4 hN4 hv4) (pv 5 hN5 hv5)) (pe_lst h)
theorem pe_lasts {X : Cx} {c fr : Int} {q1 q2 q3 q4 q5 q6 q7 : Pos} (h0 : 0 ≤ fr) (hN : X.N[3]? = some ("_law_far" : Str)) (hv : Vis X.env.scope "_law_far") (hN4 : X.N[4]? = some ("_law_pairs" : Str)) (hv4 : Vis X.env.scope "_law_pairs") (hN5 : X.N[5]? = some ("_law_low" : Str)) (hv5 : Vis X.env.scope "_law_low") (hN6 : X.N[6]? = some ("_law_more" : Str)) (hv6 : Vis X.env.scope "_law_more") :
    PE X (.BinOp (.BinOp (.BinOp (.Name "_law_pairs" q1) .Add (.Name "_law_low" q2) q3) .Add (.Name "_law_more" q4) q5) .Add (.List lastE q6) q7) (tOp rCat (tOp rCat (tOp rCat (tVar 4) (tVar 5)) (tVar 6)) (tLst (tAll (GW c fr) (PB K (· = (999999999 : Int))) 1))) := by
  have h := @pa_last K X c fr h0 hN hv
  revert h
  generalize lastE = es
  intro h
  exact pe_op op_cat (pe_op op_cat (pe_op op_cat (pv 4 hN4 hv4) (pv 5 hN5 hv5)) (pv 6 hN6 hv6)) (pe_lst h)
def spWR (e : EA) : Sp := fun vs H Q _ => ∃ (z : Str) (d : Addr) (fr : Int), vs = [.str z, .int z.length, .ref d, .int fr] ∧ MkOk z ∧ z.length ≤ 63 ∧ 0 ≤ fr ∧ H d = some (.lst ((kinds e e.weigh).map V.bl)) ∧ ∀ H', Same H H' → Q (.bl true) H'
theorem sc__law_weighings_right : FnScope ["_law_marks_here", "_law_coins", "_law_due", "_law_far", "_law_pairs", "_law_low", "_law_more", "_law_pair"] ["_law_marks_here", "_law_coins", "_law_due", "_law_far"] (defScope (top 71)) := ⟨rfl, rfl, rfl, by decide +kernel, rfl, by decide +kernel, by decide +kernel⟩
theorem ok_wright {f : Addr} {fd : FuncData} (F : Fun K "_law_weighings_right" "_law_weighings_right" (top 71) f fd) (cW : Can P w K mg base (CXE false P w) 6 "_law_with_weighing" ["_law_marks_here", "_law_pair"] (spWW K e)) (cJ : Can P w K mg base (CXE false P w) 6 "_law_with_judged" ["_law_marks_here", "_law_pair"] (spWW K e))
    (cD : Can P w K mg base (CXE false P w) 6 "_law_with_weighed" ["_law_coins", "_law_pair"] (spWD K e)) (cT : Can P w K mg base (CXE false P w) 6 "_law_with_written" ["_law_nothing", "_law_pair"] (spWT K e)) (c__law_told : Can P w K mg base CX0 7 "_law_told" ["_law_ask", "_law_one", "_law_other"] (spTo P w K mg base e))
    (c__law_all : Can P w K mg base CX0 8 "_law_all" ["_law_ask", "_law_one", "_law_things", "_law_due"] (spAl P w K mg base e)) : FnOk P w K mg base CX0 9 f fd ["_law_marks_here", "_law_coins", "_law_due", "_law_far"] (spWR e) := by
  refine F.ok sc__law_weighings_right (fun vs H Q E h => ?_) (fun cdv A outer s H vs Q E hr h => ?_)
  · obtain ⟨z, d, fr, rfl, _⟩ := h; rfl
  · obtain ⟨z, d, fr, rfl, M, hz, h0, hd, q⟩ := h
    have hu := hr.units0
    obtain ⟨fW, _, mW, kW, _, _⟩ := id cW
    obtain ⟨fJ, _, mJ, kJ, _, _⟩ := id cJ
    obtain ⟨fD, _, mD, kD, _, _⟩ := id cD
    obtain ⟨fT, _, mT, kT, _, _⟩ := id cT
    refine ⟨_, (@pss_setL _ pairsE _ _ _ _ _ _ _ 4 (@pa_pairs K _ (GW z.length fr)) sc__law_weighings_right.nd rfl rfl
      (@pss_cons _ _ _ _ _ (ps_expr (pe_bm PySem.F.plainAttrs_list PySem.F.slot_list_append PySem.F.type_list_append mt_append (pv 4) (pa_cons (pe_tup (pa_cons (pe_lst (pa_cons pe_non pa_nil)) (pa_cons (pe_lst (pa_cons pe_int pa_nil)) pa_nil))) pa_nil)))
      (@pss_setL _ lowE _ _ _ _ _ _ _ 5 (@pa_low K _ z.length _ h0 rfl (Or.inl rfl)) sc__law_weighings_right.nd rfl rfl
      (@pss_setL _ moreE _ _ _ _ _ _ _ 6 (@pa_more K _ (GW z.length fr)) sc__law_weighings_right.nd rfl rfl
      (@pss_cons _ _ _ _ _ (ps_for PassesOwn.never rfl (@pi_list _ _ _ _ (@pe_iter K _ z.length _ _ _ _ _ _ h0 rfl (Or.inl rfl) rfl (Or.inl rfl) rfl (Or.inl rfl) rfl (Or.inl rfl))) (pg_name (i := 7) sc__law_weighings_right.nd rfl (Or.inl rfl))
        (@pss_cons _ _ _ _ _ (ps_if (PW.pt (pw_or (pt_cmpR (op_neL hu) (pe_can c__law_told (hr.mono (by decide)) pass0 (pa_cons (pe_glob (v := .ref fW) (by rfl) mW rfl) (pa_cons (pv 0) (pa_cons (pv 7) pa_nil)))) (pv 2) (nomark _)) (pw_or1 (pt_cmpR (op_neL hu) (pe_can c__law_told (hr.mono (by decide)) pass0 (pa_cons (pe_glob (v := .ref fJ) (by rfl) mJ rfl) (pa_cons (pv 0) (pa_cons (pv 7) pa_nil)))) (pv 2) (nomark _))))) (pss_one (ps_ret pe_bl)) pss_nil) (pss_one (ps_if (pt_cmpR (op_neL hu) (pe_can c__law_told (hr.mono (by decide)) pass0 (pa_cons (pe_glob (v := .ref fD) (by rfl) mD rfl) (pa_cons (pv 1) (pa_cons (pv 7) pa_nil)))) (pv 2) (nomark _)) (pss_one (ps_ret pe_bl)) pss_nil))))
      (@pss_cons _ _ _ _ _ (ps_if (pt_not (pt_val (pe_can c__law_all (hr.mono (by decide)) pass0 (pa_cons (pe_glob (v := .ref fJ) (by rfl) mJ rfl) (pa_cons (pe_op op_add_str pe_str (pe_op op_mulS pe_str (pv 1))) (pa_cons (pv 6) (pa_cons (pv 2) pa_nil))))))) (pss_one (ps_ret pe_bl)) pss_nil)
      (pss_one (ps_ret (pe_can c__law_all (hr.mono (by decide)) pass0 (pa_cons (pe_glob (v := .ref fT) (by rfl) mT rfl) (pa_cons pe_int (pa_cons (@pe_lasts K _ z.length _ _ _ _ _ _ _ _ h0 rfl (Or.inl rfl) rfl (Or.inl rfl) rfl (Or.inl rfl) rfl (Or.inl rfl)) (pa_cons (pv 2) pa_nil))))))))))))), ?_⟩
    have sz : 1000 ≤ sizeLine := by decide
    have nn : N0 z.length := Int.natCast_nonneg _
    refine ⟨⟨rfl, rfl⟩, fun H1 vs1 s1 l1 b1 => ⟨by omega, fun p1 hp1 => ?_⟩⟩
    refine ⟨_, rfl, .inl ⟨rfl, _, SqL.of upd_same⟩, by show 1 ≤ sizeLine; decide, fun a1 ha1 => ⟨by show 1 ≤ sizeLine; decide, fun a2 ha2 => ⟨by show 2 ≤ sizeLine; decide, fun t ht => ?_⟩⟩⟩
    have n1 : p1 ≠ a1 := fun z => by rw [← z, upd_same] at ha1; cases ha1
    have e1 : upd (upd H1 p1 (.lst vs1)) a1 (.lst [.non]) p1 = some (.lst vs1) := by rw [upd_ne n1]; exact upd_same
    have n2 : p1 ≠ a2 := ne_of_none e1 ha2
    have n12 : a1 ≠ a2 := ne_of_none upd_same ha2
    have e2 : upd (upd (upd H1 p1 (.lst vs1)) a1 (.lst [.non])) a2 (.lst [.int 0]) p1 = some (.lst vs1) := by rw [upd_ne n2]; exact e1
    have e2a : upd (upd (upd H1 p1 (.lst vs1)) a1 (.lst [.non])) a2 (.lst [.int 0]) a1 = some (.lst [.non]) := by rw [upd_ne n12]; exact upd_same
    have n3 : p1 ≠ t := ne_of_none e2 ht
    have n3a : a1 ≠ t := ne_of_none e2a ht
    have s02 : Same H1 (upd (upd (upd (upd H1 p1 (.lst vs1)) a1 (.lst [.non])) a2 (.lst [.int 0])) t (.tup [.ref a1, .ref a2])) := (((Same.upd0 hp1).upd ha1).upd ha2).upd ht
    refine ⟨p1, vs1, .ref t, rfl, rfl, by rw [upd_ne n3]; exact e2, by omega, ?_⟩
    have s2 := s02.put (o := .lst (vs1 ++ [.ref t])) hp1
    have ep1 : upd (upd (upd (upd (upd H1 p1 (.lst vs1)) a1 (.lst [.non])) a2 (.lst [.int 0])) t (.tup [.ref a1, .ref a2])) p1 (.lst (vs1 ++ [.ref t])) p1 = some (.lst (vs1 ++ [.ref t])) := upd_same
    have bt : PB K N0 (upd (upd (upd (upd (upd H1 p1 (.lst vs1)) a1 (.lst [.non])) a2 (.lst [.int 0])) t (.tup [.ref a1, .ref a2])) p1 (.lst (vs1 ++ [.ref t]))) (.ref t) :=
      ⟨t, _, _, rfl, by rw [upd_ne (Ne.symm n3)]; exact upd_same, fun n _ => .inl (sd_list (xs := [.non]) rfl rfl ⟨a1, rfl, by rw [upd_ne (Ne.symm n1), upd_ne n3a]; exact e2a⟩)⟩
    generalize upd (upd (upd (upd (upd H1 p1 (.lst vs1)) a1 (.lst [.non])) a2 (.lst [.int 0])) t (.tup [.ref a1, .ref a2])) p1 (.lst (vs1 ++ [.ref t])) = H2 at s2 ep1 bt ⊢
    have b9 : ∀ v ∈ vs1 ++ [.ref t], PB K N0 H2 v := fun v hv => by
      rcases List.mem_append.mp hv with z | z
      · exact PB.same _ _ _ s2 (b1 v z)
      · simp at z; rw [z]; exact bt
    have l9 : (vs1 ++ [V.ref t]).length = 9 := by simp [l1]
    generalize vs1 ++ [V.ref t] = vs9 at ep1 b9 l9
    have S2 := s1.trans s2
    clear s2 s02 bt e1 e2 e2a n1 n2 n12 n3 n3a ht ha2 ha1 hp1 b1 l1 s1
    refine ⟨⟨rfl, rfl⟩, fun H3 vs2 s3 l2 b2 => ⟨by omega, fun p2 hp2 => ?_⟩⟩
    refine ⟨⟨rfl, rfl⟩, fun H4 vs3 s4 l3 b3 => ⟨by omega, fun p3 hp3 => ?_⟩⟩
    have S3 : Same H3 (upd H4 p3 (.lst vs3)) := ((Same.upd0 hp2).trans s4).upd hp3
    have S5 : Same H2 (upd H4 p3 (.lst vs3)) := s3.trans S3
    have ep2 : upd H4 p3 (.lst vs3) p2 = some (.lst vs2) := (Same.upd0 hp3) _ _ (s4 _ _ upd_same)
    have ep3 : upd H4 p3 (.lst vs3) p3 = some (.lst vs3) := upd_same
    have b2' : ∀ v ∈ vs2, PB K N0 (upd H4 p3 (.lst vs3)) v := fun v hv => PB.same _ _ _ S3 (b2 v hv)
    have b3' : ∀ v ∈ vs3, PB K N0 (upd H4 p3 (.lst vs3)) v := fun v hv => PB.same _ _ _ (Same.upd0 hp3) (b3 v hv)
    have b9' : ∀ v ∈ vs9, PB K N0 (upd H4 p3 (.lst vs3)) v := fun v hv => PB.same _ _ _ S5 (b9 v hv)
    have ep1' := S5 _ _ ep1
    have S := S2.trans S5
    generalize upd H4 p3 (.lst vs3) = H5 at S ep1' ep2 ep3 b2' b3' b9' ⊢
    clear S5 S3 s4 hp3 s3 hp2 b2 b3 b9 ep1 S2
    have hd5 := S _ _ hd
    refine ⟨_, rfl, _, rfl, p1, p2, _, _, rfl, rfl, ep1', ep2, by omega, fun q1 hq1 => ⟨⟨rfl, rfl⟩, fun H6 vs4 s6 l4 b4 => ⟨by omega, fun p4 hp4 => ?_⟩⟩⟩
    have eq1 : upd H6 p4 (.lst vs4) q1 = some (.lst (vs9 ++ vs2)) := (Same.upd0 hp4) _ _ (s6 _ _ upd_same)
    refine ⟨q1, p4, _, _, rfl, rfl, eq1, upd_same, by rw [List.length_append]; omega, fun q2 hq2 => ?_⟩
    have S7 : Same H5 (upd (upd H6 p4 (.lst vs4)) q2 (.lst (vs9 ++ vs2 ++ vs4))) := (((Same.upd0 hq1).trans s6).upd hp4).upd hq2
    have S67 : Same H6 (upd (upd H6 p4 (.lst vs4)) q2 (.lst (vs9 ++ vs2 ++ vs4))) := (Same.upd0 hp4).upd hq2
    have eq2 : upd (upd H6 p4 (.lst vs4)) q2 (.lst (vs9 ++ vs2 ++ vs4)) q2 = some (.lst (vs9 ++ vs2 ++ vs4)) := upd_same
    have bA : ∀ v ∈ vs9 ++ vs2 ++ vs4, PB K (· = (z.length : Int)) (upd (upd H6 p4 (.lst vs4)) q2 (.lst (vs9 ++ vs2 ++ vs4))) v := fun v hv => by
      have up0 : ∀ n : Int, n = (z.length : Int) → N0 n := fun n hn => by rw [hn]; exact nn
      rcases List.mem_append.mp hv with x | x
      · rcases List.mem_append.mp x with x | x
        · exact (PB.same _ _ _ S7 (b9' v x)).sub up0
        · exact (PB.same _ _ _ S7 (b2' v x)).sub up0
      · exact PB.same _ _ _ S67 (b4 v x)
    generalize upd (upd H6 p4 (.lst vs4)) q2 (.lst (vs9 ++ vs2 ++ vs4)) = H7 at S7 eq2 bA ⊢
    refine ⟨q2, rfl, ⟨_, SqL.of eq2⟩, for_list (K := K) (a := q2) (xs := vs9 ++ vs2 ++ vs4) (fun i σ Hx => ∃ v7, σ = [some (.str z), some (.int z.length), some (.ref d), some (.int fr), some (.ref p1), some (.ref p2), some (.ref p3), v7] ∧ Same H7 Hx)
      ⟨none, rfl, Same.refl _⟩ (fun i σ Hx _ ⟨_, _, sx⟩ => SqL.of (sx _ _ eq2)) ?_ ?_⟩
    · rintro i y σ Hx hi ⟨v7, rfl, sx⟩
      have by7 := bA y (List.mem_of_getElem? hi)
      have fe : (!eqVs ((kinds e e.weigh).map V.bl) ((kinds e e.weigh).map V.bl)) = false := by rw [kinds_eq]; rfl
      refine ⟨_, rfl, _, rfl, fW, .str z, y, e.weigh, rfl, m2 e, kW, raiseW (N := (· = (z.length : Int))) mW cW M rfl (PB.same _ _ _ sx by7), fun Ha pa sa _ ea => ?_⟩
      refine ⟨_, rfl, pa, d, _, _, rfl, rfl, SqL.of ea, SqL.of (sa _ _ (sx _ _ (S7 _ _ hd5))), kinds_flat _, kinds_flat _, _, rfl, fls fe ?_⟩
      refine ⟨_, rfl, _, rfl, fJ, .str z, y, e.weigh, rfl, m2 e, kJ, raiseW (N := (· = (z.length : Int))) mJ cJ M rfl (PB.same _ _ _ (sx.trans sa) by7), fun Hb pb sb _ eb => ?_⟩
      refine ⟨_, rfl, pb, d, _, _, rfl, rfl, SqL.of eb, SqL.of (sb _ _ (sa _ _ (sx _ _ (S7 _ _ hd5)))), kinds_flat _, kinds_flat _, _, rfl, fls fe ?_⟩
      refine ⟨_, rfl, _, rfl, fD, .int z.length, y, e.weigh, rfl, m2 e, kD, raiseD (N := (· = (z.length : Int))) mD cD nn rfl (PB.same _ _ _ ((sx.trans sa).trans sb) by7), fun Hc pc sc _ ec => ?_⟩
      refine ⟨_, rfl, pc, d, _, _, rfl, rfl, SqL.of ec, SqL.of (sc _ _ (sb _ _ (sa _ _ (sx _ _ (S7 _ _ hd5))))), kinds_flat _, kinds_flat _, _, rfl, fls fe ?_⟩
      exact ⟨_, rfl, ((sx.trans sa).trans sb).trans sc⟩
    · rintro σ Hx ⟨v7, rfl, sx⟩
      have Sx := S7.trans sx
      obtain ⟨Me, le, lb⟩ := eg_mk z.length (by omega)
      refine ⟨_, rfl, "g", z.length, rfl, rfl, mulOk_1 (by decide +kernel) z.length (by omega), _, _, rfl, rfl, by omega, _, rfl, _, rfl, ?_⟩
      refine ⟨fJ, _, p3, d, vs3, e.weigh, rfl, Sx _ _ ep3, by omega, m2 e, Sx _ _ hd5, kJ, fun v hv H' s' => raiseW mJ cJ Me (Int.natCast_nonneg _) (PB.same _ _ _ (Sx.trans s') (b3' v hv)), fun Hy sy => ⟨_, rfl, fls rfl ?_⟩⟩
      have Sy := Sx.trans sy
      refine ⟨_, rfl, _, rfl, p1, p2, _, _, rfl, rfl, Sy _ _ ep1', Sy _ _ ep2, by omega, fun r1 hr1 => ?_⟩
      have S8 := Sy.upd (o := .lst (vs9 ++ vs2)) hr1
      refine ⟨_, rfl, r1, p3, _, _, rfl, rfl, upd_same, S8 _ _ ep3, by rw [List.length_append]; omega, fun r2 hr2 => ?_⟩
      have S9 := S8.upd (o := .lst (vs9 ++ vs2 ++ vs3)) hr2
      have er2 : upd (upd Hy r1 (.lst (vs9 ++ vs2))) r2 (.lst (vs9 ++ vs2 ++ vs3)) r2 = some (.lst (vs9 ++ vs2 ++ vs3)) := upd_same
      generalize upd (upd Hy r1 (.lst (vs9 ++ vs2))) r2 (.lst (vs9 ++ vs2 ++ vs3)) = H9 at S9 er2 ⊢
      refine ⟨⟨rfl, rfl⟩, fun Hw vs5 sw l5 b5 => ⟨by omega, fun p5 hp5 => ?_⟩⟩
      refine ⟨r2, p5, _, _, rfl, rfl, (Same.upd0 hp5) _ _ (sw _ _ er2), upd_same, by simp only [List.length_append]; omega, fun r3 hr3 => ?_⟩
      have Sw : Same Hw (upd (upd Hw p5 (.lst vs5)) r3 (.lst (vs9 ++ vs2 ++ vs3 ++ vs5))) := (Same.upd0 hp5).upd hr3
      have Sz := (S9.trans sw).trans Sw
      refine ⟨_, rfl, fT, .int 0, r3, d, _, e.weigh, rfl, upd_same, by simp only [List.length_append]; omega, m2 e, Sz _ _ hd5, kT, fun v hv H' s' => ?_, fun H' s' => q H' ((S.trans Sz).trans s')⟩
      have up9 : ∀ n : Int, n = 999999999 → N0 n := fun n hn => by rw [hn]; show (0 : Int) ≤ 999999999; decide
      refine raiseT (N := fun n => n = 999999999) mT cT rfl ?_
      rcases List.mem_append.mp hv with x | x
      · rcases List.mem_append.mp x with x | x
        · rcases List.mem_append.mp x with x | x
          · exact (PB.same _ _ _ (Sz.trans s') (b9' v x)).sub up9
          · exact (PB.same _ _ _ (Sz.trans s') (b2' v x)).sub up9
        · exact (PB.same _ _ _ (Sz.trans s') (b3' v x)).sub up9
      · exact PB.same _ _ _ (Sw.trans s') (b5 v x)
end
end Ks
end
section
namespace L2
open PySem PySem.Spec PyProof.Rows
section
variable {X : Cx}
def rEqT (K : PySem.W.Frag) : R2 := fun x y H Q => ∃ a b xs ys, x = .ref a ∧ y = .ref b ∧ SqT K H a xs ∧ SqT K H b ys ∧ xs.length = ys.length ∧ xs.all flatV = true ∧ ys.all flatV = true ∧ Q (.bl (eqVs xs ys)) H
theorem op_eqT (hu : X.A.units < cLine) : OpR X (compareOp .Eq) (rEqT X.K) := by
  intro pins s σ H x y v u Q I rx ry h
  obtain ⟨a, b, xs, ys, rfl, rfl, hx, hy, hl, fx, fy, q⟩ := h
  cases rx
  cases ry
  obtain ⟨us, r1, p1, z1⟩ := I.tuple hx
  obtain ⟨vs, r2, p2, z2⟩ := I.tuple hy
  refine SeqAt.eq_tupleAt p1 p2 hu (items_eqAt r1 r2 fx fy) ⟨.bl (eqVs xs ys), H, I, ?_, q⟩
  show Value.bool _ = Value.bool _
  rw [← eqVs_range xs ys hl]; simp [← r1.length, ← r2.length, hl]
def tVG (G : St → Prop) (v : V) : TE := fun σ H Q => G σ ∧ Q v H
def tVsG (G : St → Prop) (vs : List V) : TA := fun σ H Q => G σ ∧ Q vs H
theorem pa_nilV {G : St → Prop} : PA X [] (tVsG G []) := fun pos pins s σ H Q I h => pa_nil pos pins s σ H Q I h.2
theorem pa_consV {G : St → Prop} {v : V} {vs : List V} {e : Expr} {es : List Expr} (he : PE X e (tVG G v)) (ha : PA X es (tVsG G vs)) (hs : starEach (e :: es) X.env = (false, eval e X.env) :: starEach es X.env) : PA X (e :: es) (tVsG G (v :: vs)) :=
  fun pos pins s σ H Q I h => pa_cons he ha hs pos pins s σ H Q I ⟨h.1, h.1, h.2⟩
theorem pa_consVq {G : St → Prop} {v : V} {vs : List V} {a : Expr} {o : List CmpOp} {b : List Expr} {q : Pos} {es : List Expr} (he : PE X (.Compare a o b q) (tVG G v)) (ha : PA X es (tVsG G vs)) : PA X (.Compare a o b q :: es) (tVsG G (v :: vs)) := pa_consV he ha rfl
theorem pa_consVb {G : St → Prop} {b : Bool} {vs : List V} {k : Nat} {q : Pos} {es : List Expr} (ha : PA X es (tVsG G vs)) : PA X (.Constant (.bool b) k q :: es) (tVsG G (.bl b :: vs)) := pa_consV (PE.imp pe_bl fun _ _ _ h => h.2) ha rfl
end
end L2
namespace Ks
open PySem L2 Mir
section
variable {P : Program} {w : World} {K : PySem.W.Frag} {mg : Str → Option Value} {base : Heap} {e : EA}
theorem cnt_le : ∀ l : List Nat, l.count 101 + (l.count 104 + l.count 108) + l.count 103 ≤ l.length
  | [] => by simp
  | c :: l => by
    have := cnt_le l
    simp only [List.count_cons, List.length_cons, beq_iff_eq]
    split <;> split <;> split <;> split <;> omega
theorem cnt_lt : ∀ l : List Nat, 63 ∈ l → l.count 101 + (l.count 104 + l.count 108) + l.count 103 < l.length
  | [], h => absurd h (by simp)
  | c :: l, h => by
    simp only [List.count_cons, List.length_cons, beq_iff_eq]
    rcases List.mem_cons.mp h with z | z
    · have := cnt_le l
      subst z
      simp; omega
    · have := cnt_lt l z
      split <;> split <;> split <;> split <;> omega
theorem cm_q {z : Str} (h : 63 ∈ z.cps.toList) : cmB z = false := by
  have := cnt_lt _ h
  unfold cmB cntS
  rw [str_len, decide_eq_false (show ¬ (List.count 101 z.cps.toList + (List.count 104 z.cps.toList + List.count 108 z.cps.toList) + List.count 103 z.cps.toList = z.cps.toList.length) by omega), Bool.false_and]
theorem cm_el {z : Str} (h1 : 101 ∈ z.cps.toList) (h2 : 108 ∈ z.cps.toList) : cmB z = false := by
  have c1 := List.count_pos_iff.mpr h1
  have c2 := List.count_pos_iff.mpr h2
  unfold cmB cntS
  rw [decide_eq_true c1, decide_eq_true (show 0 < List.count 104 z.cps.toList + List.count 108 z.cps.toList by omega)]
  simp
theorem app_len (a b : Str) : (a ++ b).length = a.length + b.length := by rw [str_len, app_cps, List.length_append, ← str_len, ← str_len]
theorem el_len : ("el" : Str).length = 2 := by decide +kernel
theorem el_cps : ("el" : Str).cps.toList = [101, 108] := by decide +kernel
theorem q_len : ("?" : Str).length = 1 := by decide +kernel
theorem q_cps : ("?" : Str).cps.toList = [63] := by decide +kernel
theorem mb_el {z : Str} (h : z.length ≤ 63) (H : Hp) : MBad K H (.str (z ++ "el")) := .inr ⟨_, rfl, by rw [app_len, el_len]; omega, cm_el (by rw [app_cps, el_cps]; simp) (by rw [app_cps, el_cps]; simp)⟩
theorem mb_q {x y : Str} (hx : x.length ≤ 63) (hy : y.length ≤ 63) (H : Hp) : MBad K H (.str (x ++ "?" ++ y)) := .inr ⟨_, rfl, by rw [app_len, app_len, q_len]; omega, cm_q (by rw [app_cps, app_cps, q_cps]; simp)⟩
theorem mb_str {z : Str} (h1 : z.length ≤ 1000) (h2 : cmB z = false) (H : Hp) : MBad K H (.str z) := .inr ⟨z, rfl, h1, h2⟩
def kdue (i : Int) : List Bool := [decide (V.int i = V.int 0), decide (V.int i = V.int 1), decide (V.int i = V.int 2), decide (V.int i = V.int 3), decide (V.int i = V.int 4), false, true]
theorem kdue_0 (Er : Errs K mg e) : kdue 0 = kinds e e.marks ∧ kdue 1 = kinds e e.weigh ∧ kdue 2 = kinds e e.out ∧ kdue 3 = kinds e e.never ∧ kdue 4 = kinds e e.bcoin := by
  have nd := Er.nd
  simp only [EA.six, List.nodup_cons, List.mem_cons, List.not_mem_nil, or_false, not_or] at nd
  obtain ⟨⟨a1, a2, a3, a4, a5⟩, ⟨b2, b3, b4, b5⟩, ⟨c3, c4, c5⟩, ⟨d4, d5⟩, e5, _⟩ := nd
  refine ⟨?_, ?_, ?_, ?_, ?_⟩
  · simp [kdue, kinds, a1, a2, a3, a4, a5]
  · simp [kdue, kinds, Ne.symm a1, b2, b3, b4, b5]
  · simp [kdue, kinds, Ne.symm a2, Ne.symm b2, c3, c4, c5]
  · simp [kdue, kinds, Ne.symm a3, Ne.symm b3, Ne.symm c3, d4, d5]
  · simp [kdue, kinds, Ne.symm a4, Ne.symm b4, Ne.symm c4, Ne.symm d4, e5]
def GL (z : Str) (fr : Int) (σ : St) : Prop := σ[1]? = some (some (.int fr)) ∧ σ[4]? = some (some (.str z)) ∧ σ[5]? = some (some (.int z.length))
def GK (i : Int) (σ : St) : Prop := σ[3]? = some (some (.int i))
section
variable {X : Cx} {G : St → Prop}
def dueE : List Expr := [.Compare (.Name "_law_k" ⟨301, 25, 301, 31⟩) [.Eq] [.Constant (.int 0) 0 ⟨301, 35, 301, 36⟩] ⟨301, 25, 301, 36⟩, .Compare (.Name "_law_k" ⟨301, 38, 301, 44⟩) [.Eq] [.Constant (.int 1) 0 ⟨301, 48, 301, 49⟩] ⟨301, 38, 301, 49⟩, .Compare (.Name "_law_k" ⟨301, 51, 301, 57⟩) [.Eq] [.Constant (.int 2) 0 ⟨301, 61, 301, 62⟩] ⟨301, 51, 301, 62⟩, .Compare (.Name "_law_k" ⟨301, 64, 301, 70⟩) [.Eq] [.Constant (.int 3) 0 ⟨301, 74, 301, 75⟩] ⟨301, 64, 301, 75⟩, .Compare (.Name "_law_k" ⟨301, 77, 301, 83⟩) [.Eq] [.Constant (.int 4) 0 ⟨301, 87, 301, 88⟩] ⟨301, 77, 301, 88⟩, .Constant (.bool false) 0 ⟨301, 90, 301, 95⟩, .Constant (.bool true) 0 ⟨301, 97, 301, 101⟩]
theorem due_at {i j : Int} {k : Nat} {p1 p2 p3 : Pos} (hN : X.N[3]? = some ("_law_k" : Str)) (hv : Vis X.env.scope "_law_k") : PE X (.Compare (.Name "_law_k" p1) [.Eq] [.Constant (.int j) k p2] p3) (tVG (GK i) (.bl (decide (V.int i = V.int j)))) :=
  PE.imp (pe_cmpR op_eq (pv 3 hN hv) pe_int (nomark _)) fun _ _ _ h => ⟨_, h.1, rfl, h.2⟩
theorem pa_due {i : Int} (hN : X.N[3]? = some ("_law_k" : Str)) (hv : Vis X.env.scope "_law_k") : PA X dueE (tVsG (GK i) ((kdue i).map V.bl)) :=
  @pa_consVq _ _ _ _ _ _ _ _ _ (due_at hN hv) (@pa_consVq _ _ _ _ _ _ _ _ _ (due_at hN hv) (@pa_consVq _ _ _ _ _ _ _ _ _ (due_at hN hv) (@pa_consVq _ _ _ _ _ _ _ _ _ (due_at hN hv) (@pa_consVq _ _ _ _ _ _ _ _ _ (due_at hN hv) (@pa_consVb _ _ _ _ _ _ _ (@pa_consVb _ _ _ _ _ _ _ pa_nilV))))))
def badE : List Expr := [.Constant .none 0 ⟨304, 16, 304, 20⟩, .Constant (.int 5) 0 ⟨304, 22, 304, 23⟩, .List [.Constant (.str "e") 0 ⟨304, 26, 304, 29⟩] ⟨304, 25, 304, 30⟩, .Tuple [.Constant (.str "h") 0 ⟨304, 33, 304, 36⟩] 0 ⟨304, 32, 304, 38⟩, .Constant (.str "E") 0 ⟨304, 40, 304, 43⟩, .Constant (.str "e h") 0 ⟨304, 45, 304, 50⟩, .Constant (.str "x") 0 ⟨304, 52, 304, 55⟩, .Constant (.str "el") 0 ⟨304, 57, 304, 61⟩, .Constant (.str "he") 0 ⟨304, 63, 304, 67⟩, .Constant (.str "geh") 0 ⟨304, 69, 304, 74⟩, .Constant (.str "e\n") 0 ⟨304, 76, 304, 81⟩, .Constant (.str " ") 0 ⟨304, 83, 304, 86⟩, .Constant (.bool true) 0 ⟨304, 88, 304, 92⟩, .BinOp (.Name "_law_marks_here" ⟨304, 94, 304, 109⟩) .Add (.Constant (.str "el") 0 ⟨304, 112, 304, 116⟩) ⟨304, 94, 304, 116⟩]
theorem MBad.mono (H H' : Hp) (v : V) (s : Same H H') (h : MBad K H v) : MBad K H' v := MBad.same s h
theorem pa_bad {z : Str} {fr : Int} (hz : z.length ≤ 63) (hN : X.N[4]? = some ("_law_marks_here" : Str)) (hv : Vis X.env.scope "_law_marks_here") : PA X badE (tAll (GL z fr) (MBad K) 14) :=
  @pa_consC _ _ _ _ _ _ _ _ MBad.mono (one_non fun _ => .inl ⟨_, kd_non, by decide⟩)
  (@pa_consC _ _ _ _ _ _ _ _ MBad.mono (one_int fun _ => .inl ⟨_, kd_int _, by decide⟩)
  (@pa_consL _ _ _ _ _ _ _ MBad.mono (one_lst [.str "e"] (pa_cons pe_str pa_nil) (fun _ _ _ _ q => q) (by show 1 ≤ 1000; decide) fun _ p h => .inl ⟨_, kd_lst h, by decide⟩)
  (@pa_consT _ _ _ _ _ _ _ _ MBad.mono (one_tup [.str "h"] (pa_cons pe_str pa_nil) (fun _ _ _ _ q => q) (by show 1 ≤ 1000; decide) fun _ p h => .inl ⟨_, kd_tup h, by decide⟩)
  (@pa_consC _ _ _ _ _ _ _ _ MBad.mono (one_str (mb_str (by decide +kernel) (by decide +kernel)))
  (@pa_consC _ _ _ _ _ _ _ _ MBad.mono (one_str (mb_str (by decide +kernel) (by decide +kernel)))
  (@pa_consC _ _ _ _ _ _ _ _ MBad.mono (one_str (mb_str (by decide +kernel) (by decide +kernel)))
  (@pa_consC _ _ _ _ _ _ _ _ MBad.mono (one_str (mb_str (by decide +kernel) (by decide +kernel)))
  (@pa_consC _ _ _ _ _ _ _ _ MBad.mono (one_str (mb_str (by decide +kernel) (by decide +kernel)))
  (@pa_consC _ _ _ _ _ _ _ _ MBad.mono (one_str (mb_str (by decide +kernel) (by decide +kernel)))
  (@pa_consC _ _ _ _ _ _ _ _ MBad.mono (one_str (mb_str (by decide +kernel) (by decide +kernel)))
  (@pa_consC _ _ _ _ _ _ _ _ MBad.mono (one_str (mb_str (by decide +kernel) (by decide +kernel)))
  (@pa_consC _ _ _ _ _ _ _ _ MBad.mono (one_bl fun _ => .inl ⟨_, kd_bl _, by decide⟩)
  (@pa_consB _ _ _ _ _ _ _ _ _ MBad.mono (one_val (.str (z ++ "el")) (pe_op op_add_str (pv 4 hN hv) pe_str) (fun _ _ _ g q => ⟨_, g.2.1, _, _, rfl, rfl, Nat.le_trans (show z.length + ("el" : Str).length ≤ 1000 by rw [el_len]; omega) (by decide), q⟩) (mb_el hz)) pa_nilA)))))))))))))
def outE : List Expr := [.Constant .none 0 ⟨310, 57, 310, 61⟩, .Constant (.str "") 0 ⟨310, 63, 310, 65⟩, .Constant (.str "Left") 0 ⟨310, 67, 310, 73⟩, .Constant (.str "l") 0 ⟨310, 75, 310, 78⟩, .Constant (.int 1) 0 ⟨310, 80, 310, 81⟩, .Constant (.bool true) 0 ⟨310, 83, 310, 87⟩, .List [.Constant (.str "left") 0 ⟨310, 90, 310, 96⟩] ⟨310, 89, 310, 97⟩, .Constant (.str "even ") 0 ⟨310, 99, 310, 106⟩]
theorem OBad.mono (H H' : Hp) (v : V) (s : Same H H') (h : OBad K H v) : OBad K H' v := OBad.same s h
theorem ob_str {z : Str} (h : inV (.str z) outs3 = false) (H : Hp) : OBad K H (.str z) := .inr ⟨z, rfl, h⟩
theorem pa_out : PA X outE (tAll G (OBad K) 8) :=
  @pa_consC _ _ _ _ _ _ _ _ OBad.mono (one_non fun _ => .inl ⟨_, kd_non, by decide⟩)
  (@pa_consC _ _ _ _ _ _ _ _ OBad.mono (one_str (ob_str (by decide +kernel)))
  (@pa_consC _ _ _ _ _ _ _ _ OBad.mono (one_str (ob_str (by decide +kernel)))
  (@pa_consC _ _ _ _ _ _ _ _ OBad.mono (one_str (ob_str (by decide +kernel)))
  (@pa_consC _ _ _ _ _ _ _ _ OBad.mono (one_int fun _ => .inl ⟨_, kd_int _, by decide⟩)
  (@pa_consC _ _ _ _ _ _ _ _ OBad.mono (one_bl fun _ => .inl ⟨_, kd_bl _, by decide⟩)
  (@pa_consL _ _ _ _ _ _ _ OBad.mono (one_lst [.str "left"] (pa_cons pe_str pa_nil) (fun _ _ _ _ q => q) (by show 1 ≤ 1000; decide) fun _ p h => .inl ⟨_, kd_lst h, by decide⟩)
  (@pa_consC _ _ _ _ _ _ _ _ OBad.mono (one_str (ob_str (by decide +kernel))) pa_nilA)))))))
def coinsE : List Expr := [.Constant .none 0 ⟨314, 50, 314, 54⟩, .Constant (.str "0") 0 ⟨314, 56, 314, 59⟩, .Constant (.bool true) 0 ⟨314, 61, 314, 65⟩, .List [.Constant (.int 0) 0 ⟨314, 68, 314, 69⟩] ⟨314, 67, 314, 70⟩, .UnaryOp .USub (.Constant (.int 2) 0 ⟨314, 73, 314, 74⟩) ⟨314, 72, 314, 74⟩, .BinOp (.UnaryOp .USub (.Constant (.int 2) 0 ⟨314, 77, 314, 78⟩) ⟨314, 76, 314, 78⟩) .Sub (.Name "_law_far" ⟨314, 81, 314, 89⟩) ⟨314, 76, 314, 89⟩, .Name "_law_coins" ⟨314, 91, 314, 101⟩, .BinOp (.Name "_law_coins" ⟨314, 103, 314, 113⟩) .Add (.Name "_law_far" ⟨314, 116, 314, 124⟩) ⟨314, 103, 314, 124⟩]
def OdB (K : PySem.W.Frag) (n : Int) (H : Hp) (v : V) : Prop := CBad K H (.int n) v (.bl true)
theorem OdB.mono {n : Int} (H H' : Hp) (v : V) (s : Same H H') (h : OdB K n H v) : OdB K n H' v := CBad.same s h
theorem od_kd {n : Int} {H : Hp} {v : V} {t : String} (h0 : 0 ≤ n) (k : Kd K H v t) (ht : t ≠ "int") : OdB K n H v := .inr ⟨n, rfl, .inr ⟨h0, .inl ⟨t, k, ht⟩⟩⟩
theorem od_int {n k : Int} (h0 : 0 ≤ n) (h : k < -1 ∨ n ≤ k) (H : Hp) : OdB K n H (.int k) := .inr ⟨n, rfl, .inr ⟨h0, .inr ⟨k, rfl, h.elim .inl fun x => .inr (.inl x)⟩⟩⟩
theorem pa_coins {z : Str} {fr : Int} (h0 : 0 ≤ fr) (hN1 : X.N[1]? = some ("_law_far" : Str)) (hv1 : Vis X.env.scope "_law_far") (hN : X.N[5]? = some ("_law_coins" : Str)) (hv : Vis X.env.scope "_law_coins") : PA X coinsE (tAll (GL z fr) (OdB K z.length) 8) :=
  have hn : (0 : Int) ≤ z.length := Int.natCast_nonneg _
  @pa_consC _ _ _ _ _ _ _ _ OdB.mono (one_non fun _ => od_kd hn kd_non (by decide))
  (@pa_consC _ _ _ _ _ _ _ _ OdB.mono (one_str fun _ => od_kd hn (kd_str _) (by decide))
  (@pa_consC _ _ _ _ _ _ _ _ OdB.mono (one_bl fun _ => od_kd hn (kd_bl _) (by decide))
  (@pa_consL _ _ _ _ _ _ _ OdB.mono (one_lst [.int 0] (pa_cons pe_int pa_nil) (fun _ _ _ _ q => q) (by show 1 ≤ 1000; decide) fun _ p h => od_kd hn (kd_lst h) (by decide))
  (@pa_consU _ _ _ _ _ _ _ _ OdB.mono (one_val (.int (-2)) (pe_un un_neg pe_int) (fun _ _ _ _ q => ⟨_, rfl, q⟩) (od_int hn (.inl (by decide))))
  (@pa_consB _ _ _ _ _ _ _ _ _ OdB.mono (one_val (.int (-2 - fr)) (pe_op op_sub (pe_un un_neg pe_int) (pv 1 hN1 hv1)) (fun _ _ _ g q => ⟨_, rfl, _, g.1, _, _, rfl, rfl, q⟩) (od_int hn (.inl (by omega))))
  (@pa_consN _ _ _ _ _ _ _ OdB.mono (one_val (.int z.length) (pv 5 hN hv) (fun _ _ _ g q => ⟨_, g.2.2, q⟩) (od_int hn (.inr (by omega))))
  (@pa_consB _ _ _ _ _ _ _ _ _ OdB.mono (one_val (.int (z.length + fr)) (pe_op op_add (pv 5 hN hv) (pv 1 hN1 hv1)) (fun _ _ _ g q => ⟨_, g.2.2, _, g.1, _, _, rfl, rfl, q⟩) (od_int hn (.inr (by omega)))) pa_nilA)))))))
def truthE : List Expr := [.Constant .none 0 ⟨316, 50, 316, 54⟩, .Constant (.int 0) 0 ⟨316, 56, 316, 57⟩, .Constant (.int 1) 0 ⟨316, 59, 316, 60⟩, .Constant (.str "heavy") 0 ⟨316, 62, 316, 69⟩, .List [] ⟨316, 71, 316, 73⟩]
def TrB (K : PySem.W.Frag) (H : Hp) (v : V) : Prop := ∃ t, Kd K H v t ∧ t ≠ "bool"
theorem TrB.mono (H H' : Hp) (v : V) (s : Same H H') (h : TrB K H v) : TrB K H' v := by
  obtain ⟨t, k, n⟩ := h
  exact ⟨t, k.same s, n⟩
theorem pa_truth : PA X truthE (tAll G (TrB K) 5) :=
  @pa_consC _ _ _ _ _ _ _ _ TrB.mono (one_non fun _ => ⟨_, kd_non, by decide⟩)
  (@pa_consC _ _ _ _ _ _ _ _ TrB.mono (one_int fun _ => ⟨_, kd_int _, by decide⟩)
  (@pa_consC _ _ _ _ _ _ _ _ TrB.mono (one_int fun _ => ⟨_, kd_int _, by decide⟩)
  (@pa_consC _ _ _ _ _ _ _ _ TrB.mono (one_str fun _ => ⟨_, kd_str _, by decide⟩)
  (@pa_consL _ _ _ _ _ _ _ TrB.mono (one_lst [] pa_nil (fun _ _ _ _ q => q) (by decide) fun _ p h => ⟨_, kd_lst h, by decide⟩) pa_nilA))))
def thingsE : List Expr := [.Constant .none 0 ⟨318, 23, 318, 27⟩, .Constant (.str "3") 0 ⟨318, 29, 318, 32⟩, .Constant (.bool true) 0 ⟨318, 34, 318, 38⟩, .UnaryOp .USub (.Constant (.int 1) 0 ⟨318, 41, 318, 42⟩) ⟨318, 40, 318, 42⟩, .BinOp (.UnaryOp .USub (.Constant (.int 1) 0 ⟨318, 45, 318, 46⟩) ⟨318, 44, 318, 46⟩) .Sub (.Name "_law_far" ⟨318, 49, 318, 57⟩) ⟨318, 44, 318, 57⟩, .List [.Constant (.int 3) 0 ⟨318, 60, 318, 61⟩] ⟨318, 59, 318, 62⟩]
def CnB (K : PySem.W.Frag) (H : Hp) (v : V) : Prop := CBad K H v (.int (-1)) (.bl true)
theorem CnB.mono (H H' : Hp) (v : V) (s : Same H H') (h : CnB K H v) : CnB K H' v := CBad.same s h
theorem cn_kd {H : Hp} {v : V} {t : String} (k : Kd K H v t) (ht : t ≠ "int") : CnB K H v := .inl ⟨t, k, ht⟩
theorem cn_int {k : Int} (h : k < 0) (H : Hp) : CnB K H (.int k) := .inr ⟨k, rfl, .inl h⟩
theorem pa_things {z : Str} {fr : Int} (h0 : 0 ≤ fr) (hN1 : X.N[1]? = some ("_law_far" : Str)) (hv1 : Vis X.env.scope "_law_far") : PA X thingsE (tAll (GL z fr) (CnB K) 6) :=
  @pa_consC _ _ _ _ _ _ _ _ CnB.mono (one_non fun _ => cn_kd kd_non (by decide))
  (@pa_consC _ _ _ _ _ _ _ _ CnB.mono (one_str fun _ => cn_kd (kd_str _) (by decide))
  (@pa_consC _ _ _ _ _ _ _ _ CnB.mono (one_bl fun _ => cn_kd (kd_bl _) (by decide))
  (@pa_consU _ _ _ _ _ _ _ _ CnB.mono (one_val (.int (-1)) (pe_un un_neg pe_int) (fun _ _ _ _ q => ⟨_, rfl, q⟩) (cn_int (by decide)))
  (@pa_consB _ _ _ _ _ _ _ _ _ CnB.mono (one_val (.int (-1 - fr)) (pe_op op_sub (pe_un un_neg pe_int) (pv 1 hN1 hv1)) (fun _ _ _ g q => ⟨_, rfl, _, g.1, _, _, rfl, rfl, q⟩) (cn_int (by omega)))
  (@pa_consL _ _ _ _ _ _ _ CnB.mono (one_lst [.int 3] (pa_cons pe_int pa_nil) (fun _ _ _ _ q => q) (by show 1 ≤ 1000; decide) fun _ p h => cn_kd (kd_lst h) (by decide)) pa_nilA)))))
end
theorem raiseM {x : Str} {fa : Addr} {d : Int} {v : V} {H : Hp} (hm : mg x = some (.ref fa)) (c : Can P w K mg base (CXE false P w) 6 x ["_law_door", "_law_marks_here"] (spWM K e)) (h0 : 0 ≤ d) (h5 : d < 5) (h : MBad K H v) : Raises P w K mg base 6 fa [.int d, v] H e.marks := Raises.of hm c fun E k => ⟨d, v, rfl, h0, h5, h, k⟩
theorem raiseO {x : Str} {fa : Addr} {z : Str} {v : V} {H : Hp} (hm : mg x = some (.ref fa)) (c : Can P w K mg base (CXE false P w) 6 x ["_law_marks_here", "_law_outcome"] (spWO K e)) (M : MkOk z) (h : OBad K H v) : Raises P w K mg base 6 fa [.str z, v] H e.out := Raises.of hm c fun E k => ⟨z, v, e.out, rfl, M, .inl ⟨h, rfl⟩, k⟩
theorem raiseN {x : Str} {fa : Addr} {z : Str} {p : P3} {H : Hp} (hm : mg x = some (.ref fa)) (c : Can P w K mg base (CXE false P w) 6 x ["_law_marks_here", "_law_outcome"] (spWO K e)) (M : MkOk z) (h : p ≠ P3.E) : Raises P w K mg base 6 fa [.str z, .str (p3 p)] H e.never := Raises.of hm c fun E k => ⟨z, _, e.never, rfl, M, .inr ⟨p, h, rfl, rfl⟩, k⟩
theorem raiseC {x : Str} {fa : Addr} {u v : V} {H : Hp} (hm : mg x = some (.ref fa)) (c : Can P w K mg base (CXE false P w) 6 x ["_law_coins", "_law_odd"] (spWC K e)) (h : CBad K H u v (.bl true)) : Raises P w K mg base 6 fa [u, v] H e.bcoin := Raises.of hm c fun E k => ⟨u, v, rfl, h, k⟩
theorem raiseH {x : Str} {fa : Addr} {n : Int} {v : V} {H : Hp} (hm : mg x = some (.ref fa)) (c : Can P w K mg base (CXE false P w) 6 x ["_law_coins", "_law_heavy"] (spWH K e)) (h0 : 0 ≤ n) (h : TrB K H v) : Raises P w K mg base 6 fa [.int n, v] H e.bcoin := by
  obtain ⟨t, k, n'⟩ := h
  exact Raises.of hm c fun E q => ⟨n, v, t, rfl, h0, k, n', q⟩
end
end Ks
end
section
namespace L2
open PySem PySem.Spec PyProof.Rows
theorem SqL.same {K : PySem.W.Frag} {H H' : Hp} {a : Addr} {xs : List V} (e : Same H H') (h : SqL K H a xs) : SqL K H' a xs := by
  rcases h with (h | ⟨o, h⟩) | h
  · exact .inl (.inl (e _ _ h))
  · exact .inl (.inr ⟨o, e _ _ h⟩)
  · exact .inr h
theorem pe_lstE {X : Cx} {es : List Expr} {t : TA} {q : Pos} (h : PA X es t) : PE X (.List es q) (tLst t) := pe_lst h
end L2
namespace Ks
open PySem L2 Mir
section
variable {P : Program} {w : World} {K : PySem.W.Frag} {mg : Str → Option Value} {base : Heap} {e : EA}
def tDue : TA := fun σ H Q => ∃ i, GK i σ ∧ Q ((kdue i).map V.bl) H
theorem pa_dues {X : Cx} (hN : X.N[3]? = some ("_law_k" : Str)) (hv : Vis X.env.scope "_law_k") : PA X dueE tDue := fun pos pins s σ H Q I ⟨i, g, q⟩ => @pa_due X i hN hv pos pins s σ H Q I ⟨g, q⟩
theorem pe_dues {X : Cx} {q : Pos} (hN : X.N[3]? = some ("_law_k" : Str)) (hv : Vis X.env.scope "_law_k") : PE X (.List dueE q) (tLst tDue) := by
  have h := @pa_dues X hN hv
  revert h
  generalize dueE = es
  intro h
  exact pe_lst h
theorem nil_cps : ("" : Str).cps.toList = [] := by decide +kernel
theorem mk_nil : MkOk "" := ⟨fun c hc => (by rw [nil_cps] at hc; cases hc), fun h => (by rw [nil_cps] at h; cases h), by decide +kernel⟩
theorem few_nil {m : Nat} (h : IsFew (csF "") m) : m = 0 := IsFew.uniq h ⟨by decide +kernel, fun j hj => absurd hj (by omega)⟩
theorem jd_nil : jd "" [] [] .L = 0 ∧ jd "" [] [] .R = 0 ∧ jd "" [] [] .E = 1 := by decide +kernel
def spLaw (K : PySem.W.Frag) : Sp := fun vs H Q _ => ∃ (a : Addr) (ns : List Int), vs = [.ref a] ∧ SqL K H a (ns.map V.int) ∧ ns.length ≤ 63 ∧ ∀ H', Same H H' → Q (.bl true) H'
theorem sc_law : FnScope ["_law_script", "_law_far", "_law_due", "_law_k", "_law_marks_here", "_law_coins", "_law_at", "_law_bad", "_law_door", "_law_thing"] ["_law_script"] (defScope (top 72)) := ⟨rfl, rfl, rfl, by decide +kernel, rfl, by decide +kernel, by decide +kernel⟩
theorem ok_law {f : Addr} {fd : FuncData} (F : Fun K "law" "law" (top 72) f fd) (B : Blt mg) (Er : Errs K mg e) (c__law_cell_at : Can P w K mg base CX0 1 "_law_cell_at" ["_law_script", "_law_k"] (spCell K)) (c__law_draw : Can P w K mg base CX0 1 "_law_draw" ["_law_cell", "_law_k", "_law_many"] spDraw)
    (c__law_marks : Can P w K mg base CX0 2 "_law_marks" ["_law_script"] (spMarks K)) (cM : Can P w K mg base (CXE false P w) 6 "_law_with_marks" ["_law_door", "_law_marks_here"] (spWM K e)) (cO : Can P w K mg base (CXE false P w) 6 "_law_with_outcome" ["_law_marks_here", "_law_outcome"] (spWO K e))
    (cC : Can P w K mg base (CXE false P w) 6 "_law_with_coins" ["_law_coins", "_law_odd"] (spWC K e)) (cH : Can P w K mg base (CXE false P w) 6 "_law_with_truth" ["_law_coins", "_law_heavy"] (spWH K e)) (c__law_told : Can P w K mg base CX0 7 "_law_told" ["_law_ask", "_law_one", "_law_other"] (spTo P w K mg base e))
    (c__law_all : Can P w K mg base CX0 8 "_law_all" ["_law_ask", "_law_one", "_law_things", "_law_due"] (spAl P w K mg base e)) (c__law_weighings_right : Can P w K mg base CX0 9 "_law_weighings_right" ["_law_marks_here", "_law_coins", "_law_due", "_law_far"] (spWR e))
    (c_judged : Can P w K mg base CX0 4 "judged" ["marks", "left", "right"] (fun vs H Q _ => spJdA K e vs H Q E0)) (c_fewest : Can P w K mg base CX0 3 "fewest" ["marks"] spFew) (c_written : Can P w K mg base CX0 4 "written" ["left", "right"] (fun vs H Q _ => spWr K e vs H Q E0)) : FnOk P w K mg base CX0 10 f fd ["_law_script"] (spLaw K) := by
  refine F.ok sc_law (fun vs H Q E h => ?_) (fun cdv A outer s H vs Q E hr h => ?_)
  · obtain ⟨a, ns, rfl, _⟩ := h; rfl
  · obtain ⟨a, ns, rfl, ha, hn, q⟩ := h
    have hu := hr.units0
    obtain ⟨fM, _, mM, kM, _, _⟩ := id cM
    obtain ⟨fO, _, mO, kO, _, _⟩ := id cO
    obtain ⟨fC, _, mC, kC, _, _⟩ := id cC
    obtain ⟨fH, _, mH, kH, _, _⟩ := id cH
    have M := marksF_ok (show ns.length ≤ 100 by omega)
    have hzl := marksF_len ns
    have hz : (marksF ns).length ≤ 63 := by omega
    have h0 : (0 : Int) ≤ cellF ns 0 % (10 : Int) ^ ((6 : Int).toNat) := Int.emod_nonneg _ (by decide)
    obtain ⟨fr, hfr⟩ : ∃ fr, cellF ns 0 % (10 : Int) ^ ((6 : Int).toNat) = fr := ⟨_, rfl⟩
    rw [hfr] at h0
    refine ⟨_, (@pss_cons _ _ _ _ _ (ps_set (i := 1) sc_law.nd rfl (Or.inl rfl) (pe_op op_mod (pe_can c__law_cell_at (hr.mono (by decide)) pass0 (pa_cons (pv 0) (pa_cons pe_int pa_nil))) (pe_op op_pow pe_int pe_int)))
      (@pss_cons _ _ _ _ _ (ps_set (i := 2) sc_law.nd rfl (Or.inl rfl) (pe_lst pa_nil))
      (@pss_cons _ _ _ _ _ (ps_for PassesOwn.never rfl (pi_range1 (by rfl) B.range (pa_cons pe_int pa_nil)) (pg_name (i := 3) sc_law.nd rfl (Or.inl rfl)) (pss_one (ps_expr (pe_bm PySem.F.plainAttrs_list PySem.F.slot_list_append PySem.F.type_list_append mt_append (pv 2) (pa_cons (@pe_dues _ _ rfl (Or.inl rfl)) pa_nil)))))
      (@pss_cons _ _ _ _ _ (ps_par rfl sc_law.nd (i := 4) (j := 5) rfl rfl (by decide) rfl rfl (pa_cons (pe_can c__law_marks (hr.mono (by decide)) pass0 (pa_cons (pv 0) pa_nil)) (pa_cons (pe_callB call_len_seq (by rfl) B.len boot_lenB (pa_cons (pv 0) pa_nil)) pa_nil)) rfl)
      (@pss_cons _ _ _ _ _ (ps_set (i := 6) sc_law.nd rfl (Or.inl rfl) (pe_can c__law_draw (hr.mono (by decide)) pass0 (pa_cons (pe_can c__law_cell_at (hr.mono (by decide)) pass0 (pa_cons (pv 0) (pa_cons pe_int pa_nil))) (pa_cons pe_int (pa_cons (pe_op op_add (pv 5) pe_int) pa_nil)))))
      (@pss_setL _ badE _ _ _ _ _ _ _ 7 (@pa_bad K _ (marksF ns) fr hz rfl (Or.inl rfl)) sc_law.nd rfl rfl
      (@pss_cons _ _ _ _ _ (ps_for PassesOwn.never rfl (pi_range1 (by rfl) B.range (pa_cons pe_int pa_nil)) (pg_name (i := 8) sc_law.nd rfl (Or.inl rfl)) (pss_one (ps_if (pt_not (pt_val (pe_can c__law_all (hr.mono (by decide)) pass0 (pa_cons (pe_glob (v := .ref fM) (by rfl) mM rfl) (pa_cons (pv 8) (pa_cons (pe_op op_cat (pv 7) (pe_lst (pa_cons (pe_op op_add_str (pe_op op_add_str (pe_slice sl_str (pv 4) po_none (po_some (pv 6))) pe_str) (pe_slice sl_str (pv 4) (po_some (pv 6)) po_none)) pa_nil))) (pa_cons (pe_ix ix_list (pv 2) pe_int (fun _ _ => rfl)) pa_nil))))))) (pss_one (ps_ret pe_bl)) pss_nil)))
      (@pss_cons _ _ _ _ _ (ps_if (pt_not (pt_val (pe_can c__law_weighings_right (hr.mono (by decide)) pass0 (pa_cons (pv 4) (pa_cons (pv 5) (pa_cons (pe_ix ix_list (pv 2) pe_int (fun _ _ => rfl)) (pa_cons (pv 1) pa_nil))))))) (pss_one (ps_ret pe_bl)) pss_nil)
      (@pss_cons _ _ _ _ _ (ps_if (pt_not (pt_val (pe_can c__law_all (hr.mono (by decide)) pass0 (pa_cons (pe_glob (v := .ref fO) (by rfl) mO rfl) (pa_cons (pv 4) (pa_cons (@pe_lstE _ outE _ _ (@pa_out K _ (fun _ => True))) (pa_cons (pe_ix ix_list (pv 2) pe_int (fun _ _ => rfl)) pa_nil))))))) (pss_one (ps_ret pe_bl)) pss_nil)
      (@pss_cons _ _ _ _ _ (ps_if (pt_not (pt_val (pe_can c__law_all (hr.mono (by decide)) pass0 (pa_cons (pe_glob (v := .ref fO) (by rfl) mO rfl) (pa_cons (pv 4) (pa_cons (pe_lst (pa_cons pe_str (pa_cons pe_str pa_nil))) (pa_cons (pe_ix ix_list (pv 2) pe_int (fun _ _ => rfl)) pa_nil))))))) (pss_one (ps_ret pe_bl)) pss_nil)
      (@pss_cons _ _ _ _ _ (ps_if (pt_not (pt_val (pe_can c__law_all (hr.mono (by decide)) pass0 (pa_cons (pe_glob (v := .ref fC) (by rfl) mC rfl) (pa_cons (pv 5) (pa_cons (@pe_lstE _ coinsE _ _ (@pa_coins K _ (marksF ns) _ h0 rfl (Or.inl rfl) rfl (Or.inl rfl))) (pa_cons (pe_ix ix_list (pv 2) pe_int (fun _ _ => rfl)) pa_nil))))))) (pss_one (ps_ret pe_bl)) pss_nil)
      (@pss_cons _ _ _ _ _ (ps_if (pt_not (pt_val (pe_can c__law_all (hr.mono (by decide)) pass0 (pa_cons (pe_glob (v := .ref fH) (by rfl) mH rfl) (pa_cons (pv 5) (pa_cons (@pe_lstE _ truthE _ _ (@pa_truth K _ (fun _ => True))) (pa_cons (pe_ix ix_list (pv 2) pe_int (fun _ _ => rfl)) pa_nil))))))) (pss_one (ps_ret pe_bl)) pss_nil)
      (@pss_cons _ _ _ _ _ (ps_for PassesOwn.never rfl (@pi_list _ _ _ _ (@pe_lstE _ thingsE _ _ (@pa_things K _ (marksF ns) _ h0 rfl (Or.inl rfl)))) (pg_name (i := 9) sc_law.nd rfl (Or.inl rfl)) (pss_one (ps_if (pt_cmpR (op_neL hu) (pe_can c__law_told (hr.mono (by decide)) pass0 (pa_cons (pe_glob (v := .ref fC) (by rfl) mC rfl) (pa_cons (pv 9) (pa_cons (pe_un un_neg pe_int) pa_nil)))) (pe_ix ix_list (pv 2) pe_int (fun _ _ => rfl)) (nomark _)) (pss_one (ps_ret pe_bl)) pss_nil)))
      (pss_one (ps_ret (pe_and (pe_cmpR (op_eqT hu) (pe_can c_judged (hr.mono (by decide)) pass0 (pa_cons pe_str (pa_cons (pe_lst pa_nil) (pa_cons (pe_lst pa_nil) pa_nil)))) (pe_tup (pa_cons pe_int (pa_cons pe_int (pa_cons pe_int pa_nil)))) (nomark _)) (pe_and (pe_cmpR op_eq (pe_can c_fewest (hr.mono (by decide)) pass0 (pa_cons pe_str pa_nil)) pe_int (nomark _)) (pe_one (pe_cmpR op_eq (pe_can c_written (hr.mono (by decide)) pass0 (pa_cons (pe_lst (pa_cons pe_int pa_nil)) (pa_cons (pe_lst (pa_cons pe_int pa_nil)) pa_nil))) pe_str (nomark _)))))))))))))))))))), ?_⟩
    have sz : 1000 ≤ sizeLine := by decide
    have lm : (((ns.map V.int).length : Nat) : Int) = ((marksF ns).length : Int) := by rw [hzl, List.length_map]
    obtain ⟨j0, j1, j2, j3, j4⟩ := kdue_0 Er
    refine ⟨_, rfl, a, ns, 0, rfl, ha, by decide, 10, 6, rfl, rfl, ⟨by decide, by decide, by decide⟩, _, _, rfl, rfl, show (0 : Int) < 10 ^ ((6 : Int).toNat) by decide, ?_⟩
    refine ⟨by show 0 ≤ sizeLine; decide, fun p hp => ?_⟩
    refine ⟨5, rfl, by decide, by decide, for_range (fun i σ Hx => ∃ (v3 : Option V) (ds : List Addr), σ = [some (.ref a), some (.int fr), some (.ref p), v3, none, none, none, none, none, none] ∧ Same H Hx ∧ ds.length = i ∧ Hx p = some (.lst (ds.map V.ref)) ∧ ∀ (j : Nat) (d : Addr), ds[j]? = some d → d ≠ p ∧ Hx d = some (.lst ((kdue (j : Int)).map V.bl)))
      ⟨none, [], by rw [← hfr]; rfl, Same.upd0 hp, rfl, upd_same, fun j d h => by simp at h⟩ ?_ ?_⟩
    · rintro i σ Hx hi ⟨v3, ds, rfl, sx, dl, ep, hds⟩
      refine ⟨_, rfl, .inl ⟨rfl, _, SqL.of ep⟩, 0 + (i : Int), rfl, by show 7 ≤ sizeLine; decide, fun d hd => ?_⟩
      have npd : p ≠ d := ne_of_none ep hd
      refine ⟨p, _, .ref d, rfl, rfl, by rw [upd_ne npd]; exact ep, by rw [List.length_map]; omega, ?_⟩
      refine ⟨_, ds ++ [d], rfl, (sx.upd hd).put hp, by simp [dl], by rw [upd_same, List.map_append]; rfl, fun j d' hj => ?_⟩
      rcases Nat.lt_or_ge j ds.length with hlt | hge
      · rw [List.getElem?_append_left hlt] at hj
        obtain ⟨n1, e1⟩ := hds j d' hj
        exact ⟨n1, by rw [upd_ne n1, upd_ne (ne_of_none e1 hd)]; exact e1⟩
      · rw [List.getElem?_append_right hge] at hj
        have hjj : j = ds.length := by
          rcases Nat.eq_or_lt_of_le hge with z | z
          · exact z.symm
          · rw [List.getElem?_eq_none (by simp; omega)] at hj; cases hj
        subst hjj
        rw [Nat.sub_self] at hj
        cases hj
        refine ⟨Ne.symm npd, ?_⟩
        rw [upd_ne (Ne.symm npd), upd_same, dl, Int.zero_add]
    rintro σ Hx ⟨v3, ds, rfl, sx, dl, ep, hds⟩
    obtain ⟨d0, d1, d2, d3, d4, rfl⟩ : ∃ d0 d1 d2 d3 d4, ds = [d0, d1, d2, d3, d4] := by
      match ds, dl with
      | [d0, d1, d2, d3, d4], _ => exact ⟨_, _, _, _, _, rfl⟩
    have k0 := (hds 0 d0 rfl).2
    have k1 := (hds 1 d1 rfl).2
    have k2 := (hds 2 d2 rfl).2
    have k3 := (hds 3 d3 rfl).2
    have k4 := (hds 4 d4 rfl).2
    rw [show ((0 : Nat) : Int) = 0 from rfl, j0] at k0
    rw [show ((1 : Nat) : Int) = 1 from rfl, j1] at k1
    rw [show ((2 : Nat) : Int) = 2 from rfl, j2] at k2
    rw [show ((3 : Nat) : Int) = 3 from rfl, j3] at k3
    rw [show ((4 : Nat) : Int) = 4 from rfl, j4] at k4
    clear hds j0 j1 j2 j3 j4 dl
    refine ⟨_, rfl, a, ns, rfl, SqL.same sx ha, hn, fun H1 s1 => ⟨_, rfl, a, _, rfl, .inl (SqL.same (sx.trans s1) ha), _, _, rfl, ?_⟩⟩
    rw [lm]
    have S1 := sx.trans s1
    refine ⟨_, rfl, a, ns, 1, rfl, SqL.same S1 ha, by decide, _, rfl, _, _, rfl, rfl, _, 3, _, rfl, by decide, by omega, fun H2 s2 => ?_⟩
    generalize marksF ns = z at M hz ⊢
    generalize drawF (cellF ns 1) 3 ((z.length : Int) + 1) = at'
    have S2 := S1.trans s2
    have hzs : z.length ≤ sizeLine := by omega
    refine ⟨⟨rfl, rfl, rfl⟩, fun H3 vs3 s3 l3 b3 => ⟨by omega, fun pb hpb => ?_⟩⟩
    have s4 : Same Hx (upd H3 pb (.lst vs3)) := ((s1.trans s2).trans s3).upd hpb
    have S4 := sx.trans s4
    have b4 : ∀ v ∈ vs3, MBad K (upd H3 pb (.lst vs3)) v := fun v hv => MBad.same (Same.upd0 hpb) (b3 v hv)
    have eb : upd H3 pb (.lst vs3) pb = some (.lst vs3) := upd_same
    have ep4 := s4 _ _ ep
    have k0 := s4 _ _ k0
    have k1 := s4 _ _ k1
    have k2 := s4 _ _ k2
    have k3 := s4 _ _ k3
    have k4 := s4 _ _ k4
    generalize upd H3 pb (.lst vs3) = H4 at S4 b4 eb ep4 k0 k1 k2 k3 k4 ⊢
    clear s4 b3 hpb s3 S2 S1 s2 s1 ep sx hp ha
    refine ⟨5, rfl, by decide, by decide, for_range (fun i σ Hy => ∃ v8, σ = [some (.ref a), some (.int fr), some (.ref p), v3, some (.str z), some (.int z.length), some (.int at'), some (.ref pb), v8, none] ∧ Same H4 Hy) ⟨none, rfl, Same.refl _⟩ ?_ ?_⟩
    · rintro i σ Hy hi ⟨v8, rfl, sy⟩
      have x1 : (Txt.slice z none (some at')).length ≤ z.length := Txt.slice_le z _ _
      have x2 : (Txt.slice z (some at') none).length ≤ z.length := Txt.slice_le z _ _
      have x3 := q_len
      have x4 := app_len (Txt.slice z none (some at')) "?"
      refine ⟨_, rfl, _, rfl, _, rfl, _, rfl, _, rfl, z, rfl, hzs, _, _, rfl, rfl, by omega, _, rfl, _, rfl, _, rfl, z, rfl, hzs, _, _, rfl, rfl, by omega, by show 1 ≤ sizeLine; decide, fun q1 hq1 => ?_⟩
      have y1 := sy.upd (o := .lst [.str (Txt.slice z none (some at') ++ "?" ++ Txt.slice z (some at') none)]) hq1
      refine ⟨pb, q1, _, _, rfl, rfl, y1 _ _ eb, upd_same, by show vs3.length + 1 ≤ sizeLine; omega, fun q2 hq2 => ?_⟩
      have y2 := y1.upd (o := .lst (vs3 ++ [.str (Txt.slice z none (some at') ++ "?" ++ Txt.slice z (some at') none)])) hq2
      refine ⟨_, rfl, p, _, 0, .ref d0, rfl, rfl, SqL.of (y2 _ _ ep4), rfl, ?_⟩
      refine ⟨fM, .int (0 + (i : Int)), q2, d0, _, e.marks, rfl, upd_same, by simp [l3], m1 e, y2 _ _ k0, kM, fun v hv H' s' => raiseM mM cM (by omega) (by omega) ?_, fun Hz sz' => ⟨_, rfl, fls rfl ⟨_, rfl, y2.trans sz'⟩⟩⟩
      rcases List.mem_append.mp hv with x | x
      · exact MBad.same (y2.trans s') (b4 v x)
      · simp at x; rw [x]; exact mb_q (by omega) (by omega) _
    rintro σ Hy ⟨v8, rfl, sy⟩
    have hn : (0 : Int) ≤ z.length := Int.natCast_nonneg _
    refine ⟨_, rfl, _, rfl, _, rfl, p, _, 1, .ref d1, rfl, rfl, SqL.of (sy _ _ ep4), rfl, _, rfl, z, d1, fr, rfl, M, hz, h0, sy _ _ k1, fun H5 s5 => ⟨_, rfl, fls rfl ?_⟩⟩
    have y5 := sy.trans s5
    refine ⟨_, rfl, trivial, fun H6 vs6 s6 l6 b6 => ⟨by omega, fun q6 hq6 => ?_⟩⟩
    have y6 := (y5.trans s6).upd (o := .lst vs6) hq6
    refine ⟨_, rfl, p, _, 2, .ref d2, rfl, rfl, SqL.of (y6 _ _ ep4), rfl, fO, .str z, q6, d2, vs6, e.out, rfl, upd_same, by omega, m3 e, y6 _ _ k2, kO, fun v hv H' s' => raiseO mO cO M (OBad.same ((Same.upd0 hq6).trans s') (b6 v hv)), fun H7 s7 => ⟨_, rfl, fls rfl ?_⟩⟩
    have y7 := y6.trans s7
    refine ⟨_, rfl, by show 2 ≤ sizeLine; decide, fun q8 hq8 => ?_⟩
    have y8 := y7.upd (o := .lst [.str "left", .str "right"]) hq8
    refine ⟨_, rfl, p, _, 3, .ref d3, rfl, rfl, SqL.of (y8 _ _ ep4), rfl, fO, .str z, q8, d3, _, e.never, rfl, upd_same, by show 2 ≤ 100; decide, m4 e, y8 _ _ k3, kO, fun v hv H' s' => ?_, fun H9 s9 => ⟨_, rfl, fls rfl ?_⟩⟩
    · simp only [List.mem_cons, List.not_mem_nil, or_false] at hv
      rcases hv with x | x
      · rw [x]; exact raiseN (p := .L) mO cO M (by decide)
      · rw [x]; exact raiseN (p := .R) mO cO M (by decide)
    have y9 := y8.trans s9
    refine ⟨_, rfl, ⟨rfl, rfl, rfl⟩, fun H10 vs10 s10 l10 b10 => ⟨by omega, fun q10 hq10 => ?_⟩⟩
    have y10 := (y9.trans s10).upd (o := .lst vs10) hq10
    refine ⟨_, rfl, p, _, 4, .ref d4, rfl, rfl, SqL.of (y10 _ _ ep4), rfl, fC, .int z.length, q10, d4, vs10, e.bcoin, rfl, upd_same, by omega, m5 e, y10 _ _ k4, kC, fun v hv H' s' => raiseC mC cC (OdB.mono _ _ _ ((Same.upd0 hq10).trans s') (b10 v hv)), fun H11 s11 => ⟨_, rfl, fls rfl ?_⟩⟩
    have y11 := y10.trans s11
    refine ⟨_, rfl, trivial, fun H12 vs12 s12 l12 b12 => ⟨by omega, fun q12 hq12 => ?_⟩⟩
    have y12 := (y11.trans s12).upd (o := .lst vs12) hq12
    refine ⟨_, rfl, p, _, 4, .ref d4, rfl, rfl, SqL.of (y12 _ _ ep4), rfl, fH, .int z.length, q12, d4, vs12, e.bcoin, rfl, upd_same, by omega, m5 e, y12 _ _ k4, kH, fun v hv H' s' => raiseH mH cH hn (TrB.mono _ _ _ ((Same.upd0 hq12).trans s') (b12 v hv)), fun H13 s13 => ⟨_, rfl, fls rfl ?_⟩⟩
    have y13 := y12.trans s13
    refine ⟨⟨rfl, rfl, rfl⟩, fun H14 vs14 s14 l14 b14 => ⟨by omega, fun q14 hq14 => ?_⟩⟩
    have y14 := (y13.trans s14).upd (o := .lst vs14) hq14
    have e14 : upd H14 q14 (.lst vs14) q14 = some (.lst vs14) := upd_same
    have b14' : ∀ v ∈ vs14, CnB K (upd H14 q14 (.lst vs14)) v := fun v hv => CnB.mono _ _ _ (Same.upd0 hq14) (b14 v hv)
    generalize upd H14 q14 (.lst vs14) = H15 at y14 e14 b14' ⊢
    refine ⟨q14, rfl, ⟨_, SqL.of e14⟩, for_list (K := K) (a := q14) (xs := vs14) (fun i σ Hz => ∃ v9, σ = [some (.ref a), some (.int fr), some (.ref p), v3, some (.str z), some (.int z.length), some (.int at'), some (.ref pb), v8, v9] ∧ Same H15 Hz)
      ⟨none, rfl, Same.refl _⟩ (fun i σ Hz _ ⟨_, _, sz'⟩ => SqL.of (sz' _ _ e14)) ?_ ?_⟩
    · rintro i y σ Hz hi ⟨v9, rfl, sz'⟩
      have by14 := b14' y (List.mem_of_getElem? hi)
      have fe : (!eqVs ((kinds e e.bcoin).map V.bl) ((kinds e e.bcoin).map V.bl)) = false := by rw [kinds_eq]; rfl
      refine ⟨_, rfl, _, rfl, fC, y, .int (-1), e.bcoin, rfl, m5 e, kC, raiseC mC cC (CnB.mono _ _ _ sz' by14), fun Ha pa sa _ ea => ?_⟩
      refine ⟨_, rfl, p, _, 4, .ref d4, rfl, rfl, SqL.of (((y14.trans sz').trans sa) _ _ ep4), rfl, pa, d4, _, _, rfl, rfl, SqL.of ea, SqL.of (((y14.trans sz').trans sa) _ _ k4), kinds_flat _, kinds_flat _, _, rfl, fls fe ?_⟩
      exact ⟨_, rfl, sz'.trans sa⟩
    rintro σ Hz ⟨v9, rfl, sz'⟩
    have S15 := (S4.trans y14).trans sz'
    obtain ⟨r1, r2, r3⟩ := jd_nil
    refine ⟨by show 0 ≤ sizeLine; decide, fun a1 ha1 => ⟨by show 0 ≤ sizeLine; decide, fun a2 ha2 => ?_⟩⟩
    have n12 : a1 ≠ a2 := ne_of_none upd_same ha2
    refine .inl ⟨"", a1, a2, [], [], rfl, mk_nil, by rw [upd_ne n12]; exact upd_same, upd_same, by decide, by decide, (fun z => nomatch z), fun _ Hj t sj _ ej => ?_⟩
    rw [r1, r2, r3] at ej
    have Sj := (((S15.upd ha1).upd ha2).trans sj)
    refine ⟨by show 3 ≤ sizeLine; decide, fun t2 ht2 => ?_⟩
    have Sk := Sj.upd (o := .tup [.int 0, .int 0, .int 1]) ht2
    refine ⟨t, t2, _, _, rfl, rfl, SqT.of ((Same.upd0 ht2) _ _ ej), SqT.of upd_same, rfl, rfl, rfl, _, rfl, tru (by decide) ?_⟩
    refine ⟨"", rfl, mk_nil, fun m hm => ?_⟩
    rw [few_nil hm]
    refine ⟨rfl, _, rfl, tru (by decide) ?_⟩
    refine ⟨by show 1 ≤ sizeLine; decide, fun b1 hb1 => ⟨by show 1 ≤ sizeLine; decide, fun b2 hb2 => ?_⟩⟩
    have m12 : b1 ≠ b2 := ne_of_none upd_same hb2
    refine ⟨_, _, rfl, .inr ⟨b1, b2, rfl, rfl, by rw [upd_ne m12]; exact upd_same, upd_same, fun Hw sw => ⟨rfl, ?_⟩⟩⟩
    have := q Hw (((Sk.upd hb1).upd hb2).trans sw)
    rw [decide_eq_true rfl]
    exact this
end
end Ks
end
section
namespace PySem.W
theorem findObj_dataN {K : Frag} {C : Addr} {name : Str} {a g : Value} (hc : (clsIn K C).isSome = true) (ha : findIn K (.ref C) name = some (some a)) (hg : specialIn K a "__get__" = some (some g)) (ht : takesIn K a = some true) : findObj K C none name = some (.bind g a) := by
  obtain ⟨cd, hc⟩ := Option.isSome_iff_exists.mp hc
  unfold findObj; rw [hc, Option.bind_some, ha, Option.bind_some]; simp [hg, ht]
end PySem.W
namespace Ks
open PySem L2 Mir
def DefIn (K : PySem.W.Frag) (x : Str) (st : Stmt) : Prop := ∃ f fd, PySem.W.nsIn K mainGlobals x = some (some (.ref f)) ∧ Fun K x x st f fd
theorem def_mk {K : PySem.W.Frag} {x : Str} {st : Stmt} {f : Addr} {oc : Value} {od an : Option Addr} {osl : Array (Option Value)} {kV doc pm cdv ct : Value} (a : PySem.W.nsIn K mainGlobals x = some (some (.ref f)))
    (l : K.lookup f = some ⟨oc, od, .func (PySem.W.fnOf x x (defArgs st) (defBody st) (defScope st) .none kV doc pm an cdv ct), osl⟩) (c : PySem.W.codeIn K cdv x = true) (k : PySem.W.keepIn K (.ref f) = true) : DefIn K x st := ⟨f, _, a, fun_mk l c k⟩
theorem can_of {P : Program} {w : World} {K : PySem.W.Frag} {mg : Str → Option Value} {base h : Heap} {CX : CXT} {k : Nat} {x : Str} {st : Stmt} {ps : List Str} {sp : Sp} (X : K.In h) (G : h.Ns mainGlobals mg) (D : DefIn K x st)
    (hb : ∀ (kV doc pm : Value) (an : Option Addr) (cdv ct : Value) (us : List Value), us.length = ps.length → bindArgs (PySem.W.fnOf x x (defArgs st) (defBody st) (defScope st) .none kV doc pm an cdv ct) ⟨us, []⟩ = pure (ps.zip us))
    (ok : ∀ f fd, Fun K x x st f fd → FnOk P w K mg base CX k f fd ps sp) : Can P w K mg base CX k x ps sp := by
  obtain ⟨f, fd, a, F⟩ := D
  exact ⟨f, fd, PySem.W.mg_of X G a, F.kp, F.binds hb, ok f fd F⟩
def errB (K : PySem.W.Frag) (c0 : Addr) (six : List Addr) : Bool := six.all fun c => PySem.W.excIn K c vMro "ValueError.__new__" && (PySem.W.exmOne K (.ref c) (.ref c0) == some true) && (PySem.W.kitOne K (.ref c) (.type "ValueError") == some true) &&
  (six.all fun d => PySem.W.kitOne K (.ref c) (.ref d) == some (decide (c = d))) &&
  (PySem.W.findIn K (.ref c) "__getattribute__" == some (some (.builtin "BaseException.__getattribute__"))) && (PySem.W.findIn K (.ref c) "__getattr__" == some none) && (PySem.W.findIn K (.ref c) "__class__" == some (some (.builtin "object.__class__"))) &&
  (PySem.W.mroIn K c (.type "BaseException") == some true) && (PySem.W.mroIn K c (.type "object") == some true) && (PySem.W.clsIn K c).isSome
theorem errs_mk {K : PySem.W.Frag} {h : Heap} {mg : Str → Option Value} (X : K.In h) (G : h.Ns mainGlobals mg) {c0 c1 c2 c3 c4 c5 c6 : Addr} (n0 : PySem.W.nsIn K mainGlobals "CoinError" = some (some (.ref c0))) (n1 : PySem.W.nsIn K mainGlobals "BadMarks" = some (some (.ref c1)))
    (n2 : PySem.W.nsIn K mainGlobals "BadWeighing" = some (some (.ref c2))) (n3 : PySem.W.nsIn K mainGlobals "BadOutcome" = some (some (.ref c3))) (n4 : PySem.W.nsIn K mainGlobals "Never" = some (some (.ref c4))) (n5 : PySem.W.nsIn K mainGlobals "BadCoin" = some (some (.ref c5))) (n6 : PySem.W.nsIn K mainGlobals "BadText" = some (some (.ref c6)))
    (nv : PySem.W.nsIn K mainGlobals "ValueError" = some none) (sp : PySem.W.specialIn K (.builtin "object.__class__") "__get__" = some (some (.builtin "getset_descriptor.__get__"))) (tk : PySem.W.takesIn K (.builtin "object.__class__") = some true)
    (nd : [c1, c2, c3, c4, c5, c6].Nodup) (al : errB K c0 [c1, c2, c3, c4, c5, c6] = true) : ∃ e, Errs K mg e := by
  have A : ∀ c ∈ [c1, c2, c3, c4, c5, c6], _ := List.all_eq_true.mp al
  simp only [Bool.and_eq_true, beq_iff_eq, List.all_eq_true] at A
  refine ⟨⟨c0, c1, c2, c3, c4, c5, c6⟩, ⟨PySem.W.mg_of X G n0, PySem.W.mg_of X G n1, PySem.W.mg_of X G n2, PySem.W.mg_of X G n3, PySem.W.mg_of X G n4, PySem.W.mg_of X G n5, PySem.W.mg_of X G n6, PySem.W.mg_none_of X G nv, nd, fun c hc => ?_, fun c hc => ?_, fun c hc => ?_, fun c hc d hd => ?_, fun c hc => ?_⟩⟩
  all_goals obtain ⟨⟨⟨⟨⟨⟨⟨⟨⟨a1, a2⟩, a3⟩, a4⟩, a5⟩, a6⟩, a7⟩, a8⟩, a9⟩, a10⟩ := A c hc
  · exact a1
  · exact ⟨a5, a6, PySem.W.findObj_dataN a10 a7 sp tk, a8, a9, a10⟩
  · exact a2
  · exact a4 d hd
  · exact a3
theorem oth_mk {K : PySem.W.Frag} {w : World} {h : Heap} {mg : Str → Option Value} (X : K.In h) (G : h.Ns mainGlobals mg) {d : Addr} {es : Array DictEntry} {n : Nat} {t1 t2 t3 : Tok} (a : PySem.W.nsIn K mainGlobals "OTHER" = some (some (.ref d))) (l : K.lookup d = some ⟨.type "dict", none, .dict es n, #[]⟩)
    (b1 : PySem.W.nsIn K d "left" = some (some (.str "right" t1))) (b2 : PySem.W.nsIn K d "right" = some (some (.str "left" t2))) (b3 : PySem.W.nsIn K d "even" = some (some (.str "even" t3))) (kl : PySem.W.KeysLit w.params es.toList) : Oth K w mg :=
  ⟨d, es, n, PySem.W.mg_of X G a, l, kl, fun p => match p with | .L => ⟨_, b1, ⟨t1, rfl⟩⟩ | .R => ⟨_, b2, ⟨t2, rfl⟩⟩ | .E => ⟨_, b3, ⟨t3, rfl⟩⟩⟩
theorem outs_mk {K : PySem.W.Frag} {h : Heap} {mg : Str → Option Value} (X : K.In h) (G : h.Ns mainGlobals mg) {d : Addr} {n : Nat} {t1 t2 t3 : Tok} {sl : Array (Option Value)} (a : PySem.W.nsIn K mainGlobals "OUTCOMES" = some (some (.ref d))) (l : K.lookup d = some ⟨.type "tuple", none, .seq #[.str "left" t1, .str "right" t2, .str "even" t3] n, sl⟩) : Outs K mg :=
  ⟨d, _, _, n, PySem.W.mg_of X G a, l, rfl, rfl, rfl, .cons ⟨t1, rfl⟩ (.cons ⟨t2, rfl⟩ (.cons ⟨t3, rfl⟩ .nil))⟩
theorem glb_mk {K : PySem.W.Frag} {h : Heap} {mg : Str → Option Value} (X : K.In h) (G : h.Ns mainGlobals mg) {t1 t4 t5 : Tok} (n1 : PySem.W.nsIn K mainGlobals "HIGHEST" = some (some (.int 999999999 t1)))
    (n4 : PySem.W.nsIn K mainGlobals "BETWEEN_SIDES" = some (some (.str " | " t4))) (n5 : PySem.W.nsIn K mainGlobals "NONE" = some (some (.str "-" t5))) : Glb mg :=
  ⟨⟨_, PySem.W.mg_of X G n1⟩, ⟨_, PySem.W.mg_of X G n4⟩, ⟨_, PySem.W.mg_of X G n5⟩⟩
def kxB (K : PySem.W.Frag) : Bool := kds.all fun t => kds.all fun c => PySem.W.kitOne K (.type t) (.type c) == some (kitW t c)
theorem kx_mk {K : PySem.W.Frag} (h : kxB K = true) : Kx K := fun t ht c hc => beq_iff_eq.mp (List.all_eq_true.mp (List.all_eq_true.mp h t ht) c hc)
theorem all_mk {P : Program} {w : World} {K : PySem.W.Frag} {h : Heap} {mg : Str → Option Value} {fa : Addr} (X : K.In h) (G : h.Ns mainGlobals mg) (hfa : mg "law" = some (.ref fa)) (B : Blt mg) (T : Kit K) (Tx : Kx K) (O1 : Oth K w mg) (O2 : Outs K mg) (Gl : Glb mg) (Er : ∃ e, Errs K mg e)
    (Dis_whole : DefIn K "is_whole" (top 11))
    (Dcheck_marks : DefIn K "check_marks" (top 12))
    (Dcheck_side : DefIn K "check_side" (top 13))
    (Dcheck_weighing : DefIn K "check_weighing" (top 14))
    (Dcheck_outcome : DefIn K "check_outcome" (top 15))
    (Dcheck_odd : DefIn K "check_odd" (top 16))
    (Dcases : DefIn K "cases" (top 29))
    (Dmost_cases : DefIn K "most_cases" (top 30))
    (Dfewest : DefIn K "fewest" (top 31))
    (Dtold : DefIn K "told" (top 43))
    (Dplaced : DefIn K "placed" (top 19))
    (Doutcome_by : DefIn K "outcome_by" (top 20))
    (Dmay_be_heavy : DefIn K "may_be_heavy" (top 21))
    (Dmay_be_light : DefIn K "may_be_light" (top 22))
    (Dmay_all_be_good : DefIn K "may_all_be_good" (top 23))
    (Djudged : DefIn K "judged" (top 25))
    (Dbehind : DefIn K "behind" (top 26))
    (Dweighed : DefIn K "weighed" (top 27))
    (Dside_written : DefIn K "side_written" (top 48))
    (Dwritten : DefIn K "written" (top 49))
    (D_law_cell_at : DefIn K "_law_cell_at" (top 51))
    (D_law_draw : DefIn K "_law_draw" (top 52))
    (D_law_marks : DefIn K "_law_marks" (top 53))
    (D_law_kinds : DefIn K "_law_kinds" (top 60))
    (D_law_with_marks : DefIn K "_law_with_marks" (top 61))
    (D_law_with_weighing : DefIn K "_law_with_weighing" (top 62))
    (D_law_with_judged : DefIn K "_law_with_judged" (top 63))
    (D_law_with_weighed : DefIn K "_law_with_weighed" (top 64))
    (D_law_with_written : DefIn K "_law_with_written" (top 65))
    (D_law_with_outcome : DefIn K "_law_with_outcome" (top 66))
    (D_law_with_coins : DefIn K "_law_with_coins" (top 67))
    (D_law_with_truth : DefIn K "_law_with_truth" (top 68))
    (D_law_told : DefIn K "_law_told" (top 69))
    (D_law_all : DefIn K "_law_all" (top 70))
    (D_law_weighings_right : DefIn K "_law_weighings_right" (top 71))
    (Dlaw : DefIn K "law" (top 72))
    : ∃ fd : FuncData, (∀ (s : Shared) (v : Value), BindsTo s fd ⟨[v], []⟩ [("_law_script", v)]) ∧ ∀ base : Heap, K.In base → base.Ns mainGlobals mg → FnOk P w K mg base CX0 10 fa fd ["_law_script"] (spLaw K) := by
  obtain ⟨e, Er⟩ := Er
  obtain ⟨f, fd, a, F0⟩ := Dlaw
  have e0 := hfa.symm.trans (PySem.W.mg_of X G a)
  cases e0
  obtain ⟨oc, od, kV, doc, pm, an, cdv, ct, osl, rfl, lk, hcd⟩ := id F0.ex
  refine ⟨PySem.W.fnOf "law" "law" (defArgs (top 72)) (defBody (top 72)) (defScope (top 72)) .none kV doc pm an cdv ct, fun s v => .of_eq rfl, fun base _ _ => ?_⟩
  have c_is_whole : Can P w K mg base CX0 1 "is_whole" ["value"] (spWh K) := can_of X G Dis_whole (fun _ _ _ _ _ _ us hl => match us, hl with | [_], _ => rfl) fun f fd F => ok_wh F B Tx
  have c_check_marks0 : Can P w K mg base CX0 1 "check_marks" ["marks"] spCM := can_of X G Dcheck_marks (fun _ _ _ _ _ _ us hl => match us, hl with | [_], _ => rfl) fun f fd F => ok_cm F B T
  have c_check_marks : Can P w K mg base (CXE false P w) 1 "check_marks" ["marks"] (spCMA K e.marks) := can_of X G Dcheck_marks (fun _ _ _ _ _ _ us hl => match us, hl with | [_], _ => rfl) fun f fd F => (ok_cm F B T).mayE.alt (ok_cmb F B Tx Er.m_marks Er.x1)
  have c_check_side : Can P w K mg base (CXE false P w) 2 "check_side" ["highest", "side"] (spSdA K e.weigh) := can_of X G Dcheck_side (fun _ _ _ _ _ _ us hl => match us, hl with | [_, _], _ => rfl) fun f fd F => (ok_check_side F B T Er.m_weigh Er.x2 (whole_of c_is_whole)).alt (ok_sdb F B Tx Er.m_weigh Er.x2 c_is_whole)
  have c_check_weighing : Can P w K mg base (CXE false P w) 3 "check_weighing" ["highest", "left", "right"] (spCWA K e.weigh) := can_of X G Dcheck_weighing (fun _ _ _ _ _ _ us hl => match us, hl with | [_, _, _], _ => rfl) fun f fd F => (ok_check_weighing F B Er.m_weigh Er.x2 (c_check_side.imp fun _ _ _ _ h => .inl h)).alt (ok_cwb F c_check_side)
  have c_check_outcome : Can P w K mg base (CXE false P w) 1 "check_outcome" ["outcome"] (spCO K e.out) := can_of X G Dcheck_outcome (fun _ _ _ _ _ _ us hl => match us, hl with | [_], _ => rfl) fun f fd F => ok_co F B Tx O2 Er.m_out Er.x3
  have c_check_odd : Can P w K mg base (CXE false P w) 2 "check_odd" ["coins", "odd", "heavy"] (spOd K e.bcoin) := can_of X G Dcheck_odd (fun _ _ _ _ _ _ us hl => match us, hl with | [_, _, _], _ => rfl) fun f fd F => ok_od F B Tx Er.m_bcoin Er.x5 c_is_whole
  have c_cases0 : Can P w K mg base CX0 2 "cases" ["marks"] spCases := can_of X G Dcases (fun _ _ _ _ _ _ us hl => match us, hl with | [_], _ => rfl) fun f fd F => ok_cases F c_check_marks0
  have c_cases : Can P w K mg base (CXE false P w) 2 "cases" ["marks"] (spCsA K e.marks) := can_of X G Dcases (fun _ _ _ _ _ _ us hl => match us, hl with | [_], _ => rfl) fun f fd F => (ok_cases F c_check_marks0).mayE.alt (ok_csb F c_check_marks)
  have c_most_cases : Can P w K mg base CX0 1 "most_cases" ["weighings"] spMost := can_of X G Dmost_cases (fun _ _ _ _ _ _ us hl => match us, hl with | [_], _ => rfl) fun f fd F => ok_most F B
  have c_fewest0 : Can P w K mg base CX0 3 "fewest" ["marks"] spFew := can_of X G Dfewest (fun _ _ _ _ _ _ us hl => match us, hl with | [_], _ => rfl) fun f fd F => ok_few F c_cases0 c_most_cases
  have c_fewest : Can P w K mg base (CXE false P w) 3 "fewest" ["marks"] (spFwA K e.marks) := can_of X G Dfewest (fun _ _ _ _ _ _ us hl => match us, hl with | [_], _ => rfl) fun f fd F => (ok_few F c_cases0 c_most_cases).mayE.alt (ok_fwb F c_cases)
  have c_told : Can P w K mg base (CXE false P w) 4 "told" ["marks"] (spMb K e.marks) := can_of X G Dtold (fun _ _ _ _ _ _ us hl => match us, hl with | [_], _ => rfl) fun f fd F => ok_tdb F c_fewest
  have c_placed : Can P w K mg base CX0 1 "placed" ["left", "right"] spPl := can_of X G Dplaced (fun _ _ _ _ _ _ us hl => match us, hl with | [_, _], _ => rfl) fun f fd F => ok_pl F
  have c_outcome_by : Can P w K mg base CX0 1 "outcome_by" ["place", "heavy"] spOut := can_of X G Doutcome_by (fun _ _ _ _ _ _ us hl => match us, hl with | [_, _], _ => rfl) fun f fd F => ok_out F O1
  have c_may_be_heavy : Can P w K mg base CX0 1 "may_be_heavy" ["sign"] spMayH := can_of X G Dmay_be_heavy (fun _ _ _ _ _ _ us hl => match us, hl with | [_], _ => rfl) fun f fd F => ok_mayH F
  have c_may_be_light : Can P w K mg base CX0 1 "may_be_light" ["sign"] spMayL := can_of X G Dmay_be_light (fun _ _ _ _ _ _ us hl => match us, hl with | [_], _ => rfl) fun f fd F => ok_mayL F
  have c_may_all_be_good : Can P w K mg base CX0 1 "may_all_be_good" ["marks"] spAllG := can_of X G Dmay_all_be_good (fun _ _ _ _ _ _ us hl => match us, hl with | [_], _ => rfl) fun f fd F => ok_allG F
  have c_judged : Can P w K mg base (CXE false P w) 4 "judged" ["marks", "left", "right"] (spJdA K e) := can_of X G Djudged (fun _ _ _ _ _ _ us hl => match us, hl with | [_, _, _], _ => rfl) fun f fd F => (ok_jd F B c_check_marks0 (c_check_weighing.imp fun _ _ _ _ h => .inl h) c_placed c_may_be_heavy c_may_be_light c_outcome_by c_may_all_be_good).alt (ok_jdb F B c_check_marks c_check_weighing)
  have c_behind : Can P w K mg base (CXE false P w) 5 "behind" ["marks", "left", "right", "outcome"] (spBhb K e) := can_of X G Dbehind (fun _ _ _ _ _ _ us hl => match us, hl with | [_, _, _, _], _ => rfl) fun f fd F => ok_bhb F Er O2 c_judged c_check_outcome
  have c_weighed : Can P w K mg base (CXE false P w) 4 "weighed" ["coins", "odd", "heavy", "left", "right"] (spWdb K e) := can_of X G Dweighed (fun _ _ _ _ _ _ us hl => match us, hl with | [_, _, _, _, _], _ => rfl) fun f fd F => ok_wdb F c_check_odd c_check_weighing
  have c_side_written : Can P w K mg base CX0 1 "side_written" ["side"] spSW := can_of X G Dside_written (fun _ _ _ _ _ _ us hl => match us, hl with | [_], _ => rfl) fun f fd F => ok_side_written F B
  have c_written : Can P w K mg base (CXE false P w) 4 "written" ["left", "right"] (spWr K e) := can_of X G Dwritten (fun _ _ _ _ _ _ us hl => match us, hl with | [_, _], _ => rfl) fun f fd F => ok_wr F B Gl c_check_weighing c_side_written
  have c__law_cell_at : Can P w K mg base CX0 1 "_law_cell_at" ["_law_script", "_law_k"] (spCell K) := can_of X G D_law_cell_at (fun _ _ _ _ _ _ us hl => match us, hl with | [_, _], _ => rfl) fun f fd F => ok_cell F B
  have c__law_draw : Can P w K mg base CX0 1 "_law_draw" ["_law_cell", "_law_k", "_law_many"] spDraw := can_of X G D_law_draw (fun _ _ _ _ _ _ us hl => match us, hl with | [_, _, _], _ => rfl) fun f fd F => ok_draw F
  have c__law_marks : Can P w K mg base CX0 2 "_law_marks" ["_law_script"] (spMarks K) := can_of X G D_law_marks (fun _ _ _ _ _ _ us hl => match us, hl with | [_], _ => rfl) fun f fd F => ok_marks F B c__law_cell_at c__law_draw
  have c__law_kinds : CanH P w K mg base "_law_kinds" ["_law_error"] (spKi e) := by
    obtain ⟨f, fd, a, F⟩ := D_law_kinds
    exact ⟨f, fd, PySem.W.mg_of X G a, F.kp, F.binds (fun _ _ _ _ _ _ us hl => match us, hl with | [_], _ => rfl), (fun a C vs H Q E h => by obtain ⟨rfl, _⟩ := h; rfl), fun A outer s H args us vs Q a C oe px h1 h2 h3 h4 h5 h6 h7 => ok_ki F B Er A outer s H args us vs Q a C oe px h1 h2 h3 h4 h5 h6 h7⟩
  have c_M : Can P w K mg base (CXE false P w) 6 "_law_with_marks" ["_law_door", "_law_marks_here"] (spWM K e) := can_of X G D_law_with_marks (fun _ _ _ _ _ _ us hl => match us, hl with | [_, _], _ => rfl) fun f fd F => ok_wM F c_cases c_fewest c_told c_behind c_judged
  have c_W : Can P w K mg base (CXE false P w) 6 "_law_with_weighing" ["_law_marks_here", "_law_pair"] (spWW K e) := can_of X G D_law_with_weighing (fun _ _ _ _ _ _ us hl => match us, hl with | [_, _], _ => rfl) fun f fd F => ok_wW F c_behind
  have c_J : Can P w K mg base (CXE false P w) 6 "_law_with_judged" ["_law_marks_here", "_law_pair"] (spWW K e) := can_of X G D_law_with_judged (fun _ _ _ _ _ _ us hl => match us, hl with | [_, _], _ => rfl) fun f fd F => ok_wJ F c_judged
  have c_D : Can P w K mg base (CXE false P w) 6 "_law_with_weighed" ["_law_coins", "_law_pair"] (spWD K e) := can_of X G D_law_with_weighed (fun _ _ _ _ _ _ us hl => match us, hl with | [_, _], _ => rfl) fun f fd F => ok_wD F c_weighed
  have c_T : Can P w K mg base (CXE false P w) 6 "_law_with_written" ["_law_nothing", "_law_pair"] (spWT K e) := can_of X G D_law_with_written (fun _ _ _ _ _ _ us hl => match us, hl with | [_, _], _ => rfl) fun f fd F => ok_wT F c_written
  have c_O : Can P w K mg base (CXE false P w) 6 "_law_with_outcome" ["_law_marks_here", "_law_outcome"] (spWO K e) := can_of X G D_law_with_outcome (fun _ _ _ _ _ _ us hl => match us, hl with | [_, _], _ => rfl) fun f fd F => ok_wO F c_behind
  have c_C : Can P w K mg base (CXE false P w) 6 "_law_with_coins" ["_law_coins", "_law_odd"] (spWC K e) := can_of X G D_law_with_coins (fun _ _ _ _ _ _ us hl => match us, hl with | [_, _], _ => rfl) fun f fd F => ok_wC F c_weighed
  have c_H : Can P w K mg base (CXE false P w) 6 "_law_with_truth" ["_law_coins", "_law_heavy"] (spWH K e) := can_of X G D_law_with_truth (fun _ _ _ _ _ _ us hl => match us, hl with | [_, _], _ => rfl) fun f fd F => ok_wH F c_weighed
  have c__law_told : Can P w K mg base CX0 7 "_law_told" ["_law_ask", "_law_one", "_law_other"] (spTo P w K mg base e) := can_of X G D_law_told (fun _ _ _ _ _ _ us hl => match us, hl with | [_, _, _], _ => rfl) fun f fd F => ok_to F Er c__law_kinds
  have c__law_all : Can P w K mg base CX0 8 "_law_all" ["_law_ask", "_law_one", "_law_things", "_law_due"] (spAl P w K mg base e) := can_of X G D_law_all (fun _ _ _ _ _ _ us hl => match us, hl with | [_, _, _, _], _ => rfl) fun f fd F => ok_al F B c__law_told
  have c__law_weighings_right : Can P w K mg base CX0 9 "_law_weighings_right" ["_law_marks_here", "_law_coins", "_law_due", "_law_far"] (spWR e) := can_of X G D_law_weighings_right (fun _ _ _ _ _ _ us hl => match us, hl with | [_, _, _, _], _ => rfl) fun f fd F => ok_wright F c_W c_J c_D c_T c__law_told c__law_all
  exact ok_law F0 B Er c__law_cell_at c__law_draw c__law_marks c_M c_O c_C c_H c__law_told c__law_all c__law_weighings_right c_judged.never c_fewest0 c_written.never
end Ks
end
section
namespace Ks
open PySem L2 Mir
theorem walk {l : PySem.W.OpenLaw} {q : Program} {loose : List Str} {XP : (Str → Option Value) → Heap → Prop} {YP : World → Heap → Prop} {d : DefRec} {K : Params → PySem.W.Frag} (hn : l.most = some 63) (hdf : d.params.defaults = [])
    (hY : ∀ (w : World) (h : Heap), YP w h → (K w.params).In h)
    (F : ∀ (w : World) (mg : Str → Option Value) (fa : Addr) (h : Heap), (K w.params).In h → h.Ns mainGlobals mg → mg d.name = some (.ref fa) →
      ∃ fd : FuncData, (∀ (s : Shared) (u : Value), BindsTo s fd ⟨[u], []⟩ [("_law_script", u)]) ∧ ∀ base : Heap, (K w.params).In base → base.Ns mainGlobals mg → FnOk l.prog w (K w.params) mg base CX0 10 fa fd ["_law_script"] (spLaw (K w.params))) :
    PySem.W.WalkO q loose XP YP l.row.toRowW d [] (fun f vs => PySem.call f vs) :=
  L2.walk_of (n := 63) (k := 10) (x := "_law_script") (CX := fun _ => CX0) (sp := fun w => spLaw (K w.params)) hn (by decide) hdf ⟨rfl, by decide, by decide⟩ hY F (fun _ _ a ns hl _ hS => ⟨a, ns, rfl, hS, hl, fun _ _ => rfl⟩) fun _ _ _ _ _ z => z
end Ks
open PySem PySem.W PyProof.Rows
set_option maxRecDepth 100000 in
set_option maxHeartbeats 0 in
theorem PySem.Challenge.cw_oddcoin_k06_refused_holds : PySem.Challenge.rw_oddcoin_k06_refused.Holds := by
  w_on
  refine holds_law (by decide +kernel) fun said => ?_
  refine holds_open (q := Ks.view) (loose := ["OTHER"]) (Xt := fun s => xlAt Ks.view [] s && recOk (RowW.records (OpenRow.toRowW (PySem.Challenge.rw_oddcoin_k06_refused).row)) s) (XP := XL Ks.view []) (Yf := Hook.obs (kHook Ks.KK Ks.keysK Ks.keysK_is)) (Ya := Hook.val (kHook Ks.KK Ks.keysK Ks.keysK_is)) (YP := Hook.says (kHook Ks.KK Ks.keysK Ks.keysK_is)) (N := 8864) ?hl (Hook.of (kHook Ks.KK Ks.keysK Ks.keysK_is)) (Hook.keeps (kHook Ks.KK Ks.keysK Ks.keysK_is)) (fun s e => xl_of s (Bool.and_eq_true_iff.mp e).1) XL.keeps (by rfl) (by rfl) (by rfl) (fun s e => recFacts_of (Bool.and_eq_true_iff.mp e).2) (by rfl) (by first | assumption | decide +kernel) (by decide +kernel) ⟨rfl, rfl, rfl, rfl, rfl, by decide +kernel⟩ ?hw ?hc
  case hl => exact Ks.leftO
  case hw => w_witness2
  k_fill
  refine Ks.walk (l := PySem.Challenge.rw_oddcoin_k06_refused) rfl rfl (fun w h Y => PySem.W.kIn_of Y) ?F
  case F =>
    intro w mg fa h KX G hmg
    refine' Ks.all_mk KX G hmg ?B ?T ?Tx ?O1 ?O2 ?Gl ?Er ?Dis_whole ?Dcheck_marks ?Dcheck_side ?Dcheck_weighing ?Dcheck_outcome ?Dcheck_odd ?Dcases ?Dmost_cases ?Dfewest ?Dtold ?Dplaced ?Doutcome_by ?Dmay_be_heavy ?Dmay_be_light ?Dmay_all_be_good ?Djudged ?Dbehind ?Dweighed ?Dside_written ?Dwritten ?D_law_cell_at ?D_law_draw ?D_law_marks ?D_law_kinds ?D_law_with_marks ?D_law_with_weighing ?D_law_with_judged ?D_law_with_weighed ?D_law_with_written ?D_law_with_outcome ?D_law_with_coins ?D_law_with_truth ?D_law_told ?D_law_all ?D_law_weighings_right ?Dlaw
    case B =>
      refine' ⟨PySem.W.mg_none_of KX G ?b0, PySem.W.mg_none_of KX G ?b1, PySem.W.mg_none_of KX G ?b2, PySem.W.mg_none_of KX G ?b3, PySem.W.mg_none_of KX G ?b4, PySem.W.mg_none_of KX G ?b5, PySem.W.mg_none_of KX G ?b6, PySem.W.mg_none_of KX G ?b7, PySem.W.mg_none_of KX G ?b8, PySem.W.mg_none_of KX G ?b9, PySem.W.mg_none_of KX G ?b10, PySem.W.mg_none_of KX G ?b11, PySem.W.mg_none_of KX G ?b12, PySem.W.mg_none_of KX G ?b13, PySem.W.mg_none_of KX G ?b14⟩
      (case b0 => k_is)
      (case b1 => k_is)
      (case b2 => k_is)
      (case b3 => k_is)
      (case b4 => k_is)
      (case b5 => k_is)
      (case b6 => k_is)
      (case b7 => k_is)
      (case b8 => k_is)
      (case b9 => k_is)
      (case b10 => k_is)
      (case b11 => k_is)
      (case b12 => k_is)
      (case b13 => k_is)
      (case b14 => k_is)
    case T => refine' ⟨?t1, ?t2, ?t3, ?t4, ?t5, ?t6⟩ <;> kernel_rfl
    case Tx =>
      refine' Ks.kx_mk ?a
      (case a => kernel_rfl)
    case O1 =>
      refine' Ks.oth_mk KX G ?a ?l ?b1 ?b2 ?b3 ?kl
      (case a => k_is); (case l => k_is); (case b1 => k_is); (case b2 => k_is); (case b3 => k_is)
      exact ⟨⟨_, _, rfl, rfl⟩, ⟨_, _, rfl, rfl⟩, ⟨_, _, rfl, rfl⟩, trivial⟩
    case O2 =>
      refine' Ks.outs_mk KX G ?a ?l
      (case a => k_is); (case l => k_is)
    case Gl =>
      refine' Ks.glb_mk KX G ?n1 ?n4 ?n5
      (case n1 => k_is); (case n4 => k_is); (case n5 => k_is)
    case Er =>
      refine' Ks.errs_mk KX G ?n0 ?n1 ?n2 ?n3 ?n4 ?n5 ?n6 ?nv ?sp ?tk ?nd ?al
      (case n0 => k_is); (case n1 => k_is); (case n2 => k_is); (case n3 => k_is); (case n4 => k_is); (case n5 => k_is); (case n6 => k_is); (case nv => k_is); (case sp => k_is); (case tk => k_is)
      (case nd => decide)
      (case al => kernel_rfl)
    case Dis_whole => refine' Ks.def_mk ?a ?l ?c ?k; (case a => k_is); (case l => k_is); (case c => k_is); (case k => k_is)
    case Dcheck_marks => refine' Ks.def_mk ?a ?l ?c ?k; (case a => k_is); (case l => k_is); (case c => k_is); (case k => k_is)
    case Dcheck_side => refine' Ks.def_mk ?a ?l ?c ?k; (case a => k_is); (case l => k_is); (case c => k_is); (case k => k_is)
    case Dcheck_weighing => refine' Ks.def_mk ?a ?l ?c ?k; (case a => k_is); (case l => k_is); (case c => k_is); (case k => k_is)
    case Dcheck_outcome => refine' Ks.def_mk ?a ?l ?c ?k; (case a => k_is); (case l => k_is); (case c => k_is); (case k => k_is)
    case Dcheck_odd => refine' Ks.def_mk ?a ?l ?c ?k; (case a => k_is); (case l => k_is); (case c => k_is); (case k => k_is)
    case Dcases => refine' Ks.def_mk ?a ?l ?c ?k; (case a => k_is); (case l => k_is); (case c => k_is); (case k => k_is)
    case Dmost_cases => refine' Ks.def_mk ?a ?l ?c ?k; (case a => k_is); (case l => k_is); (case c => k_is); (case k => k_is)
    case Dfewest => refine' Ks.def_mk ?a ?l ?c ?k; (case a => k_is); (case l => k_is); (case c => k_is); (case k => k_is)
    case Dtold => refine' Ks.def_mk ?a ?l ?c ?k; (case a => k_is); (case l => k_is); (case c => k_is); (case k => k_is)
    case Dplaced => refine' Ks.def_mk ?a ?l ?c ?k; (case a => k_is); (case l => k_is); (case c => k_is); (case k => k_is)
    case Doutcome_by => refine' Ks.def_mk ?a ?l ?c ?k; (case a => k_is); (case l => k_is); (case c => k_is); (case k => k_is)
    case Dmay_be_heavy => refine' Ks.def_mk ?a ?l ?c ?k; (case a => k_is); (case l => k_is); (case c => k_is); (case k => k_is)
    case Dmay_be_light => refine' Ks.def_mk ?a ?l ?c ?k; (case a => k_is); (case l => k_is); (case c => k_is); (case k => k_is)
    case Dmay_all_be_good => refine' Ks.def_mk ?a ?l ?c ?k; (case a => k_is); (case l => k_is); (case c => k_is); (case k => k_is)
    case Djudged => refine' Ks.def_mk ?a ?l ?c ?k; (case a => k_is); (case l => k_is); (case c => k_is); (case k => k_is)
    case Dbehind => refine' Ks.def_mk ?a ?l ?c ?k; (case a => k_is); (case l => k_is); (case c => k_is); (case k => k_is)
    case Dweighed => refine' Ks.def_mk ?a ?l ?c ?k; (case a => k_is); (case l => k_is); (case c => k_is); (case k => k_is)
    case Dside_written => refine' Ks.def_mk ?a ?l ?c ?k; (case a => k_is); (case l => k_is); (case c => k_is); (case k => k_is)
    case Dwritten => refine' Ks.def_mk ?a ?l ?c ?k; (case a => k_is); (case l => k_is); (case c => k_is); (case k => k_is)
    case D_law_cell_at => refine' Ks.def_mk ?a ?l ?c ?k; (case a => k_is); (case l => k_is); (case c => k_is); (case k => k_is)
    case D_law_draw => refine' Ks.def_mk ?a ?l ?c ?k; (case a => k_is); (case l => k_is); (case c => k_is); (case k => k_is)
    case D_law_marks => refine' Ks.def_mk ?a ?l ?c ?k; (case a => k_is); (case l => k_is); (case c => k_is); (case k => k_is)
    case D_law_kinds => refine' Ks.def_mk ?a ?l ?c ?k; (case a => k_is); (case l => k_is); (case c => k_is); (case k => k_is)
    case D_law_with_marks => refine' Ks.def_mk ?a ?l ?c ?k; (case a => k_is); (case l => k_is); (case c => k_is); (case k => k_is)
    case D_law_with_weighing => refine' Ks.def_mk ?a ?l ?c ?k; (case a => k_is); (case l => k_is); (case c => k_is); (case k => k_is)
    case D_law_with_judged => refine' Ks.def_mk ?a ?l ?c ?k; (case a => k_is); (case l => k_is); (case c => k_is); (case k => k_is)
    case D_law_with_weighed => refine' Ks.def_mk ?a ?l ?c ?k; (case a => k_is); (case l => k_is); (case c => k_is); (case k => k_is)
    case D_law_with_written => refine' Ks.def_mk ?a ?l ?c ?k; (case a => k_is); (case l => k_is); (case c => k_is); (case k => k_is)
    case D_law_with_outcome => refine' Ks.def_mk ?a ?l ?c ?k; (case a => k_is); (case l => k_is); (case c => k_is); (case k => k_is)
    case D_law_with_coins => refine' Ks.def_mk ?a ?l ?c ?k; (case a => k_is); (case l => k_is); (case c => k_is); (case k => k_is)
    case D_law_with_truth => refine' Ks.def_mk ?a ?l ?c ?k; (case a => k_is); (case l => k_is); (case c => k_is); (case k => k_is)
    case D_law_told => refine' Ks.def_mk ?a ?l ?c ?k; (case a => k_is); (case l => k_is); (case c => k_is); (case k => k_is)
    case D_law_all => refine' Ks.def_mk ?a ?l ?c ?k; (case a => k_is); (case l => k_is); (case c => k_is); (case k => k_is)
    case D_law_weighings_right => refine' Ks.def_mk ?a ?l ?c ?k; (case a => k_is); (case l => k_is); (case c => k_is); (case k => k_is)
    case Dlaw => refine' Ks.def_mk ?a ?l ?c ?k; (case a => k_is); (case l => k_is); (case c => k_is); (case k => k_is)
end
